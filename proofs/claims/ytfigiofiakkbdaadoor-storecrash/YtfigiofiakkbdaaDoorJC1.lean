/-
  Disks that are up, and not armed; what their sectors hold behind a journal's operations. Nothing is walked here.
-/
import Derived.Test.YtfigiofiakkbdaaDoorJB6
namespace Go.Proofs.YtfigiofiakkbdaaDoor
open Go.RowKit
set_option linter.all false

def DS.Up (S : DS) : Prop := S.down = false ∧ S.arm = none
theorem DS.Up.op {S : DS} (h : S.Up) : S.op = (true, S.more 1) := DS.op_up h.1 h.2
theorem DS.Up.more {S : DS} (h : S.Up) (k : Nat) : (S.more k).Up := h
theorem DS.Up.wr {S : DS} (h : S.Up) (x : Nat) (b : List UInt8) : S.wr x b = (true, { S.more 1 with wait := S.wait ++ [(x, b)] }) := by
  unfold DS.wr; rw [h.op]; rfl
theorem DS.Up.bar {S : DS} (h : S.Up) : S.bar = (true, (S.more 1).settled) := by
  unfold DS.bar; rw [h.op]; rfl
theorem DS.Up.rds {S : DS} (h : S.Up) (k : Nat) : DS.rds k S = (true, S.more k) := by
  induction k generalizing S with
  | zero => rfl
  | succ k ih =>
    simp only [DS.rds, h.op]
    rw [ih (h.more 1), DS.more_more, Nat.add_comm]
theorem DS.Up.settled {S : DS} (h : S.Up) : S.settled.Up := h
theorem DS.Up.write {S : DS} (h : S.Up) (ws : List (Nat × List UInt8)) : DS.Up { S with wait := ws } := h

/-- The sectors hold this, as they are told. -/
def DS.Shows (S : DS) (n : Nat) (c : Nat → List UInt8) : Prop := S.secs.length = n ∧ ∀ i, i < n → S.now i = c i
/-- A function with one value turned. -/
def upd {α : Type} (c : Nat → α) (x : Nat) (b : α) (i : Nat) : α := if x = i then b else c i
theorem DS.Shows.wr {S S1 : DS} {n x : Nat} {b : List UInt8} {c : Nat → List UInt8} (h : S.Shows n c) (hu : S.Up) (hw : S.wr x b = (true, S1)) : S1.Shows n (upd c x b) ∧ S1.Up ∧ S1.secs = S.secs ∧ S1.wait = S.wait ++ [(x, b)] ∧ S1.ops = S.ops + 1 := by
  rw [hu.wr] at hw
  injection hw with _ hw
  subst hw
  refine ⟨⟨h.1, fun i hi => ?_⟩, hu, rfl, rfl, rfl⟩
  refine (write_now (S.more 1) x b i).trans ?_
  unfold upd
  split
  · rfl
  · exact h.2 i hi
theorem DS.Shows.bar {S S1 : DS} {n : Nat} {c : Nat → List UInt8} (h : S.Shows n c) (hu : S.Up) (hb : S.bar = (true, S1)) : S1.Shows n c ∧ S1.Up ∧ S1.wait = [] ∧ (∀ i, i < n → S1.secs.getD i [] = c i) ∧ S1.ops = S.ops + 1 := by
  rw [hu.bar] at hb
  injection hb with _ hb
  subst hb
  have hn : ∀ i, i < n → (S.more 1).settled.now i = c i := fun i hi => by rw [settled_now _ _ (by show i < S.secs.length; rw [h.1]; exact hi)]; exact h.2 i hi
  refine ⟨⟨by simp [DS.settled, putTo_len]; exact h.1, hn⟩, hu, rfl, fun i hi => ?_, rfl⟩
  have := hn i hi
  exact this
theorem DS.Shows.more {S : DS} {n : Nat} {c : Nat → List UInt8} (h : S.Shows n c) (k : Nat) : (S.more k).Shows n c := h
theorem DS.Shows.same {S S1 : DS} {n : Nat} {c : Nat → List UInt8} (h : S.Shows n c) (e : S1.secs = S.secs ∧ S1.wait = S.wait) : S1.Shows n c := ⟨by rw [e.1]; exact h.1, fun i hi => by rw [now_of e]; exact h.2 i hi⟩

/-- Several turned. -/
def updl (c : Nat → List UInt8) : List (Nat × List UInt8) → Nat → List UInt8
  | [] => c
  | y :: l => updl (upd c y.1 y.2) l
theorem DS.Shows.wrs {n : Nat} {l : List (Nat × List UInt8)} : ∀ {S : DS} {c : Nat → List UInt8}, S.Shows n c → S.Up → ∃ S1, S.wrs l = (true, S1) ∧ S1.Shows n (updl c l) ∧ S1.Up ∧ S1.secs = S.secs ∧ S1.wait = S.wait ++ l ∧ S1.ops = S.ops + l.length := by
  induction l with
  | nil => intro S c h hu; exact ⟨S, rfl, h, hu, rfl, by simp, rfl⟩
  | cons y l ih =>
    intro S c h hu
    have hw := hu.wr y.1 y.2
    obtain ⟨h1, h2, h3, h4, h5⟩ := h.wr hu hw
    obtain ⟨S2, e1, e2, e3, e4, e5, e6⟩ := ih h1 h2
    refine ⟨S2, by simp only [DS.wrs, hw]; exact e1, e2, e3, e4.trans h3, by rw [e5, h4]; simp, by rw [e6, h5]; simp; omega⟩
/-- A picture laid at a place. -/
def putAt (c : Nat → List UInt8) (f : Nat) (p : List UInt8) (m : Nat) (i : Nat) : List UInt8 := if f ≤ i ∧ i ≤ f + m then secAt p (i - f) else c i
theorem updl_others (c : Nat → List UInt8) (f m : Nat) (p : List UInt8) : ∀ k, k ≤ m → ∀ i, updl c ((others f m p).take k) i = if f + 1 ≤ i ∧ i ≤ f + k then secAt p (i - f) else c i := by
  intro k
  induction k with
  | zero => intro _ i; rw [List.take_zero, if_neg (by omega)]; rfl
  | succ k ih =>
    intro hk i
    have happ : ∀ (c : Nat → List UInt8) (l : List (Nat × List UInt8)) y, updl c (l ++ [y]) = upd (updl c l) y.1 y.2 := by
      intro c l y
      induction l generalizing c with
      | nil => rfl
      | cons z l ih => simp only [List.cons_append, updl]; exact ih _
    have hl : k < (others f m p).length := by rw [others_len]; omega
    rw [List.take_succ_eq_append_getElem hl, happ]
    have e : (others f m p)[k] = (f + 1 + k, secAt p (k + 1)) := by simp [others]
    rw [e]
    unfold upd
    simp only
    rw [ih (by omega) i]
    by_cases h1 : f + 1 + k = i
    · rw [if_pos h1, if_pos (by omega), show i - f = k + 1 by omega]
    · rw [if_neg h1]
      by_cases h2 : f + 1 ≤ i ∧ i ≤ f + k
      · rw [if_pos h2, if_pos (by omega)]
      · rw [if_neg h2, if_neg (by omega)]
theorem DS.Shows.put {S : DS} {n f m : Nat} {p : List UInt8} {c : Nat → List UInt8} (h : S.Shows n c) (hu : S.Up) : ∃ S1, S.put f p m = (true, S1) ∧ S1.Shows n (putAt c f p m) ∧ S1.Up ∧ S1.ops ≤ S.ops + m + 2 ∧ S1.wait.length ≤ S.wait.length + m + 1 ∧ (m = 0 → S1.secs = S.secs) := by
  obtain ⟨S1, e1, e2, e3, e4, e5, e6⟩ := h.wrs (l := others f m p) hu
  have hc : ∀ i, updl c (others f m p) i = if f + 1 ≤ i ∧ i ≤ f + m then secAt p (i - f) else c i := by
    have := updl_others c f m p m (Nat.le_refl _)
    rwa [List.take_of_length_le (by rw [others_len]; exact Nat.le_refl _)] at this
  have hfin : ∀ i, upd (updl c (others f m p)) f (secAt p 0) i = putAt c f p m i := by
    intro i
    unfold upd putAt
    rw [hc i]
    by_cases h1 : f = i
    · subst h1; rw [if_pos rfl, if_pos (by omega), Nat.sub_self]
    · rw [if_neg h1]
      by_cases h2 : f + 1 ≤ i ∧ i ≤ f + m
      · rw [if_pos h2, if_pos (by omega)]
      · rw [if_neg h2, if_neg (by omega)]
  unfold DS.put
  rw [e1]
  simp only
  by_cases hm : m = 0
  · rw [if_pos hm]
    have hw := e3.wr f (secAt p 0)
    obtain ⟨g1, g2, g3, g4, g5⟩ := e2.wr e3 hw
    refine ⟨_, hw, ⟨g1.1, fun i hi => (g1.2 i hi).trans (hfin i)⟩, g2, ?_, ?_, fun _ => g3.trans e4⟩
    · rw [g5, e6, others_len]; omega
    · rw [g4, e5]; simp [others_len]; omega
  · rw [if_neg hm]
    have hb := e3.bar
    obtain ⟨b1, b2, b3, b4, b5⟩ := e2.bar e3 hb
    rw [hb]
    simp only
    have hw := b2.wr f (secAt p 0)
    obtain ⟨g1, g2, g3, g4, g5⟩ := b1.wr b2 hw
    refine ⟨_, hw, ⟨g1.1, fun i hi => (g1.2 i hi).trans (hfin i)⟩, g2, ?_, ?_, fun e => absurd e hm⟩
    · rw [g5, b5, e6, others_len]; omega
    · rw [g4, b3]; simp
/-- A crash that keeps nothing. -/
theorem DS.Shows.lost {S : DS} {n : Nat} {c : Nat → List UInt8} (h : ∀ i, i < n → S.secs.getD i [] = c i) (hn : S.secs.length = n) : DS.Shows { S.crash [] with down := false } n c := by
  have e : putTo (keptOf []) S.secs S.wait S.wait.length = S.secs := by
    generalize S.wait.length = j
    induction j with
    | zero => rfl
    | succ j ih =>
      simp only [putTo]
      split
      · rw [if_neg (by simp [keptOf]), ih]
      · exact ih
  refine ⟨by simp only [DS.crash, e]; exact hn, fun i hi => ?_⟩
  show nowOf [] i ((S.crash []).secs.getD i []) = _
  simp only [DS.crash, e]
  exact h i hi

/-! ### Sectors as bytes -/
def areaC (c : Nat → List UInt8) (f : Nat) : Nat → List UInt8
  | 0 => []
  | j + 1 => areaC c f j ++ c (f + j)
theorem DS.Shows.area {S : DS} {n : Nat} {c : Nat → List UInt8} (h : S.Shows n c) (f k : Nat) (hk : f + k ≤ n) : areaB S f k = areaC c f k := by
  induction k with
  | zero => rfl
  | succ k ih => simp only [areaB, areaC]; rw [ih (by omega), h.2 _ (by omega)]
theorem areaC_add (c : Nat → List UInt8) (f a b : Nat) : areaC c f (a + b) = areaC c f a ++ areaC c (f + a) b := by
  induction b with
  | zero => simp [areaC]
  | succ b ih => rw [← Nat.add_assoc]; simp only [areaC, ih, List.append_assoc, Nat.add_assoc]
theorem areaC_congr {c c' : Nat → List UInt8} {f n : Nat} (h : ∀ i, f ≤ i → i < f + n → c i = c' i) : areaC c f n = areaC c' f n := by
  induction n with
  | zero => rfl
  | succ n ih => simp only [areaC]; rw [ih (fun i h1 h2 => h i h1 (by omega)), h (f + n) (by omega) (by omega)]
theorem areaC_secs (p : List UInt8) (f m : Nat) (hp : p.length = 512 * m) : areaC (fun i => secAt p (i - f)) f m = p := by
  have key : ∀ k, k ≤ m → areaC (fun i => secAt p (i - f)) f k = p.take (512 * k) := by
    intro k
    induction k with
    | zero => intro _; simp [areaC]
    | succ k ih =>
      intro hk
      simp only [areaC]
      rw [ih (by omega), Nat.add_sub_cancel_left, secAt, show 512 * (k + 1) = 512 * k + 512 by omega, List.take_add]
  rw [key m (Nat.le_refl _), List.take_of_length_le (by omega)]
theorem areaC_len {c : Nat → List UInt8} {f n : Nat} (h : ∀ i, f ≤ i → i < f + n → (c i).length = 512) : (areaC c f n).length = 512 * n := by
  induction n with
  | zero => rfl
  | succ n ih => simp only [areaC, List.length_append]; rw [ih (fun i h1 h2 => h i h1 (by omega)), h _ (by omega) (by omega)]; omega
/-- A picture laid at a place, as bytes. -/
theorem areaC_put (c : Nat → List UInt8) (f n u m : Nat) (p : List UInt8) (hp : p.length = 512 * (m + 1)) (hu : u + m + 1 ≤ n) : areaC (putAt c (f + u) p m) f n = areaC c f u ++ (p ++ areaC c (f + u + (m + 1)) (n - u - (m + 1))) := by
  have e : n = u + ((m + 1) + (n - u - (m + 1))) := by omega
  rw [e, areaC_add, areaC_add]
  rw [areaC_congr (c := putAt c (f + u) p m) (c' := c) (f := f) (n := u) (fun i h1 h2 => by unfold putAt; rw [if_neg (by omega)])]
  rw [areaC_congr (c := putAt c (f + u) p m) (c' := fun i => secAt p (i - (f + u))) (f := f + u) (n := m + 1) (fun i h1 h2 => by unfold putAt; rw [if_pos (by omega)]), areaC_secs p _ _ hp]
  rw [areaC_congr (c := putAt c (f + u) p m) (c' := c) (f := f + u + (m + 1)) (fun i h1 h2 => by unfold putAt; rw [if_neg (by omega)])]
  congr 2
  congr 1
  omega
theorem areaC_first (c : Nat → List UInt8) (f n : Nat) (b : List UInt8) (hn : 1 ≤ n) : areaC (upd c f b) f n = b ++ areaC c (f + 1) (n - 1) := by
  have e : n = 1 + (n - 1) := by omega
  rw [e, areaC_add]
  rw [areaC_congr (c := upd c f b) (c' := c) (f := f + 1) (fun i h1 h2 => by unfold upd; rw [if_neg (by omega)])]
  simp [areaC, upd]
theorem areaC_zeros (f n : Nat) : areaC (fun _ => full 0) f n = List.replicate (512 * n) 0 := by
  induction n with
  | zero => rfl
  | succ n ih => simp only [areaC, ih]; unfold full; rw [← rep_add]; rfl

/-! ### A journal of records that were put one behind the other -/
/-- From sector f on, n sectors: a beginning k, the records l, and behind them c's sectors as they were in c0. -/
structure Chain (c : Nat → List UInt8) (f n k : Nat) (l : List (List UInt8)) (c0 : Nat → List UInt8) : Prop where
  head : areaC c f (1 + secsAll l) = begP k ++ layR (k + 1) l
  rest : ∀ i, f + (1 + secsAll l) ≤ i → i < f + n → c i = c0 i
  fits : 1 + secsAll l ≤ n
theorem Chain.area {c : Nat → List UInt8} {f n k : Nat} {l : List (List UInt8)} {c0 : Nat → List UInt8} (h : Chain c f n k l c0) : areaC c f n = begP k ++ (layR (k + 1) l ++ areaC c0 (f + (1 + secsAll l)) (n - (1 + secsAll l))) := by
  have hf := h.fits
  rw [show n = (1 + secsAll l) + (n - (1 + secsAll l)) by omega, areaC_add, h.head, Nat.add_sub_cancel_left, areaC_congr (c := c) (c' := c0) (fun i h1 h2 => h.rest i h1 (by omega)), List.append_assoc]
theorem Chain.beg (c : Nat → List UInt8) (f n k : Nat) (hn : 1 ≤ n) : Chain (upd c f (begP k)) f n k [] c :=
  ⟨by simp [secsAll, areaC, upd, layR], fun i h1 _ => by unfold upd; simp [secsAll] at h1; rw [if_neg (by omega)], by simp [secsAll]; exact hn⟩
theorem secsOf_pos (n : Nat) : 1 ≤ secsOf n := by unfold secsOf; omega
theorem Chain.append {c : Nat → List UInt8} {f n k : Nat} {l : List (List UInt8)} {c0 : Nat → List UInt8} (h : Chain c f n k l c0) (b : List UInt8) (hb : 1 + secsAll l + secsOf b.length ≤ n) :
    Chain (putAt c (f + (1 + secsAll l)) (recP (k + 1 + l.length) b) (secsOf b.length - 1)) f n k (l ++ [b]) c0 := by
  have hq := secsOf_pos b.length
  obtain ⟨q, hq2⟩ : ∃ q, secsOf b.length = q + 1 := ⟨secsOf b.length - 1, by omega⟩
  rw [hq2, Nat.add_sub_cancel]
  refine ⟨?_, ?_, by rw [secsAll_snoc]; omega⟩
  · rw [secsAll_snoc, hq2, ← Nat.add_assoc 1, areaC_put c f _ (1 + secsAll l) q _ (by rw [rec_len, hq2]) (by omega), h.head, layR_snoc, show 1 + secsAll l + (q + 1) - (1 + secsAll l) - (q + 1) = 0 by omega]
    simp [areaC]
  · intro i h1 h2
    rw [secsAll_snoc, hq2] at h1
    unfold putAt
    rw [if_neg (by omega)]
    exact h.rest i (by omega) h2
/-- What it tells. -/
theorem Chain.told {c : Nat → List UInt8} {f n k : Nat} {l : List (List UInt8)} {c0 : Nat → List UInt8} (h : Chain c f n k l c0) (h1 : 1 ≤ k) (h2 : k + 1 + l.length ≤ 4611686018427387905) (hb : ∀ b ∈ l, b.length < 4294967296)
    (hr : 1 + secsAll l < n → num ((c0 (f + (1 + secsAll l))).take 8) ≠ k + 1 + l.length) (hc : (c0 (f + (1 + secsAll l))).length = 512) : replay (areaC c f n) = some (l, k + 1 + l.length, 1 + secsAll l) := by
  have hf := h.fits
  rw [h.area]
  refine replay_lay k l _ h1 (by omega) h2 hb ?_
  by_cases e : 1 + secsAll l < n
  · refine oneAt_other _ _ ?_
    rw [show n - (1 + secsAll l) = 1 + (n - (1 + secsAll l) - 1) by omega, areaC_add]
    simp only [areaC, List.nil_append, Nat.add_zero]
    rw [List.take_append_of_le_length (by omega)]
    exact hr e
  · rw [show n - (1 + secsAll l) = 0 by omega]
    exact oneAt_short _ _ (by simp [areaC])
theorem num_full0 : num ((full 0).take 8) = 0 := by unfold full; rw [List.take_replicate]; exact num_rep0 _
end Go.Proofs.YtfigiofiakkbdaaDoor
