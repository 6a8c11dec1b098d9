/-
  A store whose disk may crash in the midst of a Save. Nothing is walked here.
-/
import Derived.Test.YtfigiofiakkbdaaDoorS12
import Derived.Test.YtfigiofiakkbdaaDoorJC5
namespace Go.Proofs.YtfigiofiakkbdaaDoor
open Go.RowKit
set_option linter.all false

/-! ### A disk that is not down -/
def DS.Alive (S : DS) : Prop := S.down = false
/-- It died: of what waited some is kept. -/
def DS.Died (S S1 : DS) : Prop := S1.Dead ∧ (∃ kept, S1.secs = putTo kept S.secs S.wait S.wait.length)
section
variable {S S1 : DS} {ok : Bool} {x : Nat} {b : List UInt8} {n : Nat} {c : Nat → List UInt8}
theorem DS.Alive.op (h : S.Alive) (e : S.op = (ok, S1)) : (ok = true ∧ S1.Alive ∧ S1.secs = S.secs ∧ S1.wait = S.wait) ∨ (ok = false ∧ S.Died S1) := by
  unfold DS.Alive at h
  unfold DS.op at e
  rw [h] at e
  simp only [Bool.false_eq_true, if_false] at e
  split at e
  · injection e with e1 e2; subst e1; subst e2; exact .inl ⟨rfl, rfl, rfl, rfl⟩
  · injection e with e1 e2; subst e1; subst e2; exact .inr ⟨rfl, ⟨rfl, rfl, rfl⟩, _, rfl⟩
  · injection e with e1 e2; subst e1; subst e2; exact .inl ⟨rfl, rfl, rfl, rfl⟩
theorem DS.Alive.wr (h : S.Alive) (e : S.wr x b = (ok, S1)) : (ok = true ∧ S1.Alive ∧ S1.secs = S.secs ∧ S1.wait = S.wait ++ [(x, b)]) ∨ (ok = false ∧ S.Died S1) := by
  unfold DS.wr at e
  rcases hop : S.op with ⟨ok2, S2⟩
  rw [hop] at e
  rcases h.op hop with ⟨rfl, h1, h2, h3⟩ | ⟨rfl, h1⟩
  · simp at e; obtain ⟨rfl, rfl⟩ := e; exact .inl ⟨rfl, h1, h2, by rw [h3]⟩
  · simp at e; obtain ⟨rfl, rfl⟩ := e; exact .inr ⟨rfl, h1⟩
theorem DS.Alive.bar (h : S.Alive) (e : S.bar = (ok, S1)) : (ok = true ∧ S1.Alive ∧ S1.secs = putTo (fun _ => true) S.secs S.wait S.wait.length ∧ S1.wait = []) ∨ (ok = false ∧ S.Died S1) := by
  unfold DS.bar at e
  rcases hop : S.op with ⟨ok2, S2⟩
  rw [hop] at e
  rcases h.op hop with ⟨rfl, h1, h2, h3⟩ | ⟨rfl, h1⟩
  · simp at e; obtain ⟨rfl, rfl⟩ := e; exact .inl ⟨rfl, h1, by rw [DS.settled, h2, h3], rfl⟩
  · simp at e; obtain ⟨rfl, rfl⟩ := e; exact .inr ⟨rfl, h1⟩
theorem shows_wr (hs : S.Shows n c) (e1 : S1.secs = S.secs) (e2 : S1.wait = S.wait ++ [(x, b)]) : S1.Shows n (upd c x b) := by
  refine ⟨by rw [e1]; exact hs.1, fun i hi => ?_⟩
  have := write_now S x b i
  unfold DS.now at this ⊢
  simp only at this
  rw [e1, e2, this]
  unfold upd
  split
  · rfl
  · exact hs.2 i hi
theorem shows_bar (hs : S.Shows n c) (e1 : S1.secs = putTo (fun _ => true) S.secs S.wait S.wait.length) (e2 : S1.wait = []) : S1.Shows n c := by
  refine ⟨by rw [e1, putTo_len]; exact hs.1, fun i hi => ?_⟩
  unfold DS.now
  rw [e2, e1]
  have := settled_now S i (by rw [hs.1]; exact hi)
  rw [← hs.2 i hi, ← this]
  rfl
theorem shows_at (hs : S.Shows n c) (hw : S.wait = []) (i : Nat) (hi : i < n) : S.secs.getD i [] = c i := by
  have := hs.2 i hi
  unfold DS.now at this
  rw [hw] at this
  exact this
theorem DS.Alive.wrs {l : List (Nat × List UInt8)} : ∀ {S S1 : DS} {c : Nat → List UInt8} {ok : Bool}, S.Alive → S.Shows n c → S.wrs l = (ok, S1) → (ok = true ∧ S1.Alive ∧ S1.Shows n (updl c l) ∧ S1.secs = S.secs ∧ S1.wait = S.wait ++ l) ∨ (ok = false ∧ S1.Dead) := by
  induction l with
  | nil => intro S S1 c ok h hs e; simp only [DS.wrs, Prod.mk.injEq] at e; obtain ⟨rfl, rfl⟩ := e; exact .inl ⟨rfl, h, hs, rfl, by simp⟩
  | cons y l ih =>
    intro S S1 c ok h hs e
    simp only [DS.wrs] at e
    rcases hw : S.wr y.1 y.2 with ⟨ok2, S2⟩
    rw [hw] at e
    rcases h.wr hw with ⟨rfl, h1, h2, h3⟩ | ⟨rfl, h1⟩
    · rcases ih h1 (shows_wr hs h2 h3) e with ⟨rfl, a1, a2, a3, a4⟩ | ⟨rfl, a1⟩
      · exact .inl ⟨rfl, a1, a2, a3.trans h2, by rw [a4, h3]; simp⟩
      · exact .inr ⟨rfl, a1⟩
    · simp only [Prod.mk.injEq] at e; obtain ⟨rfl, rfl⟩ := e; exact .inr ⟨rfl, h1.1⟩
theorem AtS_wr_false {P : List UInt8 → Prop} (h : S.AtS x P) {f : Nat} (e : S.wr f b = (false, S1)) : S1.AtS x P := by
  unfold DS.wr at e
  rcases hop : S.op with ⟨ok2, S2⟩
  have h2 := h.op hop
  rw [hop] at e
  cases ok2
  · simp at e; subst e; exact h2
  · simp at e
/-- A picture is written: the first sector last. -/
theorem DS.Alive.put {f m : Nat} {p : List UInt8} (h : S.Alive) (hs : S.Shows n c) (hw : S.wait = []) (e : S.put f p m = (ok, S1)) :
    (ok = true ∧ S1.Alive ∧ S1.Shows n (putAt c f p m) ∧ S1.wait = [(f, secAt p 0)] ∧ S1.secs.length = n ∧ (∀ i, i < n → i ≠ f → S1.secs.getD i [] = putAt c f p m i) ∧ (f < n → S1.secs.getD f [] = c f)) ∨
    (ok = false ∧ S1.Dead ∧ ∀ x, x < n → x ≤ f ∨ f + m < x → S1.secs.getD x [] = c x) := by
  have hA : ∀ x, x < n → S.AtS x (fun b => b = c x) := fun x hx => ⟨shows_at hs hw x hx, fun y hy => by rw [hw] at hy; cases hy⟩
  have hfin : ∀ i, upd (updl c (others f m p)) f (secAt p 0) i = putAt c f p m i := by
    have hc : ∀ i, updl c (others f m p) i = if f + 1 ≤ i ∧ i ≤ f + m then secAt p (i - f) else c i := by
      have := updl_others c f m p m (Nat.le_refl _)
      rwa [List.take_of_length_le (by rw [others_len]; exact Nat.le_refl _)] at this
    intro i
    unfold upd putAt
    rw [hc i]
    by_cases h1 : f = i
    · subst h1; rw [if_pos rfl, if_pos (by omega), Nat.sub_self]
    · rw [if_neg h1]
      by_cases h2 : f + 1 ≤ i ∧ i ≤ f + m
      · rw [if_pos h2, if_pos (by omega)]
      · rw [if_neg h2, if_neg (by omega)]
  have hne : ∀ x, x ≤ f ∨ f + m < x → ∀ y ∈ others f m p, y.1 = x → y.2 = c x := fun x hx y hy e => by
    unfold others at hy
    obtain ⟨i, hi, rfl⟩ := List.mem_map.1 hy
    have := List.mem_range.1 hi
    simp only at e
    omega
  unfold DS.put at e
  rcases hws : S.wrs (others f m p) with ⟨ok2, S2⟩
  rw [hws] at e
  have h2A : ∀ x, x < n → x ≤ f ∨ f + m < x → S2.AtS x (fun b => b = c x) := fun x hx hd => (hA x hx).wrs (hne x hd) hws
  rcases h.wrs hs hws with ⟨rfl, a1, a2, a3, a4⟩ | ⟨rfl, a1⟩
  · rw [hw, List.nil_append] at a4
    simp only at e
    by_cases hm : m = 0
    · rw [if_pos hm] at e
      have ho : others f m p = [] := by rw [hm]; rfl
      rw [ho] at a4
      rcases a1.wr e with ⟨rfl, b1, b2, b3⟩ | ⟨rfl, b1⟩
      · have hsh := shows_wr a2 b2 b3
        refine .inl ⟨rfl, b1, ⟨hsh.1, fun i hi => (hsh.2 i hi).trans (hfin i)⟩, by rw [b3, a4]; rfl, hsh.1, fun i hi hif => ?_, fun hf => ?_⟩
        · rw [b2, a3, shows_at hs hw i hi]
          unfold putAt
          rw [if_neg (by omega)]
        · rw [b2, a3, shows_at hs hw f hf]
      · exact .inr ⟨rfl, b1.1, fun x hx hd => (AtS_wr_false (h2A x hx hd) e).1⟩
    · rw [if_neg hm] at e
      rcases hb : S2.bar with ⟨ok3, S3⟩
      rw [hb] at e
      have h3A : ∀ x, x < n → x ≤ f ∨ f + m < x → S3.AtS x (fun b => b = c x) := fun x hx hd => (h2A x hx hd).bar hb
      rcases a1.bar hb with ⟨rfl, b1, b2, b3⟩ | ⟨rfl, b1⟩
      · simp only at e
        have hs3 := shows_bar a2 b2 b3
        rcases b1.wr e with ⟨rfl, d1, d2, d3⟩ | ⟨rfl, d1⟩
        · have hsh := shows_wr hs3 d2 d3
          refine .inl ⟨rfl, d1, ⟨hsh.1, fun i hi => (hsh.2 i hi).trans (hfin i)⟩, by rw [d3, b3]; rfl, hsh.1, fun i hi hif => ?_, fun hf => ?_⟩
          · rw [d2, shows_at hs3 b3 i hi, ← hfin i]
            unfold upd
            rw [if_neg (fun e => hif e.symm)]
          · have hc := updl_others c f m p m (Nat.le_refl _) f
            rw [List.take_of_length_le (by rw [others_len]; exact Nat.le_refl _)] at hc
            rw [d2, shows_at hs3 b3 f hf, hc, if_neg (by omega)]
        · exact .inr ⟨rfl, d1.1, fun x hx hd => (AtS_wr_false (h3A x hx hd) e).1⟩
      · simp only [Prod.mk.injEq] at e; obtain ⟨rfl, rfl⟩ := e
        exact .inr ⟨rfl, b1.1, fun x hx hd => (h3A x hx hd).1⟩
  · simp only [Prod.mk.injEq] at e; obtain ⟨rfl, rfl⟩ := e
    exact .inr ⟨rfl, a1, fun x hx hd => (h2A x hx hd).1⟩
/-- One write that waits is kept, or not. -/
theorem putTo_one (kept : Nat → Bool) (s : List (List UInt8)) (x : Nat) (b : List UInt8) : putTo kept s [(x, b)] 1 = s.set x b ∨ putTo kept s [(x, b)] 1 = s := by
  simp only [putTo, List.getElem?_cons_zero]
  split
  · exact .inl rfl
  · exact .inr rfl
theorem getD_set {s : List (List UInt8)} {x i : Nat} {b : List UInt8} (hx : x < s.length) : (s.set x b).getD i [] = if x = i then b else s.getD i [] := by
  rw [List.getD_eq_getElem?_getD, List.getD_eq_getElem?_getD, List.getElem?_set]
  by_cases e : x = i
  · subst e; rw [if_pos rfl, if_pos hx, if_pos rfl]; rfl
  · rw [if_neg e, if_neg e]
end
theorem DS.fine_dead {S S1 : DS} (h : S.Died S1) : S1.secs.length = S.secs.length := by obtain ⟨_, k, e⟩ := h; rw [e, putTo_len]

/-- What a Save leaves: nothing, a beginning alone, or all. -/
theorem sv_out {S S1 : DS} {ok : Bool} {n h L : Nat} {c : Nat → List UInt8} {J : JS} {b : List UInt8} (ha : S.Alive) (hs : S.Shows n c) (hw : S.wait = []) (hb : 1 + secsOf b.length ≤ h) (hf : J.from_ + h ≤ n) (hL : L = J.last) (e : S.sv J b = (ok, S1)) :
    (ok = true ∧ S1.Alive ∧ S1.Shows n (savC c J.from_ L b) ∧ S1.wait = []) ∨
    (ok = false ∧ S1.Dead ∧ ((∀ i, i < n → S1.secs.getD i [] = c i) ∨
      (S1.secs.getD J.from_ [] = begP (L + 1) ∧ S1.secs.getD (J.from_ + 1) [] = c (J.from_ + 1) ∧ ∀ i, i < n → i < J.from_ ∨ J.from_ + h ≤ i → S1.secs.getD i [] = c i) ∨
      ∀ i, i < n → S1.secs.getD i [] = savC c J.from_ L b i)) := by
  subst hL
  have hp := secsOf_pos b.length
  have hsl : S.secs.length = n := hs.1
  unfold DS.sv at e
  rcases h1 : S.wr J.from_ (begP (J.last + 1)) with ⟨o1, Sa⟩
  rw [h1] at e
  rcases ha.wr h1 with ⟨rfl, a1, a2, a3⟩ | ⟨rfl, a1⟩
  rotate_left
  · simp only [Prod.mk.injEq] at e; obtain ⟨rfl, rfl⟩ := e
    refine .inr ⟨rfl, a1.1, .inl (fun i hi => ?_)⟩
    obtain ⟨_, k, hk⟩ := a1
    rw [hk, hw]
    exact shows_at hs hw i hi
  have sA := shows_wr hs a2 a3
  rw [hw, List.nil_append] at a3
  simp only at e
  rcases h2 : Sa.bar with ⟨o2, Sb⟩
  rw [h2] at e
  rcases a1.bar h2 with ⟨rfl, b1, b2, b3⟩ | ⟨rfl, b1⟩
  rotate_left
  · simp only [Prod.mk.injEq] at e; obtain ⟨rfl, rfl⟩ := e
    refine .inr ⟨rfl, b1.1, ?_⟩
    obtain ⟨_, k, hk⟩ := b1
    rw [a3, a2] at hk
    rcases putTo_one k S.secs J.from_ (begP (J.last + 1)) with h | h
    · right; left
      have hk' : Sb.secs = S.secs.set J.from_ (begP (J.last + 1)) := hk.trans h
      refine ⟨by rw [hk', getD_set (by omega), if_pos rfl], by rw [hk', getD_set (by omega), if_neg (by omega)]; exact shows_at hs hw _ (by omega), fun i hi hd => by rw [hk', getD_set (by omega), if_neg (by omega)]; exact shows_at hs hw i hi⟩
    · left
      have hk' : Sb.secs = S.secs := hk.trans h
      exact fun i hi => by rw [hk']; exact shows_at hs hw i hi
  have sB := shows_bar sA b2 b3
  simp only at e
  rcases h3 : Sb.put (J.from_ + 1) (recP (J.last + 2) b) (secsOf b.length - 1) with ⟨o3, Sc⟩
  rw [h3] at e
  rcases b1.put sB b3 h3 with ⟨rfl, d1, d2, d3, d4, d5, d6⟩ | ⟨rfl, d1, d2⟩
  rotate_left
  · simp only [Prod.mk.injEq] at e; obtain ⟨rfl, rfl⟩ := e
    refine .inr ⟨rfl, d1, .inr (.inl ⟨?_, ?_, fun i hi hd => ?_⟩)⟩
    · rw [d2 _ (by omega) (by omega)]; simp [upd]
    · rw [d2 _ (by omega) (by omega)]; unfold upd; rw [if_neg (by omega)]
    · rw [d2 i hi (by omega)]; unfold upd; rw [if_neg (by omega)]
  simp only at e
  rcases d1.bar e with ⟨rfl, f1, f2, f3⟩ | ⟨rfl, f1⟩
  · exact .inl ⟨rfl, f1, shows_bar d2 f2 f3, f3⟩
  · refine .inr ⟨rfl, f1.1, ?_⟩
    obtain ⟨_, k, hk⟩ := f1
    rw [d3] at hk
    rcases putTo_one k Sc.secs (J.from_ + 1) (secAt (recP (J.last + 2) b) 0) with h | h
    · right; right
      have hk' : S1.secs = Sc.secs.set (J.from_ + 1) (secAt (recP (J.last + 2) b) 0) := hk.trans h
      intro i hi
      rw [hk', getD_set (by omega)]
      by_cases hif : J.from_ + 1 = i
      · subst hif
        rw [if_pos rfl]
        unfold savC putAt
        rw [if_pos (by omega), Nat.sub_self]
      · rw [if_neg hif, d5 i hi (fun e => hif e.symm)]
        rfl
    · right; left
      have hk' : S1.secs = Sc.secs := hk.trans h
      refine ⟨?_, ?_, fun i hi hd => ?_⟩
      · rw [hk', d5 _ (by omega) (by omega)]; unfold putAt; rw [if_neg (by omega)]; simp [upd]
      · rw [hk', d6 (by omega)]; unfold upd; rw [if_neg (by omega)]
      · rw [hk', d5 i hi (by omega)]; unfold putAt; rw [if_neg (by omega)]; unfold upd; rw [if_neg (by omega)]
end Go.Proofs.YtfigiofiakkbdaaDoor
