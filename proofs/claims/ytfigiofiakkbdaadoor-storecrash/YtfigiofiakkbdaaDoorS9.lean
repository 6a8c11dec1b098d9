/-
  A store over a disk that is up: what its sectors hold, Save and Open.
-/
import Derived.Test.YtfigiofiakkbdaaDoorS8
namespace Go.Proofs.YtfigiofiakkbdaaDoor
open Go.RowKit
set_option linter.all false

/-! ### Halves -/
/-- From sector f on, h sectors: a beginning k, and the record o, or none. -/
structure Hf (c : Nat → List UInt8) (f h k : Nat) (o : Option (List UInt8)) : Prop where
  k1 : 1 ≤ k
  beg : c f = begP k
  no : o = none → num ((c (f + 1)).take 8) ≤ k
  yes : ∀ b, o = some b → areaC c (f + 1) (secsOf b.length) = recP (k + 1) b ∧ 1 + secsOf b.length ≤ h ∧ b.length < 4294967296
theorem Hf.away {c c' : Nat → List UInt8} {f h k : Nat} {o : Option (List UInt8)} (hf : Hf c f h k o) (h2 : 2 ≤ h) (e : ∀ i, f ≤ i → i < f + h → c' i = c i) : Hf c' f h k o :=
  ⟨hf.k1, by rw [e f (by omega) (by omega)]; exact hf.beg, fun ho => by rw [e (f + 1) (by omega) (by omega)]; exact hf.no ho, fun b hb => by
    obtain ⟨h1, h3, h4⟩ := hf.yes b hb
    exact ⟨by rw [areaC_congr (c := c') (c' := c) (fun i h5 h6 => e i (by omega) (by omega))]; exact h1, h3, h4⟩⟩
theorem replayFrom_ext (f : Nat) : ∀ (s : List UInt8) (n u : Nat) (out out' : List (List UInt8)) (n' u' : Nat), replayFrom f s n u out = (out', n', u') → ∃ r, out' = out ++ r := by
  induction f with
  | zero => intro s n u out out' n' u' h; simp only [replayFrom, Prod.mk.injEq] at h; obtain ⟨rfl, rfl, rfl⟩ := h; exact ⟨[], by simp⟩
  | succ f ih =>
    intro s n u out out' n' u' h
    simp only [replayFrom] at h
    split at h
    · simp only [Prod.mk.injEq] at h; obtain ⟨rfl, rfl, rfl⟩ := h; exact ⟨[], by simp⟩
    · obtain ⟨r, rfl⟩ := ih _ _ _ _ _ _ _ h
      exact ⟨_, List.append_assoc _ _ _⟩
theorem beg_replay {s : List UInt8} {k : Nat} (h1 : 1 ≤ k) (h2 : k ≤ 4611686018427387904) (h8 : s.take 512 = begP k) : replay s = some (replayFrom s.length s (k + 1) 1 []) := by
  have e8 : num (s.take 8) = k := by
    have := beg_take8 k [] (by omega)
    rw [List.append_nil, ← h8, List.take_take] at this
    exact this
  have e16 : s.take 16 = head16 k 4294967295 [] := by
    have := beg_take16 k []
    rw [List.append_nil, ← h8, List.take_take] at this
    exact this
  unfold replay
  simp only
  rw [e8, if_neg (by rw [e16]; simp; omega)]
theorem replayFrom_num' (f : Nat) : ∀ (s : List UInt8) (n u : Nat) (out out' : List (List UInt8)) (n' u' : Nat), replayFrom f s n u out = (out', n', u') → n' + out.length = n + out'.length := by
  induction f with
  | zero => intro s n u out out' n' u' h; simp only [replayFrom, Prod.mk.injEq] at h; obtain ⟨rfl, rfl, rfl⟩ := h; rfl
  | succ f ih =>
    intro s n u out out' n' u' h
    simp only [replayFrom] at h
    split at h
    · simp only [Prod.mk.injEq] at h; obtain ⟨rfl, rfl, rfl⟩ := h; rfl
    · have := ih _ _ _ _ _ _ _ h
      simp at this
      omega
/-- What a half tells. -/
theorem Hf.told {c : Nat → List UInt8} {f h k : Nat} {o : Option (List UInt8)} (hf : Hf c f h k o) (h2 : 2 ≤ h) (hk : k + 1 ≤ 4611686018427387904) (hl : ∀ i, f ≤ i → i < f + h → (c i).length = 512) :
    ∃ l n' u, replay (areaC c f h) = some (l, n', u) ∧ n' = k + 1 + l.length ∧ (o = none → l = []) ∧ (∀ b, o = some b → ∃ r, l = b :: r) := by
  have ha : areaC c f h = begP k ++ areaC c (f + 1) (h - 1) := by
    rw [show h = 1 + (h - 1) by omega, areaC_add]
    simp only [areaC, List.nil_append, Nat.add_zero, Nat.add_sub_cancel_left]
    rw [hf.beg]
  have h512 : (areaC c f h).take 512 = begP k := by rw [ha, List.take_left' (begP_len k)]
  have hlen : (areaC c f h).length = 512 * h := areaC_len hl
  have hr := beg_replay hf.k1 (by omega) h512
  rcases hh : replayFrom (areaC c f h).length (areaC c f h) (k + 1) 1 [] with ⟨l, n', u⟩
  rw [hh] at hr
  have hn := replayFrom_num' _ _ _ _ _ _ _ _ hh
  simp at hn
  refine ⟨l, n', u, hr, hn, fun ho => ?_, fun b hb => ?_⟩
  · rw [hlen, show 512 * h = 512 * h - 1 + 1 by omega] at hh
    simp only [replayFrom] at hh
    have hd : (areaC c f h).drop (512 * 1) = areaC c (f + 1) (h - 1) := by rw [ha, Nat.mul_one, List.drop_left' (begP_len k)]
    rw [hd, oneAt_other _ _ (by
      rw [show h - 1 = 1 + (h - 1 - 1) by omega, areaC_add]
      simp only [areaC, List.nil_append, Nat.add_zero]
      rw [List.take_append_of_le_length (by rw [hl _ (by omega) (by omega)]; omega)]
      have := hf.no ho
      omega)] at hh
    simp only [Prod.mk.injEq] at hh
    exact hh.1.symm
  · obtain ⟨h1, h3, h4⟩ := hf.yes b hb
    rw [hlen, show 512 * h = 512 * h - 1 + 1 by omega] at hh
    simp only [replayFrom] at hh
    have hd : (areaC c f h).drop (512 * 1) = recP (k + 1) b ++ areaC c (f + 1 + secsOf b.length) (h - 1 - secsOf b.length) := by
      rw [ha, Nat.mul_one, List.drop_left' (begP_len k)]
      rw [show h - 1 = secsOf b.length + (h - 1 - secsOf b.length) by omega, areaC_add, h1, Nat.add_sub_cancel_left]
    rw [hd, oneAt_rec _ _ _ hk h4] at hh
    simp only at hh
    obtain ⟨r, e⟩ := replayFrom_ext _ _ _ _ _ _ _ _ hh
    exact ⟨r, by simpa using e⟩
/-- What one has. -/
def thing1 (y : Nat) (o : Option (List UInt8)) : Option (Nat × Nat × List UInt8) := match o with
  | none => none
  | some b => thingO y [b]
theorem thing1_of {y : Nat} {o : Option (List UInt8)} {l : List (List UInt8)} (h1 : o = none → l = []) (h2 : ∀ b, o = some b → ∃ r, l = b :: r) : thingO y l = thing1 y o := by
  rcases o with _ | b
  · rw [h1 rfl]; rfl
  · obtain ⟨r, rfl⟩ := h2 b rfl
    rfl
/-- A count and bytes, as a record. -/
def recB (n : Nat) (bs : List UInt8) : List UInt8 := le 8 n ++ bs
theorem recB_len (n : Nat) (bs : List UInt8) : (recB n bs).length = 8 + bs.length := by simp [recB, le_len]
theorem thing1_rec (y n : Nat) (bs : List UInt8) (hn : n ≤ 4611686018427387904) : thing1 y (some (recB n bs)) = some (y, n, bs) := by
  have e1 : (recB n bs).take 8 = le 8 n := by rw [recB, List.take_left' (le_len 8 n)]
  have e2 : (recB n bs).drop 8 = bs := by rw [recB, List.drop_left' (le_len 8 n)]
  have e3 : num (le 8 n) = n := num_le 8 n (by omega)
  simp only [thing1, thingO, e1, e2, e3, recB_len]
  rw [if_neg (by omega), if_neg (by omega)]

/-! ### Save's sectors -/
def savC (c : Nat → List UInt8) (f L : Nat) (b : List UInt8) : Nat → List UInt8 := putAt (upd c f (begP (L + 1))) (f + 1) (recP (L + 2) b) (secsOf b.length - 1)
theorem savC_out {c : Nat → List UInt8} {f L : Nat} {b : List UInt8} {i : Nat} (h : i < f ∨ f + secsOf b.length < i) : savC c f L b i = c i := by
  have := secsOf_pos b.length
  unfold savC putAt upd
  rw [if_neg (by omega), if_neg (by omega)]
theorem savC_hf {c : Nat → List UInt8} {f h L : Nat} {b : List UInt8} (hb : 1 + secsOf b.length ≤ h) (hl : b.length < 4294967296) : Hf (savC c f L b) f h (L + 1) (some b) := by
  have hp := secsOf_pos b.length
  refine ⟨by omega, ?_, fun e => (by cases e), fun b' e => ?_⟩
  · unfold savC putAt
    rw [if_neg (by omega)]
    simp [upd]
  · injection e with e
    subst e
    refine ⟨?_, hb, hl⟩
    obtain ⟨q, hq⟩ : ∃ q, secsOf b.length = q + 1 := ⟨secsOf b.length - 1, by omega⟩
    have := areaC_put (upd c f (begP (L + 1))) (f + 1) (q + 1) 0 q (recP (L + 2) b) (by rw [rec_len, hq]) (by omega)
    simp only [areaC, List.nil_append, Nat.add_zero, Nat.sub_zero, Nat.sub_self, List.append_nil] at this
    unfold savC
    rw [hq, Nat.add_sub_cancel]
    exact this
theorem sv_up {S : DS} {J : JS} {n : Nat} {c : Nat → List UInt8} {b : List UInt8} (hu : S.Up) (hs : S.Shows n c) : ∃ S1, S.sv J b = (true, S1) ∧ S1.Up ∧ S1.Shows n (savC c J.from_ J.last b) ∧ S1.wait = [] ∧ S1.ops ≤ S.ops + secsOf b.length + 4 := by
  have hp := secsOf_pos b.length
  have hw := hu.wr J.from_ (begP (J.last + 1))
  obtain ⟨a1, a2, a3, a4, a5⟩ := hs.wr hu hw
  generalize { S.more 1 with wait := S.wait ++ [(J.from_, begP (J.last + 1))] } = Sa at *
  have hb := a2.bar
  obtain ⟨b1, b2, b3, b4, b5⟩ := a1.bar a2 hb
  generalize (Sa.more 1).settled = Sb at *
  obtain ⟨Sc, p1, p2, p3, p4, p5, p6⟩ := b1.put (f := J.from_ + 1) (m := secsOf b.length - 1) (p := recP (J.last + 2) b) b2
  have hb2 := p3.bar
  obtain ⟨d1, d2, d3, d4, d5⟩ := p2.bar p3 hb2
  generalize (Sc.more 1).settled = Sd at *
  refine ⟨Sd, ?_, d2, d1, d3, by omega⟩
  unfold DS.sv
  rw [hw]
  simp only
  rw [hb]
  simp only
  rw [p1]
  simp only
  exact hb2

/-! ### The store -/
structure HOk (c : Nat → List UInt8) (f h : Nat) (J : JS) (k : Nat) (o : Option (List UInt8)) : Prop where
  hf : Hf c f h k o
  jf : J.from_ = f
  je : J.end_ = f + h
  jx : J.failed = false
  lo : k ≤ J.last
  hi : ∀ b, o = some b → k + 1 ≤ J.last
structure Su (w0 w : World) (R T : Nat → Prop) (d sb : Nat) (S : DS) (σ : SS) (n : Nat) (c : Nat → List UInt8) (ka : Nat) (oa : Option (List UInt8)) (kb : Nat) (ob : Option (List UInt8)) : Prop where
  sto : Sto w0 w R T d sb S σ
  up : S.Up
  sh : S.Shows n c
  wait : S.wait = []
  n4 : 4 ≤ n
  hh : σ.h = n / 2
  a : HOk c 0 (n / 2) σ.A ka oa
  b : HOk c (n / 2) (n / 2) σ.B kb ob
  kept : σ.kept = chooseO (thing1 0 oa) (thing1 1 ob)
section
variable {w0 w w' : World} {R R' T Q : Nat → Prop} {d sb : Nat} {S S1 : DS} {σ : SS} {n : Nat} {c : Nat → List UInt8} {ka kb : Nat} {oa ob : Option (List UInt8)}
theorem Su.rest (h : Su w0 w R T d sb S σ n c ka oa kb ob) (k : Calm w w') : Su w0 w' R T d sb S σ n c ka oa kb ob := { h with sto := h.sto.rest k }
theorem Su.apart (h : Su w0 w R T d sb S σ n c ka oa kb ob) (k : Keep Q w w') (hQ : ∀ i, Q i → ¬ R i ∧ ¬ T i ∧ w0.heap.size ≤ i) : Su w0 w' R T d sb S σ n c ka oa kb ob := { h with sto := h.sto.apart k hQ }
theorem Su.moved (h : Su w0 w R T d sb S σ n c ka oa kb ob) (q : Nat) (hs : Sd w0 w' R' d (S.more q)) (hx : Ext R R' w) (k : Keep R w w') : Su w0 w' R' T d sb (S.more q) σ n c ka oa kb ob := { h with sto := h.sto.moved hs hx k, up := h.up.more q, sh := h.sh.more q }
theorem Su.len (h : Su w0 w R T d sb S σ n c ka oa kb ob) (i : Nat) (hi : i < n) : (c i).length = 512 := by
  rw [← h.sh.2 i hi]
  exact h.sto.sd.st.disk.now_len i (by rw [h.sh.1]; exact hi)
theorem Su.calm (h : Su w0 w R T d sb S σ n c ka oa kb ob) : Calm w0 w := h.sto.calm
theorem Su.secs (h : Su w0 w R T d sb S σ n c ka oa kb ob) (i : Nat) (hi : i < n) : S.secs.getD i [] = c i := by
  have := h.sh.2 i hi
  unfold DS.now at this
  rw [h.wait] at this
  exact this

/-- Save, where there is room. -/
theorem su_save (hT : Tab w0) (h : Su w0 w R T d sb S σ n c ka oa kb ob) (hn : n ≤ 4096) (v : Value) (bs : List UInt8) (hv : Rd w v bs) (hroom : (bs.length : Int) ≤ ((σ.h : Int) - 1) * 512 - 24) (hc : σ.count < 4611686018427387904) (hl : (σ.J σ.other).last + 1 < 4611686018427387904) (hf : S.ops + secsOf (8 + bs.length) + 4 ≤ 1000000000) :
    Calls Tryd.prog 15 #[.pointer (some ⟨sb, 0, none⟩), v] w fun e w' => ∃ R' T' S1, e = .returned (.int .i64 0) ∧ Ext R R' w ∧ Ext T T' w ∧ Keep (fun k => R k ∨ T k) w w' ∧ S1.ops ≤ S.ops + secsOf (8 + bs.length) + 4 ∧
      ((σ.other = 0 ∧ Su w0 w' R' T' d sb S1 (σ.saved bs) n (savC c 0 σ.A.last (recB (σ.count + 1) bs)) (σ.A.last + 1) (some (recB (σ.count + 1) bs)) kb ob) ∨
       (σ.other = 1 ∧ Su w0 w' R' T' d sb S1 (σ.saved bs) n (savC c (n / 2) σ.B.last (recB (σ.count + 1) bs)) ka oa (σ.B.last + 1) (some (recB (σ.count + 1) bs)))) := by
  have n4 := h.n4
  have hh := h.hh
  have hy : σ.other ≤ 1 := by unfold SS.other; split <;> omega
  have hq : secsOf (8 + bs.length) + 1 ≤ n / 2 := by unfold secsOf; omega
  have h0 : σ.J 0 = σ.A := rfl
  have h1 : σ.J 1 = σ.B := rfl
  have hJ : (σ.J σ.other).failed = false ∧ (σ.J σ.other).end_ = (σ.J σ.other).from_ + σ.h ∧ (σ.J σ.other).end_ ≤ n := by
    have : σ.other = 0 ∨ σ.other = 1 := by omega
    rcases this with e | e
    · rw [e, h0]; exact ⟨h.a.jx, by rw [h.a.je, h.a.jf, hh], by rw [h.a.je]; omega⟩
    · rw [e, h1]; exact ⟨h.b.jx, by rw [h.b.je, h.b.jf, hh], by rw [h.b.je]; omega⟩
  refine (ssave_c hT h.sto hJ.1 (by omega) hJ.2.1 (by rw [h.sh.1]; exact hJ.2.2) v bs hv hroom hc hl (by unfold DS.fine; rw [h.wait]; simp; omega)).mono ?_
  obtain ⟨S1, s1, s2, s3, s4, s5⟩ := sv_up (J := σ.J σ.other) (b := le 8 (σ.count + 1) ++ bs) h.up h.sh
  rintro e w' ⟨R', T', S2, ⟨e1, rfl, hst⟩ | ⟨e1, _, _⟩, hx, ht, hk⟩
  rotate_left
  · rw [s1] at e1; cases e1
  rw [s1] at e1
  injection e1 with _ e1
  subst e1
  have hlr : (le 8 (σ.count + 1) ++ bs).length = 8 + bs.length := recB_len (σ.count + 1) bs
  rw [hlr] at s5
  refine ⟨R', T', S1, rfl, hx, ht, hk, s5, ?_⟩
  have hthing : ∀ y, thing1 y (some (recB (σ.count + 1) bs)) = some (y, σ.count + 1, bs) := fun y => thing1_rec y _ bs (by omega)
  have hkp := h.kept
  have : σ.other = 0 ∨ σ.other = 1 := by omega
  rcases this with e | e
  · refine .inl ⟨e, hst, s2, ?_, s4, n4, ?_, ?_, ?_, ?_⟩
    · rw [e, h0, h.a.jf] at s3; exact s3
    · unfold SS.saved SS.put; rw [e]; exact hh
    · have hsA : (σ.saved bs).A = { σ.A with free := σ.A.from_ + 1 + secsOf (8 + bs.length), last := σ.A.last + 2 } := by unfold SS.saved SS.put; rw [e]; rfl
      rw [hsA]
      exact ⟨savC_hf (by rw [recB_len]; omega) (by rw [recB_len]; omega), h.a.jf, h.a.je, h.a.jx, by simp only; omega, fun b _ => by simp only; omega⟩
    · have hsB : (σ.saved bs).B = σ.B := by unfold SS.saved SS.put; rw [e]; rfl
      rw [hsB]
      exact ⟨h.b.hf.away (by omega) (fun i h1 h2 => savC_out (.inr (by rw [recB_len]; omega))), h.b.jf, h.b.je, h.b.jx, h.b.lo, h.b.hi⟩
    · rw [hthing]
      have hks : (σ.saved bs).kept = some (0, σ.count + 1, bs) := by unfold SS.saved; simp only; rw [e]
      rw [hks]
      rcases hob : thing1 1 ob with _ | ⟨z, m, x⟩
      · rfl
      · have : m ≤ σ.count := by
          rw [hob] at hkp
          unfold SS.count
          rw [hkp]
          rcases thing1 0 oa with _ | ⟨z', m', x'⟩
          · simp [chooseO]
          · simp only [chooseO]; split
            · rename_i hq; split at hq <;> (cases hq)
            · rename_i hq; split at hq <;> (injection hq with hq; injection hq with _ hq; injection hq with hq _; omega)
        simp only [chooseO]
        rw [if_neg (by omega)]
  · refine .inr ⟨e, hst, s2, ?_, s4, n4, ?_, ?_, ?_, ?_⟩
    · rw [e, h1, h.b.jf] at s3; exact s3
    · unfold SS.saved SS.put; rw [e]; exact hh
    · have hsA : (σ.saved bs).A = σ.A := by unfold SS.saved SS.put; rw [e]; rfl
      rw [hsA]
      exact ⟨h.a.hf.away (by omega) (fun i h1 h2 => savC_out (.inl (by omega))), h.a.jf, h.a.je, h.a.jx, h.a.lo, h.a.hi⟩
    · have hsB : (σ.saved bs).B = { σ.B with free := σ.B.from_ + 1 + secsOf (8 + bs.length), last := σ.B.last + 2 } := by unfold SS.saved SS.put; rw [e]; rfl
      rw [hsB]
      exact ⟨savC_hf (by rw [recB_len]; omega) (by rw [recB_len]; omega), h.b.jf, h.b.je, h.b.jx, by simp only; omega, fun b _ => by simp only; omega⟩
    · rw [hthing]
      have hks : (σ.saved bs).kept = some (1, σ.count + 1, bs) := by unfold SS.saved; simp only; rw [e]
      rw [hks]
      rcases hoa : thing1 0 oa with _ | ⟨z, m, x⟩
      · rfl
      · have : m ≤ σ.count := by
          rw [hoa] at hkp
          unfold SS.count
          rw [hkp]
          rcases thing1 1 ob with _ | ⟨z', m', x'⟩
          · simp [chooseO]
          · simp only [chooseO]; split
            · rename_i hq; split at hq <;> (cases hq)
            · rename_i hq; split at hq <;> (injection hq with hq; injection hq with _ hq; injection hq with hq _; omega)
        simp only [chooseO]
        rw [if_pos (by omega)]

theorem areaB_more' (q f k : Nat) : areaB (S.more q) f k = areaB S f k := areaB_more S q f k
/-- Open, of a disk that is up and has a store. -/
theorem su_open (hT : Tab w0) (hsd : Sd w0 w R d S) (hu : S.Up) (hs : S.Shows n c) (hw : S.wait = []) (n4 : 4 ≤ n) (hn : n ≤ 4096) (ha : Hf c 0 (n / 2) ka oa) (hb : Hf c (n / 2) (n / 2) kb ob) (hka : ka + 1 ≤ 4611686018427387904) (hkb : kb + 1 ≤ 4611686018427387904) (hf : S.ops + n ≤ 1000000000) :
    Calls Tryd.prog 19 #[.pointer (some ⟨d, 0, none⟩)] w fun e w' => ∃ R' T' sb σ q l0 u0 l1 u1, e = .returned (.tuple #[.pointer (some ⟨sb, 0, none⟩), .int .i64 0]) ∧ q ≤ n ∧ (∀ k, T' k → w.heap.size ≤ k) ∧ Ext R R' w ∧ Keep R w w' ∧ Su w0 w' R' T' d sb (S.more q) σ n c ka oa kb ob ∧
      replay (areaC c 0 (n / 2)) = some (l0, ka + 1 + l0.length, u0) ∧ σ.A.last = ka + l0.length ∧ l0.length ≤ n / 2 ∧ replay (areaC c (n / 2) (n / 2)) = some (l1, kb + 1 + l1.length, u1) ∧ σ.B.last = kb + l1.length ∧ l1.length ≤ n / 2 := by
  have hl : ∀ i, i < n → (c i).length = 512 := fun i hi => by
    rw [← hs.2 i hi]
    exact hsd.st.disk.now_len i (by rw [hs.1]; exact hi)
  obtain ⟨l0, n0, u0, r0, e0, x0, y0⟩ := ha.told (by omega) hka (fun i _ h2 => hl i (by omega))
  obtain ⟨l1, n1, u1, r1, e1, x1, y1⟩ := hb.told (by omega) hkb (fun i _ h2 => hl i (by omega))
  refine (sopen_c hT hsd hs.1 n4 rfl (by unfold DS.fine; rw [hw]; simp; omega)).mono ?_
  rintro e w' ⟨R', S1, hx, hk, hs1, hcase⟩
  have hA0 : areaB S (0 * (n / 2)) (n / 2) = areaC c 0 (n / 2) := by rw [Nat.zero_mul]; exact hs.area 0 (n / 2) (by omega)
  rcases hcase with ⟨cc, ⟨k, hk2, ⟨a1, _⟩ | ⟨a1, a2, _⟩⟩, rfl⟩ | ⟨Sa, J, out, cc, ⟨k, n', used, b1, b2, b3, b4, b5⟩, ⟨k2, hk2, ⟨a1, _⟩ | ⟨a1, a2, _⟩⟩, rfl⟩ | ⟨Sa, J0, out0, J1, out1, sb, ja, jb, T, ⟨k0, n0', used0, b1, b2, b3, b4, b5, b6, b7, b8, b9⟩, ⟨k1, n1', used1, c1, c2, c3, c4, c5, c6, c7, c8, c9⟩, rfl, ht, hst⟩
  · rw [hu.rds] at a1; cases a1
  · rw [hA0, r0] at a2; cases a2
  · rw [hu.rds] at b2
    injection b2 with _ b2
    subst b2
    rw [(hu.more k).rds] at a1; cases a1
  · rw [hu.rds] at b2
    injection b2 with _ b2
    subst b2
    rw [areaB_more', Nat.one_mul, hs.area (n / 2) (n / 2) (by omega), r1] at a2; cases a2
  · rw [hu.rds] at b2
    injection b2 with _ b2
    subst b2
    rw [(hu.more k0).rds, DS.more_more] at c2
    injection c2 with _ c2
    subst c2
    rw [hA0, r0] at b3
    rw [areaB_more', Nat.one_mul, hs.area (n / 2) (n / 2) (by omega), r1] at c3
    injection b3 with b3
    injection b3 with q1 b3
    injection b3 with q2 q3
    injection c3 with c3
    injection c3 with q4 c3
    injection c3 with q5 q6
    subst q1; subst q2; subst q3; subst q4; subst q5; subst q6
    subst e0; subst e1
    subst b4; subst c4
    have hlast0 : ka + 1 + l0.length - 1 = ka + l0.length := by omega
    have hlast1 : kb + 1 + l1.length - 1 = kb + l1.length := by omega
    refine ⟨R', T, sb, _, k0 + k1, l0, u0, l1, u1, rfl, by omega, ht, hx, hk, ⟨hst, hu.more _, hs.more _, hw, n4, rfl, ⟨ha, by simp, by simp, rfl, by simp only; omega, fun b hb => ?_⟩, ⟨hb, by simp, by simp, rfl, by simp only; omega, fun b hb => ?_⟩, ?_⟩, r0, hlast0, by omega, r1, hlast1, by omega⟩
    · obtain ⟨r, e⟩ := y0 b hb
      simp only; rw [e]; simp
    · obtain ⟨r, e⟩ := y1 b hb
      simp only; rw [e]; simp
    · simp only; rw [thing1_of x0 y0, thing1_of x1 y1]
end
end Go.Proofs.YtfigiofiakkbdaaDoor
