/-
  A store whose disk may crash in a Save: its states, and what each call makes of them.
-/
import Derived.Test.YtfigiofiakkbdaaDoorS18
import Derived.Test.YtfigiofiakkbdaaDoorS11
namespace Go.Proofs.YtfigiofiakkbdaaDoor
open Go.RowKit
set_option linter.all false

theorem DS.sv_fine {S S1 : DS} {ok : Bool} {n : Nat} {J : JS} {b : List UInt8} (e : S.sv J b = (ok, S1)) (hf : S.fine (n + secsOf b.length + 4)) : S1.fine n ∧ S1.secs.length = S.secs.length := by
  have hp := secsOf_pos b.length
  unfold DS.sv at e
  rcases h1 : S.wr J.from_ (begP (J.last + 1)) with ⟨o1, Sa⟩
  have f1 := DS.wr_fine (n := n + secsOf b.length + 3) h1 (hf.mono (by omega))
  rw [h1] at e
  cases o1
  · simp only [Prod.mk.injEq] at e; obtain ⟨_, rfl⟩ := e; exact ⟨f1.1.mono (by omega), f1.2⟩
  simp only at e
  rcases h2 : Sa.bar with ⟨o2, Sb⟩
  have f2 := DS.bar_fine (n := n + secsOf b.length + 2) h2 (f1.1.mono (by omega))
  rw [h2] at e
  cases o2
  · simp only [Prod.mk.injEq] at e; obtain ⟨_, rfl⟩ := e; exact ⟨f2.1.mono (by omega), f2.2.trans f1.2⟩
  simp only at e
  rcases h3 : Sb.put (J.from_ + 1) (recP (J.last + 2) b) (secsOf b.length - 1) with ⟨o3, Sc⟩
  have f3 := DS.put_fine (n := n + 1) h3 (f2.1.mono (by omega))
  rw [h3] at e
  cases o3
  · simp only [Prod.mk.injEq] at e; obtain ⟨_, rfl⟩ := e; exact ⟨f3.1.mono (by omega), f3.2.trans (f2.2.trans f1.2)⟩
  simp only at e
  have f4 := DS.bar_fine (n := n) e (f3.1.mono (by omega))
  exact ⟨f4.1, f4.2.trans (f3.2.trans (f2.2.trans f1.2))⟩

/-! ### Halves -/
/-- What a half's second sector begins with. -/
theorem HOk.num {c : Nat → List UInt8} {f h k : Nat} {J : JS} {o : Option (List UInt8)} (H : HOk c f h J k o) (hl : (c (f + 1)).length = 512) (hj : J.last ≤ 4611686018427387904) : num ((c (f + 1)).take 8) ≤ J.last := by
  rcases o with _ | b
  · exact Nat.le_trans (H.hf.no rfl) H.lo
  · obtain ⟨h1, h3, h4⟩ := H.hf.yes b rfl
    have h5 := H.hi b rfl
    have hp := secsOf_pos b.length
    have h6 := rec_take8 (k + 1) b [] (by omega)
    rw [List.append_nil, ← h1, show secsOf b.length = 1 + (secsOf b.length - 1) by omega, areaC_add] at h6
    simp only [areaC, List.nil_append, Nat.add_zero] at h6
    rw [List.take_append_of_le_length (by rw [hl]; omega)] at h6
    omega
/-- What a store's sectors keep: cnt is the count, o is what is kept. -/
def Kpt (n : Nat) (c : Nat → List UInt8) (B : Nat) (κ : Option (Nat × Nat × List UInt8)) : Prop :=
  ∃ ka oa kb ob, Hf c 0 (n / 2) ka oa ∧ Hf c (n / 2) (n / 2) kb ob ∧ ka ≤ B ∧ kb ≤ B ∧ κ = chooseO (thing1 0 oa) (thing1 1 ob)
theorem thing1_tag {y : Nat} {o : Option (List UInt8)} {z m : Nat} {x : List UInt8} (h : thing1 y o = some (z, m, x)) : z = y := by
  rcases o with _ | b
  · cases h
  · simp only [thing1, thingO] at h
    split at h
    · cases h
    · split at h
      · cases h
      · injection h with h; injection h with h _; exact h.symm
theorem chooseO_one {a b : Option (Nat × Nat × List UInt8)} {z m : Nat} {x : List UInt8} (h : chooseO a b = some (z, m, x)) : a = some (z, m, x) ∨ b = some (z, m, x) := by
  rcases b with _ | ⟨y, n, v⟩
  · exact .inl h
  · rcases a with _ | ⟨y', n', v'⟩
    · exact .inr h
    · simp only [chooseO] at h
      split at h
      · exact .inr h
      · exact .inl h
theorem chooseO_no {a b : Option (Nat × Nat × List UInt8)} (h : chooseO a b = none) : a = none ∧ b = none := by
  rcases b with _ | ⟨y, n, v⟩
  · exact ⟨h, rfl⟩
  · rcases a with _ | ⟨y', n', v'⟩
    · cases h
    · simp only [chooseO] at h
      split at h <;> cases h
section
variable {σ : SS} {n B : Nat} {c c1 : Nat → List UInt8} {ka kb : Nat} {oa ob : Option (List UInt8)} {bs : List UInt8}
/-- The half that Save does not write holds what is kept. -/
theorem kept_b (hk : σ.kept = chooseO (thing1 0 oa) (thing1 1 ob)) (hy : σ.other = 0) : chooseO none (thing1 1 ob) = σ.kept := by
  rcases h : σ.kept with _ | ⟨z, m, x⟩
  · rw [h] at hk
    rw [(chooseO_no hk.symm).2]; rfl
  · rw [h] at hk
    have hz : z ≠ 0 := fun e => by rw [other1 h, e] at hy; omega
    rcases chooseO_one hk.symm with e | e
    · exact absurd (thing1_tag e) hz
    · rw [e]; rfl
theorem kept_a (hk : σ.kept = chooseO (thing1 0 oa) (thing1 1 ob)) (hy : σ.other = 1) : chooseO (thing1 0 oa) none = σ.kept := by
  rcases h : σ.kept with _ | ⟨z, m, x⟩
  · rw [other0 h] at hy; omega
  · rw [h] at hk
    have hz : z ≠ 1 := fun e => by rw [other1 h, e] at hy; omega
    rcases chooseO_one hk.symm with e | e
    · exact e
    · exact absurd (thing1_tag e) hz
theorem count_le_b (hk : σ.kept = chooseO (thing1 0 oa) (thing1 1 ob)) {z m : Nat} {x : List UInt8} (h : thing1 1 ob = some (z, m, x)) : m ≤ σ.count := by
  rw [h] at hk
  unfold SS.count
  rw [hk]
  rcases thing1 0 oa with _ | ⟨z', m', x'⟩
  · simp [chooseO]
  · simp only [chooseO]; split
    · rename_i hq; split at hq <;> (cases hq)
    · rename_i hq; split at hq <;> (injection hq with hq; injection hq with _ hq; injection hq with hq _; omega)
theorem count_le_a (hk : σ.kept = chooseO (thing1 0 oa) (thing1 1 ob)) {z m : Nat} {x : List UInt8} (h : thing1 0 oa = some (z, m, x)) : m ≤ σ.count := by
  rw [h] at hk
  unfold SS.count
  rw [hk]
  rcases thing1 1 ob with _ | ⟨z', m', x'⟩
  · simp [chooseO]
  · simp only [chooseO]; split
    · rename_i hq; split at hq <;> (cases hq)
    · rename_i hq; split at hq <;> (injection hq with hq; injection hq with _ hq; injection hq with hq _; omega)
/-- What is pure of a store. -/
structure Cs (n : Nat) (c : Nat → List UInt8) (σ : SS) (ka : Nat) (oa : Option (List UInt8)) (kb : Nat) (ob : Option (List UInt8)) : Prop where
  n4 : 4 ≤ n
  hh : σ.h = n / 2
  a : HOk c 0 (n / 2) σ.A ka oa
  b : HOk c (n / 2) (n / 2) σ.B kb ob
  kept : σ.kept = chooseO (thing1 0 oa) (thing1 1 ob)
theorem Su.cs {w0 w : World} {R T : Nat → Prop} {d sb : Nat} {S : DS} (h : Su w0 w R T d sb S σ n c ka oa kb ob) : Cs n c σ ka oa kb ob := ⟨h.n4, h.hh, h.a, h.b, h.kept⟩
theorem Cs.same (h : Cs n c σ ka oa kb ob) (ha : σ.A.last ≤ B) (hb : σ.B.last ≤ B) (e : ∀ i, i < n → c1 i = c i) : Kpt n c1 B σ.kept := by
  have n4 := h.n4
  exact ⟨ka, oa, kb, ob, h.a.hf.away (by omega) (fun i h1 h2 => e i (by omega)), h.b.hf.away (by omega) (fun i h1 h2 => e i (by omega)), by have := h.a.lo; omega, by have := h.b.lo; omega, h.kept⟩
/-- Only a beginning was written. -/
theorem Cs.begun (h : Cs n c σ ka oa kb ob) (ha : σ.A.last ≤ B) (hb : σ.B.last ≤ B) (hB : B ≤ 1000000) (hl : ∀ i, i < n → (c i).length = 512) (h1 : c1 (σ.J σ.other).from_ = begP ((σ.J σ.other).last + 1)) (h2 : c1 ((σ.J σ.other).from_ + 1) = c ((σ.J σ.other).from_ + 1))
    (h3 : ∀ i, i < n → i < (σ.J σ.other).from_ ∨ (σ.J σ.other).from_ + n / 2 ≤ i → c1 i = c i) : Kpt n c1 (B + 1) σ.kept := by
  have n4 := h.n4
  have hy : σ.other = 0 ∨ σ.other = 1 := by unfold SS.other; split <;> omega
  have la := h.a.lo
  have lb := h.b.lo
  rcases hy with hy | hy
  · rw [hy, J_zero, h.a.jf] at h1 h2 h3
    refine ⟨σ.A.last + 1, none, kb, ob, ⟨by omega, h1, fun _ => ?_, fun b hb => by cases hb⟩, h.b.hf.away (by omega) (fun i a1 a2 => h3 i (by omega) (.inr (by omega))), by omega, by omega, (kept_b h.kept hy).symm⟩
    rw [h2]
    exact Nat.le_succ_of_le (h.a.num (hl _ (by omega)) (by omega))
  · rw [hy, J_one, h.b.jf] at h1 h2 h3
    refine ⟨ka, oa, σ.B.last + 1, none, h.a.hf.away (by omega) (fun i a1 a2 => h3 i (by omega) (.inl (by omega))), ⟨by omega, h1, fun _ => ?_, fun b hb => by cases hb⟩, by omega, by omega, (kept_a h.kept hy).symm⟩
    rw [h2]
    exact Nat.le_succ_of_le (h.b.num (hl _ (by omega)) (by omega))
/-- All of it was written. -/
theorem Cs.all (h : Cs n c σ ka oa kb ob) (hc : σ.count + 1 ≤ 4611686018427387904) (hroom : 1 + secsOf (8 + bs.length) ≤ n / 2) (hlen : 8 + bs.length < 4294967296) (e : ∀ i, i < n → c1 i = savC c (σ.J σ.other).from_ (σ.J σ.other).last (recB (σ.count + 1) bs) i) :
    ∃ ka' oa' kb' ob', Cs n c1 (σ.saved bs) ka' oa' kb' ob' := by
  have n4 := h.n4
  have hh := h.hh
  have h0 : σ.J 0 = σ.A := rfl
  have h1 : σ.J 1 = σ.B := rfl
  have hthing : ∀ y, thing1 y (some (recB (σ.count + 1) bs)) = some (y, σ.count + 1, bs) := fun y => thing1_rec y _ bs (by omega)
  have hy : σ.other = 0 ∨ σ.other = 1 := by unfold SS.other; split <;> omega
  have hs1 : 1 + secsOf (recB (σ.count + 1) bs).length ≤ n / 2 := by rw [recB_len]; exact hroom
  have hs2 : (recB (σ.count + 1) bs).length < 4294967296 := by rw [recB_len]; exact hlen
  rcases hy with hy | hy
  · rw [hy, h0, h.a.jf] at e
    refine ⟨σ.A.last + 1, some (recB (σ.count + 1) bs), kb, ob, n4, ?_, ?_, ?_, ?_⟩
    · unfold SS.saved SS.put; rw [hy]; exact hh
    · have hsA : (σ.saved bs).A = { σ.A with free := σ.A.from_ + 1 + secsOf (8 + bs.length), last := σ.A.last + 2 } := by unfold SS.saved SS.put; rw [hy]; rfl
      rw [hsA]
      exact ⟨(savC_hf hs1 hs2).away (by omega) (fun i a1 a2 => e i (by omega)), h.a.jf, h.a.je, h.a.jx, by simp only; omega, fun b _ => by simp only; omega⟩
    · have hsB : (σ.saved bs).B = σ.B := by unfold SS.saved SS.put; rw [hy]; rfl
      rw [hsB]
      exact ⟨h.b.hf.away (by omega) (fun i a1 a2 => by rw [e i (by omega), savC_out (.inr (by omega))]), h.b.jf, h.b.je, h.b.jx, h.b.lo, h.b.hi⟩
    · rw [hthing]
      have hks : (σ.saved bs).kept = some (0, σ.count + 1, bs) := by unfold SS.saved; simp only; rw [hy]
      rw [hks]
      rcases hob : thing1 1 ob with _ | ⟨z, m, x⟩
      · rfl
      · have := count_le_b h.kept hob
        simp only [chooseO]
        rw [if_neg (by omega)]
  · rw [hy, h1, h.b.jf] at e
    refine ⟨ka, oa, σ.B.last + 1, some (recB (σ.count + 1) bs), n4, ?_, ?_, ?_, ?_⟩
    · unfold SS.saved SS.put; rw [hy]; exact hh
    · have hsA : (σ.saved bs).A = σ.A := by unfold SS.saved SS.put; rw [hy]; rfl
      rw [hsA]
      exact ⟨h.a.hf.away (by omega) (fun i a1 a2 => by rw [e i (by omega), savC_out (.inl (by omega))]), h.a.jf, h.a.je, h.a.jx, h.a.lo, h.a.hi⟩
    · have hsB : (σ.saved bs).B = { σ.B with free := σ.B.from_ + 1 + secsOf (8 + bs.length), last := σ.B.last + 2 } := by unfold SS.saved SS.put; rw [hy]; rfl
      rw [hsB]
      exact ⟨(savC_hf hs1 hs2).away (by omega) (fun i a1 a2 => e i (by omega)), h.b.jf, h.b.je, h.b.jx, by simp only; omega, fun b _ => by simp only; omega⟩
    · rw [hthing]
      have hks : (σ.saved bs).kept = some (1, σ.count + 1, bs) := by unfold SS.saved; simp only; rw [hy]
      rw [hks]
      rcases hoa : thing1 0 oa with _ | ⟨z, m, x⟩
      · rfl
      · have := count_le_a h.kept hoa
        simp only [chooseO]
        rw [if_pos (by omega)]
end
end Go.Proofs.YtfigiofiakkbdaaDoor
