/-
  A slice of strings among the arguments, opened.
-/
import Derived.Test.YtiipepiabeccpaaLStv
import Derived.Test.YtiipepiabeccpaaFrames
import Derived.Deep.Strs
namespace Go.Proofs.Ytiipepiabeccpaa
open Go.ChangeShapes Go.WideShapes Go.ChangeAt Go.RowKit Go.Deep
set_option linter.all false
section
variable {H : Type} {enc : TypeId × Value → H} {W : World} {r : Reach} {b0 : Nat} {v : Value} {d : DataW H} {p : List MemPlace}
set_option maxRecDepth 100000 in
theorem open_strs9 (hval : Value.okWide Try.prog W r b0 34 v) (h : DataW.Trod enc Try.prog W 0 (fun _ => true) true 34 v d p) : ∃ ss, Strv W v ss ∧ True := by
  obtain ⟨a, len, cap, rfl⟩ := okWide_slice Try.underlying34 hval
  obtain ⟨fuel, hf⟩ := h
  rcases open_strs Try.underlying34 Try.underlying9 (by kernel_rfl) hf with ⟨hcs, _⟩ | ⟨x, l, c, m, Sx, hcs, _, hl, hm, hmm, _, hcell⟩
  · simp [Value.cells] at hcs
    obtain ⟨rfl, rfl, rfl⟩ := hcs
    exact ⟨[], ⟨none, 0, rfl, Nat.zero_le _, fun i s hs => by simp at hs⟩, trivial⟩
  · simp [Value.cells] at hcs
    obtain ⟨rfl, rfl, rfl⟩ := hcs
    simp at hmm
    subst hmm
    refine ⟨(List.range len).map fun i => (Sx i).data.toList, ⟨some x, m, by simp, by simp; omega, fun i s hs => ?_⟩, trivial⟩
    rw [List.getElem?_map, Option.map_eq_some_iff] at hs
    obtain ⟨k, hk, rfl⟩ := hs
    have hik : i < len ∧ k = i := by
      have := List.getElem?_eq_some_iff.1 hk
      obtain ⟨h1, h2⟩ := this
      simp at h1 h2
      exact ⟨h1, h2.symm⟩
    obtain ⟨hi, rfl⟩ := hik
    obtain ⟨e1, e2⟩ := hcell k (by omega)
    have hb := World.block_lt_of_cell? _ _ e1
    rw [Addr.add_block] at hb
    exact ⟨e2, x, rfl, hb, e1⟩
end
end Go.Proofs.Ytiipepiabeccpaa
