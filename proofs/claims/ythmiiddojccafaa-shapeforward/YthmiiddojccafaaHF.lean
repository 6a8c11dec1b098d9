/-
  An argument that is a slice of ints, opened.
-/
import Derived.Test.YthmiiddojccafaaIF
import Derived.Test.YthmiiddojccafaaH5
namespace Go.Proofs.Ythmiiddojccafaa
open Go.ChangeShapes Go.WideShapes Go.ChangeAt Go.RowKit Go.Deep
set_option linter.all false

section
variable {H : Type} {enc : TypeId × Value → H} {W : World}
set_option maxRecDepth 100000 in
theorem open_num {r : Reach} {b0 : Nat} {v : Value} {d : DataW H} {p : List MemPlace} (hval : Value.okWide Try.prog W r b0 28 v) (h : DataW.Trod enc Try.prog W 0 (fun _ => true) true 28 v d p) : ∃ zs, Num W v zs ∧ True := by
  obtain ⟨a, len, cap, rfl⟩ := okWide_slice Try.underlying28 hval
  obtain ⟨fuel, hf⟩ := h
  rcases open_ints Try.underlying28 Try.underlying3 (by kernel_rfl) hf with ⟨hcs, _⟩ | ⟨x, l, c, zs, hcs, _, hl, hm, hz, _, hcell, hwz⟩
  · simp [Value.cells] at hcs
    obtain ⟨rfl, rfl, rfl⟩ := hcs
    exact ⟨[], .inl ⟨rfl, rfl⟩, trivial⟩
  · simp [Value.cells] at hcs
    obtain ⟨rfl, rfl, rfl⟩ := hcs
    have hz' : zs.length = cap := by simpa using hz
    refine ⟨zs.take len, .inr ⟨x, cap, by rw [List.length_take, Nat.min_eq_left (by omega)], by rw [List.length_take]; omega, hm, fun i z hi => ?_⟩, trivial⟩
    rw [List.getElem?_take] at hi
    split at hi
    · have hil : i < zs.length := (List.getElem?_eq_some_iff.1 hi).1
      have hcl := hcell i hil
      have : zs.getD i 0 = z := by simp [hi]
      rw [this] at hcl
      exact hcl
    · simp at hi
end
end Go.Proofs.Ythmiiddojccafaa
