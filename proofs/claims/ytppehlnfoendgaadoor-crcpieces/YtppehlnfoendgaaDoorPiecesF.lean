/-
  A slice of slices of bytes, opened.
-/
import Derived.Test.YtppehlnfoendgaaDoorPiecesW
import Derived.Test.YtppehlnfoendgaaDoorCrcF
import Derived.Deep.Matrix
namespace Go.Proofs.YtppehlnfoendgaaDoor
open Go.ChangeShapes Go.WideShapes Go.ChangeAt Go.RowKit Go.Deep
set_option linter.all false
theorem open_rds {H : Type} {enc : TypeId × Value → H} {W : World} {r : Reach} {b0 : Nat} {v : Value} {d : DataW H} {p : List MemPlace} (hval : Value.okWide Tryd.prog W r b0 30 v) (h : DataW.Trod enc Tryd.prog W 0 (fun _ => true) true 30 v d p) : ∃ x : Nat × (Nat → List UInt8), Rows8 W v x.1 x.2 := by
  obtain ⟨a, len, cap, rfl⟩ := okWide_slice Tryd.underlying30 hval
  obtain ⟨fuel, hf⟩ := h
  rcases open_int_rows Tryd.underlying30 Tryd.underlying22 Tryd.underlying5 (by kernel_rfl) (by kernel_rfl) hf with ⟨hcs, _⟩ | ⟨x, l, c, A, L, C, Z, hcs, _, hl, hm, _, hr⟩
  · simp [Value.cells] at hcs
    obtain ⟨rfl, rfl, rfl⟩ := hcs
    exact ⟨(0, fun _ => []), none, 0, rfl, Nat.le_refl _, Nat.zero_le _, fun i hi => absurd hi (Nat.not_lt_zero _)⟩
  · simp [Value.cells] at hcs
    obtain ⟨rfl, rfl, rfl⟩ := hcs
    refine ⟨(len, fun i => ((Z i).take (L i)).map fun z => UInt8.ofNat z.toNat), some x, cap, rfl, hl, hm, fun i hi => ?_⟩
    obtain ⟨h1, h2, h3, h4, h5, h6, h7⟩ := hr i (Nat.lt_of_lt_of_le hi hl)
    refine ⟨x, _, rfl, h1, ?_⟩
    cases hA : A i with
    | none =>
      have hc := h6 hA
      have hL : L i = 0 := by omega
      rw [hL, hc]
      exact .inl ⟨rfl, by show List.map _ (List.take (L i) (Z i)) = []; rw [hL]; rfl⟩
    | some a' =>
      have hlen : (((Z i).take (L i)).map fun z => UInt8.ofNat z.toNat).length = L i := by rw [List.length_map, List.length_take]; omega
      refine .inr ⟨a', C i, by rw [hlen], by rw [hlen]; exact h2, h3, fun k b hk => ?_⟩
      rw [List.getElem?_map, Option.map_eq_some_iff] at hk
      obtain ⟨z, hk, rfl⟩ := hk
      rw [List.getElem?_take] at hk
      split at hk
      · rename_i hkl
        have hcl := (h7 a' hA).2 k (by omega)
        have : (Z i).getD k 0 = z := by simp [hk]
        rw [this] at hcl
        rw [hcl]
        unfold bv
        rw [u8_back z (h5 z (List.mem_of_getElem? hk))]
      · simp at hk
end Go.Proofs.YtppehlnfoendgaaDoor
