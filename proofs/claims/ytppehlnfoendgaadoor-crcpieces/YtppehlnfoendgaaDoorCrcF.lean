/-
  What the rows of layer 2 share: the listed table, arguments opened.
-/
import Derived.Test.YtppehlnfoendgaaDoorRows
import Derived.Test.YtppehlnfoendgaaDoorCards
import Derived.Test.YtppehlnfoendgaaDoorTie
import Derived.Test.YtppehlnfoendgaaDoorCrc5
import Derived.Test.YtppehlnfoendgaaDoorFrames
import Derived.ProofKit
import Derived.LaidMore
import Derived.OpenShut
import Derived.Stop.Joined
import Derived.Lib.LaidTab
import Derived.SevenTiedAt
namespace Go.Proofs.YtppehlnfoendgaaDoor
open Go.ChangeShapes Go.WideShapes Go.ChangeAt Go.RowKit Go.Deep
set_option linter.all false

def laid1 : List (String × DataW Unit) := [("swingbridge/crc.fours", Rows.laid_swingbridge_crc_fours)]
theorem gFours : Tryd.prog.globalNamed "swingbridge/crc.fours" = some 0 := by kernel_rfl
theorem tFours : (Tryd.prog.globals[0]?).map (·.type) = some 38 := by kernel_rfl

theorem door_met (os : Os) (args : Array Value) : laidMetH Tryd.prog laid1 ((World.doorLaid Tryd.prog 400 os).forCall (fun _ _ => 0) ⟨#[], args, []⟩).memory :=
  laidMetH_of_parts3 (fuel := 8) (laidMet_of_run' 8 (by kernel_rfl) (by kernel_rfl)) (by kernel_rfl) (by kernel_rfl)

theorem of_laid {W : World} (h : laidMetH Tryd.prog laid1 W) : Tab W := by
  rw [MakeChecks.laidMetH_plain _ _ _ (by kernel_rfl)] at h
  have hT : Lib.TabIs Tryd.prog W "swingbridge/crc.fours" .u32 (tab4.map fun n : Nat => (n : Int)) := Lib.tabIs_of_head gFours tFours Tryd.underlying38 Tryd.underlying23 (by kernel_rfl) (by kernel_rfl) h
  have hc : ∀ i : Nat, (h : i < tab4.length) → W.cell? ⟨0, i, none⟩ = some (.int .u32 ((tab4[i] : Nat) : Int)) := fun i hi => by
    have := hT.cell gFours i (by simpa using hi)
    rw [this]
    simp [List.getD, List.getElem?_eq_getElem hi]
  exact ⟨World.block_lt_of_cell? _ _ (hc 0 (by decide)), hc⟩

section
variable {H : Type} {enc : TypeId × Value → H} {W : World} {r : Reach} {b0 : Nat} {v : Value} {d : DataW H} {p : List MemPlace}
theorem open_rd (hval : Value.okWide Tryd.prog W r b0 22 v) (h : DataW.Trod enc Tryd.prog W 0 (fun _ => true) true 22 v d p) : ∃ bs, Rd W v bs := by
  obtain ⟨a, len, cap, rfl⟩ := okWide_slice Tryd.underlying22 hval
  obtain ⟨fuel, hf⟩ := h
  rcases open_ints Tryd.underlying22 Tryd.underlying5 (by kernel_rfl) hf with ⟨hcs, _⟩ | ⟨x, l, c, zs, hcs, _, hl, hm, hz, _, hcell, hwz⟩
  · simp [Value.cells] at hcs
    obtain ⟨rfl, rfl, rfl⟩ := hcs
    exact ⟨[], .inl ⟨rfl, rfl⟩⟩
  · simp [Value.cells] at hcs
    obtain ⟨rfl, rfl, rfl⟩ := hcs
    have hz' : zs.length = cap := by simpa using hz
    refine ⟨(zs.take len).map fun z => UInt8.ofNat z.toNat, .inr ⟨x, cap, by rw [List.length_map, List.length_take, Nat.min_eq_left (by omega)], by rw [List.length_map, List.length_take]; omega, hm, fun i b hi => ?_⟩⟩
    · rw [List.getElem?_map, Option.map_eq_some_iff] at hi
      obtain ⟨z, hi, rfl⟩ := hi
      rw [List.getElem?_take] at hi
      split at hi
      · have hil : i < zs.length := (List.getElem?_eq_some_iff.1 hi).1
        have hcl := hcell i hil
        have : zs.getD i 0 = z := by simp [hi]
        rw [this] at hcl
        rw [hcl]
        unfold bv
        rw [u8_back z (hwz z (List.mem_of_getElem? hi))]
      · simp at hi
theorem open_u32 {a : Int} (h : (Lit.int .u32 a).wf = true) : ∃ n : Nat, n < 2 ^ 32 ∧ a = (n : Int) := by
  have := bounds_u32 h
  exact ⟨a.toNat, by omega, by omega⟩
end
end Go.Proofs.YtppehlnfoendgaaDoor
