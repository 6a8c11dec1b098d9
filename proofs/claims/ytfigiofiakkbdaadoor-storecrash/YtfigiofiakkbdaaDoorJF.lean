/-
  What the rows that list the table share: the listed table, arguments opened.
-/
import Derived.Test.YtfigiofiakkbdaaDoorRows
import Derived.Test.YtfigiofiakkbdaaDoorCards
import Derived.Test.YtfigiofiakkbdaaDoorTie
import Derived.Test.YtfigiofiakkbdaaDoorLRd
import Derived.Test.YtfigiofiakkbdaaDoorCrc1
import Derived.Test.YtfigiofiakkbdaaDoorFrames
import Derived.ProofKit
import Derived.LaidMore
import Derived.OpenShut
import Derived.Stop.Joined
import Derived.Lib.LaidTab
import Derived.SevenTiedAt
import Derived.Deep.Strs
namespace Go.Proofs.YtfigiofiakkbdaaDoor
open Go.ChangeShapes Go.WideShapes Go.ChangeAt Go.RowKit Go.Deep
set_option linter.all false

def laid1 : List (String × DataW Unit) := [("swingbridge/crc.fours", Rows.laid_swingbridge_crc_fours)]
theorem gFours : Tryd.prog.globalNamed "swingbridge/crc.fours" = some 0 := by kernel_rfl
theorem tFours : (Tryd.prog.globals[0]?).map (·.type) = some 132 := by kernel_rfl

theorem door_met (os : Os) (args : Array Value) : laidMetH Tryd.prog laid1 ((World.doorLaid Tryd.prog 400 os).forCall (fun _ _ => 0) ⟨#[], args, []⟩).memory :=
  laidMetH_of_parts3 (fuel := 8) (laidMet_of_run' 8 (by kernel_rfl) (by kernel_rfl)) (by kernel_rfl) (by kernel_rfl)

theorem of_laid {W : World} (h : laidMetH Tryd.prog laid1 W) : Tab W := by
  rw [MakeChecks.laidMetH_plain _ _ _ (by kernel_rfl)] at h
  have hT : Lib.TabIs Tryd.prog W "swingbridge/crc.fours" .u32 (tab4.map fun n : Nat => (n : Int)) := Lib.tabIs_of_head gFours tFours Tryd.underlying132 Tryd.underlying99 (by kernel_rfl) (by kernel_rfl) h
  have hc : ∀ i : Nat, (h : i < tab4.length) → W.cell? ⟨0, i, none⟩ = some (.int .u32 ((tab4[i] : Nat) : Int)) := fun i hi => by
    have := hT.cell gFours i (by simpa using hi)
    rw [this]
    simp [List.getD, List.getElem?_eq_getElem hi]
  exact ⟨World.block_lt_of_cell? _ _ (hc 0 (by decide)), hc⟩

section
variable {H : Type} {enc : TypeId × Value → H} {W : World} {r : Reach} {b0 : Nat} {v : Value} {d : DataW H} {p : List MemPlace}
set_option maxRecDepth 100000 in
theorem open_rd (hval : Value.okWide Tryd.prog W r b0 31 v) (h : DataW.Trod enc Tryd.prog W 0 (fun _ => true) true 31 v d p) : ∃ bs, Rd W v bs := by
  obtain ⟨a, len, cap, rfl⟩ := okWide_slice Tryd.underlying31 hval
  obtain ⟨fuel, hf⟩ := h
  rcases open_ints Tryd.underlying31 Tryd.underlying5 (by kernel_rfl) hf with ⟨hcs, _⟩ | ⟨x, l, c, zs, hcs, _, hl, hm, hz, _, hcell, hwz⟩
  · simp [Value.cells] at hcs
    obtain ⟨rfl, rfl, rfl⟩ := hcs
    exact ⟨[], .inl ⟨rfl, rfl⟩⟩
  · simp [Value.cells] at hcs
    obtain ⟨rfl, rfl, rfl⟩ := hcs
    have hz' : zs.length = cap := by simpa using hz
    refine ⟨(zs.take len).map fun z => UInt8.ofNat z.toNat, .inr ⟨x, cap, by rw [List.length_map, List.length_take, Nat.min_eq_left (by omega)], by rw [List.length_map, List.length_take]; omega, hm, fun i b hi => ?_⟩⟩
    · rw [List.getElem?_map, Option.map_eq_some_iff] at hi
      obtain ⟨z, hi, rfl⟩ := hi
      rw [List.getElem?_take] at hi
      split at hi
      · have hil : i < zs.length := (List.getElem?_eq_some_iff.1 hi).1
        have hcl := hcell i hil
        have : zs.getD i 0 = z := by simp [hi]
        rw [this] at hcl
        rw [hcl]
        unfold bv
        rw [u8_back z (hwz z (List.mem_of_getElem? hi))]
      · simp at hi
end
/-- A slice of strings that reads as a list. -/
def Strv (w : World) (v : Value) (ss : List (List UInt8)) : Prop :=
  ∃ (A : Option Addr) (cap : Nat), v = .slice A ss.length cap ∧ ss.length ≤ maxLen ∧ ∀ (i : Nat) s, ss[i]? = some s → s.length ≤ maxLen ∧ ∃ ad, A = some ad ∧ ad.block < w.heap.size ∧ w.cell? (ad.add i) = some (.string (str s))
section
variable {H : Type} {enc : TypeId × Value → H} {W : World} {r : Reach} {b0 : Nat} {v : Value} {d : DataW H} {p : List MemPlace}
set_option maxRecDepth 100000 in
theorem open_strv (hval : Value.okWide Tryd.prog W r b0 45 v) (h : DataW.Trod enc Tryd.prog W 0 (fun _ => true) true 45 v d p) : ∃ ss, Strv W v ss := by
  obtain ⟨a, len, cap, rfl⟩ := okWide_slice Tryd.underlying45 hval
  obtain ⟨fuel, hf⟩ := h
  rcases open_strs Tryd.underlying45 Tryd.underlying9 (by kernel_rfl) hf with ⟨hcs, _⟩ | ⟨x, l, c, m, Sx, hcs, _, hl, hm, hmm, _, hcell⟩
  · simp [Value.cells] at hcs
    obtain ⟨rfl, rfl, rfl⟩ := hcs
    exact ⟨[], none, 0, rfl, Nat.zero_le _, fun i s hs => by simp at hs⟩
  · simp [Value.cells] at hcs
    obtain ⟨rfl, rfl, rfl⟩ := hcs
    simp at hmm
    subst hmm
    refine ⟨(List.range len).map fun i => (Sx i).data.toList, some x, m, by simp, by simp; omega, fun i s hs => ?_⟩
    rw [List.getElem?_map, Option.map_eq_some_iff] at hs
    obtain ⟨k, hk, rfl⟩ := hs
    have hik : i < len ∧ k = i := by
      have := List.getElem?_eq_some_iff.1 hk
      obtain ⟨h1, h2⟩ := this
      simp at h1 h2
      exact ⟨h1, h2.symm⟩
    obtain ⟨hi, rfl⟩ := hik
    obtain ⟨e1, e2⟩ := hcell k (by omega)
    have hb := World.block_lt_of_cell? _ _ e1
    rw [Addr.add_block] at hb
    exact ⟨e2, x, rfl, hb, e1⟩
theorem open_i64 {a : Int} (h : (Lit.int .i64 a).wf = true) : -9223372036854775808 ≤ a ∧ a ≤ 9223372036854775807 := bounds_i64 h
end
end Go.Proofs.YtfigiofiakkbdaaDoor
