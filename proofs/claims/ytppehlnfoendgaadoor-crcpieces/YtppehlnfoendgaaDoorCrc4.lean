/-
  The statements of layer 2: shown; slices cut off.
-/
import Derived.Test.YtppehlnfoendgaaDoorCrc3
import Derived.Lib.SlBytesConst
namespace Go.Proofs.YtppehlnfoendgaaDoor
open Go.RowKit
set_option linter.all false

def nine : List UInt8 := [49, 50, 51, 52, 53, 54, 55, 56, 57]
theorem nine_sum : more 0 nine = 3421780262 := by decide +kernel
theorem none_sum (a : Nat) (h : a < 2 ^ 32) : more a [] = a := by unfold more ones; rw [eat_nil]; omega
theorem Bytes.nil_ (w : World) : Bytes w (fun _ => True) (.slice none 0 0) [] := ⟨none, 0, rfl, fun i b h => by simp at h⟩

theorem cell_of {w : World} {g : Nat} {cs : Array Value} {t : TypeId} {o : Nat × Nat} (h : w.heap[g]? = some (.cells cs t o)) (k : Nat) : w.cell? ⟨g, k, none⟩ = cs[k]? := by
  simp [World.cell?, h]
theorem nine_bytes (w : World) (o : Nat × Nat) : Bytes (w.alloc (.cells #[.int .u8 49, .int .u8 50, .int .u8 51, .int .u8 52, .int .u8 53, .int .u8 54, .int .u8 55, .int .u8 56, .int .u8 57] 5 o)) (fun _ => True) (.slice (some ⟨w.heap.size, 0, none⟩) 9 9) nine := by
  refine ⟨some ⟨w.heap.size, 0, none⟩, 9, rfl, fun i b hi => ⟨_, rfl, trivial, by simp, ?_⟩⟩
  have hh : (w.alloc (.cells #[.int .u8 49, .int .u8 50, .int .u8 51, .int .u8 52, .int .u8 53, .int .u8 54, .int .u8 55, .int .u8 56, .int .u8 57] 5 o)).heap[w.heap.size]? = some (.cells #[.int .u8 49, .int .u8 50, .int .u8 51, .int .u8 52, .int .u8 53, .int .u8 54, .int .u8 55, .int .u8 56, .int .u8 57] 5 o) := by
    show (w.heap.push _)[w.heap.size]? = _
    simp
  have hlt : i < 9 := (List.getElem?_eq_some_iff.1 hi).1
  have ha : Addr.add ⟨w.heap.size, 0, none⟩ i = ⟨w.heap.size, i, none⟩ := by
    unfold Addr.add
    split <;> simp_all
  rw [ha, cell_of hh]
  have : ∀ (k : Nat) (x : UInt8), k < 9 → nine[k]? = some x → (#[.int .u8 49, .int .u8 50, .int .u8 51, .int .u8 52, .int .u8 53, .int .u8 54, .int .u8 55, .int .u8 56, .int .u8 57] : Array Value)[k]? = some (bv x) := by
    intro k x hk hx
    match k, hk, hx with
    | 0, _, h | 1, _, h | 2, _, h | 3, _, h | 4, _, h | 5, _, h | 6, _, h | 7, _, h | 8, _, h => injection h with h; subst h; rfl
  exact this i b hlt hi

set_option maxHeartbeats 800000 in
theorem shown_c (w : World) (hT : Tab w) : Calls Tryd.prog 9 #[] w fun e w' => e = .returned (.bool true) ∧ Calm w w' := by
  have HT := Lib.hid hT
  clear hT
  have kc := fun (w : World) (C : Array Value) (n c : Nat) => Lib.run_convert_bytes_const (P := Tryd.prog) w 22 5 C n c Tryd.underlying22 Tryd.underlying5
  go_enter Tryd.func9, Tryd.ntmps9
  go_wp2_with fail
  have hcalm := (Keep.refl (fun _ => False) w).alloc (.cells #[.int .u8 49, .int .u8 50, .int .u8 51, .int .u8 52, .int .u8 53, .int .u8 54, .int .u8 55, .int .u8 56, .int .u8 57] 5 (9, 10))
  have Hc := Lib.hid hcalm
  clear hcalm
  refine (sum_c _ nine _ (HT.out.calm Hc.out) (nine_bytes w (9, 10)) (by decide)).mono ?_
  rintro e w1 ⟨rfl, rfl⟩
  rw [nine_sum]
  go_wp2_with fail
  refine (sum_c _ [] _ (HT.out.calm Hc.out) (Bytes.nil_ _) (by decide)).mono ?_
  rintro e w1 ⟨rfl, rfl⟩
  rw [none_sum 0 (by decide)]
  go_wp2_with fail
  go_ret
  exact ⟨rfl, Hc.out⟩
end Go.Proofs.YtppehlnfoendgaaDoor
