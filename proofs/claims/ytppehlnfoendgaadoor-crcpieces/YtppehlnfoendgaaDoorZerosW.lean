/-
  The walk of CrcZeros.
-/
import Derived.Test.YtppehlnfoendgaaDoorCrc5
import Derived.Test.YtppehlnfoendgaaDoorMasks
namespace Go.Proofs.YtppehlnfoendgaaDoor
open Go.RowKit
set_option linter.all false

theorem num_zeros (n : Nat) : num (List.replicate n (0 : UInt8)) = 0 := by
  induction n with
  | zero => rfl
  | succ n ih => rw [List.replicate_succ]; simp only [num, ih]; rfl
theorem more_lt (s : Nat) (bs : List UInt8) : more s bs < 2 ^ 32 := by unfold more ones; omega
theorem more_eq (a b : Nat) (ha : a < 2 ^ 32) (hb : b < 2 ^ 32) (x y : List UInt8) : more a x = more b y ↔ eat (ones - a) x = eat (ones - b) y := by
  have h1 := eat_lt (ones - a) x (by unfold ones; omega)
  have h2 := eat_lt (ones - b) y (by unfold ones; omega)
  unfold more
  unfold ones at *
  omega
theorem xor_zero_iff (a b : Nat) : a ^^^ b = 0 ↔ a = b := by
  constructor
  · intro h
    have : a ^^^ b ^^^ b = 0 ^^^ b := by rw [h]
    rw [Nat.xor_assoc, Nat.xor_self, Nat.xor_zero, Nat.zero_xor] at this
    exact this
  · rintro rfl; exact Nat.xor_self _
theorem steps_eq_iff (k a b : Nat) (ha : a < 2 ^ 32) (hb : b < 2 ^ 32) : steps k a = steps k b ↔ a = b := by
  rw [← xor_zero_iff, ← steps_xor, ← xor_zero_iff a b]
  exact ⟨fun h => steps_inj k _ (Nat.xor_lt_two_pow ha hb) h, fun h => by rw [h, steps_zero]⟩
theorem eat_zeros (c n : Nat) : eat c (List.replicate n (0 : UInt8)) = steps (8 * n) c := by
  rw [eat_num, num_zeros, Nat.xor_zero, List.length_replicate]
theorem zeros_inj (a b n : Nat) (ha : a < 2 ^ 32) (hb : b < 2 ^ 32) : more a (List.replicate n (0 : UInt8)) = more b (List.replicate n (0 : UInt8)) ↔ a = b := by
  rw [more_eq a b ha hb, eat_zeros, eat_zeros, steps_eq_iff _ _ _ (by unfold ones; omega) (by unfold ones; omega)]
  unfold ones
  omega
theorem zeros_more (n : Nat) : more 0 (List.replicate n (0 : UInt8)) ≠ more 0 (List.replicate n (0 : UInt8) ++ [0]) := by
  rw [Ne, more_eq 0 0 (by decide) (by decide), ← List.replicate_succ', eat_zeros, eat_zeros, show 8 * (n + 1) = 8 + 8 * n by omega, steps_add, steps_eq_iff _ _ _ (by decide) (by decide +kernel)]
  decide +kernel
set_option maxHeartbeats 1600000 in
theorem crcZeros_c (n : Int) (a b : Nat) (ha : a < 2 ^ 32) (hb : b < 2 ^ 32) (w : World) (hT : Tab w) :
    Calls Tryd.prog 8 #[.int .i64 n, .int .u32 (a : Int), .int .u32 (b : Int)] w fun e w' => e = .returned (.bool true) ∧ Calm w w' := by
  have HT := Lib.hid hT
  clear hT
  obtain ⟨r, hr1, hr⟩ := mask_nat n 16 65535 (by decide) (by decide)
  go_enter Tryd.func8, Tryd.ntmps8
  go_wp2_with fail
  refine (shown_c w HT.out).mono ?_
  rintro e w1 ⟨rfl, hc1⟩
  have C1 := Lib.hid hc1
  clear hc1
  obtain ⟨m, hm, hm1⟩ : ∃ m : Nat, (r : Int) % 1001 = (m : Int) ∧ m ≤ 1000 := ⟨r % 1001, by omega, by omega⟩
  have q := run_make8 w1 m (by omega)
  go_upto_region 4 with fail
  have ho := Own.zeros w1 m (by omega)
  have C2 : Hid (Calm w1 (w1.alloc (.cells (zeros m) 5))) := Lib.hid ((Keep.refl _ w1).alloc _)
  have hsz : w1.heap.size < (w1.alloc (.cells (zeros m) 5)).heap.size := by simp
  have hrd := ho.rd ⟨_, _, _, rfl⟩
  generalize World.alloc w1 _ = w2 at ho hrd C2 hsz ⊢
  have T2 : Hid (Tab w2) := Lib.hid ((HT.out.calm C1.out).calm C2.out)
  have HO := Lib.hid ho
  have HR := Lib.hid hrd
  have HS := Lib.hid hsz
  obtain ⟨B, hB1, hB2⟩ := same_test _ _ a b (zeros_inj a b m ha hb)
  have HN := Lib.hid (zeros_more m)
  clear ho hrd hsz q hr hm
  go_wp2_with fail
  refine (more_c a ha _ _ _ T2.out HR.out.bytes HR.out.len).mono ?_
  rintro e w3 ⟨rfl, rfl⟩
  go_wp2_with fail
  refine (more_c b hb _ _ _ T2.out HR.out.bytes HR.out.len).mono ?_
  rintro e w3 ⟨rfl, rfl⟩
  go_wp2_with fail
  refine (sum_c _ _ _ T2.out HR.out.bytes HR.out.len).mono ?_
  rintro e w3 ⟨rfl, rfl⟩
  have ea := none_sum a ha
  have C3 : Hid (Calm w2 (w2.alloc (.cells #[.int .u8 0] 5))) := Lib.hid ((Keep.refl _ w2).alloc _)
  have R3 : Hid (Rd (w2.alloc (.cells #[.int .u8 0] 5)) (.slice (some ⟨w2.heap.size, 0, none⟩) 1 1) [0]) := Lib.hid (Rd.made w2 [0] 1 #[.int .u8 0] rfl rfl (by decide))
  have O3 : Hid (Own (w2.alloc (.cells #[.int .u8 0] 5)) w1.heap.size (.slice (some ⟨w1.heap.size, 0, none⟩) m m) (List.replicate m 0)) := Lib.hid (HO.out.moved C3.out)
  go_wp2_with (at_builtin; go_loud (refine append_own' (by rfl) (.tmp 34) (.tmp 35) rfl w1.heap.size w1.heap.size m m (List.replicate m 0) rfl O3.out _ [0] rfl R3.out (by simp; omega) (Nat.le_trans (Nat.le_of_lt HS.out) C3.out.size) ?_); rintro g c w4 ho hg; generalize hle : ((List.replicate m (0 : UInt8)).length + ([0] : List UInt8).length) = mm at ho ⊢)
  have C4 : Hid (Calm w1 w4) := Lib.hid ((C2.out.trans C3.out).grown hg (fun k e hk => by injection e with e; omega))
  have T4 : Hid (Tab w4) := Lib.hid ((HT.out.calm C1.out).calm C4.out)
  have R4 := Lib.hid (ho.rd ⟨_, _, _, rfl⟩)
  clear ho hg hle C3 R3 O3
  refine (sum_c _ _ _ T4.out R4.out.bytes R4.out.len).mono ?_
  rintro e w5 ⟨rfl, rfl⟩
  have hN : (((more 0 (List.replicate m 0) : Nat) : Int) != ((more 0 (List.replicate m 0 ++ [0]) : Nat) : Int)) = true := by
    have := HN.out
    rw [bne_iff_ne]
    omega
  go_wp2_with fail
  refine (more_c a ha _ _ _ T4.out (Bytes.nil_ _) (by decide)).mono ?_
  rintro e w5 ⟨rfl, rfl⟩
  rw [ea]
  go_wp2_with fail
  go_ret
  exact ⟨rfl, C1.out.trans C4.out⟩
end Go.Proofs.YtppehlnfoendgaaDoor
