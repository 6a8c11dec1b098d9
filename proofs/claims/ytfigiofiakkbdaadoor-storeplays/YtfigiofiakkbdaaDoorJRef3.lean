/-
  Contracts of the reference of layer 3: Picture, Record, Begin.
-/
import Derived.Test.YtfigiofiakkbdaaDoorJRef2
import Derived.Test.YtfigiofiakkbdaaDoorCrc3
namespace Go.Proofs.YtfigiofiakkbdaaDoor
open Go.RowKit
set_option linter.all false

theorem more_lt (s : Nat) (bs : List UInt8) : more s bs < 4294967296 := by unfold more ones; omega
theorem one_zero : (ByteArray.mk #[0]) = str [0] := rfl

def strLen : Value → Nat
  | .string s => s.size
  | _ => 0
set_option maxHeartbeats 1600000 in
theorem picture_c (n len : Nat) (bs : List UInt8) (w : World) (hn : n < 18446744073709551616) (hlen : len < 18446744073709551616) (hbs : bs.length ≤ 1000000) :
    Calls Tryd.prog 31 #[.int .u64 (n : Int), .int .u64 (len : Int), .string (str bs)] w fun e w' => e = .returned (.string (str (pic n len bs))) ∧ Calm w w' := by
  have sa := str_app
  have ss := str_size
  have h8 := le_len 8 n
  have h4 := le_len 4 len
  have h12 := head12_len n len
  go_enter Tryd.func31, Tryd.ntmps31
  go_wp2_with fail
  refine (low_c 8 n _ hn (by decide)).mono ?_
  rintro e w1 ⟨rfl, c1⟩
  have C1 := Lib.hid c1
  clear c1
  go_wp2_with fail
  refine (low_c 4 len _ hlen (by decide)).mono ?_
  rintro e w2 ⟨rfl, c2⟩
  have C2 := Lib.hid (C1.out.trans c2)
  clear c2
  go_wp2_with fail
  refine (rsum_c (str (le 8 n ++ (le 4 len ++ bs))) _ (by rw [str_size]; simp [h8, h4, maxLen]; omega)).mono ?_
  rintro e w3 ⟨rfl, rfl⟩
  rw [str_list]
  have hm := more_lt 0 (le 8 n ++ (le 4 len ++ bs))
  have hP : Hid (∀ m, m = more 0 (le 8 n ++ (le 4 len ++ bs)) → pic n len bs = le 8 n ++ (le 4 len ++ (le 4 m ++ bs)) ++ pad (16 + bs.length)) := Lib.hid (fun m e => by
    subst e
    simp [pic, head16, head12])
  obtain ⟨m, em⟩ : ∃ m, m = more 0 (le 8 n ++ (le 4 len ++ bs)) := ⟨_, rfl⟩
  rw [← em] at hm ⊢
  have HP := Lib.hid (hP.out m em)
  clear em hP
  have i0 : (m : Int) < 4294967296 := by omega
  have hm4 := le_len 4 m
  go_wp2_with fail
  refine (low_c 4 m _ (by omega) (by decide)).mono ?_
  rintro e w4 ⟨rfl, c4⟩
  have C4 := Lib.hid (C2.out.trans c4)
  have oz := one_zero
  clear c4
  go_wp2_with fail
  obtain ⟨B, hB⟩ : ∃ B, B = le 8 n ++ (le 4 len ++ (le 4 m ++ bs)) := ⟨_, rfl⟩
  have hBl : B.length = 16 + bs.length := by rw [hB]; simp [h8, h4, hm4]; omega
  have HB := Lib.hid hB
  rw [← hB]
  clear hB h8 h4 h12 hm4 hm i0
  go_loopw [8] (fun p wr => ∃ j : Nat, j ≤ (512 - B.length % 512) % 512 ∧ p = .string (str (B ++ List.replicate j 0)) ∧ w4 = wr) (fun p _ => B.length + 512 - strLen p)
  case atStart => exact ⟨0, by omega, by simp, rfl⟩
  case round =>
    obtain ⟨j, hj, rfl, rfl⟩ := hrel
    have hX : (B ++ List.replicate j (0 : UInt8)).length = B.length + j := by simp
    have hX1 : Hid ((B ++ List.replicate j (0 : UInt8)) ++ [0] = B ++ List.replicate (j + 1) 0) := Lib.hid (by rw [List.replicate_succ', List.append_assoc])
    have hX2 : Hid ((B ++ List.replicate j (0 : UInt8)) = B ++ List.replicate j (0 : UInt8)) := Lib.hid rfl
    obtain ⟨X, eX⟩ : ∃ X, X = B ++ List.replicate j (0 : UInt8) := ⟨_, rfl⟩
    rw [← eX] at hX hX1 ⊢
    have EX := Lib.hid eX
    clear eX hX2
    by_cases hlt : (B.length + j) % 512 = 0
    · have i0 : ((B.length : Int) + (j : Int)) % 512 = 0 := by omega
      go_wp2_with fail
      go_ret
      refine ⟨?_, C4.out⟩
      rw [HP.out, ← HB.out, EX.out]
      unfold pad
      rw [← hBl, show (512 - B.length % 512) % 512 = j by omega]
      rfl
    · have i0 : ¬ ((B.length : Int) + (j : Int)) % 512 = 0 := by omega
      go_wp2_with fail
      go_roundw
      case rel => exact ⟨j + 1, by omega, by rw [hX1.out], trivial⟩
      case measure => simp [strLen, str_size]; omega
theorem record_c (n : Nat) (bs : List UInt8) (w : World) (hn : n < 18446744073709551616) (hbs : bs.length ≤ 1000000) :
    Calls Tryd.prog 16 #[.int .u64 (n : Int), .string (str bs)] w fun e w' => e = .returned (.string (str (recP n bs))) ∧ Calm w w' := by
  have ss := str_size
  have i0 : (bs.length : Int) < 18446744073709551616 := by omega
  go_enter Tryd.func16, Tryd.ntmps16
  go_wp2_with fail
  refine (picture_c n bs.length bs _ hn (by omega) hbs).mono ?_
  rintro e w1 ⟨rfl, c1⟩
  go_wp2_with fail
  go_ret
  exact ⟨rfl, c1⟩
theorem begin_c (n : Nat) (w : World) (hn : n < 18446744073709551616) :
    Calls Tryd.prog 13 #[.int .u64 (n : Int)] w fun e w' => e = .returned (.string (str (begP n))) ∧ Calm w w' := by
  go_enter Tryd.func13, Tryd.ntmps13
  go_wp2_with fail
  refine (picture_c n 4294967295 [] _ hn (by omega) (by simp)).mono ?_
  rintro e w1 ⟨rfl, c1⟩
  go_wp2_with fail
  go_ret
  exact ⟨rfl, c1⟩
end Go.Proofs.YtfigiofiakkbdaaDoor
