/-
  What must be in any case (shown), of layer 5.
-/
import Derived.Test.YtohnemcdldpgaaaI8
import Derived.Test.YtohnemcdldpgaaaI9
namespace Go.Proofs.Ytohnemcdldpgaaa
open Go.RowKit
set_option linter.all false

def litA : List UInt8 := [0xB7, 0, 0, 0, 7, 0, 0, 0, 0x95, 0, 0, 0, 0, 0, 0, 0]
def litB : List UInt8 := [0x95, 1, 0, 0, 0, 0, 0, 0]
theorem litA_dec : decL litA = [⟨0xB7, 0, 0, 0, 7⟩, ⟨0x95, 0, 0, 0, 0⟩] := by decide +kernel
theorem litA_ok : decO litA = true := by decide +kernel
theorem litA_enc : encO [⟨0xB7, 0, 0, 0, 7⟩, ⟨0x95, 0, 0, 0, 0⟩] = true ∧ encL [⟨0xB7, 0, 0, 0, 7⟩, ⟨0x95, 0, 0, 0, 0⟩] = litA := by decide +kernel
theorem litB_no : decO litB = false := by decide +kernel
theorem lit_known : knownO 0x95 0 0 0 0 = true := by decide +kernel
/-- A row of two, opened. -/
theorem Ins.two {w : World} {v : Value} {x y : In} (h : Ins w v [x, y]) : ∃ ad cap, v = .slice (some ad) 2 cap ∧ 2 ≤ cap ∧ InAt w ad x ∧ InAt w ⟨ad.block, ad.off + 5, none⟩ y := by
  rcases h with ⟨_, h⟩ | ⟨ad, cap, h1, h2, h3, h4⟩
  · cases h
  · exact ⟨ad, cap, h1, h2, h4 0 x rfl, h4 1 y rfl⟩
set_option maxHeartbeats 3200000 in
theorem shown5_c (w : World) : Calls Try.prog 10 #[] w fun x w' => x = .returned (.bool true) ∧ Calm w w' := by
  go_enter Try.func10, Try.ntmps10
  go_wp2_with fail
  have R1 : Hid (Rd (w.alloc (.cells #[.int .u8 183, .int .u8 0, .int .u8 0, .int .u8 0, .int .u8 7, .int .u8 0, .int .u8 0, .int .u8 0, .int .u8 149, .int .u8 0, .int .u8 0, .int .u8 0, .int .u8 0, .int .u8 0, .int .u8 0, .int .u8 0] 5)) (.slice (some ⟨w.heap.size, 0, none⟩) 16 16) litA) := Lib.hid (Rd.made w litA 16 _ rfl rfl (by decide))
  have C1 : Hid (Calm w (w.alloc (.cells #[.int .u8 183, .int .u8 0, .int .u8 0, .int .u8 0, .int .u8 7, .int .u8 0, .int .u8 0, .int .u8 0, .int .u8 149, .int .u8 0, .int .u8 0, .int .u8 0, .int .u8 0, .int .u8 0, .int .u8 0, .int .u8 0] 5))) := Lib.hid ((Keep.refl _ w).alloc _)
  refine (decode_c R1.out).mono ?_
  rintro e w2 ⟨hc2, hcase⟩
  rcases hcase with ⟨-, vv, rfl, hin⟩ | ⟨hno, -⟩
  rotate_left
  · rw [litA_ok] at hno; cases hno
  rw [litA_dec] at hin
  have C2 := Lib.hid (C1.out.trans hc2)
  obtain ⟨ad, cap, rfl, hcap, hx, hy⟩ := hin.two
  have HIN := Lib.hid hin
  have HX := Lib.hid hx
  have HY := Lib.hid hy
  have i1 : (2 : Int) ≤ (cap : Int) := by omega
  clear hin hx hy hc2 R1 C1 hcap
  go_wp2_with fail
  refine (encode_c HIN.out (fun i hi => by simp at hi; rcases hi with rfl | rfl <;> exact ⟨by decide, by decide, by decide, by decide, by decide⟩)).mono ?_
  rintro e w3 ⟨hc3, hcase⟩
  rcases hcase with ⟨-, v2, rfl, hrd⟩ | ⟨hno, -⟩
  rotate_left
  · rw [litA_enc.1] at hno; cases hno
  rw [litA_enc.2] at hrd
  obtain ⟨A2, cap2, rfl, hcap2, -⟩ := hrd.form
  obtain ⟨ad2, b2, rfl, hb2, -⟩ := Rd.at_ hrd (Keep.refl _ w3) 4 (by decide)
  have HRD := Lib.hid hrd
  have C3 := Lib.hid hc3
  clear hrd hc3 hcap2 hb2
  have hl : litA.length = 16 := rfl
  rw [hl] at HRD ⊢
  go_wp2_with fail
  have R4 : Hid (Rd (w3.alloc (.cells #[.int .u8 149, .int .u8 1, .int .u8 0, .int .u8 0, .int .u8 0, .int .u8 0, .int .u8 0, .int .u8 0] 5)) (.slice (some ⟨w3.heap.size, 0, none⟩) 8 8) litB) := Lib.hid (Rd.made w3 litB 8 _ rfl rfl (by decide))
  have C4 : Hid (Calm w3 (w3.alloc (.cells #[.int .u8 149, .int .u8 1, .int .u8 0, .int .u8 0, .int .u8 0, .int .u8 0, .int .u8 0, .int .u8 0] 5))) := Lib.hid ((Keep.refl _ w3).alloc _)
  refine (decode_c R4.out).mono ?_
  rintro e w5 ⟨hc5, hcase⟩
  rcases hcase with ⟨hno, -⟩ | ⟨-, rfl⟩
  · rw [litB_no] at hno; cases hno
  have C5 := Lib.hid (C4.out.trans hc5)
  have hx := HX.out.calm (C3.out.trans C5.out)
  have hy := HY.out.calm (C3.out.trans C5.out)
  obtain ⟨ad', b', e1, e2, e3⟩ := Rd.at_ HRD.out C5.out 4 (by decide)
  cases e1
  cases e2
  have e3 : w5.cell? ⟨ad2.block, ad2.off + 4, none⟩ = some (.int .u8 7) := e3
  have a0 := hx.c0
  have a4 := hx.c4
  have b0 := hy.c0
  have b1 := hy.c1
  have b2 := hy.c2
  have b3 := hy.c3
  have b4 := hy.c4
  have KC := Lib.hid (fun w => known_c (op := 0x95) 0 0 0 0 w (by decide))
  rw [lit_known] at KC
  have WC := Lib.hid (fun w => wide_c (op := 24) 0 0 0 0 w)
  have i2 : (16 : Int) ≤ (cap2 : Int) ∨ True := .inr trivial
  clear hx hy hc5 C4 R4 i2
  go_wp2_with fail
  refine (KC.out _).mono ?_
  rintro e w6 ⟨rfl, hc6⟩
  have C6 := Lib.hid hc6
  clear hc6 a0 a4 b0 b1 b2 b3 b4
  go_wp2_with fail
  refine (WC.out _).mono ?_
  rintro e w7 ⟨rfl, hc7⟩
  have C7 := Lib.hid hc7
  clear hc7
  go_wp2_with fail
  go_ret
  exact ⟨rfl, (((C2.out.trans C3.out).trans C5.out).trans C6.out).trans C7.out⟩
end Go.Proofs.Ytohnemcdldpgaaa
