/-
  Tables, the document's: which maps there may be.
-/
import Derived.Test.YtiipepiabeccpaaT1
namespace Go.Proofs.Ytiipepiabeccpaa
open Go.RowKit
set_option linter.all false
attribute [local go_sem] Oper.semAt_some

set_option maxHeartbeats 2000000 in
theorem rName_c (s : List UInt8) (hs : s.length ≤ maxLen) (w : World) : Calls Try.prog 68 #[.string (str s)] w fun e w' => e = .returned (.bool (nmOk s)) ∧ w = w' := by
  unfold maxLen at hs
  have hz := str_size s
  go_enter Try.func68, Try.ntmps68
  go_wp2
  go_loopw [3] (fun i wr => ∃ j : Nat, j ≤ s.length ∧ i = .int .i64 (j : Int) ∧ nmIn (s.take j) = true ∧ w = wr) (fun i _ => s.length - (intOf i).toNat)
  case atStart => exact ⟨0, Nat.zero_le _, rfl, rfl, rfl⟩
  case round =>
    obtain ⟨j, hj, rfl, hn, rfl⟩ := hrel
    by_cases hl : j < s.length
    · obtain ⟨x, hx⟩ : ∃ x, s[j]? = some x := ⟨_, List.getElem?_eq_getElem hl⟩
      have hxx : s[j]'hl = x := (List.getElem?_eq_some_iff.1 hx).2
      have key : ∀ (h : j < (str s).size), (@getElem ByteArray Nat UInt8 (fun a i => i < a.size) ByteArray.instGetElemNatUInt8LtSize (str s) j h).toNat = x.toNat := fun h => congrArg UInt8.toNat hxx
      by_cases hb : inNm x = true
      · have hbp : (x.toNat = 95 ∨ (48 ≤ x.toNat ∧ x.toNat ≤ 57)) ∨ (65 ≤ x.toNat ∧ x.toNat ≤ 90) ∨ (97 ≤ x.toNat ∧ x.toNat ≤ 122) := by simpa [inNm] using hb
        go_wp2_with fail
        all_goals
          have e := key (by rw [str_size]; exact hl)
          first
          | (exfalso; clear hz key; omega)
          | (go_roundw
             case rel => exact ⟨j + 1, by omega, by go_num, by rw [nm_step hx, hn, hb]; rfl, trivial⟩
             case measure => simp [intOf]; omega)
      · have hb' : inNm x = false := by simpa using hb
        have hbp : ¬ ((x.toNat = 95 ∨ (48 ≤ x.toNat ∧ x.toNat ≤ 57)) ∨ (65 ≤ x.toNat ∧ x.toNat ≤ 90) ∨ (97 ≤ x.toNat ∧ x.toNat ≤ 122)) := by simpa [inNm] using hb'
        go_wp2_with fail
        all_goals
          have e := key (by rw [str_size]; exact hl)
          first
          | (exfalso; clear hz key; omega)
          | (exfalso; clear hz key; simp only [bne_iff_ne, bne_eq_false_iff_eq, ne_eq] at *; omega)
          | (go_ret
             exact ⟨by rw [nm_no hx hb']; rfl, rfl⟩)
    · obtain rfl : j = s.length := by omega
      go_wp2
      all_goals
        go_ret
        refine ⟨congrArg (fun b => Ending.returned (Value.bool b)) ?_, rfl⟩
        rw [nm_all hn, Bool.eq_iff_iff]
        simp
        try omega
set_option maxHeartbeats 2000000 in
theorem rRight_c (m : MP) (hs : m.name.length ≤ maxLen) (w : World) : Calls Try.prog 43 #[m.agg] w fun e w' => e = .returned (.bool m.right) ∧ Calm w w' := by
  obtain ⟨nm, kd, ky, vl, mx⟩ := m
  show Calls Try.prog 43 #[.agg #[.string (str nm), .int .i64 kd, .int .i64 ky, .int .i64 vl, .int .i64 mx]] w _
  have h1 := fun W => rName_c nm hs W
  have H1 := Lib.hid h1
  clear h1
  go_enter Try.func43, Try.ntmps43
  go_wp2_with fail
  refine (H1.out _).mono ?_
  rintro e w1 ⟨rfl, rfl⟩
  by_cases g0 : nmOk nm = true
  · rw [g0]
    go_wp2
    all_goals
      go_ret
      refine ⟨congrArg (fun b => Ending.returned (Value.bool b)) ?_, (Keep.refl _ w).alloc _⟩
      rw [Bool.eq_iff_iff]
      simp [MP.right, g0, kdOk, wi]
      first | done | omega | (simp only [bne_iff_ne, bne_eq_false_iff_eq, ne_eq] at *; omega)
  · have g0' : nmOk nm = false := by simpa using g0
    rw [g0']
    go_wp2
    go_ret
    exact ⟨by simp [MP.right, g0'], (Keep.refl _ w).alloc _⟩
end Go.Proofs.Ytiipepiabeccpaa
