/-
  The walk of IsaCounts.
-/
import Derived.Test.YtohnemcdldpgaaaIS
namespace Go.Proofs.Ytohnemcdldpgaaa
open Go.RowKit
set_option linter.all false

/-- How many below n. -/
def cnt (f : Nat → Bool) : Nat → Nat
  | 0 => 0
  | n + 1 => cnt f n + (if f n then 1 else 0)
theorem cnt_le (f : Nat → Bool) (n : Nat) : cnt f n ≤ n := by
  induction n with
  | zero => exact Nat.le_refl _
  | succ n ih => simp only [cnt]; split <;> omega
theorem cnt_congr (f g : Nat → Bool) (n : Nat) (h : ∀ k, k < n → f k = g k) : cnt f n = cnt g n := by
  induction n with
  | zero => rfl
  | succ n ih => simp only [cnt]; rw [ih (fun k hk => h k (by omega)), h n (by omega)]
def f0 (k : Nat) : Bool := knownO k 0 0 0 0
def f1 (off : Int) (k : Nat) : Bool := f0 k && knownO k 0 0 off 0
def f2 (imm : Int) (k : Nat) : Bool := f0 k && knownO k 0 0 0 imm
def f3 (k : Nat) : Bool := f0 k && knownO k 0 1 0 0
theorem cnt0 : cnt f0 256 = 110 := by decide +kernel
theorem cnt3 : cnt f3 256 = 55 := by decide +kernel
theorem cnt1 (off : Int) (h : off ≠ 0) : cnt (f1 off) 256 = 57 := by
  have e : cnt (f1 off) 256 = cnt (f1 1) 256 := cnt_congr _ _ _ fun k _ => by
    unfold f1 knownO allO
    simp [h]
  rw [e]
  decide +kernel
theorem cnt2 (imm : Int) (h : imm ≠ 0) : cnt (f2 imm) 256 = 52 := by
  have e : cnt (f2 imm) 256 = cnt (f2 1) 256 := cnt_congr _ _ _ fun k _ => by
    unfold f2 knownO allO
    simp [h]
  rw [e]
  decide +kernel
theorem cnt_yes {f : Nat → Bool} {k : Nat} (h : f k = true) : cnt f (k + 1) = cnt f k + 1 := by simp only [cnt]; rw [h]; rfl
theorem cnt_no {f : Nat → Bool} {k : Nat} (h : f k = false) : cnt f (k + 1) = cnt f k := by simp only [cnt]; rw [h]; rfl

set_option maxHeartbeats 6400000 in
theorem isaCounts_c (off imm : Int) (w : World) : Calls Try.prog 8 #[.int .i16 off, .int .i32 imm] w fun e w' => e = .returned (.bool true) ∧ Calm w w' := by
  go_enter Try.func8, Try.ntmps8
  go_wp2_with fail
  refine (shown5_c w).mono ?_
  rintro e w1 ⟨rfl, hc1⟩
  have C1 := Lib.hid hc1
  clear hc1
  go_wp2_with fail
  go_loopw [6, 7, 8, 9, 10] (fun n0 n1 n2 n3 i wr => ∃ k : Nat, k ≤ 256 ∧ i = .int .i64 k ∧ Calm w wr ∧ n0 = .int .i64 (cnt f0 k : Int) ∧ n1 = .int .i64 (cnt (f1 off) k : Int) ∧ n2 = .int .i64 (cnt (f2 imm) k : Int) ∧ n3 = .int .i64 (cnt f3 k : Int)) (fun _ _ _ _ i _ => 256 - (intOf i).toNat)
  case atStart => exact ⟨0, by omega, rfl, C1.out, rfl, rfl, rfl, rfl⟩
  case round =>
    obtain ⟨k, hk, rfl, hcal, rfl, rfl, rfl, rfl⟩ := hrel
    have HC := Lib.hid hcal
    have l0 := cnt_le f0 k
    have l1 := cnt_le (f1 off) k
    have l2 := cnt_le (f2 imm) k
    have l3 := cnt_le f3 k
    obtain ⟨N0, hN0⟩ : ∃ N, N = cnt f0 k := ⟨_, rfl⟩
    obtain ⟨N1, hN1⟩ : ∃ N, N = cnt (f1 off) k := ⟨_, rfl⟩
    obtain ⟨N2, hN2⟩ : ∃ N, N = cnt (f2 imm) k := ⟨_, rfl⟩
    obtain ⟨N3, hN3⟩ : ∃ N, N = cnt f3 k := ⟨_, rfl⟩
    rw [← hN0] at l0 ⊢
    rw [← hN1] at l1 ⊢
    rw [← hN2] at l2 ⊢
    rw [← hN3] at l3 ⊢
    have HN := Lib.hid (And.intro hN0 (And.intro hN1 (And.intro hN2 hN3)))
    have j0 : (N0 : Int) ≤ 256 := by omega
    have j1 : (N1 : Int) ≤ 256 := by omega
    have j2 : (N2 : Int) ≤ 256 := by omega
    have j3 : (N3 : Int) ≤ 256 := by omega
    clear hcal l0 l1 l2 l3 hN0 hN1 hN2 hN3
    by_cases hlt : k < 256
    · have i1 : (k : Int) < 256 := by omega
      have KC := Lib.hid (fun b c d e w => known_c (op := k) b c d e w hlt)
      have R1 : Hid (Row (wr.alloc (.cells #[.int .u8 (k : Int), .int .u8 0, .int .u8 0, .int .i16 0, .int .i32 0] 24)) wr.heap.size 24 #[.int .u8 (k : Int), .int .u8 0, .int .u8 0, .int .i16 0, .int .i32 0]) := Lib.hid (Row.made wr _ _)
      have C2 : Hid (Calm w (wr.alloc (.cells #[.int .u8 (k : Int), .int .u8 0, .int .u8 0, .int .i16 0, .int .i32 0] 24))) := Lib.hid (HC.out.alloc _)
      have HG : Hid (w.heap.size ≤ wr.heap.size) := Lib.hid HC.out.size
      go_wp2_with fail
      refine (KC.out 0 0 0 0 _).mono ?_
      rintro e w2 ⟨rfl, hc⟩
      have R2 := Lib.hid (Row.keep (cs := #[.int .u8 (k : Int), .int .u8 0, .int .u8 0, .int .i16 0, .int .i32 0]) R1.out hc (fun e => e))
      have C2 := Lib.hid (C2.out.trans hc)
      have c0 : w2.cell? ⟨wr.heap.size, 0, none⟩ = _ := R2.out.cell 0
      have c1 : w2.cell? ⟨wr.heap.size, 1, none⟩ = _ := R2.out.cell 1
      have c2 : w2.cell? ⟨wr.heap.size, 2, none⟩ = _ := R2.out.cell 2
      have c3 : w2.cell? ⟨wr.heap.size, 3, none⟩ = _ := R2.out.cell 3
      have c4 : w2.cell? ⟨wr.heap.size, 4, none⟩ = _ := R2.out.cell 4
      simp only [List.getElem?_toArray, List.getElem?_cons_zero, List.getElem?_cons_succ] at c0 c1 c2 c3 c4
      have fz : ∀ i, w2.frozen? ⟨wr.heap.size, i, none⟩ = false := fun i => R2.out.soft i
      clear hc
      generalize hB : knownO k 0 0 0 0 = B0
      have HB0 := Lib.hid hB
      clear hB
      cases B0
      · clear c0 c1 c2 c3 c4 fz
        go_wp2_with fail
        go_roundw
        case rel =>
          have g0 := cnt_no (f := f0) (by unfold f0; rw [HB0.out]; try rfl)
          have g1 := cnt_no (f := f1 off) (by unfold f1 f0; rw [HB0.out]; try rfl)
          have g2 := cnt_no (f := f2 imm) (by unfold f2 f0; rw [HB0.out]; try rfl)
          have g3 := cnt_no (f := f3) (by unfold f3 f0; rw [HB0.out]; try rfl)
          obtain ⟨z0, z1, z2, z3⟩ := HN.out
          exact ⟨k + 1, by omega, by go_num, C2.out, by rw [g0, ← z0]; try rfl, by rw [g1, ← z1]; try rfl, by rw [g2, ← z2]; try rfl, by rw [g3, ← z3]; try rfl⟩
        case measure => simp [intOf]; omega
      · go_wp2_with fail
        clear c0 c1 c2 c3 c4 fz
        refine (KC.out 0 0 off 0 _).mono ?_
        rintro e w3 ⟨rfl, hc⟩
        have R3 := Lib.hid (Row.keep (cs := #[.int .u8 (k : Int), .int .u8 0, .int .u8 0, .int .i16 off, .int .i32 0]) (R2.out.store 3 (.int .i16 off)) hc (fun e => e))
        have C3 := Lib.hid ((Keep.store C2.out (p := ⟨wr.heap.size, 3, none⟩) (fun e => absurd e (by show ¬ wr.heap.size < _; have := HG.out; omega)) (.int .i16 off)).trans hc)
        have c0 : w3.cell? ⟨wr.heap.size, 0, none⟩ = _ := R3.out.cell 0
        have c1 : w3.cell? ⟨wr.heap.size, 1, none⟩ = _ := R3.out.cell 1
        have c2 : w3.cell? ⟨wr.heap.size, 2, none⟩ = _ := R3.out.cell 2
        have c3 : w3.cell? ⟨wr.heap.size, 3, none⟩ = _ := R3.out.cell 3
        have c4 : w3.cell? ⟨wr.heap.size, 4, none⟩ = _ := R3.out.cell 4
        simp only [List.getElem?_toArray, List.getElem?_cons_zero, List.getElem?_cons_succ] at c0 c1 c2 c3 c4
        have fz : ∀ i, w3.frozen? ⟨wr.heap.size, i, none⟩ = false := fun i => R3.out.soft i
        clear hc
        generalize hB : knownO k 0 0 off 0 = B1
        have HB1 := Lib.hid hB
        clear hB
        cases B1
        · go_wp2_with fail
          clear c0 c1 c2 c3 c4 fz
          refine (KC.out 0 0 0 imm _).mono ?_
          rintro e w4 ⟨rfl, hc⟩
          have R4 := Lib.hid (Row.keep (cs := #[.int .u8 (k : Int), .int .u8 0, .int .u8 0, .int .i16 0, .int .i32 imm]) ((R3.out.store 3 (.int .i16 0)).store 4 (.int .i32 imm)) hc (fun e => e))
          have C4 := Lib.hid ((Keep.store (Keep.store C3.out (p := ⟨wr.heap.size, 3, none⟩) (fun e => absurd e (by show ¬ wr.heap.size < _; have := HG.out; omega)) (.int .i16 0)) (p := ⟨wr.heap.size, 4, none⟩) (fun e => absurd e (by show ¬ wr.heap.size < _; have := HG.out; omega)) (.int .i32 imm)).trans hc)
          have c0 : w4.cell? ⟨wr.heap.size, 0, none⟩ = _ := R4.out.cell 0
          have c1 : w4.cell? ⟨wr.heap.size, 1, none⟩ = _ := R4.out.cell 1
          have c2 : w4.cell? ⟨wr.heap.size, 2, none⟩ = _ := R4.out.cell 2
          have c3 : w4.cell? ⟨wr.heap.size, 3, none⟩ = _ := R4.out.cell 3
          have c4 : w4.cell? ⟨wr.heap.size, 4, none⟩ = _ := R4.out.cell 4
          simp only [List.getElem?_toArray, List.getElem?_cons_zero, List.getElem?_cons_succ] at c0 c1 c2 c3 c4
          have fz : ∀ i, w4.frozen? ⟨wr.heap.size, i, none⟩ = false := fun i => R4.out.soft i
          clear hc
          generalize hB : knownO k 0 0 0 imm = B2
          have HB2 := Lib.hid hB
          clear hB
          cases B2
          · go_wp2_with fail
            clear c0 c1 c2 c3 c4 fz
            refine (KC.out 0 1 0 0 _).mono ?_
            rintro e w5 ⟨rfl, hc⟩
            have R5 := Lib.hid (Row.keep (cs := #[.int .u8 (k : Int), .int .u8 0, .int .u8 1, .int .i16 0, .int .i32 0]) ((R4.out.store 4 (.int .i32 0)).store 2 (.int .u8 1)) hc (fun e => e))
            have C5 := Lib.hid ((Keep.store (Keep.store C4.out (p := ⟨wr.heap.size, 4, none⟩) (fun e => absurd e (by show ¬ wr.heap.size < _; have := HG.out; omega)) (.int .i32 0)) (p := ⟨wr.heap.size, 2, none⟩) (fun e => absurd e (by show ¬ wr.heap.size < _; have := HG.out; omega)) (.int .u8 1)).trans hc)
            have c0 : w5.cell? ⟨wr.heap.size, 0, none⟩ = _ := R5.out.cell 0
            have c1 : w5.cell? ⟨wr.heap.size, 1, none⟩ = _ := R5.out.cell 1
            have c2 : w5.cell? ⟨wr.heap.size, 2, none⟩ = _ := R5.out.cell 2
            have c3 : w5.cell? ⟨wr.heap.size, 3, none⟩ = _ := R5.out.cell 3
            have c4 : w5.cell? ⟨wr.heap.size, 4, none⟩ = _ := R5.out.cell 4
            simp only [List.getElem?_toArray, List.getElem?_cons_zero, List.getElem?_cons_succ] at c0 c1 c2 c3 c4
            have fz : ∀ i, w5.frozen? ⟨wr.heap.size, i, none⟩ = false := fun i => R5.out.soft i
            clear hc
            generalize hB : knownO k 0 1 0 0 = B3
            have HB3 := Lib.hid hB
            clear hB
            cases B3
            · clear c0 c1 c2 c3 c4 fz
              go_wp2_with fail
              go_roundw
              case rel =>
                have g0 := cnt_yes (f := f0) (by unfold f0; rw [HB0.out]; try rfl)
                have g1 := cnt_no (f := f1 off) (by unfold f1 f0; rw [HB0.out, HB1.out]; try rfl)
                have g2 := cnt_no (f := f2 imm) (by unfold f2 f0; rw [HB0.out, HB2.out]; try rfl)
                have g3 := cnt_no (f := f3) (by unfold f3 f0; rw [HB0.out, HB3.out]; try rfl)
                obtain ⟨z0, z1, z2, z3⟩ := HN.out
                exact ⟨k + 1, by omega, by go_num, C5.out, by rw [g0, ← z0]; go_num, by rw [g1, ← z1]; try rfl, by rw [g2, ← z2]; try rfl, by rw [g3, ← z3]; try rfl⟩
              case measure => simp [intOf]; omega
            · clear c0 c1 c2 c3 c4 fz
              go_wp2_with fail
              go_roundw
              case rel =>
                have g0 := cnt_yes (f := f0) (by unfold f0; rw [HB0.out]; try rfl)
                have g1 := cnt_no (f := f1 off) (by unfold f1 f0; rw [HB0.out, HB1.out]; try rfl)
                have g2 := cnt_no (f := f2 imm) (by unfold f2 f0; rw [HB0.out, HB2.out]; try rfl)
                have g3 := cnt_yes (f := f3) (by unfold f3 f0; rw [HB0.out, HB3.out]; try rfl)
                obtain ⟨z0, z1, z2, z3⟩ := HN.out
                exact ⟨k + 1, by omega, by go_num, C5.out, by rw [g0, ← z0]; go_num, by rw [g1, ← z1]; try rfl, by rw [g2, ← z2]; try rfl, by rw [g3, ← z3]; go_num⟩
              case measure => simp [intOf]; omega
          · go_wp2_with fail
            clear c0 c1 c2 c3 c4 fz
            refine (KC.out 0 1 0 0 _).mono ?_
            rintro e w5 ⟨rfl, hc⟩
            have R5 := Lib.hid (Row.keep (cs := #[.int .u8 (k : Int), .int .u8 0, .int .u8 1, .int .i16 0, .int .i32 0]) ((R4.out.store 4 (.int .i32 0)).store 2 (.int .u8 1)) hc (fun e => e))
            have C5 := Lib.hid ((Keep.store (Keep.store C4.out (p := ⟨wr.heap.size, 4, none⟩) (fun e => absurd e (by show ¬ wr.heap.size < _; have := HG.out; omega)) (.int .i32 0)) (p := ⟨wr.heap.size, 2, none⟩) (fun e => absurd e (by show ¬ wr.heap.size < _; have := HG.out; omega)) (.int .u8 1)).trans hc)
            have c0 : w5.cell? ⟨wr.heap.size, 0, none⟩ = _ := R5.out.cell 0
            have c1 : w5.cell? ⟨wr.heap.size, 1, none⟩ = _ := R5.out.cell 1
            have c2 : w5.cell? ⟨wr.heap.size, 2, none⟩ = _ := R5.out.cell 2
            have c3 : w5.cell? ⟨wr.heap.size, 3, none⟩ = _ := R5.out.cell 3
            have c4 : w5.cell? ⟨wr.heap.size, 4, none⟩ = _ := R5.out.cell 4
            simp only [List.getElem?_toArray, List.getElem?_cons_zero, List.getElem?_cons_succ] at c0 c1 c2 c3 c4
            have fz : ∀ i, w5.frozen? ⟨wr.heap.size, i, none⟩ = false := fun i => R5.out.soft i
            clear hc
            generalize hB : knownO k 0 1 0 0 = B3
            have HB3 := Lib.hid hB
            clear hB
            cases B3
            · clear c0 c1 c2 c3 c4 fz
              go_wp2_with fail
              go_roundw
              case rel =>
                have g0 := cnt_yes (f := f0) (by unfold f0; rw [HB0.out]; try rfl)
                have g1 := cnt_no (f := f1 off) (by unfold f1 f0; rw [HB0.out, HB1.out]; try rfl)
                have g2 := cnt_yes (f := f2 imm) (by unfold f2 f0; rw [HB0.out, HB2.out]; try rfl)
                have g3 := cnt_no (f := f3) (by unfold f3 f0; rw [HB0.out, HB3.out]; try rfl)
                obtain ⟨z0, z1, z2, z3⟩ := HN.out
                exact ⟨k + 1, by omega, by go_num, C5.out, by rw [g0, ← z0]; go_num, by rw [g1, ← z1]; try rfl, by rw [g2, ← z2]; go_num, by rw [g3, ← z3]; try rfl⟩
              case measure => simp [intOf]; omega
            · clear c0 c1 c2 c3 c4 fz
              go_wp2_with fail
              go_roundw
              case rel =>
                have g0 := cnt_yes (f := f0) (by unfold f0; rw [HB0.out]; try rfl)
                have g1 := cnt_no (f := f1 off) (by unfold f1 f0; rw [HB0.out, HB1.out]; try rfl)
                have g2 := cnt_yes (f := f2 imm) (by unfold f2 f0; rw [HB0.out, HB2.out]; try rfl)
                have g3 := cnt_yes (f := f3) (by unfold f3 f0; rw [HB0.out, HB3.out]; try rfl)
                obtain ⟨z0, z1, z2, z3⟩ := HN.out
                exact ⟨k + 1, by omega, by go_num, C5.out, by rw [g0, ← z0]; go_num, by rw [g1, ← z1]; try rfl, by rw [g2, ← z2]; go_num, by rw [g3, ← z3]; go_num⟩
              case measure => simp [intOf]; omega
        · go_wp2_with fail
          clear c0 c1 c2 c3 c4 fz
          refine (KC.out 0 0 0 imm _).mono ?_
          rintro e w4 ⟨rfl, hc⟩
          have R4 := Lib.hid (Row.keep (cs := #[.int .u8 (k : Int), .int .u8 0, .int .u8 0, .int .i16 0, .int .i32 imm]) ((R3.out.store 3 (.int .i16 0)).store 4 (.int .i32 imm)) hc (fun e => e))
          have C4 := Lib.hid ((Keep.store (Keep.store C3.out (p := ⟨wr.heap.size, 3, none⟩) (fun e => absurd e (by show ¬ wr.heap.size < _; have := HG.out; omega)) (.int .i16 0)) (p := ⟨wr.heap.size, 4, none⟩) (fun e => absurd e (by show ¬ wr.heap.size < _; have := HG.out; omega)) (.int .i32 imm)).trans hc)
          have c0 : w4.cell? ⟨wr.heap.size, 0, none⟩ = _ := R4.out.cell 0
          have c1 : w4.cell? ⟨wr.heap.size, 1, none⟩ = _ := R4.out.cell 1
          have c2 : w4.cell? ⟨wr.heap.size, 2, none⟩ = _ := R4.out.cell 2
          have c3 : w4.cell? ⟨wr.heap.size, 3, none⟩ = _ := R4.out.cell 3
          have c4 : w4.cell? ⟨wr.heap.size, 4, none⟩ = _ := R4.out.cell 4
          simp only [List.getElem?_toArray, List.getElem?_cons_zero, List.getElem?_cons_succ] at c0 c1 c2 c3 c4
          have fz : ∀ i, w4.frozen? ⟨wr.heap.size, i, none⟩ = false := fun i => R4.out.soft i
          clear hc
          generalize hB : knownO k 0 0 0 imm = B2
          have HB2 := Lib.hid hB
          clear hB
          cases B2
          · go_wp2_with fail
            clear c0 c1 c2 c3 c4 fz
            refine (KC.out 0 1 0 0 _).mono ?_
            rintro e w5 ⟨rfl, hc⟩
            have R5 := Lib.hid (Row.keep (cs := #[.int .u8 (k : Int), .int .u8 0, .int .u8 1, .int .i16 0, .int .i32 0]) ((R4.out.store 4 (.int .i32 0)).store 2 (.int .u8 1)) hc (fun e => e))
            have C5 := Lib.hid ((Keep.store (Keep.store C4.out (p := ⟨wr.heap.size, 4, none⟩) (fun e => absurd e (by show ¬ wr.heap.size < _; have := HG.out; omega)) (.int .i32 0)) (p := ⟨wr.heap.size, 2, none⟩) (fun e => absurd e (by show ¬ wr.heap.size < _; have := HG.out; omega)) (.int .u8 1)).trans hc)
            have c0 : w5.cell? ⟨wr.heap.size, 0, none⟩ = _ := R5.out.cell 0
            have c1 : w5.cell? ⟨wr.heap.size, 1, none⟩ = _ := R5.out.cell 1
            have c2 : w5.cell? ⟨wr.heap.size, 2, none⟩ = _ := R5.out.cell 2
            have c3 : w5.cell? ⟨wr.heap.size, 3, none⟩ = _ := R5.out.cell 3
            have c4 : w5.cell? ⟨wr.heap.size, 4, none⟩ = _ := R5.out.cell 4
            simp only [List.getElem?_toArray, List.getElem?_cons_zero, List.getElem?_cons_succ] at c0 c1 c2 c3 c4
            have fz : ∀ i, w5.frozen? ⟨wr.heap.size, i, none⟩ = false := fun i => R5.out.soft i
            clear hc
            generalize hB : knownO k 0 1 0 0 = B3
            have HB3 := Lib.hid hB
            clear hB
            cases B3
            · clear c0 c1 c2 c3 c4 fz
              go_wp2_with fail
              go_roundw
              case rel =>
                have g0 := cnt_yes (f := f0) (by unfold f0; rw [HB0.out]; try rfl)
                have g1 := cnt_yes (f := f1 off) (by unfold f1 f0; rw [HB0.out, HB1.out]; try rfl)
                have g2 := cnt_no (f := f2 imm) (by unfold f2 f0; rw [HB0.out, HB2.out]; try rfl)
                have g3 := cnt_no (f := f3) (by unfold f3 f0; rw [HB0.out, HB3.out]; try rfl)
                obtain ⟨z0, z1, z2, z3⟩ := HN.out
                exact ⟨k + 1, by omega, by go_num, C5.out, by rw [g0, ← z0]; go_num, by rw [g1, ← z1]; go_num, by rw [g2, ← z2]; try rfl, by rw [g3, ← z3]; try rfl⟩
              case measure => simp [intOf]; omega
            · clear c0 c1 c2 c3 c4 fz
              go_wp2_with fail
              go_roundw
              case rel =>
                have g0 := cnt_yes (f := f0) (by unfold f0; rw [HB0.out]; try rfl)
                have g1 := cnt_yes (f := f1 off) (by unfold f1 f0; rw [HB0.out, HB1.out]; try rfl)
                have g2 := cnt_no (f := f2 imm) (by unfold f2 f0; rw [HB0.out, HB2.out]; try rfl)
                have g3 := cnt_yes (f := f3) (by unfold f3 f0; rw [HB0.out, HB3.out]; try rfl)
                obtain ⟨z0, z1, z2, z3⟩ := HN.out
                exact ⟨k + 1, by omega, by go_num, C5.out, by rw [g0, ← z0]; go_num, by rw [g1, ← z1]; go_num, by rw [g2, ← z2]; try rfl, by rw [g3, ← z3]; go_num⟩
              case measure => simp [intOf]; omega
          · go_wp2_with fail
            clear c0 c1 c2 c3 c4 fz
            refine (KC.out 0 1 0 0 _).mono ?_
            rintro e w5 ⟨rfl, hc⟩
            have R5 := Lib.hid (Row.keep (cs := #[.int .u8 (k : Int), .int .u8 0, .int .u8 1, .int .i16 0, .int .i32 0]) ((R4.out.store 4 (.int .i32 0)).store 2 (.int .u8 1)) hc (fun e => e))
            have C5 := Lib.hid ((Keep.store (Keep.store C4.out (p := ⟨wr.heap.size, 4, none⟩) (fun e => absurd e (by show ¬ wr.heap.size < _; have := HG.out; omega)) (.int .i32 0)) (p := ⟨wr.heap.size, 2, none⟩) (fun e => absurd e (by show ¬ wr.heap.size < _; have := HG.out; omega)) (.int .u8 1)).trans hc)
            have c0 : w5.cell? ⟨wr.heap.size, 0, none⟩ = _ := R5.out.cell 0
            have c1 : w5.cell? ⟨wr.heap.size, 1, none⟩ = _ := R5.out.cell 1
            have c2 : w5.cell? ⟨wr.heap.size, 2, none⟩ = _ := R5.out.cell 2
            have c3 : w5.cell? ⟨wr.heap.size, 3, none⟩ = _ := R5.out.cell 3
            have c4 : w5.cell? ⟨wr.heap.size, 4, none⟩ = _ := R5.out.cell 4
            simp only [List.getElem?_toArray, List.getElem?_cons_zero, List.getElem?_cons_succ] at c0 c1 c2 c3 c4
            have fz : ∀ i, w5.frozen? ⟨wr.heap.size, i, none⟩ = false := fun i => R5.out.soft i
            clear hc
            generalize hB : knownO k 0 1 0 0 = B3
            have HB3 := Lib.hid hB
            clear hB
            cases B3
            · clear c0 c1 c2 c3 c4 fz
              go_wp2_with fail
              go_roundw
              case rel =>
                have g0 := cnt_yes (f := f0) (by unfold f0; rw [HB0.out]; try rfl)
                have g1 := cnt_yes (f := f1 off) (by unfold f1 f0; rw [HB0.out, HB1.out]; try rfl)
                have g2 := cnt_yes (f := f2 imm) (by unfold f2 f0; rw [HB0.out, HB2.out]; try rfl)
                have g3 := cnt_no (f := f3) (by unfold f3 f0; rw [HB0.out, HB3.out]; try rfl)
                obtain ⟨z0, z1, z2, z3⟩ := HN.out
                exact ⟨k + 1, by omega, by go_num, C5.out, by rw [g0, ← z0]; go_num, by rw [g1, ← z1]; go_num, by rw [g2, ← z2]; go_num, by rw [g3, ← z3]; try rfl⟩
              case measure => simp [intOf]; omega
            · clear c0 c1 c2 c3 c4 fz
              go_wp2_with fail
              go_roundw
              case rel =>
                have g0 := cnt_yes (f := f0) (by unfold f0; rw [HB0.out]; try rfl)
                have g1 := cnt_yes (f := f1 off) (by unfold f1 f0; rw [HB0.out, HB1.out]; try rfl)
                have g2 := cnt_yes (f := f2 imm) (by unfold f2 f0; rw [HB0.out, HB2.out]; try rfl)
                have g3 := cnt_yes (f := f3) (by unfold f3 f0; rw [HB0.out, HB3.out]; try rfl)
                obtain ⟨z0, z1, z2, z3⟩ := HN.out
                exact ⟨k + 1, by omega, by go_num, C5.out, by rw [g0, ← z0]; go_num, by rw [g1, ← z1]; go_num, by rw [g2, ← z2]; go_num, by rw [g3, ← z3]; go_num⟩
              case measure => simp [intOf]; omega
    · obtain rfl : k = 256 := by omega
      obtain ⟨z0, z1, z2, z3⟩ := HN.out
      rw [cnt0] at z0
      rw [cnt3] at z3
      subst z0 z3
      have HZ := Lib.hid (And.intro z1 z2)
      clear z1 z2 HN
      by_cases ho : off = 0
      · subst ho
        by_cases hi : imm = 0
        · subst hi
          go_wp2_with fail
          go_ret
          exact ⟨rfl, HC.out⟩
        · have h2 := HZ.out.2
          rw [cnt2 imm hi] at h2
          subst h2
          go_wp2_with fail
          go_ret
          exact ⟨rfl, HC.out⟩
      · have h1 := HZ.out.1
        rw [cnt1 off ho] at h1
        subst h1
        by_cases hi : imm = 0
        · subst hi
          go_wp2_with fail
          go_ret
          exact ⟨rfl, HC.out⟩
        · have h2 := HZ.out.2
          rw [cnt2 imm hi] at h2
          subst h2
          go_wp2_with fail
          go_ret
          exact ⟨rfl, HC.out⟩
end Go.Proofs.Ytohnemcdldpgaaa
