/-
  The walk of AluShifts.
-/
import Derived.Test.YtilkmopclijclaaA4
import Derived.Test.YtilkmopclijclaaAS
namespace Go.Proofs.Ytilkmopclijclaa
open Go.RowKit
set_option linter.all false

theorem retb1 {x : Bool} (h : x = true) : Ending.returned (.bool x) = Ending.returned (.bool true) := by rw [h]
theorem nat_zero {A k : Nat} (h : (A : Int) / 2 ^ k / 2 = 0) : A / 2 ^ k / 2 = 0 := by
  rw [pow_cast] at h
  have : ((A / 2 ^ k / 2 : Nat) : Int) = 0 := h
  omega

set_option maxHeartbeats 3200000 in
set_option maxRecDepth 20000 in
theorem aluShifts_false {a m n : Nat} (ha : a < 18446744073709551616) (hm : m < 18446744073709551616) (hn : n < 18446744073709551616) (w : World) : Calls Try.prog 9 #[.bool false, .int .u64 (a : Int), .int .u64 (m : Int), .int .u64 (n : Int)] w fun e w' => e = .returned (.bool true) ∧ Calm w w' := by
  obtain ⟨M, eM⟩ : ∃ z, z = m % 32 := ⟨_, rfl⟩
  have mM : (m : Int) % 32 = (M : Int) := by omega
  have hM : M < 32 := by omega
  have lM : (M : Int) < 32 := by omega
  obtain ⟨N, eN⟩ : ∃ z, z = n % (32 - M) := ⟨_, rfl⟩
  have mN : (n : Int) % (32 - (M : Int)) = (N : Int) := by
    rw [eN, show (32 : Int) - (M : Int) = ((32 - M : Nat) : Int) by omega]
    rfl
  have hN : N < 32 - M := by rw [eN]; exact Nat.mod_lt _ (by omega)
  have hS : M + N < 32 := by omega
  obtain ⟨S, eS⟩ : ∃ z, z = M + N := ⟨_, rfl⟩
  have mS : (M : Int) + (N : Int) = (S : Int) := by omega
  have wS : IntKind.u64.wrap ((M : Int) + (N : Int)) = (S : Int) := by rw [mS]; exact wrapU64 (by omega)
  clear mS
  have l1 : M < 18446744073709551616 := by omega
  have l2 : N < 18446744073709551616 := by omega
  have l3 : S < 18446744073709551616 := by omega
  have hm1 : bits .and .u64 (a : Int) 4294967295 = ((a % 4294967296 : Nat) : Int) := by
    rw [show (4294967295 : Int) = ((4294967295 : Nat) : Int) from rfl, u64_and_nat a 4294967295 ha (by decide)]
    exact congrArg _ (Nat.and_two_pow_sub_one_eq_mod a 32)
  have hA : a % 4294967296 < 2 ^ bW false := Nat.mod_lt _ (by decide)
  obtain ⟨A, eA⟩ : ∃ A, A = a % 4294967296 := ⟨_, rfl⟩
  rw [← eA] at hm1 hA
  have hA64 : A < 18446744073709551616 := Nat.lt_trans hA (by decide)
  clear eA
  obtain ⟨x96, ex96⟩ : ∃ z, z = D (bW false) 96 A M := ⟨_, rfl⟩
  have lx96 : x96 < 18446744073709551616 := by rw [ex96]; exact D_lt64 false _ _ _
  obtain ⟨y96, ey96⟩ : ∃ z, z = D (bW false) 96 A S := ⟨_, rfl⟩
  have K96 : Hid (∀ w, Calls Try.prog 12 #[.int .u8 96, .bool false, .int .u64 (A : Int), .int .u64 (M : Int)] w fun ee w' => ee = .returned (.tuple #[.int .u64 (x96 : Int), .bool true]) ∧ Calm w w') := Lib.hid fun w => by
    have h := do_c (op := 96) (a := A) (b := M) false w hA64 l1
    rw [← ex96] at h
    exact h
  have L96 : Hid (∀ w, Calls Try.prog 12 #[.int .u8 96, .bool false, .int .u64 (x96 : Int), .int .u64 (N : Int)] w fun ee w' => ee = .returned (.tuple #[.int .u64 (y96 : Int), .bool true]) ∧ Calm w w') := Lib.hid fun w => by
    have h := do_c (op := 96) (a := x96) (b := N) false w lx96 l2
    rw [show D (bW false) 96 x96 N = y96 from by rw [ex96, ey96, eS]; exact lsh_go hS] at h
    exact h
  have M96 : Hid (∀ w, Calls Try.prog 12 #[.int .u8 96, .bool false, .int .u64 (A : Int), .int .u64 (S : Int)] w fun ee w' => ee = .returned (.tuple #[.int .u64 (y96 : Int), .bool true]) ∧ Calm w w') := Lib.hid fun w => by
    have h := do_c (op := 96) (a := A) (b := S) false w hA64 l3
    rw [← ey96] at h
    exact h
  have N96 : Hid (∀ w, Calls Try.prog 12 #[.int .u8 96, .bool false, .int .u64 (A : Int), .int .u64 32] w fun ee w' => ee = .returned (.tuple #[.int .u64 (A : Int), .bool true]) ∧ Calm w w') := Lib.hid fun w => by
    have h := do_c (op := 96) (a := A) (b := 32) false w hA64 (by decide)
    rw [show D (bW false) 96 A 32 = A from lsh_all hA] at h
    exact h
  obtain ⟨x112, ex112⟩ : ∃ z, z = D (bW false) 112 A M := ⟨_, rfl⟩
  have lx112 : x112 < 18446744073709551616 := by rw [ex112]; exact D_lt64 false _ _ _
  obtain ⟨y112, ey112⟩ : ∃ z, z = D (bW false) 112 A S := ⟨_, rfl⟩
  have K112 : Hid (∀ w, Calls Try.prog 12 #[.int .u8 112, .bool false, .int .u64 (A : Int), .int .u64 (M : Int)] w fun ee w' => ee = .returned (.tuple #[.int .u64 (x112 : Int), .bool true]) ∧ Calm w w') := Lib.hid fun w => by
    have h := do_c (op := 112) (a := A) (b := M) false w hA64 l1
    rw [← ex112] at h
    exact h
  have L112 : Hid (∀ w, Calls Try.prog 12 #[.int .u8 112, .bool false, .int .u64 (x112 : Int), .int .u64 (N : Int)] w fun ee w' => ee = .returned (.tuple #[.int .u64 (y112 : Int), .bool true]) ∧ Calm w w') := Lib.hid fun w => by
    have h := do_c (op := 112) (a := x112) (b := N) false w lx112 l2
    rw [show D (bW false) 112 x112 N = y112 from by rw [ex112, ey112, eS]; exact rsh_go hS] at h
    exact h
  have M112 : Hid (∀ w, Calls Try.prog 12 #[.int .u8 112, .bool false, .int .u64 (A : Int), .int .u64 (S : Int)] w fun ee w' => ee = .returned (.tuple #[.int .u64 (y112 : Int), .bool true]) ∧ Calm w w') := Lib.hid fun w => by
    have h := do_c (op := 112) (a := A) (b := S) false w hA64 l3
    rw [← ey112] at h
    exact h
  have N112 : Hid (∀ w, Calls Try.prog 12 #[.int .u8 112, .bool false, .int .u64 (A : Int), .int .u64 32] w fun ee w' => ee = .returned (.tuple #[.int .u64 (A : Int), .bool true]) ∧ Calm w w') := Lib.hid fun w => by
    have h := do_c (op := 112) (a := A) (b := 32) false w hA64 (by decide)
    rw [show D (bW false) 112 A 32 = A from rsh_all hA] at h
    exact h
  obtain ⟨x192, ex192⟩ : ∃ z, z = D (bW false) 192 A M := ⟨_, rfl⟩
  have lx192 : x192 < 18446744073709551616 := by rw [ex192]; exact D_lt64 false _ _ _
  obtain ⟨y192, ey192⟩ : ∃ z, z = D (bW false) 192 A S := ⟨_, rfl⟩
  have K192 : Hid (∀ w, Calls Try.prog 12 #[.int .u8 192, .bool false, .int .u64 (A : Int), .int .u64 (M : Int)] w fun ee w' => ee = .returned (.tuple #[.int .u64 (x192 : Int), .bool true]) ∧ Calm w w') := Lib.hid fun w => by
    have h := do_c (op := 192) (a := A) (b := M) false w hA64 l1
    rw [← ex192] at h
    exact h
  have L192 : Hid (∀ w, Calls Try.prog 12 #[.int .u8 192, .bool false, .int .u64 (x192 : Int), .int .u64 (N : Int)] w fun ee w' => ee = .returned (.tuple #[.int .u64 (y192 : Int), .bool true]) ∧ Calm w w') := Lib.hid fun w => by
    have h := do_c (op := 192) (a := x192) (b := N) false w lx192 l2
    rw [show D (bW false) 192 x192 N = y192 from by rw [ex192, ey192, eS]; exact arsh_go hS] at h
    exact h
  have M192 : Hid (∀ w, Calls Try.prog 12 #[.int .u8 192, .bool false, .int .u64 (A : Int), .int .u64 (S : Int)] w fun ee w' => ee = .returned (.tuple #[.int .u64 (y192 : Int), .bool true]) ∧ Calm w w') := Lib.hid fun w => by
    have h := do_c (op := 192) (a := A) (b := S) false w hA64 l3
    rw [← ey192] at h
    exact h
  have N192 : Hid (∀ w, Calls Try.prog 12 #[.int .u8 192, .bool false, .int .u64 (A : Int), .int .u64 32] w fun ee w' => ee = .returned (.tuple #[.int .u64 (A : Int), .bool true]) ∧ Calm w w') := Lib.hid fun w => by
    have h := do_c (op := 192) (a := A) (b := 32) false w hA64 (by decide)
    rw [show D (bW false) 192 A 32 = A from arsh_all hA] at h
    exact h
  obtain ⟨b, eb⟩ : ∃ z, z = D (bW false) 96 x112 M := ⟨_, rfl⟩
  have lb : b < 18446744073709551616 := by rw [eb]; exact D_lt64 false _ _ _
  obtain ⟨f, ef⟩ : ∃ z, z = D (bW false) 160 A b := ⟨_, rfl⟩
  obtain ⟨u, eu⟩ : ∃ z, z = D (bW false) 112 x96 M := ⟨_, rfl⟩
  have U1 : Hid (∀ w, Calls Try.prog 12 #[.int .u8 112, .bool false, .int .u64 (x96 : Int), .int .u64 (M : Int)] w fun ee w' => ee = .returned (.tuple #[.int .u64 (u : Int), .bool true]) ∧ Calm w w') := Lib.hid fun w => by
    have h := do_c (op := 112) (a := x96) (b := M) false w lx96 l1
    rw [← eu] at h
    exact h
  have U2 : Hid (∀ w, Calls Try.prog 12 #[.int .u8 96, .bool false, .int .u64 (x112 : Int), .int .u64 (M : Int)] w fun ee w' => ee = .returned (.tuple #[.int .u64 (b : Int), .bool true]) ∧ Calm w w') := Lib.hid fun w => by
    have h := do_c (op := 96) (a := x112) (b := M) false w lx112 l1
    rw [← eb] at h
    exact h
  have U3 : Hid (∀ w, Calls Try.prog 12 #[.int .u8 160, .bool false, .int .u64 (A : Int), .int .u64 (b : Int)] w fun ee w' => ee = .returned (.tuple #[.int .u64 (f : Int), .bool true]) ∧ Calm w w') := Lib.hid fun w => by
    have h := do_c (op := 160) (a := A) (b := b) false w hA64 lb
    rw [← ef] at h
    exact h
  have hf : f < 2 ^ M := by rw [ef, eb, ex112]; exact left_low hA hM
  have hu : A / 2 ^ (32 - M - 1) / 2 = 0 → u = A := fun h => by rw [eu, ex96]; exact down_up hA hM h
  have HF : Hid (decide ((f : Int) < IntKind.u64.wrap (2 ^ M)) = true) := Lib.hid (by
    have hp : 2 ^ M < 18446744073709551616 := Nat.lt_of_lt_of_le (Nat.pow_lt_pow_right (by decide) hM) (by decide)
    rw [pow_cast, wrapU64 hp]
    exact decide_eq_true (by omega))
  have HU := Lib.hid hu
  have HM := Lib.hid hM
  clear hf hu hM ha hm hn eM eN eS hN hS l1 l2 l3 hA hA64 eb ef eu lb ex96 ey96 lx96 ex112 ey112 lx112 ex192 ey192 lx192
  go_enter Try.func9, Try.ntmps9
  go_wp2_with fail
  refine (shown7_c _).mono ?_
  rintro x w0 ⟨rfl, hc⟩
  have C0 := Lib.hid hc
  clear hc
  have Ro : Hid (Row (w0.alloc (.cells #[.int .u8 96, .int .u8 112, .int .u8 192] 5)) w0.heap.size 5 #[.int .u8 96, .int .u8 112, .int .u8 192]) := Lib.hid (Row.made w0 _ _)
  have Rc : Hid (Calm w0 (w0.alloc (.cells #[.int .u8 96, .int .u8 112, .int .u8 192] 5))) := Lib.hid ((Keep.refl _ w0).alloc _)
  go_wp2_with fail
  rw [mM, mN]
  have LM := Lib.hid lM
  clear lM mM mN
  obtain ⟨wB, hB⟩ : ∃ x, x = w0.alloc (.cells #[.int .u8 96, .int .u8 112, .int .u8 192] 5) := ⟨_, rfl⟩
  rw [← hB] at Ro Rc ⊢
  clear hB
  go_loopw [43] (fun i wr => ∃ k : Nat, k ≤ 3 ∧ i = .int .i64 k ∧ Calm wB wr) (fun i _ => 3 - (intOf i).toNat)
  case atStart => exact ⟨0, by omega, rfl, Keep.refl _ _⟩
  case round =>
    obtain ⟨k, hk, rfl, hcal⟩ := hrel
    have HC := Lib.hid hcal
    clear hcal
    have hk4 : k = 0 ∨ k = 1 ∨ k = 2 ∨ k = 3 := by omega
    clear hk
    rcases hk4 with rfl | rfl | rfl | rfl
    · have c0 : wr.cell? ⟨w0.heap.size, 0, none⟩ = _ := (Ro.out.keep HC.out (fun e => e)).cell 0
      simp only [List.getElem?_toArray, List.getElem?_cons_zero, List.getElem?_cons_succ] at c0
      go_wp2_with fail
      clear c0
      refine (K96.out _).mono ?_
      rintro x w1 ⟨rfl, hc⟩
      have D1 := Lib.hid (HC.out.trans hc)
      clear hc
      go_wp2_with fail
      refine (L96.out _).mono ?_
      rintro x w2 ⟨rfl, hc⟩
      have D2 := Lib.hid (D1.out.trans hc)
      clear hc
      go_wp2_with fail
      refine (M96.out _).mono ?_
      rintro x w3 ⟨rfl, hc⟩
      have D3 := Lib.hid (D2.out.trans hc)
      clear hc
      go_wp2_with fail
      refine (N96.out _).mono ?_
      rintro x w4 ⟨rfl, hc⟩
      have D4 := Lib.hid (D3.out.trans hc)
      clear hc
      go_wp2_with fail
      go_roundw
      case rel => exact ⟨1, by omega, by go_num, D4.out⟩
      case measure => simp [intOf]
    · have c0 : wr.cell? ⟨w0.heap.size, 1, none⟩ = _ := (Ro.out.keep HC.out (fun e => e)).cell 1
      simp only [List.getElem?_toArray, List.getElem?_cons_zero, List.getElem?_cons_succ] at c0
      go_wp2_with fail
      clear c0
      refine (K112.out _).mono ?_
      rintro x w1 ⟨rfl, hc⟩
      have D1 := Lib.hid (HC.out.trans hc)
      clear hc
      go_wp2_with fail
      refine (L112.out _).mono ?_
      rintro x w2 ⟨rfl, hc⟩
      have D2 := Lib.hid (D1.out.trans hc)
      clear hc
      go_wp2_with fail
      refine (M112.out _).mono ?_
      rintro x w3 ⟨rfl, hc⟩
      have D3 := Lib.hid (D2.out.trans hc)
      clear hc
      go_wp2_with fail
      refine (N112.out _).mono ?_
      rintro x w4 ⟨rfl, hc⟩
      have D4 := Lib.hid (D3.out.trans hc)
      clear hc
      go_wp2_with fail
      go_roundw
      case rel => exact ⟨2, by omega, by go_num, D4.out⟩
      case measure => simp [intOf]
    · have c0 : wr.cell? ⟨w0.heap.size, 2, none⟩ = _ := (Ro.out.keep HC.out (fun e => e)).cell 2
      simp only [List.getElem?_toArray, List.getElem?_cons_zero, List.getElem?_cons_succ] at c0
      go_wp2_with fail
      clear c0
      refine (K192.out _).mono ?_
      rintro x w1 ⟨rfl, hc⟩
      have D1 := Lib.hid (HC.out.trans hc)
      clear hc
      go_wp2_with fail
      refine (L192.out _).mono ?_
      rintro x w2 ⟨rfl, hc⟩
      have D2 := Lib.hid (D1.out.trans hc)
      clear hc
      go_wp2_with fail
      refine (M192.out _).mono ?_
      rintro x w3 ⟨rfl, hc⟩
      have D3 := Lib.hid (D2.out.trans hc)
      clear hc
      go_wp2_with fail
      refine (N192.out _).mono ?_
      rintro x w4 ⟨rfl, hc⟩
      have D4 := Lib.hid (D3.out.trans hc)
      clear hc
      go_wp2_with fail
      go_roundw
      case rel => exact ⟨3, by omega, by go_num, D4.out⟩
      case measure => simp [intOf]
    · have lM := LM.out
      go_wp2_with fail
      refine (K96.out _).mono ?_
      rintro x w1 ⟨rfl, hc⟩
      have D1 := Lib.hid (HC.out.trans hc)
      clear hc
      go_wp2_with fail
      refine (U1.out _).mono ?_
      rintro x w2 ⟨rfl, hc⟩
      have D2 := Lib.hid (D1.out.trans hc)
      clear hc
      go_wp2_with fail
      refine (K112.out _).mono ?_
      rintro x w3 ⟨rfl, hc⟩
      have D3 := Lib.hid (D2.out.trans hc)
      clear hc
      go_wp2_with fail
      refine (U2.out _).mono ?_
      rintro x w4 ⟨rfl, hc⟩
      have D4 := Lib.hid (D3.out.trans hc)
      clear hc
      go_wp2_with fail
      refine (U3.out _).mono ?_
      rintro x w5 ⟨rfl, hc⟩
      have D5 := Lib.hid (D4.out.trans hc)
      clear hc
      go_wp2_with fail
      · go_ret
        exact ⟨retb1 HF.out, C0.out.trans (Rc.out.trans D5.out)⟩
      · rename_i h1 h2
        exact absurd (congrArg _ (HU.out (nat_zero h1))) h2
      · go_ret
        exact ⟨retb1 HF.out, C0.out.trans (Rc.out.trans D5.out)⟩

set_option maxHeartbeats 3200000 in
set_option maxRecDepth 20000 in
theorem aluShifts_true {a m n : Nat} (ha : a < 18446744073709551616) (hm : m < 18446744073709551616) (hn : n < 18446744073709551616) (w : World) : Calls Try.prog 9 #[.bool true, .int .u64 (a : Int), .int .u64 (m : Int), .int .u64 (n : Int)] w fun e w' => e = .returned (.bool true) ∧ Calm w w' := by
  obtain ⟨M, eM⟩ : ∃ z, z = m % 64 := ⟨_, rfl⟩
  have mM : (m : Int) % 64 = (M : Int) := by omega
  have hM : M < 64 := by omega
  have lM : (M : Int) < 64 := by omega
  obtain ⟨N, eN⟩ : ∃ z, z = n % (64 - M) := ⟨_, rfl⟩
  have mN : (n : Int) % (64 - (M : Int)) = (N : Int) := by
    rw [eN, show (64 : Int) - (M : Int) = ((64 - M : Nat) : Int) by omega]
    rfl
  have hN : N < 64 - M := by rw [eN]; exact Nat.mod_lt _ (by omega)
  have hS : M + N < 64 := by omega
  obtain ⟨S, eS⟩ : ∃ z, z = M + N := ⟨_, rfl⟩
  have mS : (M : Int) + (N : Int) = (S : Int) := by omega
  have wS : IntKind.u64.wrap ((M : Int) + (N : Int)) = (S : Int) := by rw [mS]; exact wrapU64 (by omega)
  clear mS
  have l1 : M < 18446744073709551616 := by omega
  have l2 : N < 18446744073709551616 := by omega
  have l3 : S < 18446744073709551616 := by omega
  obtain ⟨A, eA⟩ : ∃ A, A = a := ⟨_, rfl⟩
  have hA : A < 2 ^ bW true := by rw [eA]; exact ha
  have hA64 : A < 18446744073709551616 := hA
  rw [← eA]
  clear eA
  obtain ⟨x96, ex96⟩ : ∃ z, z = D (bW true) 96 A M := ⟨_, rfl⟩
  have lx96 : x96 < 18446744073709551616 := by rw [ex96]; exact D_lt64 true _ _ _
  obtain ⟨y96, ey96⟩ : ∃ z, z = D (bW true) 96 A S := ⟨_, rfl⟩
  have K96 : Hid (∀ w, Calls Try.prog 12 #[.int .u8 96, .bool true, .int .u64 (A : Int), .int .u64 (M : Int)] w fun ee w' => ee = .returned (.tuple #[.int .u64 (x96 : Int), .bool true]) ∧ Calm w w') := Lib.hid fun w => by
    have h := do_c (op := 96) (a := A) (b := M) true w hA64 l1
    rw [← ex96] at h
    exact h
  have L96 : Hid (∀ w, Calls Try.prog 12 #[.int .u8 96, .bool true, .int .u64 (x96 : Int), .int .u64 (N : Int)] w fun ee w' => ee = .returned (.tuple #[.int .u64 (y96 : Int), .bool true]) ∧ Calm w w') := Lib.hid fun w => by
    have h := do_c (op := 96) (a := x96) (b := N) true w lx96 l2
    rw [show D (bW true) 96 x96 N = y96 from by rw [ex96, ey96, eS]; exact lsh_go hS] at h
    exact h
  have M96 : Hid (∀ w, Calls Try.prog 12 #[.int .u8 96, .bool true, .int .u64 (A : Int), .int .u64 (S : Int)] w fun ee w' => ee = .returned (.tuple #[.int .u64 (y96 : Int), .bool true]) ∧ Calm w w') := Lib.hid fun w => by
    have h := do_c (op := 96) (a := A) (b := S) true w hA64 l3
    rw [← ey96] at h
    exact h
  have N96 : Hid (∀ w, Calls Try.prog 12 #[.int .u8 96, .bool true, .int .u64 (A : Int), .int .u64 64] w fun ee w' => ee = .returned (.tuple #[.int .u64 (A : Int), .bool true]) ∧ Calm w w') := Lib.hid fun w => by
    have h := do_c (op := 96) (a := A) (b := 64) true w hA64 (by decide)
    rw [show D (bW true) 96 A 64 = A from lsh_all hA] at h
    exact h
  obtain ⟨x112, ex112⟩ : ∃ z, z = D (bW true) 112 A M := ⟨_, rfl⟩
  have lx112 : x112 < 18446744073709551616 := by rw [ex112]; exact D_lt64 true _ _ _
  obtain ⟨y112, ey112⟩ : ∃ z, z = D (bW true) 112 A S := ⟨_, rfl⟩
  have K112 : Hid (∀ w, Calls Try.prog 12 #[.int .u8 112, .bool true, .int .u64 (A : Int), .int .u64 (M : Int)] w fun ee w' => ee = .returned (.tuple #[.int .u64 (x112 : Int), .bool true]) ∧ Calm w w') := Lib.hid fun w => by
    have h := do_c (op := 112) (a := A) (b := M) true w hA64 l1
    rw [← ex112] at h
    exact h
  have L112 : Hid (∀ w, Calls Try.prog 12 #[.int .u8 112, .bool true, .int .u64 (x112 : Int), .int .u64 (N : Int)] w fun ee w' => ee = .returned (.tuple #[.int .u64 (y112 : Int), .bool true]) ∧ Calm w w') := Lib.hid fun w => by
    have h := do_c (op := 112) (a := x112) (b := N) true w lx112 l2
    rw [show D (bW true) 112 x112 N = y112 from by rw [ex112, ey112, eS]; exact rsh_go hS] at h
    exact h
  have M112 : Hid (∀ w, Calls Try.prog 12 #[.int .u8 112, .bool true, .int .u64 (A : Int), .int .u64 (S : Int)] w fun ee w' => ee = .returned (.tuple #[.int .u64 (y112 : Int), .bool true]) ∧ Calm w w') := Lib.hid fun w => by
    have h := do_c (op := 112) (a := A) (b := S) true w hA64 l3
    rw [← ey112] at h
    exact h
  have N112 : Hid (∀ w, Calls Try.prog 12 #[.int .u8 112, .bool true, .int .u64 (A : Int), .int .u64 64] w fun ee w' => ee = .returned (.tuple #[.int .u64 (A : Int), .bool true]) ∧ Calm w w') := Lib.hid fun w => by
    have h := do_c (op := 112) (a := A) (b := 64) true w hA64 (by decide)
    rw [show D (bW true) 112 A 64 = A from rsh_all hA] at h
    exact h
  obtain ⟨x192, ex192⟩ : ∃ z, z = D (bW true) 192 A M := ⟨_, rfl⟩
  have lx192 : x192 < 18446744073709551616 := by rw [ex192]; exact D_lt64 true _ _ _
  obtain ⟨y192, ey192⟩ : ∃ z, z = D (bW true) 192 A S := ⟨_, rfl⟩
  have K192 : Hid (∀ w, Calls Try.prog 12 #[.int .u8 192, .bool true, .int .u64 (A : Int), .int .u64 (M : Int)] w fun ee w' => ee = .returned (.tuple #[.int .u64 (x192 : Int), .bool true]) ∧ Calm w w') := Lib.hid fun w => by
    have h := do_c (op := 192) (a := A) (b := M) true w hA64 l1
    rw [← ex192] at h
    exact h
  have L192 : Hid (∀ w, Calls Try.prog 12 #[.int .u8 192, .bool true, .int .u64 (x192 : Int), .int .u64 (N : Int)] w fun ee w' => ee = .returned (.tuple #[.int .u64 (y192 : Int), .bool true]) ∧ Calm w w') := Lib.hid fun w => by
    have h := do_c (op := 192) (a := x192) (b := N) true w lx192 l2
    rw [show D (bW true) 192 x192 N = y192 from by rw [ex192, ey192, eS]; exact arsh_go hS] at h
    exact h
  have M192 : Hid (∀ w, Calls Try.prog 12 #[.int .u8 192, .bool true, .int .u64 (A : Int), .int .u64 (S : Int)] w fun ee w' => ee = .returned (.tuple #[.int .u64 (y192 : Int), .bool true]) ∧ Calm w w') := Lib.hid fun w => by
    have h := do_c (op := 192) (a := A) (b := S) true w hA64 l3
    rw [← ey192] at h
    exact h
  have N192 : Hid (∀ w, Calls Try.prog 12 #[.int .u8 192, .bool true, .int .u64 (A : Int), .int .u64 64] w fun ee w' => ee = .returned (.tuple #[.int .u64 (A : Int), .bool true]) ∧ Calm w w') := Lib.hid fun w => by
    have h := do_c (op := 192) (a := A) (b := 64) true w hA64 (by decide)
    rw [show D (bW true) 192 A 64 = A from arsh_all hA] at h
    exact h
  obtain ⟨b, eb⟩ : ∃ z, z = D (bW true) 96 x112 M := ⟨_, rfl⟩
  have lb : b < 18446744073709551616 := by rw [eb]; exact D_lt64 true _ _ _
  obtain ⟨f, ef⟩ : ∃ z, z = D (bW true) 160 A b := ⟨_, rfl⟩
  obtain ⟨u, eu⟩ : ∃ z, z = D (bW true) 112 x96 M := ⟨_, rfl⟩
  have U1 : Hid (∀ w, Calls Try.prog 12 #[.int .u8 112, .bool true, .int .u64 (x96 : Int), .int .u64 (M : Int)] w fun ee w' => ee = .returned (.tuple #[.int .u64 (u : Int), .bool true]) ∧ Calm w w') := Lib.hid fun w => by
    have h := do_c (op := 112) (a := x96) (b := M) true w lx96 l1
    rw [← eu] at h
    exact h
  have U2 : Hid (∀ w, Calls Try.prog 12 #[.int .u8 96, .bool true, .int .u64 (x112 : Int), .int .u64 (M : Int)] w fun ee w' => ee = .returned (.tuple #[.int .u64 (b : Int), .bool true]) ∧ Calm w w') := Lib.hid fun w => by
    have h := do_c (op := 96) (a := x112) (b := M) true w lx112 l1
    rw [← eb] at h
    exact h
  have U3 : Hid (∀ w, Calls Try.prog 12 #[.int .u8 160, .bool true, .int .u64 (A : Int), .int .u64 (b : Int)] w fun ee w' => ee = .returned (.tuple #[.int .u64 (f : Int), .bool true]) ∧ Calm w w') := Lib.hid fun w => by
    have h := do_c (op := 160) (a := A) (b := b) true w hA64 lb
    rw [← ef] at h
    exact h
  have hf : f < 2 ^ M := by rw [ef, eb, ex112]; exact left_low hA hM
  have hu : A / 2 ^ (64 - M - 1) / 2 = 0 → u = A := fun h => by rw [eu, ex96]; exact down_up hA hM h
  have HF : Hid (decide ((f : Int) < IntKind.u64.wrap (2 ^ M)) = true) := Lib.hid (by
    have hp : 2 ^ M < 18446744073709551616 := Nat.lt_of_lt_of_le (Nat.pow_lt_pow_right (by decide) hM) (by decide)
    rw [pow_cast, wrapU64 hp]
    exact decide_eq_true (by omega))
  have HU := Lib.hid hu
  have HM := Lib.hid hM
  clear hf hu hM ha hm hn eM eN eS hN hS l1 l2 l3 hA hA64 eb ef eu lb ex96 ey96 lx96 ex112 ey112 lx112 ex192 ey192 lx192
  go_enter Try.func9, Try.ntmps9
  go_wp2_with fail
  refine (shown7_c _).mono ?_
  rintro x w0 ⟨rfl, hc⟩
  have C0 := Lib.hid hc
  clear hc
  have Ro : Hid (Row (w0.alloc (.cells #[.int .u8 96, .int .u8 112, .int .u8 192] 5)) w0.heap.size 5 #[.int .u8 96, .int .u8 112, .int .u8 192]) := Lib.hid (Row.made w0 _ _)
  have Rc : Hid (Calm w0 (w0.alloc (.cells #[.int .u8 96, .int .u8 112, .int .u8 192] 5))) := Lib.hid ((Keep.refl _ w0).alloc _)
  go_wp2_with fail
  rw [mM, mN]
  have LM := Lib.hid lM
  clear lM mM mN
  obtain ⟨wB, hB⟩ : ∃ x, x = w0.alloc (.cells #[.int .u8 96, .int .u8 112, .int .u8 192] 5) := ⟨_, rfl⟩
  rw [← hB] at Ro Rc ⊢
  clear hB
  go_loopw [43] (fun i wr => ∃ k : Nat, k ≤ 3 ∧ i = .int .i64 k ∧ Calm wB wr) (fun i _ => 3 - (intOf i).toNat)
  case atStart => exact ⟨0, by omega, rfl, Keep.refl _ _⟩
  case round =>
    obtain ⟨k, hk, rfl, hcal⟩ := hrel
    have HC := Lib.hid hcal
    clear hcal
    have hk4 : k = 0 ∨ k = 1 ∨ k = 2 ∨ k = 3 := by omega
    clear hk
    rcases hk4 with rfl | rfl | rfl | rfl
    · have c0 : wr.cell? ⟨w0.heap.size, 0, none⟩ = _ := (Ro.out.keep HC.out (fun e => e)).cell 0
      simp only [List.getElem?_toArray, List.getElem?_cons_zero, List.getElem?_cons_succ] at c0
      go_wp2_with fail
      clear c0
      refine (K96.out _).mono ?_
      rintro x w1 ⟨rfl, hc⟩
      have D1 := Lib.hid (HC.out.trans hc)
      clear hc
      go_wp2_with fail
      refine (L96.out _).mono ?_
      rintro x w2 ⟨rfl, hc⟩
      have D2 := Lib.hid (D1.out.trans hc)
      clear hc
      go_wp2_with fail
      refine (M96.out _).mono ?_
      rintro x w3 ⟨rfl, hc⟩
      have D3 := Lib.hid (D2.out.trans hc)
      clear hc
      go_wp2_with fail
      refine (N96.out _).mono ?_
      rintro x w4 ⟨rfl, hc⟩
      have D4 := Lib.hid (D3.out.trans hc)
      clear hc
      go_wp2_with fail
      go_roundw
      case rel => exact ⟨1, by omega, by go_num, D4.out⟩
      case measure => simp [intOf]
    · have c0 : wr.cell? ⟨w0.heap.size, 1, none⟩ = _ := (Ro.out.keep HC.out (fun e => e)).cell 1
      simp only [List.getElem?_toArray, List.getElem?_cons_zero, List.getElem?_cons_succ] at c0
      go_wp2_with fail
      clear c0
      refine (K112.out _).mono ?_
      rintro x w1 ⟨rfl, hc⟩
      have D1 := Lib.hid (HC.out.trans hc)
      clear hc
      go_wp2_with fail
      refine (L112.out _).mono ?_
      rintro x w2 ⟨rfl, hc⟩
      have D2 := Lib.hid (D1.out.trans hc)
      clear hc
      go_wp2_with fail
      refine (M112.out _).mono ?_
      rintro x w3 ⟨rfl, hc⟩
      have D3 := Lib.hid (D2.out.trans hc)
      clear hc
      go_wp2_with fail
      refine (N112.out _).mono ?_
      rintro x w4 ⟨rfl, hc⟩
      have D4 := Lib.hid (D3.out.trans hc)
      clear hc
      go_wp2_with fail
      go_roundw
      case rel => exact ⟨2, by omega, by go_num, D4.out⟩
      case measure => simp [intOf]
    · have c0 : wr.cell? ⟨w0.heap.size, 2, none⟩ = _ := (Ro.out.keep HC.out (fun e => e)).cell 2
      simp only [List.getElem?_toArray, List.getElem?_cons_zero, List.getElem?_cons_succ] at c0
      go_wp2_with fail
      clear c0
      refine (K192.out _).mono ?_
      rintro x w1 ⟨rfl, hc⟩
      have D1 := Lib.hid (HC.out.trans hc)
      clear hc
      go_wp2_with fail
      refine (L192.out _).mono ?_
      rintro x w2 ⟨rfl, hc⟩
      have D2 := Lib.hid (D1.out.trans hc)
      clear hc
      go_wp2_with fail
      refine (M192.out _).mono ?_
      rintro x w3 ⟨rfl, hc⟩
      have D3 := Lib.hid (D2.out.trans hc)
      clear hc
      go_wp2_with fail
      refine (N192.out _).mono ?_
      rintro x w4 ⟨rfl, hc⟩
      have D4 := Lib.hid (D3.out.trans hc)
      clear hc
      go_wp2_with fail
      go_roundw
      case rel => exact ⟨3, by omega, by go_num, D4.out⟩
      case measure => simp [intOf]
    · have lM := LM.out
      go_wp2_with fail
      refine (K96.out _).mono ?_
      rintro x w1 ⟨rfl, hc⟩
      have D1 := Lib.hid (HC.out.trans hc)
      clear hc
      go_wp2_with fail
      refine (U1.out _).mono ?_
      rintro x w2 ⟨rfl, hc⟩
      have D2 := Lib.hid (D1.out.trans hc)
      clear hc
      go_wp2_with fail
      refine (K112.out _).mono ?_
      rintro x w3 ⟨rfl, hc⟩
      have D3 := Lib.hid (D2.out.trans hc)
      clear hc
      go_wp2_with fail
      refine (U2.out _).mono ?_
      rintro x w4 ⟨rfl, hc⟩
      have D4 := Lib.hid (D3.out.trans hc)
      clear hc
      go_wp2_with fail
      refine (U3.out _).mono ?_
      rintro x w5 ⟨rfl, hc⟩
      have D5 := Lib.hid (D4.out.trans hc)
      clear hc
      go_wp2_with fail
      · go_ret
        exact ⟨retb1 HF.out, C0.out.trans (Rc.out.trans D5.out)⟩
      · rename_i h1 h2
        exact absurd (congrArg _ (HU.out (nat_zero h1))) h2
      · go_ret
        exact ⟨retb1 HF.out, C0.out.trans (Rc.out.trans D5.out)⟩

theorem aluShifts_w (wide : Bool) {a m n : Nat} (ha : a < 18446744073709551616) (hm : m < 18446744073709551616) (hn : n < 18446744073709551616) (w : World) : Calls Try.prog 9 #[.bool wide, .int .u64 (a : Int), .int .u64 (m : Int), .int .u64 (n : Int)] w fun e w' => e = .returned (.bool true) ∧ Calm w w' := by
  cases wide
  · exact aluShifts_false ha hm hn w
  · exact aluShifts_true ha hm hn w
end Go.Proofs.Ytilkmopclijclaa