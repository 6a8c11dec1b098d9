/-
  What is shown ahead of each statement on spans, and what they draw their spans by.
-/
import Derived.Test.YtboiakahhkihiaaN6
import Derived.Test.YtboiakahhkihiaaN7
namespace Go.Proofs.Ytboiakahhkihiaa
open Go.RowKit
set_option linter.all false

/-- A span that a law made for itself lies in block g. -/
def At (w : World) (g : Nat) (s : Sp) : Prop := Row w g 27 #[.int .u64 (s.lo : Int), .int .u64 (s.hi : Int)]
theorem At.calm {w w' : World} {g : Nat} {s : Sp} (h : At w g s) (hc : Calm w w') : At w' g s := Row.keep h hc (fun e => e)
theorem At.two {w : World} {g : Nat} {s : Sp} (h : At w g s) : w.cell? ⟨g, 0, none⟩ = some (.int .u64 (s.lo : Int)) ∧ w.cell? ⟨g, 1, none⟩ = some (.int .u64 (s.hi : Int)) ∧ w.frozen? ⟨g, 0, none⟩ = false ∧ w.frozen? ⟨g, 1, none⟩ = false := Row.two h

/-- Four numbers lie in block g. -/
def Af (w : World) (g a b c d : Nat) : Prop := Row w g 24 #[.int .u64 (a : Int), .int .u64 (b : Int), .int .u64 (c : Int), .int .u64 (d : Int)]
theorem Af.calm {w w' : World} {g a b c d : Nat} (h : Af w g a b c d) (hc : Calm w w') : Af w' g a b c d := Row.keep h hc (fun e => e)
theorem Af.four {w : World} {g a b c d : Nat} (h : Af w g a b c d) : w.cell? ⟨g, 0, none⟩ = some (.int .u64 (a : Int)) ∧ w.cell? ⟨g, 1, none⟩ = some (.int .u64 (b : Int)) ∧ w.cell? ⟨g, 2, none⟩ = some (.int .u64 (c : Int)) ∧ w.cell? ⟨g, 3, none⟩ = some (.int .u64 (d : Int)) := ⟨Row.cell h 0, Row.cell h 1, Row.cell h 2, Row.cell h 3⟩

theorem At.lt {w : World} {g : Nat} {s : Sp} (h : At w g s) : g < w.heap.size := Row.lt (t := 27) (cs := #[.int .u64 (s.lo : Int), .int .u64 (s.hi : Int)]) h
theorem Af.lt {w : World} {g a b c d : Nat} (h : Af w g a b c d) : g < w.heap.size := Row.lt (t := 24) (cs := #[.int .u64 (a : Int), .int .u64 (b : Int), .int .u64 (c : Int), .int .u64 (d : Int)]) h
/-- A span is laid where another one lay. -/
theorem At.both {w : World} {g : Nat} {s : Sp} (h : At w g s) (s' : Sp) : At ((w.setCell ⟨g, 0, none⟩ (.int .u64 (s'.lo : Int))).setCell ⟨g, 1, none⟩ (.int .u64 (s'.hi : Int))) g s' := Row.both h
theorem At.aside {w : World} {g g' : Nat} {s : Sp} (h : At w g s) (hn : g ≠ g') (x y : Value) : At ((w.setCell ⟨g', 0, none⟩ x).setCell ⟨g', 1, none⟩ y) g s := Row.aside h hn x y
theorem Af.aside {w : World} {g g' a b c d : Nat} (h : Af w g a b c d) (hn : g ≠ g') (x y : Value) : Af ((w.setCell ⟨g', 0, none⟩ x).setCell ⟨g', 1, none⟩ y) g a b c d := Row.aside h hn x y

set_option maxHeartbeats 1600000 in
theorem shown8_c (w : World) : Calls Try.prog 11 #[] w fun x w' => x = .returned (.bool true) ∧ Calm w w' := by
  have K1 : Hid (∀ w, Calls Try.prog 14 #[.int .u8 0, .bool true, .agg #[.int .u64 0, .int .u64 9], .agg #[.int .u64 1, .int .u64 2]] w fun x w' => x = .returned (.agg #[.int .u64 1, .int .u64 11]) ∧ Calm w w') := Lib.hid fun w => by
    have k := pdo_c (s := ⟨0, 9⟩) (t := ⟨1, 2⟩) (op := 0) true ⟨by decide, by decide⟩ ⟨by decide, by decide⟩ w
    rw [show doS true 0 ⟨0, 9⟩ ⟨1, 2⟩ = ⟨1, 11⟩ by decide +kernel] at k
    exact k
  have K2 : Hid (∀ w, Calls Try.prog 16 #[.int .u8 32, .agg #[.int .u64 0, .int .u64 18446744073709551615], .agg #[.int .u64 4, .int .u64 4]] w fun x w' => x = .returned (.tuple #[.agg #[.int .u64 5, .int .u64 18446744073709551615], .bool true]) ∧ Calm w w') := Lib.hid fun w => by
    have k := pwhere_c (s := ⟨0, 18446744073709551615⟩) (t := ⟨4, 4⟩) (op := 32) w ⟨by decide, by decide⟩ ⟨by decide, by decide⟩
    rw [show whereS 32 ⟨0, 18446744073709551615⟩ ⟨4, 4⟩ = (⟨5, 18446744073709551615⟩, true) by decide +kernel] at k
    exact k
  have K3 : Hid (∀ w, Calls Try.prog 16 #[.int .u8 160, .agg #[.int .u64 3, .int .u64 3], .agg #[.int .u64 3, .int .u64 3]] w fun x w' => x = .returned (.tuple #[.agg #[.int .u64 0, .int .u64 0], .bool false]) ∧ Calm w w') := Lib.hid fun w => by
    have k := pwhere_c (s := ⟨3, 3⟩) (t := ⟨3, 3⟩) (op := 160) w ⟨by decide, by decide⟩ ⟨by decide, by decide⟩
    rw [show whereS 160 ⟨3, 3⟩ ⟨3, 3⟩ = (⟨0, 0⟩, false) by decide +kernel] at k
    exact k
  have P4 : Hid (∀ w, Calls Try.prog 22 #[.int .u64 4] w fun x w' => x = .returned (.agg #[.int .u64 4, .int .u64 4]) ∧ w' = w.alloc (.cells #[.int .u64 4, .int .u64 4] 27)) := Lib.hid fun w => pone_c 4 w
  have P3 : Hid (∀ w, Calls Try.prog 22 #[.int .u64 3] w fun x w' => x = .returned (.agg #[.int .u64 3, .int .u64 3]) ∧ w' = w.alloc (.cells #[.int .u64 3, .int .u64 3] 27)) := Lib.hid fun w => pone_c 3 w
  have H3 : Hid (∀ w, Calls Try.prog 26 #[.agg #[.int .u64 3, .int .u64 3], .int .u64 3] w fun x w' => x = .returned (.bool true) ∧ Calm w w') := Lib.hid fun w => phas_c ⟨3, 3⟩ 3 w
  have H4 : Hid (∀ w, Calls Try.prog 26 #[.agg #[.int .u64 3, .int .u64 3], .int .u64 4] w fun x w' => x = .returned (.bool false) ∧ Calm w w') := Lib.hid fun w => phas_c ⟨3, 3⟩ 4 w
  go_enter Try.func11, Try.ntmps11
  go_wp2_with fail
  have E := Lib.hid (show Calm w w from Keep.refl _ _)
  refine (K1.out _).mono ?_
  rintro ze w1 ⟨rfl, hc⟩
  replace E := Lib.hid (show Calm w w1 from E.out.trans (hc))
  clear hc
  go_upto_region 2 with fail
  have hC : Calm w1 (w1.alloc (.cells #[.int .u64 1, .int .u64 11] 27)) := (Keep.refl _ _).alloc _
  have hA : At (w1.alloc (.cells #[.int .u64 1, .int .u64 11] 27)) w1.heap.size ⟨1, 11⟩ := Row.made w1 _ _
  have hO : w.heap.size ≤ w1.heap.size := E.out.size
  obtain ⟨g1, hg1⟩ : ∃ zg, zg = w1.heap.size := ⟨_, rfl⟩
  obtain ⟨w2, hw2⟩ : ∃ zz, zz = w1.alloc (.cells #[.int .u64 1, .int .u64 11] 27) := ⟨_, rfl⟩
  replace hO : w.heap.size ≤ g1 := by rw [hg1]; exact hO
  rw [← hg1] at hA ⊢
  rw [← hw2] at hA hC ⊢
  clear hg1 hw2
  have O1 := Lib.hid hO
  clear hO
  replace E := Lib.hid (show Calm w w2 from E.out.trans (hC))
  replace E := Lib.hid (show Calm w w2 ∧ At w2 g1 ⟨1, 11⟩ from ⟨E.out, hA⟩)
  clear hC hA
  obtain ⟨g1_0, g1_1, g1_2, g1_3⟩ := At.two (E.out.2)
  go_wp2_with fail
  clear g1_0 g1_1 g1_2 g1_3
  refine (pall_c _).mono ?_
  rintro ze w3 ⟨rfl, hc⟩
  replace hc : Calm w2 w3 := by rw [hc]; exact (Keep.refl _ _).alloc _
  replace E := Lib.hid (show Calm w w3 ∧ At w3 g1 ⟨1, 11⟩ from ⟨E.out.1.trans (hc), At.calm (E.out.2) (hc)⟩)
  clear hc
  obtain ⟨g1_0, g1_1, g1_2, g1_3⟩ := At.two (E.out.2)
  go_wp2_with fail
  clear g1_0 g1_1 g1_2 g1_3
  refine (P4.out _).mono ?_
  rintro ze w4 ⟨rfl, hc⟩
  replace hc : Calm w3 w4 := by rw [hc]; exact (Keep.refl _ _).alloc _
  replace E := Lib.hid (show Calm w w4 ∧ At w4 g1 ⟨1, 11⟩ from ⟨E.out.1.trans (hc), At.calm (E.out.2) (hc)⟩)
  clear hc
  obtain ⟨g1_0, g1_1, g1_2, g1_3⟩ := At.two (E.out.2)
  go_wp2_with fail
  clear g1_0 g1_1 g1_2 g1_3
  refine (K2.out _).mono ?_
  rintro ze w5 ⟨rfl, hc⟩
  replace E := Lib.hid (show Calm w w5 ∧ At w5 g1 ⟨1, 11⟩ from ⟨E.out.1.trans (hc), At.calm (E.out.2) (hc)⟩)
  clear hc
  obtain ⟨g1_0, g1_1, g1_2, g1_3⟩ := At.two (E.out.2)
  go_upto_region 3 with fail
  clear g1_0 g1_1 g1_2 g1_3
  have hC : Calm w5 (w5.alloc (.cells #[.int .u64 5, .int .u64 18446744073709551615] 27)) := (Keep.refl _ _).alloc _
  have hA : At (w5.alloc (.cells #[.int .u64 5, .int .u64 18446744073709551615] 27)) w5.heap.size ⟨5, 18446744073709551615⟩ := Row.made w5 _ _
  have hO : w.heap.size ≤ w5.heap.size ∧ g1 < w5.heap.size := ⟨E.out.1.size, At.lt (E.out.2)⟩
  obtain ⟨g2, hg2⟩ : ∃ zg, zg = w5.heap.size := ⟨_, rfl⟩
  obtain ⟨w6, hw6⟩ : ∃ zz, zz = w5.alloc (.cells #[.int .u64 5, .int .u64 18446744073709551615] 27) := ⟨_, rfl⟩
  replace hO : w.heap.size ≤ g2 ∧ g1 < g2 := by rw [hg2]; exact hO
  rw [← hg2] at hA ⊢
  rw [← hw6] at hA hC ⊢
  clear hg2 hw6
  have O2 := Lib.hid hO
  clear hO
  replace E := Lib.hid (show Calm w w6 ∧ At w6 g1 ⟨1, 11⟩ from ⟨E.out.1.trans (hC), At.calm (E.out.2) (hC)⟩)
  replace E := Lib.hid (show Calm w w6 ∧ At w6 g1 ⟨1, 11⟩ ∧ At w6 g2 ⟨5, 18446744073709551615⟩ from ⟨E.out.1, E.out.2, hA⟩)
  clear hC hA
  obtain ⟨g1_0, g1_1, g1_2, g1_3⟩ := At.two (E.out.2.1)
  obtain ⟨g2_0, g2_1, g2_2, g2_3⟩ := At.two (E.out.2.2)
  go_wp2_with fail
  clear g1_0 g1_1 g1_2 g1_3 g2_0 g2_1 g2_2 g2_3
  refine (P3.out _).mono ?_
  rintro ze w7 ⟨rfl, hc⟩
  replace hc : Calm w6 w7 := by rw [hc]; exact (Keep.refl _ _).alloc _
  replace E := Lib.hid (show Calm w w7 ∧ At w7 g1 ⟨1, 11⟩ ∧ At w7 g2 ⟨5, 18446744073709551615⟩ from ⟨E.out.1.trans (hc), At.calm (E.out.2.1) (hc), At.calm (E.out.2.2) (hc)⟩)
  clear hc
  obtain ⟨g1_0, g1_1, g1_2, g1_3⟩ := At.two (E.out.2.1)
  obtain ⟨g2_0, g2_1, g2_2, g2_3⟩ := At.two (E.out.2.2)
  go_wp2_with fail
  clear g1_0 g1_1 g1_2 g1_3 g2_0 g2_1 g2_2 g2_3
  refine (P3.out _).mono ?_
  rintro ze w8 ⟨rfl, hc⟩
  replace hc : Calm w7 w8 := by rw [hc]; exact (Keep.refl _ _).alloc _
  replace E := Lib.hid (show Calm w w8 ∧ At w8 g1 ⟨1, 11⟩ ∧ At w8 g2 ⟨5, 18446744073709551615⟩ from ⟨E.out.1.trans (hc), At.calm (E.out.2.1) (hc), At.calm (E.out.2.2) (hc)⟩)
  clear hc
  obtain ⟨g1_0, g1_1, g1_2, g1_3⟩ := At.two (E.out.2.1)
  obtain ⟨g2_0, g2_1, g2_2, g2_3⟩ := At.two (E.out.2.2)
  go_wp2_with fail
  clear g1_0 g1_1 g1_2 g1_3 g2_0 g2_1 g2_2 g2_3
  refine (K3.out _).mono ?_
  rintro ze w9 ⟨rfl, hc⟩
  replace E := Lib.hid (show Calm w w9 ∧ At w9 g1 ⟨1, 11⟩ ∧ At w9 g2 ⟨5, 18446744073709551615⟩ from ⟨E.out.1.trans (hc), At.calm (E.out.2.1) (hc), At.calm (E.out.2.2) (hc)⟩)
  clear hc
  obtain ⟨g1_0, g1_1, g1_2, g1_3⟩ := At.two (E.out.2.1)
  obtain ⟨g2_0, g2_1, g2_2, g2_3⟩ := At.two (E.out.2.2)
  go_upto_region 4 with fail
  clear g1_0 g1_1 g1_2 g1_3 g2_0 g2_1 g2_2 g2_3
  have hC : Calm w9 (w9.alloc (.cells #[.int .u64 0, .int .u64 0] 27)) := (Keep.refl _ _).alloc _
  have hA : At (w9.alloc (.cells #[.int .u64 0, .int .u64 0] 27)) w9.heap.size ⟨0, 0⟩ := Row.made w9 _ _
  have hO : w.heap.size ≤ w9.heap.size ∧ g1 < w9.heap.size ∧ g2 < w9.heap.size := ⟨E.out.1.size, At.lt (E.out.2.1), At.lt (E.out.2.2)⟩
  obtain ⟨g3, hg3⟩ : ∃ zg, zg = w9.heap.size := ⟨_, rfl⟩
  obtain ⟨w10, hw10⟩ : ∃ zz, zz = w9.alloc (.cells #[.int .u64 0, .int .u64 0] 27) := ⟨_, rfl⟩
  replace hO : w.heap.size ≤ g3 ∧ g1 < g3 ∧ g2 < g3 := by rw [hg3]; exact hO
  rw [← hg3] at hA ⊢
  rw [← hw10] at hA hC ⊢
  clear hg3 hw10
  have O3 := Lib.hid hO
  clear hO
  replace E := Lib.hid (show Calm w w10 ∧ At w10 g1 ⟨1, 11⟩ ∧ At w10 g2 ⟨5, 18446744073709551615⟩ from ⟨E.out.1.trans (hC), At.calm (E.out.2.1) (hC), At.calm (E.out.2.2) (hC)⟩)
  replace E := Lib.hid (show Calm w w10 ∧ At w10 g1 ⟨1, 11⟩ ∧ At w10 g2 ⟨5, 18446744073709551615⟩ ∧ At w10 g3 ⟨0, 0⟩ from ⟨E.out.1, E.out.2.1, E.out.2.2, hA⟩)
  clear hC hA
  obtain ⟨g1_0, g1_1, g1_2, g1_3⟩ := At.two (E.out.2.1)
  obtain ⟨g2_0, g2_1, g2_2, g2_3⟩ := At.two (E.out.2.2.1)
  obtain ⟨g3_0, g3_1, g3_2, g3_3⟩ := At.two (E.out.2.2.2)
  go_wp2_with fail
  clear g1_0 g1_1 g1_2 g1_3 g2_0 g2_1 g2_2 g2_3 g3_0 g3_1 g3_2 g3_3
  refine (P3.out _).mono ?_
  rintro ze w11 ⟨rfl, hc⟩
  replace hc : Calm w10 w11 := by rw [hc]; exact (Keep.refl _ _).alloc _
  replace E := Lib.hid (show Calm w w11 ∧ At w11 g1 ⟨1, 11⟩ ∧ At w11 g2 ⟨5, 18446744073709551615⟩ ∧ At w11 g3 ⟨0, 0⟩ from ⟨E.out.1.trans (hc), At.calm (E.out.2.1) (hc), At.calm (E.out.2.2.1) (hc), At.calm (E.out.2.2.2) (hc)⟩)
  clear hc
  obtain ⟨g1_0, g1_1, g1_2, g1_3⟩ := At.two (E.out.2.1)
  obtain ⟨g2_0, g2_1, g2_2, g2_3⟩ := At.two (E.out.2.2.1)
  obtain ⟨g3_0, g3_1, g3_2, g3_3⟩ := At.two (E.out.2.2.2)
  go_wp2_with fail
  clear g1_0 g1_1 g1_2 g1_3 g2_0 g2_1 g2_2 g2_3 g3_0 g3_1 g3_2 g3_3
  refine (H3.out _).mono ?_
  rintro ze w12 ⟨rfl, hc⟩
  replace E := Lib.hid (show Calm w w12 ∧ At w12 g1 ⟨1, 11⟩ ∧ At w12 g2 ⟨5, 18446744073709551615⟩ ∧ At w12 g3 ⟨0, 0⟩ from ⟨E.out.1.trans (hc), At.calm (E.out.2.1) (hc), At.calm (E.out.2.2.1) (hc), At.calm (E.out.2.2.2) (hc)⟩)
  clear hc
  obtain ⟨g1_0, g1_1, g1_2, g1_3⟩ := At.two (E.out.2.1)
  obtain ⟨g2_0, g2_1, g2_2, g2_3⟩ := At.two (E.out.2.2.1)
  obtain ⟨g3_0, g3_1, g3_2, g3_3⟩ := At.two (E.out.2.2.2)
  go_wp2_with fail
  clear g1_0 g1_1 g1_2 g1_3 g2_0 g2_1 g2_2 g2_3 g3_0 g3_1 g3_2 g3_3
  refine (P3.out _).mono ?_
  rintro ze w13 ⟨rfl, hc⟩
  replace hc : Calm w12 w13 := by rw [hc]; exact (Keep.refl _ _).alloc _
  replace E := Lib.hid (show Calm w w13 ∧ At w13 g1 ⟨1, 11⟩ ∧ At w13 g2 ⟨5, 18446744073709551615⟩ ∧ At w13 g3 ⟨0, 0⟩ from ⟨E.out.1.trans (hc), At.calm (E.out.2.1) (hc), At.calm (E.out.2.2.1) (hc), At.calm (E.out.2.2.2) (hc)⟩)
  clear hc
  obtain ⟨g1_0, g1_1, g1_2, g1_3⟩ := At.two (E.out.2.1)
  obtain ⟨g2_0, g2_1, g2_2, g2_3⟩ := At.two (E.out.2.2.1)
  obtain ⟨g3_0, g3_1, g3_2, g3_3⟩ := At.two (E.out.2.2.2)
  go_wp2_with fail
  clear g1_0 g1_1 g1_2 g1_3 g2_0 g2_1 g2_2 g2_3 g3_0 g3_1 g3_2 g3_3
  refine (H4.out _).mono ?_
  rintro ze w14 ⟨rfl, hc⟩
  replace E := Lib.hid (show Calm w w14 ∧ At w14 g1 ⟨1, 11⟩ ∧ At w14 g2 ⟨5, 18446744073709551615⟩ ∧ At w14 g3 ⟨0, 0⟩ from ⟨E.out.1.trans (hc), At.calm (E.out.2.1) (hc), At.calm (E.out.2.2.1) (hc), At.calm (E.out.2.2.2) (hc)⟩)
  clear hc
  obtain ⟨g1_0, g1_1, g1_2, g1_3⟩ := At.two (E.out.2.1)
  obtain ⟨g2_0, g2_1, g2_2, g2_3⟩ := At.two (E.out.2.2.1)
  obtain ⟨g3_0, g3_1, g3_2, g3_3⟩ := At.two (E.out.2.2.2)
  go_wp2_with fail
  clear g1_0 g1_1 g1_2 g1_3 g2_0 g2_1 g2_2 g2_3 g3_0 g3_1 g3_2 g3_3
  go_returns
  exact ⟨rfl, E.out.1⟩
end Go.Proofs.Ytboiakahhkihiaa
