/-
  Contracts of the reference of layer 5: low, One.
-/
import Derived.Test.YtohnemcdldpgaaaI6
namespace Go.Proofs.Ytohnemcdldpgaaa
open Go.RowKit
set_option linter.all false

/-- Bytes as a number, the lowest first. -/
def leN : List UInt8 → Nat
  | [] => 0
  | b :: r => b.toNat + 256 * leN r
theorem leN_lt : ∀ l : List UInt8, l.length ≤ 4 → leN l < 4294967296
  | [], _ => by decide
  | [a], _ => by have := a.toNat_lt; simp only [leN]; omega
  | [a, b], _ => by have := a.toNat_lt; have := b.toNat_lt; simp only [leN]; omega
  | [a, b, c], _ => by have := a.toNat_lt; have := b.toNat_lt; have := c.toNat_lt; simp only [leN]; omega
  | [a, b, c, d], _ => by have := a.toNat_lt; have := b.toNat_lt; have := c.toNat_lt; have := d.toNat_lt; simp only [leN]; omega
  | a :: b :: c :: d :: e :: r, h => by simp at h
set_option maxHeartbeats 1600000 in
theorem rlow_c (s : ByteArray) (w : World) (hs : s.size ≤ 4) : Calls Try.prog 37 #[.string s] w fun e w' => e = .returned (.int .i64 (leN s.data.toList : Int)) ∧ w = w' := by
  have i0 : (s.size : Int) ≤ 4 := by omega
  go_enter Try.func37, Try.ntmps37
  go_wp2_with fail
  go_loopw [3, 4] (fun n i wr => ∃ j : Nat, j ≤ s.size ∧ i = .int .i64 ((j : Int) - 1) ∧ n = .int .i64 (leN (s.data.toList.drop j) : Int) ∧ w = wr) (fun _ i _ => (intOf i + 1).toNat)
  case atStart => exact ⟨s.size, Nat.le_refl _, rfl, by rw [List.drop_eq_nil_of_le (by simp)]; rfl, rfl⟩
  case round =>
    obtain ⟨j, hj, rfl, rfl, rfl⟩ := hrel
    cases j with
    | zero =>
      rw [List.drop_zero]
      have hz : (((0 : Nat) : Int) - 1) = -1 := rfl
      rw [hz]
      clear hz
      go_wp2_with fail
      go_ret
      exact ⟨rfl, rfl⟩
    | succ m =>
      have hz : (((m + 1 : Nat) : Int) - 1) = (m : Int) := by omega
      rw [hz]
      have hlt : m < s.size := by omega
      have hb : s.data.toList.drop m = s[m] :: s.data.toList.drop (m + 1) := by
        rw [List.drop_eq_getElem_cons (by simpa using hlt)]
        rfl
      have hle : leN (s.data.toList.drop m) = s[m].toNat + 256 * leN (s.data.toList.drop (m + 1)) := by rw [hb]; rfl
      have hl1 := leN_lt (s.data.toList.drop (m + 1)) (by rw [List.length_drop, show s.data.toList.length = s.size by simp]; omega)
      have hb8 := s[m].toNat_lt
      generalize leN (s.data.toList.drop (m + 1)) = N at hle hl1 ⊢
      have HL := Lib.hid hle
      have i1 : (m : Int) < (s.size : Int) := by omega
      have i2 : (N : Int) < 4294967296 := by omega
      have i3 : (s[m].toNat : Int) < 256 := by omega
      clear hz hb hle hl1 hb8
      go_wp2_with fail
      go_roundw
      case rel => exact ⟨m, by omega, by go_num, by rw [HL.out]; go_num, by first | rfl | trivial⟩
      case measure => simp [intOf]

section
variable (b0 b1 b2 b3 b4 b5 b6 b7 : UInt8)
def str8 : ByteArray := str [b0, b1, b2, b3, b4, b5, b6, b7]
/-- What holds in One's region. -/
structure SO (w w' : World) (g : Nat) : Prop where
  cal : Calm w w'
  row : ∃ v0 v1 v2 v3 v4, Row w' g 24 #[v0, v1, v2, v3, v4]
set_option maxRecDepth 100000 in
set_option maxHeartbeats 1600000 in
theorem one5_c (s : ByteArray) (hs : s = str [b0, b1, b2, b3, b4, b5, b6, b7]) (w : World) : Calls Try.prog 26 #[.string s] w fun x w' => x = .returned (dec1 b0 b1 b2 b3 b4 b5 b6 b7).v ∧ Calm w w' := by
  have l0 := b0.toNat_lt
  have l1 := b1.toNat_lt
  have l2 := b2.toNat_lt
  have l3 := b3.toNat_lt
  have l4 := b4.toNat_lt
  have l5 := b5.toNat_lt
  have l6 := b6.toNat_lt
  have l7 := b7.toNat_lt
  have hsz : s.size = 8 := by rw [hs]; rfl
  have g0 : s[0]'(by omega) = b0 := by subst hs; rfl
  have g1 : s[1]'(by omega) = b1 := by subst hs; rfl
  have x1 : s.extract 2 4 = str [b2, b3] := by rw [hs, str_extract]; rfl
  have x2 : s.extract 4 8 = str [b4, b5, b6, b7] := by rw [hs, str_extract]; rfl
  have L1 := Lib.hid (fun w => rlow_c (str [b2, b3]) w (by rw [str_size]; show 2 ≤ 4; decide))
  have L2 := Lib.hid (fun w => rlow_c (str [b4, b5, b6, b7]) w (by rw [str_size]; exact Nat.le_refl 4))
  obtain ⟨n1, hn1⟩ : ∃ n, n = leN [b2, b3] := ⟨_, rfl⟩
  obtain ⟨n2, hn2⟩ : ∃ n, n = leN [b4, b5, b6, b7] := ⟨_, rfl⟩
  rw [str_list, ← hn1] at L1
  rw [str_list, ← hn2] at L2
  simp only [leN] at hn1 hn2
  have m1 : (n1 : Int) < 65536 := by omega
  have m2 : (n2 : Int) < 4294967296 := by omega
  obtain ⟨OF, hOF⟩ : ∃ z : Int, z = s16 n1 := ⟨_, rfl⟩
  obtain ⟨IM, hIM⟩ : ∃ z : Int, z = s32 n2 := ⟨_, rfl⟩
  have HV : Hid ((dec1 b0 b1 b2 b3 b4 b5 b6 b7).v = .agg #[.int .u8 (b0.toNat : Int), .int .u8 ((b1.toNat : Int) % 16), .int .u8 ((b1.toNat : Int) / 16), .int .i16 OF, .int .i32 IM]) := Lib.hid (by
    unfold In.v dec1
    have e1 : b2.toNat + 256 * b3.toNat = n1 := by omega
    have e2 : b4.toNat + 256 * b5.toNat + 65536 * b6.toNat + 16777216 * b7.toNat = n2 := by omega
    simp only [e1, e2, ← hOF, ← hIM]
    rfl)
  have a1 := (op_bits ⟨b1.toNat, by omega⟩).2.2.2.2
  simp only at a1
  have a1 : bits .and .u8 (b1.toNat : Int) 15 = (b1.toNat : Int) % 16 := by rw [a1]; omega
  have HS : Hid (SO w (w.alloc (.cells #[.int .u8 0, .int .u8 0, .int .u8 0, .int .i16 0, .int .i32 0] 24)) w.heap.size) := Lib.hid ⟨(Keep.refl _ w).alloc _, ⟨_, _, _, _, _, Row.made w _ _⟩⟩
  have k1 : ((b1.toNat : Int) / 2 ^ 4) = (b1.toNat : Int) / 16 := rfl
  have hfd : (b1.toNat : Int).fdiv 16 = (b1.toNat : Int) / 16 := Int.fdiv_eq_ediv_of_nonneg _ (by decide)
  have isz : (8 : Int) ≤ (s.size : Int) := by omega
  unfold s16 at hOF
  unfold s32 at hIM
  clear l0 l2 l3 l4 l5 l6 l7 hs hn1 hn2
  by_cases c1 : n1 < 32768
  · rw [if_pos c1] at hOF
    have c1' : decide ((32768 : Int) ≤ (n1 : Int)) = false := decide_eq_false (by omega)
    by_cases c2 : n2 < 2147483648
    · rw [if_pos c2] at hIM
      have c2' : decide ((2147483648 : Int) ≤ (n2 : Int)) = false := decide_eq_false (by omega)
      have w1 : IntKind.i16.wrap OF = OF := by rw [wrap_i16]; omega
      have w2 : IntKind.i32.wrap IM = IM := by rw [wrap_i32]; omega
      have HOF := Lib.hid hOF
      have HIM := Lib.hid hIM
      clear c1 c2 hOF hIM
      go_enter Try.func26, Try.ntmps26
      go_wp2_with fail
      refine (L1.out _).mono ?_
      rintro e wz ⟨rfl, rfl⟩
      go_wp2_with fail
      refine (L2.out _).mono ?_
      rintro e wz ⟨rfl, rfl⟩
      go_upto_region 7 with fail
      rw [← HOF.out, ← HIM.out]
      clear c1' c2' m1 m2 L1 L2 x1 x2
      obtain ⟨w1, hw1⟩ : ∃ w1, w1 = w.alloc (.cells #[.int .u8 0, .int .u8 0, .int .u8 0, .int .i16 0, .int .i32 0] 24) := ⟨_, rfl⟩
      rw [← hw1] at HS ⊢
      clear hw1
      obtain ⟨g, hg⟩ : ∃ g, g = w.heap.size := ⟨_, rfl⟩
      rw [← hg] at HS ⊢
      have HG := Lib.hid hg
      clear hg
      refine wp_region_noPanic ?_
      refine wp_region_held_drew (S := fun w' => SO w w' g) (by kernel_rfl) ⟨HS.out.cal.drew, HS.out.row⟩ (fun hHeld => ?_)
      refine take_at 0 19 (.string s) rfl rfl (by kernel_rfl) (by kernel_rfl) (by kernel_rfl) (fun _ _ _ h => h) (Or.inl ⟨by rfl, ?_⟩) hHeld ?_
      · intro w hSw; go_simp
      simp only [List.setIfInBounds_toArray, List.set_cons_zero, List.set_cons_succ]
      refine take_at 1 20 (.int .u8 (b0.toNat : Int)) rfl rfl (by kernel_rfl) (by kernel_rfl) (by kernel_rfl) (fun _ _ _ h => h) (Or.inl ⟨by rfl, ?_⟩) hHeld ?_
      · intro w hSw; go_simp
      simp only [List.setIfInBounds_toArray, List.set_cons_zero, List.set_cons_succ]
      refine take_at 2 21 (.string s) rfl rfl (by kernel_rfl) (by kernel_rfl) (by kernel_rfl) (fun _ _ _ h => h) (Or.inl ⟨by rfl, ?_⟩) hHeld ?_
      · intro w hSw; go_simp
      simp only [List.setIfInBounds_toArray, List.set_cons_zero, List.set_cons_succ]
      refine take_at 3 22 (.int .u8 (b1.toNat : Int)) rfl rfl (by kernel_rfl) (by kernel_rfl) (by kernel_rfl) (fun _ _ _ h => h) (Or.inl ⟨by rfl, ?_⟩) hHeld ?_
      · intro w hSw; go_simp
      simp only [List.setIfInBounds_toArray, List.set_cons_zero, List.set_cons_succ]
      refine take_at 4 23 (.int .u8 ((b1.toNat : Int) % 16)) rfl rfl (by kernel_rfl) (by kernel_rfl) (by kernel_rfl) (fun _ _ _ h => h) (Or.inl ⟨by rfl, ?_⟩) hHeld ?_
      · intro w hSw; go_simp
      simp only [List.setIfInBounds_toArray, List.set_cons_zero, List.set_cons_succ]
      refine take_at 5 24 (.string s) rfl rfl (by kernel_rfl) (by kernel_rfl) (by kernel_rfl) (fun _ _ _ h => h) (Or.inl ⟨by rfl, ?_⟩) hHeld ?_
      · intro w hSw; go_simp
      simp only [List.setIfInBounds_toArray, List.set_cons_zero, List.set_cons_succ]
      refine take_at 6 25 (.int .u8 (b1.toNat : Int)) rfl rfl (by kernel_rfl) (by kernel_rfl) (by kernel_rfl) (fun _ _ _ h => h) (Or.inl ⟨by rfl, ?_⟩) hHeld ?_
      · intro w hSw; go_simp
      simp only [List.setIfInBounds_toArray, List.set_cons_zero, List.set_cons_succ]
      refine take_at 7 26 (.int .u8 ((b1.toNat : Int) / 16)) rfl rfl (by kernel_rfl) (by kernel_rfl) (by kernel_rfl) (fun _ _ _ h => h) (Or.inl ⟨by rfl, ?_⟩) hHeld ?_
      · intro w hSw; go_simp
      simp only [List.setIfInBounds_toArray, List.set_cons_zero, List.set_cons_succ]
      refine take_at 8 27 (.int .i64 OF) rfl rfl (by kernel_rfl) (by kernel_rfl) (by kernel_rfl) (fun _ _ _ h => h) (Or.inl ⟨by rfl, ?_⟩) hHeld ?_
      · intro w hSw; go_simp
      simp only [List.setIfInBounds_toArray, List.set_cons_zero, List.set_cons_succ]
      refine take_at 9 28 (.int .i16 OF) rfl rfl (by kernel_rfl) (by kernel_rfl) (by kernel_rfl) (fun _ _ _ h => h) (Or.inl ⟨by rfl, ?_⟩) hHeld ?_
      · intro w hSw; go_simp
      simp only [List.setIfInBounds_toArray, List.set_cons_zero, List.set_cons_succ]
      refine take_at 10 29 (.int .i64 IM) rfl rfl (by kernel_rfl) (by kernel_rfl) (by kernel_rfl) (fun _ _ _ h => h) (Or.inl ⟨by rfl, ?_⟩) hHeld ?_
      · intro w hSw; go_simp
      simp only [List.setIfInBounds_toArray, List.set_cons_zero, List.set_cons_succ]
      refine take_at 11 30 (.int .i32 IM) rfl rfl (by kernel_rfl) (by kernel_rfl) (by kernel_rfl) (fun _ _ _ h => h) (Or.inl ⟨by rfl, ?_⟩) hHeld ?_
      · intro w hSw; go_simp
      simp only [List.setIfInBounds_toArray, List.set_cons_zero, List.set_cons_succ]
      refine take_at 12 31 (.agg #[.int .u8 (b0.toNat : Int), .int .u8 ((b1.toNat : Int) % 16), .int .u8 ((b1.toNat : Int) / 16), .int .i16 OF, .int .i32 IM]) rfl rfl (by kernel_rfl) (by kernel_rfl) (by kernel_rfl) (fun _ _ _ h => h) (Or.inl ⟨by rfl, ?_⟩) hHeld ?_
      · intro w hSw; go_simp
      simp only [List.setIfInBounds_toArray, List.set_cons_zero, List.set_cons_succ]
      obtain ⟨v0, v1, v2, v3, v4, hrow⟩ := hHeld.row
      obtain ⟨w2, hw2⟩ : ∃ w2, w2 = w1.drew := ⟨_, rfl⟩
      rw [← hw2] at hrow hHeld ⊢
      clear hw2
      have d0 : w2.cell? ⟨g, 0, none⟩ = some v0 := hrow.cell 0
      have d1 : w2.cell? ⟨g, 1, none⟩ = some v1 := hrow.cell 1
      have d2 : w2.cell? ⟨g, 2, none⟩ = some v2 := hrow.cell 2
      have d3 : w2.cell? ⟨g, 3, none⟩ = some v3 := hrow.cell 3
      have d4 : w2.cell? ⟨g, 4, none⟩ = some v4 := hrow.cell 4
      have f0 : ∀ i, w2.frozen? ⟨g, i, none⟩ = false := fun i => hrow.soft i
      refine wpAnyH_ready (rs := [13]) (by kernel_rfl) (by simp) ?_
      refine AllReadyH.cons rfl (fun K hK => ?_) AllReadyH.nil
      go_simp
      refine hK.out _ _ ⟨(Keep.store (Keep.store (Keep.store (Keep.store (Keep.store hHeld.cal (p := ⟨g, 0, none⟩) (fun e => absurd e (by show ¬ g < _; rw [HG.out]; exact Nat.lt_irrefl _)) _) (p := ⟨g, 1, none⟩) (fun e => absurd e (by show ¬ g < _; rw [HG.out]; exact Nat.lt_irrefl _)) _) (p := ⟨g, 2, none⟩) (fun e => absurd e (by show ¬ g < _; rw [HG.out]; exact Nat.lt_irrefl _)) _) (p := ⟨g, 3, none⟩) (fun e => absurd e (by show ¬ g < _; rw [HG.out]; exact Nat.lt_irrefl _)) _) (p := ⟨g, 4, none⟩) (fun e => absurd e (by show ¬ g < _; rw [HG.out]; exact Nat.lt_irrefl _)) _), ⟨_, _, _, _, _, ((((hrow.store 0 _).store 1 _).store 2 _).store 3 _).store 4 _⟩⟩ (fun hHeld => ?_)
      clear hK K
      try simp only [List.setIfInBounds_toArray, List.set_cons_zero, List.set_cons_succ]
      refine wpAnyH_done (by kernel_rfl) (NoPanic.normal ?_) _
      go_wp2_with fail
      have hR := ((((hrow.store 0 (.int .u8 (b0.toNat : Int))).store 1 (.int .u8 ((b1.toNat : Int) % 16))).store 2 (.int .u8 ((b1.toNat : Int) / 16))).store 3 (.int .i16 OF)).store 4 (.int .i32 IM)
      obtain ⟨w5, h5⟩ : ∃ w5, w5 = ((((w2.setCell ⟨g, 0, none⟩ (.int .u8 (b0.toNat : Int))).setCell ⟨g, 1, none⟩ (.int .u8 ((b1.toNat : Int) % 16))).setCell ⟨g, 2, none⟩ (.int .u8 ((b1.toNat : Int) / 16))).setCell ⟨g, 3, none⟩ (.int .i16 OF)).setCell ⟨g, 4, none⟩ (.int .i32 IM) := ⟨_, rfl⟩
      rw [← h5] at hR hHeld ⊢
      have q0 : w5.cell? ⟨g, 0, none⟩ = some (.int .u8 (b0.toNat : Int)) := hR.cell 0
      have q1 : w5.cell? ⟨g, 1, none⟩ = some (.int .u8 ((b1.toNat : Int) % 16)) := hR.cell 1
      have q2 : w5.cell? ⟨g, 2, none⟩ = some (.int .u8 ((b1.toNat : Int) / 16)) := hR.cell 2
      have q3 : w5.cell? ⟨g, 3, none⟩ = some (.int .i16 OF) := hR.cell 3
      have q4 : w5.cell? ⟨g, 4, none⟩ = some (.int .i32 IM) := hR.cell 4
      refine bodyPost_ret (by simp [results, Try.results26, go_sem, q0, q1, q2, q3, q4]; try rfl) rfl ?_
      exact ⟨by rw [HV.out], hHeld.cal⟩
    · rw [if_neg c2] at hIM
      have c2' : (2147483648 : Int) ≤ (n2 : Int) := by omega
      have w1 : IntKind.i16.wrap OF = OF := by rw [wrap_i16]; omega
      have w2 : IntKind.i32.wrap IM = IM := by rw [wrap_i32]; omega
      have HOF := Lib.hid hOF
      have HIM := Lib.hid hIM
      clear c1 c2 hOF hIM
      go_enter Try.func26, Try.ntmps26
      go_wp2_with fail
      refine (L1.out _).mono ?_
      rintro e wz ⟨rfl, rfl⟩
      go_wp2_with fail
      refine (L2.out _).mono ?_
      rintro e wz ⟨rfl, rfl⟩
      go_upto_region 7 with fail
      rw [← HOF.out, ← HIM.out]
      clear c1' c2' m1 m2 L1 L2 x1 x2
      obtain ⟨w1, hw1⟩ : ∃ w1, w1 = w.alloc (.cells #[.int .u8 0, .int .u8 0, .int .u8 0, .int .i16 0, .int .i32 0] 24) := ⟨_, rfl⟩
      rw [← hw1] at HS ⊢
      clear hw1
      obtain ⟨g, hg⟩ : ∃ g, g = w.heap.size := ⟨_, rfl⟩
      rw [← hg] at HS ⊢
      have HG := Lib.hid hg
      clear hg
      refine wp_region_noPanic ?_
      refine wp_region_held_drew (S := fun w' => SO w w' g) (by kernel_rfl) ⟨HS.out.cal.drew, HS.out.row⟩ (fun hHeld => ?_)
      refine take_at 0 19 (.string s) rfl rfl (by kernel_rfl) (by kernel_rfl) (by kernel_rfl) (fun _ _ _ h => h) (Or.inl ⟨by rfl, ?_⟩) hHeld ?_
      · intro w hSw; go_simp
      simp only [List.setIfInBounds_toArray, List.set_cons_zero, List.set_cons_succ]
      refine take_at 1 20 (.int .u8 (b0.toNat : Int)) rfl rfl (by kernel_rfl) (by kernel_rfl) (by kernel_rfl) (fun _ _ _ h => h) (Or.inl ⟨by rfl, ?_⟩) hHeld ?_
      · intro w hSw; go_simp
      simp only [List.setIfInBounds_toArray, List.set_cons_zero, List.set_cons_succ]
      refine take_at 2 21 (.string s) rfl rfl (by kernel_rfl) (by kernel_rfl) (by kernel_rfl) (fun _ _ _ h => h) (Or.inl ⟨by rfl, ?_⟩) hHeld ?_
      · intro w hSw; go_simp
      simp only [List.setIfInBounds_toArray, List.set_cons_zero, List.set_cons_succ]
      refine take_at 3 22 (.int .u8 (b1.toNat : Int)) rfl rfl (by kernel_rfl) (by kernel_rfl) (by kernel_rfl) (fun _ _ _ h => h) (Or.inl ⟨by rfl, ?_⟩) hHeld ?_
      · intro w hSw; go_simp
      simp only [List.setIfInBounds_toArray, List.set_cons_zero, List.set_cons_succ]
      refine take_at 4 23 (.int .u8 ((b1.toNat : Int) % 16)) rfl rfl (by kernel_rfl) (by kernel_rfl) (by kernel_rfl) (fun _ _ _ h => h) (Or.inl ⟨by rfl, ?_⟩) hHeld ?_
      · intro w hSw; go_simp
      simp only [List.setIfInBounds_toArray, List.set_cons_zero, List.set_cons_succ]
      refine take_at 5 24 (.string s) rfl rfl (by kernel_rfl) (by kernel_rfl) (by kernel_rfl) (fun _ _ _ h => h) (Or.inl ⟨by rfl, ?_⟩) hHeld ?_
      · intro w hSw; go_simp
      simp only [List.setIfInBounds_toArray, List.set_cons_zero, List.set_cons_succ]
      refine take_at 6 25 (.int .u8 (b1.toNat : Int)) rfl rfl (by kernel_rfl) (by kernel_rfl) (by kernel_rfl) (fun _ _ _ h => h) (Or.inl ⟨by rfl, ?_⟩) hHeld ?_
      · intro w hSw; go_simp
      simp only [List.setIfInBounds_toArray, List.set_cons_zero, List.set_cons_succ]
      refine take_at 7 26 (.int .u8 ((b1.toNat : Int) / 16)) rfl rfl (by kernel_rfl) (by kernel_rfl) (by kernel_rfl) (fun _ _ _ h => h) (Or.inl ⟨by rfl, ?_⟩) hHeld ?_
      · intro w hSw; go_simp
      simp only [List.setIfInBounds_toArray, List.set_cons_zero, List.set_cons_succ]
      refine take_at 8 27 (.int .i64 OF) rfl rfl (by kernel_rfl) (by kernel_rfl) (by kernel_rfl) (fun _ _ _ h => h) (Or.inl ⟨by rfl, ?_⟩) hHeld ?_
      · intro w hSw; go_simp
      simp only [List.setIfInBounds_toArray, List.set_cons_zero, List.set_cons_succ]
      refine take_at 9 28 (.int .i16 OF) rfl rfl (by kernel_rfl) (by kernel_rfl) (by kernel_rfl) (fun _ _ _ h => h) (Or.inl ⟨by rfl, ?_⟩) hHeld ?_
      · intro w hSw; go_simp
      simp only [List.setIfInBounds_toArray, List.set_cons_zero, List.set_cons_succ]
      refine take_at 10 29 (.int .i64 IM) rfl rfl (by kernel_rfl) (by kernel_rfl) (by kernel_rfl) (fun _ _ _ h => h) (Or.inl ⟨by rfl, ?_⟩) hHeld ?_
      · intro w hSw; go_simp
      simp only [List.setIfInBounds_toArray, List.set_cons_zero, List.set_cons_succ]
      refine take_at 11 30 (.int .i32 IM) rfl rfl (by kernel_rfl) (by kernel_rfl) (by kernel_rfl) (fun _ _ _ h => h) (Or.inl ⟨by rfl, ?_⟩) hHeld ?_
      · intro w hSw; go_simp
      simp only [List.setIfInBounds_toArray, List.set_cons_zero, List.set_cons_succ]
      refine take_at 12 31 (.agg #[.int .u8 (b0.toNat : Int), .int .u8 ((b1.toNat : Int) % 16), .int .u8 ((b1.toNat : Int) / 16), .int .i16 OF, .int .i32 IM]) rfl rfl (by kernel_rfl) (by kernel_rfl) (by kernel_rfl) (fun _ _ _ h => h) (Or.inl ⟨by rfl, ?_⟩) hHeld ?_
      · intro w hSw; go_simp
      simp only [List.setIfInBounds_toArray, List.set_cons_zero, List.set_cons_succ]
      obtain ⟨v0, v1, v2, v3, v4, hrow⟩ := hHeld.row
      obtain ⟨w2, hw2⟩ : ∃ w2, w2 = w1.drew := ⟨_, rfl⟩
      rw [← hw2] at hrow hHeld ⊢
      clear hw2
      have d0 : w2.cell? ⟨g, 0, none⟩ = some v0 := hrow.cell 0
      have d1 : w2.cell? ⟨g, 1, none⟩ = some v1 := hrow.cell 1
      have d2 : w2.cell? ⟨g, 2, none⟩ = some v2 := hrow.cell 2
      have d3 : w2.cell? ⟨g, 3, none⟩ = some v3 := hrow.cell 3
      have d4 : w2.cell? ⟨g, 4, none⟩ = some v4 := hrow.cell 4
      have f0 : ∀ i, w2.frozen? ⟨g, i, none⟩ = false := fun i => hrow.soft i
      refine wpAnyH_ready (rs := [13]) (by kernel_rfl) (by simp) ?_
      refine AllReadyH.cons rfl (fun K hK => ?_) AllReadyH.nil
      go_simp
      refine hK.out _ _ ⟨(Keep.store (Keep.store (Keep.store (Keep.store (Keep.store hHeld.cal (p := ⟨g, 0, none⟩) (fun e => absurd e (by show ¬ g < _; rw [HG.out]; exact Nat.lt_irrefl _)) _) (p := ⟨g, 1, none⟩) (fun e => absurd e (by show ¬ g < _; rw [HG.out]; exact Nat.lt_irrefl _)) _) (p := ⟨g, 2, none⟩) (fun e => absurd e (by show ¬ g < _; rw [HG.out]; exact Nat.lt_irrefl _)) _) (p := ⟨g, 3, none⟩) (fun e => absurd e (by show ¬ g < _; rw [HG.out]; exact Nat.lt_irrefl _)) _) (p := ⟨g, 4, none⟩) (fun e => absurd e (by show ¬ g < _; rw [HG.out]; exact Nat.lt_irrefl _)) _), ⟨_, _, _, _, _, ((((hrow.store 0 _).store 1 _).store 2 _).store 3 _).store 4 _⟩⟩ (fun hHeld => ?_)
      clear hK K
      try simp only [List.setIfInBounds_toArray, List.set_cons_zero, List.set_cons_succ]
      refine wpAnyH_done (by kernel_rfl) (NoPanic.normal ?_) _
      go_wp2_with fail
      have hR := ((((hrow.store 0 (.int .u8 (b0.toNat : Int))).store 1 (.int .u8 ((b1.toNat : Int) % 16))).store 2 (.int .u8 ((b1.toNat : Int) / 16))).store 3 (.int .i16 OF)).store 4 (.int .i32 IM)
      obtain ⟨w5, h5⟩ : ∃ w5, w5 = ((((w2.setCell ⟨g, 0, none⟩ (.int .u8 (b0.toNat : Int))).setCell ⟨g, 1, none⟩ (.int .u8 ((b1.toNat : Int) % 16))).setCell ⟨g, 2, none⟩ (.int .u8 ((b1.toNat : Int) / 16))).setCell ⟨g, 3, none⟩ (.int .i16 OF)).setCell ⟨g, 4, none⟩ (.int .i32 IM) := ⟨_, rfl⟩
      rw [← h5] at hR hHeld ⊢
      have q0 : w5.cell? ⟨g, 0, none⟩ = some (.int .u8 (b0.toNat : Int)) := hR.cell 0
      have q1 : w5.cell? ⟨g, 1, none⟩ = some (.int .u8 ((b1.toNat : Int) % 16)) := hR.cell 1
      have q2 : w5.cell? ⟨g, 2, none⟩ = some (.int .u8 ((b1.toNat : Int) / 16)) := hR.cell 2
      have q3 : w5.cell? ⟨g, 3, none⟩ = some (.int .i16 OF) := hR.cell 3
      have q4 : w5.cell? ⟨g, 4, none⟩ = some (.int .i32 IM) := hR.cell 4
      refine bodyPost_ret (by simp [results, Try.results26, go_sem, q0, q1, q2, q3, q4]; try rfl) rfl ?_
      exact ⟨by rw [HV.out], hHeld.cal⟩
  · rw [if_neg c1] at hOF
    have c1' : (32768 : Int) ≤ (n1 : Int) := by omega
    by_cases c2 : n2 < 2147483648
    · rw [if_pos c2] at hIM
      have c2' : decide ((2147483648 : Int) ≤ (n2 : Int)) = false := decide_eq_false (by omega)
      have w1 : IntKind.i16.wrap OF = OF := by rw [wrap_i16]; omega
      have w2 : IntKind.i32.wrap IM = IM := by rw [wrap_i32]; omega
      have HOF := Lib.hid hOF
      have HIM := Lib.hid hIM
      clear c1 c2 hOF hIM
      go_enter Try.func26, Try.ntmps26
      go_wp2_with fail
      refine (L1.out _).mono ?_
      rintro e wz ⟨rfl, rfl⟩
      go_wp2_with fail
      refine (L2.out _).mono ?_
      rintro e wz ⟨rfl, rfl⟩
      go_upto_region 7 with fail
      rw [← HOF.out, ← HIM.out]
      clear c1' c2' m1 m2 L1 L2 x1 x2
      obtain ⟨w1, hw1⟩ : ∃ w1, w1 = w.alloc (.cells #[.int .u8 0, .int .u8 0, .int .u8 0, .int .i16 0, .int .i32 0] 24) := ⟨_, rfl⟩
      rw [← hw1] at HS ⊢
      clear hw1
      obtain ⟨g, hg⟩ : ∃ g, g = w.heap.size := ⟨_, rfl⟩
      rw [← hg] at HS ⊢
      have HG := Lib.hid hg
      clear hg
      refine wp_region_noPanic ?_
      refine wp_region_held_drew (S := fun w' => SO w w' g) (by kernel_rfl) ⟨HS.out.cal.drew, HS.out.row⟩ (fun hHeld => ?_)
      refine take_at 0 19 (.string s) rfl rfl (by kernel_rfl) (by kernel_rfl) (by kernel_rfl) (fun _ _ _ h => h) (Or.inl ⟨by rfl, ?_⟩) hHeld ?_
      · intro w hSw; go_simp
      simp only [List.setIfInBounds_toArray, List.set_cons_zero, List.set_cons_succ]
      refine take_at 1 20 (.int .u8 (b0.toNat : Int)) rfl rfl (by kernel_rfl) (by kernel_rfl) (by kernel_rfl) (fun _ _ _ h => h) (Or.inl ⟨by rfl, ?_⟩) hHeld ?_
      · intro w hSw; go_simp
      simp only [List.setIfInBounds_toArray, List.set_cons_zero, List.set_cons_succ]
      refine take_at 2 21 (.string s) rfl rfl (by kernel_rfl) (by kernel_rfl) (by kernel_rfl) (fun _ _ _ h => h) (Or.inl ⟨by rfl, ?_⟩) hHeld ?_
      · intro w hSw; go_simp
      simp only [List.setIfInBounds_toArray, List.set_cons_zero, List.set_cons_succ]
      refine take_at 3 22 (.int .u8 (b1.toNat : Int)) rfl rfl (by kernel_rfl) (by kernel_rfl) (by kernel_rfl) (fun _ _ _ h => h) (Or.inl ⟨by rfl, ?_⟩) hHeld ?_
      · intro w hSw; go_simp
      simp only [List.setIfInBounds_toArray, List.set_cons_zero, List.set_cons_succ]
      refine take_at 4 23 (.int .u8 ((b1.toNat : Int) % 16)) rfl rfl (by kernel_rfl) (by kernel_rfl) (by kernel_rfl) (fun _ _ _ h => h) (Or.inl ⟨by rfl, ?_⟩) hHeld ?_
      · intro w hSw; go_simp
      simp only [List.setIfInBounds_toArray, List.set_cons_zero, List.set_cons_succ]
      refine take_at 5 24 (.string s) rfl rfl (by kernel_rfl) (by kernel_rfl) (by kernel_rfl) (fun _ _ _ h => h) (Or.inl ⟨by rfl, ?_⟩) hHeld ?_
      · intro w hSw; go_simp
      simp only [List.setIfInBounds_toArray, List.set_cons_zero, List.set_cons_succ]
      refine take_at 6 25 (.int .u8 (b1.toNat : Int)) rfl rfl (by kernel_rfl) (by kernel_rfl) (by kernel_rfl) (fun _ _ _ h => h) (Or.inl ⟨by rfl, ?_⟩) hHeld ?_
      · intro w hSw; go_simp
      simp only [List.setIfInBounds_toArray, List.set_cons_zero, List.set_cons_succ]
      refine take_at 7 26 (.int .u8 ((b1.toNat : Int) / 16)) rfl rfl (by kernel_rfl) (by kernel_rfl) (by kernel_rfl) (fun _ _ _ h => h) (Or.inl ⟨by rfl, ?_⟩) hHeld ?_
      · intro w hSw; go_simp
      simp only [List.setIfInBounds_toArray, List.set_cons_zero, List.set_cons_succ]
      refine take_at 8 27 (.int .i64 OF) rfl rfl (by kernel_rfl) (by kernel_rfl) (by kernel_rfl) (fun _ _ _ h => h) (Or.inl ⟨by rfl, ?_⟩) hHeld ?_
      · intro w hSw; go_simp
      simp only [List.setIfInBounds_toArray, List.set_cons_zero, List.set_cons_succ]
      refine take_at 9 28 (.int .i16 OF) rfl rfl (by kernel_rfl) (by kernel_rfl) (by kernel_rfl) (fun _ _ _ h => h) (Or.inl ⟨by rfl, ?_⟩) hHeld ?_
      · intro w hSw; go_simp
      simp only [List.setIfInBounds_toArray, List.set_cons_zero, List.set_cons_succ]
      refine take_at 10 29 (.int .i64 IM) rfl rfl (by kernel_rfl) (by kernel_rfl) (by kernel_rfl) (fun _ _ _ h => h) (Or.inl ⟨by rfl, ?_⟩) hHeld ?_
      · intro w hSw; go_simp
      simp only [List.setIfInBounds_toArray, List.set_cons_zero, List.set_cons_succ]
      refine take_at 11 30 (.int .i32 IM) rfl rfl (by kernel_rfl) (by kernel_rfl) (by kernel_rfl) (fun _ _ _ h => h) (Or.inl ⟨by rfl, ?_⟩) hHeld ?_
      · intro w hSw; go_simp
      simp only [List.setIfInBounds_toArray, List.set_cons_zero, List.set_cons_succ]
      refine take_at 12 31 (.agg #[.int .u8 (b0.toNat : Int), .int .u8 ((b1.toNat : Int) % 16), .int .u8 ((b1.toNat : Int) / 16), .int .i16 OF, .int .i32 IM]) rfl rfl (by kernel_rfl) (by kernel_rfl) (by kernel_rfl) (fun _ _ _ h => h) (Or.inl ⟨by rfl, ?_⟩) hHeld ?_
      · intro w hSw; go_simp
      simp only [List.setIfInBounds_toArray, List.set_cons_zero, List.set_cons_succ]
      obtain ⟨v0, v1, v2, v3, v4, hrow⟩ := hHeld.row
      obtain ⟨w2, hw2⟩ : ∃ w2, w2 = w1.drew := ⟨_, rfl⟩
      rw [← hw2] at hrow hHeld ⊢
      clear hw2
      have d0 : w2.cell? ⟨g, 0, none⟩ = some v0 := hrow.cell 0
      have d1 : w2.cell? ⟨g, 1, none⟩ = some v1 := hrow.cell 1
      have d2 : w2.cell? ⟨g, 2, none⟩ = some v2 := hrow.cell 2
      have d3 : w2.cell? ⟨g, 3, none⟩ = some v3 := hrow.cell 3
      have d4 : w2.cell? ⟨g, 4, none⟩ = some v4 := hrow.cell 4
      have f0 : ∀ i, w2.frozen? ⟨g, i, none⟩ = false := fun i => hrow.soft i
      refine wpAnyH_ready (rs := [13]) (by kernel_rfl) (by simp) ?_
      refine AllReadyH.cons rfl (fun K hK => ?_) AllReadyH.nil
      go_simp
      refine hK.out _ _ ⟨(Keep.store (Keep.store (Keep.store (Keep.store (Keep.store hHeld.cal (p := ⟨g, 0, none⟩) (fun e => absurd e (by show ¬ g < _; rw [HG.out]; exact Nat.lt_irrefl _)) _) (p := ⟨g, 1, none⟩) (fun e => absurd e (by show ¬ g < _; rw [HG.out]; exact Nat.lt_irrefl _)) _) (p := ⟨g, 2, none⟩) (fun e => absurd e (by show ¬ g < _; rw [HG.out]; exact Nat.lt_irrefl _)) _) (p := ⟨g, 3, none⟩) (fun e => absurd e (by show ¬ g < _; rw [HG.out]; exact Nat.lt_irrefl _)) _) (p := ⟨g, 4, none⟩) (fun e => absurd e (by show ¬ g < _; rw [HG.out]; exact Nat.lt_irrefl _)) _), ⟨_, _, _, _, _, ((((hrow.store 0 _).store 1 _).store 2 _).store 3 _).store 4 _⟩⟩ (fun hHeld => ?_)
      clear hK K
      try simp only [List.setIfInBounds_toArray, List.set_cons_zero, List.set_cons_succ]
      refine wpAnyH_done (by kernel_rfl) (NoPanic.normal ?_) _
      go_wp2_with fail
      have hR := ((((hrow.store 0 (.int .u8 (b0.toNat : Int))).store 1 (.int .u8 ((b1.toNat : Int) % 16))).store 2 (.int .u8 ((b1.toNat : Int) / 16))).store 3 (.int .i16 OF)).store 4 (.int .i32 IM)
      obtain ⟨w5, h5⟩ : ∃ w5, w5 = ((((w2.setCell ⟨g, 0, none⟩ (.int .u8 (b0.toNat : Int))).setCell ⟨g, 1, none⟩ (.int .u8 ((b1.toNat : Int) % 16))).setCell ⟨g, 2, none⟩ (.int .u8 ((b1.toNat : Int) / 16))).setCell ⟨g, 3, none⟩ (.int .i16 OF)).setCell ⟨g, 4, none⟩ (.int .i32 IM) := ⟨_, rfl⟩
      rw [← h5] at hR hHeld ⊢
      have q0 : w5.cell? ⟨g, 0, none⟩ = some (.int .u8 (b0.toNat : Int)) := hR.cell 0
      have q1 : w5.cell? ⟨g, 1, none⟩ = some (.int .u8 ((b1.toNat : Int) % 16)) := hR.cell 1
      have q2 : w5.cell? ⟨g, 2, none⟩ = some (.int .u8 ((b1.toNat : Int) / 16)) := hR.cell 2
      have q3 : w5.cell? ⟨g, 3, none⟩ = some (.int .i16 OF) := hR.cell 3
      have q4 : w5.cell? ⟨g, 4, none⟩ = some (.int .i32 IM) := hR.cell 4
      refine bodyPost_ret (by simp [results, Try.results26, go_sem, q0, q1, q2, q3, q4]; try rfl) rfl ?_
      exact ⟨by rw [HV.out], hHeld.cal⟩
    · rw [if_neg c2] at hIM
      have c2' : (2147483648 : Int) ≤ (n2 : Int) := by omega
      have w1 : IntKind.i16.wrap OF = OF := by rw [wrap_i16]; omega
      have w2 : IntKind.i32.wrap IM = IM := by rw [wrap_i32]; omega
      have HOF := Lib.hid hOF
      have HIM := Lib.hid hIM
      clear c1 c2 hOF hIM
      go_enter Try.func26, Try.ntmps26
      go_wp2_with fail
      refine (L1.out _).mono ?_
      rintro e wz ⟨rfl, rfl⟩
      go_wp2_with fail
      refine (L2.out _).mono ?_
      rintro e wz ⟨rfl, rfl⟩
      go_upto_region 7 with fail
      rw [← HOF.out, ← HIM.out]
      clear c1' c2' m1 m2 L1 L2 x1 x2
      obtain ⟨w1, hw1⟩ : ∃ w1, w1 = w.alloc (.cells #[.int .u8 0, .int .u8 0, .int .u8 0, .int .i16 0, .int .i32 0] 24) := ⟨_, rfl⟩
      rw [← hw1] at HS ⊢
      clear hw1
      obtain ⟨g, hg⟩ : ∃ g, g = w.heap.size := ⟨_, rfl⟩
      rw [← hg] at HS ⊢
      have HG := Lib.hid hg
      clear hg
      refine wp_region_noPanic ?_
      refine wp_region_held_drew (S := fun w' => SO w w' g) (by kernel_rfl) ⟨HS.out.cal.drew, HS.out.row⟩ (fun hHeld => ?_)
      refine take_at 0 19 (.string s) rfl rfl (by kernel_rfl) (by kernel_rfl) (by kernel_rfl) (fun _ _ _ h => h) (Or.inl ⟨by rfl, ?_⟩) hHeld ?_
      · intro w hSw; go_simp
      simp only [List.setIfInBounds_toArray, List.set_cons_zero, List.set_cons_succ]
      refine take_at 1 20 (.int .u8 (b0.toNat : Int)) rfl rfl (by kernel_rfl) (by kernel_rfl) (by kernel_rfl) (fun _ _ _ h => h) (Or.inl ⟨by rfl, ?_⟩) hHeld ?_
      · intro w hSw; go_simp
      simp only [List.setIfInBounds_toArray, List.set_cons_zero, List.set_cons_succ]
      refine take_at 2 21 (.string s) rfl rfl (by kernel_rfl) (by kernel_rfl) (by kernel_rfl) (fun _ _ _ h => h) (Or.inl ⟨by rfl, ?_⟩) hHeld ?_
      · intro w hSw; go_simp
      simp only [List.setIfInBounds_toArray, List.set_cons_zero, List.set_cons_succ]
      refine take_at 3 22 (.int .u8 (b1.toNat : Int)) rfl rfl (by kernel_rfl) (by kernel_rfl) (by kernel_rfl) (fun _ _ _ h => h) (Or.inl ⟨by rfl, ?_⟩) hHeld ?_
      · intro w hSw; go_simp
      simp only [List.setIfInBounds_toArray, List.set_cons_zero, List.set_cons_succ]
      refine take_at 4 23 (.int .u8 ((b1.toNat : Int) % 16)) rfl rfl (by kernel_rfl) (by kernel_rfl) (by kernel_rfl) (fun _ _ _ h => h) (Or.inl ⟨by rfl, ?_⟩) hHeld ?_
      · intro w hSw; go_simp
      simp only [List.setIfInBounds_toArray, List.set_cons_zero, List.set_cons_succ]
      refine take_at 5 24 (.string s) rfl rfl (by kernel_rfl) (by kernel_rfl) (by kernel_rfl) (fun _ _ _ h => h) (Or.inl ⟨by rfl, ?_⟩) hHeld ?_
      · intro w hSw; go_simp
      simp only [List.setIfInBounds_toArray, List.set_cons_zero, List.set_cons_succ]
      refine take_at 6 25 (.int .u8 (b1.toNat : Int)) rfl rfl (by kernel_rfl) (by kernel_rfl) (by kernel_rfl) (fun _ _ _ h => h) (Or.inl ⟨by rfl, ?_⟩) hHeld ?_
      · intro w hSw; go_simp
      simp only [List.setIfInBounds_toArray, List.set_cons_zero, List.set_cons_succ]
      refine take_at 7 26 (.int .u8 ((b1.toNat : Int) / 16)) rfl rfl (by kernel_rfl) (by kernel_rfl) (by kernel_rfl) (fun _ _ _ h => h) (Or.inl ⟨by rfl, ?_⟩) hHeld ?_
      · intro w hSw; go_simp
      simp only [List.setIfInBounds_toArray, List.set_cons_zero, List.set_cons_succ]
      refine take_at 8 27 (.int .i64 OF) rfl rfl (by kernel_rfl) (by kernel_rfl) (by kernel_rfl) (fun _ _ _ h => h) (Or.inl ⟨by rfl, ?_⟩) hHeld ?_
      · intro w hSw; go_simp
      simp only [List.setIfInBounds_toArray, List.set_cons_zero, List.set_cons_succ]
      refine take_at 9 28 (.int .i16 OF) rfl rfl (by kernel_rfl) (by kernel_rfl) (by kernel_rfl) (fun _ _ _ h => h) (Or.inl ⟨by rfl, ?_⟩) hHeld ?_
      · intro w hSw; go_simp
      simp only [List.setIfInBounds_toArray, List.set_cons_zero, List.set_cons_succ]
      refine take_at 10 29 (.int .i64 IM) rfl rfl (by kernel_rfl) (by kernel_rfl) (by kernel_rfl) (fun _ _ _ h => h) (Or.inl ⟨by rfl, ?_⟩) hHeld ?_
      · intro w hSw; go_simp
      simp only [List.setIfInBounds_toArray, List.set_cons_zero, List.set_cons_succ]
      refine take_at 11 30 (.int .i32 IM) rfl rfl (by kernel_rfl) (by kernel_rfl) (by kernel_rfl) (fun _ _ _ h => h) (Or.inl ⟨by rfl, ?_⟩) hHeld ?_
      · intro w hSw; go_simp
      simp only [List.setIfInBounds_toArray, List.set_cons_zero, List.set_cons_succ]
      refine take_at 12 31 (.agg #[.int .u8 (b0.toNat : Int), .int .u8 ((b1.toNat : Int) % 16), .int .u8 ((b1.toNat : Int) / 16), .int .i16 OF, .int .i32 IM]) rfl rfl (by kernel_rfl) (by kernel_rfl) (by kernel_rfl) (fun _ _ _ h => h) (Or.inl ⟨by rfl, ?_⟩) hHeld ?_
      · intro w hSw; go_simp
      simp only [List.setIfInBounds_toArray, List.set_cons_zero, List.set_cons_succ]
      obtain ⟨v0, v1, v2, v3, v4, hrow⟩ := hHeld.row
      obtain ⟨w2, hw2⟩ : ∃ w2, w2 = w1.drew := ⟨_, rfl⟩
      rw [← hw2] at hrow hHeld ⊢
      clear hw2
      have d0 : w2.cell? ⟨g, 0, none⟩ = some v0 := hrow.cell 0
      have d1 : w2.cell? ⟨g, 1, none⟩ = some v1 := hrow.cell 1
      have d2 : w2.cell? ⟨g, 2, none⟩ = some v2 := hrow.cell 2
      have d3 : w2.cell? ⟨g, 3, none⟩ = some v3 := hrow.cell 3
      have d4 : w2.cell? ⟨g, 4, none⟩ = some v4 := hrow.cell 4
      have f0 : ∀ i, w2.frozen? ⟨g, i, none⟩ = false := fun i => hrow.soft i
      refine wpAnyH_ready (rs := [13]) (by kernel_rfl) (by simp) ?_
      refine AllReadyH.cons rfl (fun K hK => ?_) AllReadyH.nil
      go_simp
      refine hK.out _ _ ⟨(Keep.store (Keep.store (Keep.store (Keep.store (Keep.store hHeld.cal (p := ⟨g, 0, none⟩) (fun e => absurd e (by show ¬ g < _; rw [HG.out]; exact Nat.lt_irrefl _)) _) (p := ⟨g, 1, none⟩) (fun e => absurd e (by show ¬ g < _; rw [HG.out]; exact Nat.lt_irrefl _)) _) (p := ⟨g, 2, none⟩) (fun e => absurd e (by show ¬ g < _; rw [HG.out]; exact Nat.lt_irrefl _)) _) (p := ⟨g, 3, none⟩) (fun e => absurd e (by show ¬ g < _; rw [HG.out]; exact Nat.lt_irrefl _)) _) (p := ⟨g, 4, none⟩) (fun e => absurd e (by show ¬ g < _; rw [HG.out]; exact Nat.lt_irrefl _)) _), ⟨_, _, _, _, _, ((((hrow.store 0 _).store 1 _).store 2 _).store 3 _).store 4 _⟩⟩ (fun hHeld => ?_)
      clear hK K
      try simp only [List.setIfInBounds_toArray, List.set_cons_zero, List.set_cons_succ]
      refine wpAnyH_done (by kernel_rfl) (NoPanic.normal ?_) _
      go_wp2_with fail
      have hR := ((((hrow.store 0 (.int .u8 (b0.toNat : Int))).store 1 (.int .u8 ((b1.toNat : Int) % 16))).store 2 (.int .u8 ((b1.toNat : Int) / 16))).store 3 (.int .i16 OF)).store 4 (.int .i32 IM)
      obtain ⟨w5, h5⟩ : ∃ w5, w5 = ((((w2.setCell ⟨g, 0, none⟩ (.int .u8 (b0.toNat : Int))).setCell ⟨g, 1, none⟩ (.int .u8 ((b1.toNat : Int) % 16))).setCell ⟨g, 2, none⟩ (.int .u8 ((b1.toNat : Int) / 16))).setCell ⟨g, 3, none⟩ (.int .i16 OF)).setCell ⟨g, 4, none⟩ (.int .i32 IM) := ⟨_, rfl⟩
      rw [← h5] at hR hHeld ⊢
      have q0 : w5.cell? ⟨g, 0, none⟩ = some (.int .u8 (b0.toNat : Int)) := hR.cell 0
      have q1 : w5.cell? ⟨g, 1, none⟩ = some (.int .u8 ((b1.toNat : Int) % 16)) := hR.cell 1
      have q2 : w5.cell? ⟨g, 2, none⟩ = some (.int .u8 ((b1.toNat : Int) / 16)) := hR.cell 2
      have q3 : w5.cell? ⟨g, 3, none⟩ = some (.int .i16 OF) := hR.cell 3
      have q4 : w5.cell? ⟨g, 4, none⟩ = some (.int .i32 IM) := hR.cell 4
      refine bodyPost_ret (by simp [results, Try.results26, go_sem, q0, q1, q2, q3, q4]; try rfl) rfl ?_
      exact ⟨by rw [HV.out], hHeld.cal⟩
end
end Go.Proofs.Ytohnemcdldpgaaa
