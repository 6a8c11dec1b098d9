/-
  The walk of CrcMixes.
-/
import Derived.Test.YtppehlnfoendgaaDoorOwnW
import Derived.Test.YtppehlnfoendgaaDoorRegion
namespace Go.Proofs.YtppehlnfoendgaaDoor
open Go.RowKit
set_option linter.all false

theorem Rd.at_ {w w' : World} {A : Option Addr} {n cap : Nat} {bs : List UInt8} (h : Rd w (.slice A n cap) bs) (hc : Calm w w') (i : Nat) (hi : i < bs.length) : ∃ ad b, A = some ad ∧ bs[i]? = some b ∧ w'.cell? (ad.add i) = some (.int .u8 (b.toNat : Int)) := by
  rcases h.calm hc with ⟨_, rfl⟩ | ⟨ad, cap', e, h1, h2, h4⟩
  · simp at hi
  · injection e with e1
    exact ⟨ad, bs[i], e1, List.getElem?_eq_getElem hi, h4 i bs[i] (List.getElem?_eq_getElem hi)⟩
def xor8 (x y : UInt8) : UInt8 := UInt8.ofNat (x.toNat ^^^ y.toNat)
theorem xor8_nat (x y : UInt8) : (xor8 x y).toNat = x.toNat ^^^ y.toNat := by
  have hl : x.toNat ^^^ y.toNat < 2 ^ 8 := Nat.xor_lt_two_pow (u8_lt x) (u8_lt y)
  unfold xor8
  rw [UInt8.toNat_ofNat']; exact Nat.mod_eq_of_lt hl
theorem xor8_run (x y : UInt8) : bits .xor .u8 (x.toNat : Int) (y.toNat : Int) = ((xor8 x y).toNat : Int) := by
  rw [xor8_nat]; exact Go.u8_xor_nat _ _ (u8_lt x) (u8_lt y)
def mix3 (a b c : List UInt8) : List UInt8 := List.zipWith xor8 (List.zipWith xor8 a b) c
theorem mix3_len (a b c : List UInt8) (q : Nat) (ha : a.length = q) (hb : b.length = q) (hc : c.length = q) : (mix3 a b c).length = q := by
  simp [mix3, ha, hb, hc]
theorem mix3_num (a b c : List UInt8) (q : Nat) (ha : a.length = q) (hb : b.length = q) (hc : c.length = q) : num (mix3 a b c) = num a ^^^ num b ^^^ num c := by
  unfold mix3 xor8
  rw [num_xor _ _ (by simp [ha, hb, hc]), num_xor _ _ (by simp [ha, hb])]
theorem mix3_sum (a b c : List UInt8) (q : Nat) (ha : a.length = q) (hb : b.length = q) (hc : c.length = q) : more 0 (mix3 a b c) = more 0 a ^^^ more 0 b ^^^ more 0 c := by
  have e : ∀ l : List UInt8, more 0 l = ones ^^^ steps (8 * l.length) ones ^^^ steps (8 * l.length) (num l) := fun l => by
    unfold more
    rw [← ones_xor _ (eat_lt _ _ (by decide)), eat_num, steps_xor]
    show ones ^^^ (steps (8 * l.length) ones ^^^ _) = _
    rw [Nat.xor_assoc]
  rw [e, e, e, e, mix3_len a b c q ha hb hc, ha, hb, hc, mix3_num a b c q ha hb hc, steps_xor, steps_xor]
  generalize ones ^^^ steps (8 * q) ones = z
  generalize steps (8 * q) (num a) = x1
  generalize steps (8 * q) (num b) = x2
  generalize steps (8 * q) (num c) = x3
  apply Nat.eq_of_testBit_eq
  intro i
  simp only [Nat.testBit_xor]
  cases z.testBit i <;> cases x1.testBit i <;> cases x2.testBit i <;> cases x3.testBit i <;> rfl
theorem mix3_at (a b c : List UInt8) (j : Nat) (x0 x1 x2 : UInt8) (h0 : a[j]? = some x0) (h1 : b[j]? = some x1) (h2 : c[j]? = some x2) : (mix3 a b c)[j]? = some (xor8 (xor8 x0 x1) x2) := by
  simp [mix3, List.getElem?_zipWith, h0, h1, h2]
/-- What the loop has filled. -/
def fill (m : List UInt8) (q j : Nat) : List UInt8 := m.take j ++ List.replicate (q - j) 0
theorem fill_len (m : List UInt8) (q j : Nat) (hm : m.length = q) (hj : j ≤ q) : (fill m q j).length = q := by
  simp [fill, hm]; omega
theorem fill_set (m : List UInt8) (q j : Nat) (hm : m.length = q) (hj : j < q) (x : UInt8) (hx : m[j]? = some x) : (fill m q j).set j x = fill m q (j + 1) := by
  unfold fill
  have hl : (m.take j).length = j := by simp; omega
  rw [List.set_append_right _ _ (by omega), hl, Nat.sub_self, show q - j = (q - (j + 1)) + 1 from by omega, List.replicate_succ, List.take_add_one, hx]
  simp
theorem run_min4 (a b c d : Nat) : ∃ q : Nat, (∀ w, Sem.run Tryd.prog (Builtin.min_ #[3, 3, 3, 3] 3 #[.int .i64 (a : Int), .int .i64 (b : Int), .int .i64 (c : Int), .int .i64 (d : Int)]) w = .ok (.int .i64 (q : Int)) w) ∧ q ≤ a ∧ q ≤ b ∧ q ≤ c ∧ q ≤ d := by
  have e : ∀ w, Sem.run Tryd.prog (Builtin.min_ #[3, 3, 3, 3] 3 #[.int .i64 (a : Int), .int .i64 (b : Int), .int .i64 (c : Int), .int .i64 (d : Int)]) w = .ok (.int .i64 (if (d : Int) < (if (c : Int) < (if (b : Int) < (a : Int) then (b : Int) else (a : Int)) then (c : Int) else (if (b : Int) < (a : Int) then (b : Int) else (a : Int))) then (d : Int) else (if (c : Int) < (if (b : Int) < (a : Int) then (b : Int) else (a : Int)) then (c : Int) else (if (b : Int) < (a : Int) then (b : Int) else (a : Int))))) w := by
    intro w
    simp [Builtin.min_, Builtin.min2]
  refine ⟨min (min (min a b) c) d, fun w => ?_, by omega, by omega, by omega, by omega⟩
  rw [e w]
  congr 2
  repeat' split
  all_goals omega

set_option maxHeartbeats 1600000 in
theorem crcMixes_c (v0 v1 v2 : Value) (b0 b1 b2 : List UInt8) (w : World) (hT : Tab w) (h0 : Rd w v0 b0) (h1 : Rd w v1 b1) (h2 : Rd w v2 b2) :
    Calls Tryd.prog 6 #[v0, v1, v2] w fun e w' => e = .returned (.bool true) ∧ Calm w w' := by
  obtain ⟨A0, c0, rfl, hcap0, hmax0⟩ := h0.form
  obtain ⟨A1, c1, rfl, hcap1, hmax1⟩ := h1.form
  obtain ⟨A2, c2, rfl, hcap2, hmax2⟩ := h2.form
  unfold maxLen at hmax0 hmax1 hmax2
  have HT := Lib.hid hT
  have H0 := Lib.hid h0
  have H1 := Lib.hid h1
  have H2 := Lib.hid h2
  clear hT h0 h1 h2
  go_enter Tryd.func6, Tryd.ntmps6
  go_wp2_with fail
  refine (shown_c w HT.out).mono ?_
  rintro e w1 ⟨rfl, hc1⟩
  have C1 := Lib.hid hc1
  clear hc1
  obtain ⟨q, hq, q0, q1, q2, q3⟩ := run_min4 b0.length b1.length b2.length 500
  have hq : ∀ w, Sem.run Tryd.prog (Builtin.min_ #[3, 3, 3, 3] 3 #[.int .i64 (b0.length : Int), .int .i64 (b1.length : Int), .int .i64 (b2.length : Int), .int .i64 500]) w = .ok (.int .i64 (q : Int)) w := hq
  have qm := run_make8 w1 q (by omega)
  go_upto_region 4 with fail
  have ho := Own.zeros w1 q (by omega)
  have C2 : Hid (Calm w1 (w1.alloc (.cells (zeros q) 5))) := Lib.hid ((Keep.refl _ w1).alloc _)
  have R0 := Lib.hid ((H0.out.cut q q0).calm C1.out)
  have R1 := Lib.hid ((H1.out.cut q q1).calm C1.out)
  have R2 := Lib.hid ((H2.out.cut q q2).calm C1.out)
  have l0 : (b0.take q).length = q := by rw [List.length_take]; omega
  have l1 : (b1.take q).length = q := by rw [List.length_take]; omega
  have l2 : (b2.take q).length = q := by rw [List.length_take]; omega
  generalize b0.take q = a0 at R0 l0
  generalize b1.take q = a1 at R1 l1
  generalize b2.take q = a2 at R2 l2
  obtain ⟨M, hM⟩ : ∃ M, M = mix3 a0 a1 a2 := ⟨_, rfl⟩
  have lM : M.length = q := by rw [hM]; exact mix3_len _ _ _ q l0 l1 l2
  have HM := Lib.hid hM
  have HO := Lib.hid ho
  generalize World.alloc w1 _ = w2 at HO C2 ⊢
  clear hM ho qm hq
  go_wp2_with fail
  go_loopw [10] (fun i wr => ∃ (j : Nat), j ≤ q ∧ i = .int .i64 j ∧ Calm w1 wr ∧ Own wr w1.heap.size (.slice (some ⟨w1.heap.size, 0, none⟩) q q) (fill M q j)) (fun i _ => q - (intOf i).toNat)
  case atStart => exact ⟨0, by omega, rfl, C2.out, by simpa [fill] using HO.out⟩
  case round =>
    obtain ⟨j, hj, rfl, hcw, how⟩ := hrel
    by_cases hlt : j < q
    · obtain ⟨d0, x0, rfl, m0, e0⟩ := R0.out.at_ hcw j (by omega)
      obtain ⟨d1, x1, rfl, m1, e1⟩ := R1.out.at_ hcw j (by omega)
      obtain ⟨d2, x2, rfl, m2, e2⟩ := R2.out.at_ hcw j (by omega)
      have hMj : M[j]? = some (xor8 (xor8 x0 x1) x2) := by rw [HM.out]; exact mix3_at _ _ _ j _ _ _ m0 m1 m2
      clear m0 m1 m2
      have f0 := (how.at_ j (by rw [fill_len M q j lM hj]; exact hlt)).2
      have f1 := (how.at_ j (by rw [fill_len M q j lM hj]; exact hlt)).1
      have y1 := xor8_run x0 x1
      have y2 := xor8_run (xor8 x0 x1) x2
      have hst := how.set j (by rw [fill_len M q j lM hj]; exact hlt) (xor8 (xor8 x0 x1) x2)
      rw [fill_set M q j lM hlt _ hMj] at hst
      generalize (fill M q j)[j]'(by rw [fill_len M q j lM hj]; exact hlt) = x9 at f1
      generalize xor8 (xor8 x0 x1) x2 = x4 at y2 hst
      generalize xor8 x0 x1 = x3 at y1 y2
      have HC := Lib.hid hcw
      have HS := Lib.hid hst
      have i0 : (j : Int) < (q : Int) := by omega
      have i1 : (j : Int) < (b0.length : Int) := by omega
      have i2 : (j : Int) < (b1.length : Int) := by omega
      have i3 : (j : Int) < (b2.length : Int) := by omega
      clear hcw how hst hMj
      go_wp2_with fail
      go_region
      go_wp2_with fail
      go_roundw
      case rel => exact ⟨j + 1, by omega, by go_num, (HC.out.store (p := ⟨w1.heap.size, j, none⟩) (fun h => absurd h (Nat.lt_irrefl _)) _).drew, HS.out⟩
      case measure => simp [intOf]; omega
    · obtain rfl : j = q := by omega
      have T8 : Hid (Tab wr.drew) := Lib.hid ((HT.out.calm C1.out).calm hcw.drew)
      have RX := Lib.hid (how.rd ⟨_, _, _, rfl⟩)
      have efill : fill M j j = M := by
        unfold fill
        rw [Nat.sub_self, List.take_of_length_le (by omega)]
        simp
      rw [efill] at RX
      have RX : Hid (Rd wr.drew (.slice (some ⟨w1.heap.size, 0, none⟩) j j) M) := RX
      have R0 : Hid (Rd wr.drew (.slice A0 j c0) a0) := Lib.hid (R0.out.calm hcw.drew)
      have R1 : Hid (Rd wr.drew (.slice A1 j c1) a1) := Lib.hid (R1.out.calm hcw.drew)
      have R2 : Hid (Rd wr.drew (.slice A2 j c2) a2) := Lib.hid (R2.out.calm hcw.drew)
      obtain ⟨z01, y1⟩ : ∃ z01 : Nat, z01 = more 0 a0 ^^^ more 0 a1 := ⟨_, rfl⟩
      have hx1 : bits .xor .u32 ((more 0 a0 : Nat) : Int) ((more 0 a1 : Nat) : Int) = (z01 : Int) := by rw [y1]; exact Go.u32_xor_nat _ _ (more_lt 0 a0) (more_lt 0 a1)
      have hz1 : z01 < 4294967296 := by rw [y1]; exact Nat.xor_lt_two_pow (n := 32) (more_lt 0 a0) (more_lt 0 a1)
      obtain ⟨zx, y2⟩ : ∃ zx : Nat, zx = z01 ^^^ more 0 a2 := ⟨_, rfl⟩
      have hx2 : bits .xor .u32 (z01 : Int) ((more 0 a2 : Nat) : Int) = (zx : Int) := by rw [y2]; exact Go.u32_xor_nat _ _ hz1 (more_lt 0 a2)
      have hx3 : more 0 M = zx := by rw [y2, y1, HM.out]; exact mix3_sum a0 a1 a2 j l0 l1 l2
      have hx4 : (((more 0 M : Nat) : Int) == (zx : Int)) = true := by rw [hx3]; simp
      have HC := Lib.hid hcw
      have i1 : (j : Int) ≤ (c0 : Int) := by omega
      have i2 : (j : Int) ≤ (c1 : Int) := by omega
      have i3 : (j : Int) ≤ (c2 : Int) := by omega
      clear hcw how efill hx3 y1 y2 hz1
      go_upto_region 8 with fail
      refine wp_region_noPanic ?_
      refine wp_region_held_drew (S := fun _ => True) (by kernel_rfl) trivial (fun hHeld => ?_)
      refine take_at 0 43 (.bool true) rfl rfl (by kernel_rfl) (by kernel_rfl) (by kernel_rfl) (fun _ _ _ h => h) (Or.inl ⟨by rfl, ?_⟩) hHeld ?_
      · intro w hSw; go_simp
      simp only [List.setIfInBounds_toArray, List.set_cons_zero, List.set_cons_succ]
      refine take_at 1 44 (.bool true) rfl rfl (by kernel_rfl) (by kernel_rfl) (by kernel_rfl) (fun _ _ _ h => h) (Or.inl ⟨by rfl, ?_⟩) hHeld ?_
      · intro w hSw; go_simp
      simp only [List.setIfInBounds_toArray, List.set_cons_zero, List.set_cons_succ]
      refine take_at 2 45 (.slice (some ⟨w1.heap.size, 0, none⟩) j j) rfl rfl (by kernel_rfl) (by kernel_rfl) (by kernel_rfl) (fun _ _ _ h => h) (Or.inl ⟨by rfl, ?_⟩) hHeld ?_
      · intro w hSw; go_simp
      simp only [List.setIfInBounds_toArray, List.set_cons_zero, List.set_cons_succ]
      refine take_at 4 47 (.slice A0 b0.length c0) rfl rfl (by kernel_rfl) (by kernel_rfl) (by kernel_rfl) (fun _ _ _ h => h) (Or.inl ⟨by rfl, ?_⟩) hHeld ?_
      · intro w hSw; go_simp
      simp only [List.setIfInBounds_toArray, List.set_cons_zero, List.set_cons_succ]
      refine take_at 5 48 (.int .i64 (j : Int)) rfl rfl (by kernel_rfl) (by kernel_rfl) (by kernel_rfl) (fun _ _ _ h => h) (Or.inl ⟨by rfl, ?_⟩) hHeld ?_
      · intro w hSw; go_simp
      simp only [List.setIfInBounds_toArray, List.set_cons_zero, List.set_cons_succ]
      refine take_at 6 49 (.slice A0 j c0) rfl rfl (by kernel_rfl) (by kernel_rfl) (by kernel_rfl) (fun _ _ _ h => h) (Or.inl ⟨by rfl, ?_⟩) hHeld ?_
      · intro w hSw; go_simp
      simp only [List.setIfInBounds_toArray, List.set_cons_zero, List.set_cons_succ]
      refine take_at 8 51 (.slice A1 b1.length c1) rfl rfl (by kernel_rfl) (by kernel_rfl) (by kernel_rfl) (fun _ _ _ h => h) (Or.inl ⟨by rfl, ?_⟩) hHeld ?_
      · intro w hSw; go_simp
      simp only [List.setIfInBounds_toArray, List.set_cons_zero, List.set_cons_succ]
      refine take_at 9 52 (.int .i64 (j : Int)) rfl rfl (by kernel_rfl) (by kernel_rfl) (by kernel_rfl) (fun _ _ _ h => h) (Or.inl ⟨by rfl, ?_⟩) hHeld ?_
      · intro w hSw; go_simp
      simp only [List.setIfInBounds_toArray, List.set_cons_zero, List.set_cons_succ]
      refine take_at 10 53 (.slice A1 j c1) rfl rfl (by kernel_rfl) (by kernel_rfl) (by kernel_rfl) (fun _ _ _ h => h) (Or.inl ⟨by rfl, ?_⟩) hHeld ?_
      · intro w hSw; go_simp
      simp only [List.setIfInBounds_toArray, List.set_cons_zero, List.set_cons_succ]
      refine take_at 13 56 (.slice A2 b2.length c2) rfl rfl (by kernel_rfl) (by kernel_rfl) (by kernel_rfl) (fun _ _ _ h => h) (Or.inl ⟨by rfl, ?_⟩) hHeld ?_
      · intro w hSw; go_simp
      simp only [List.setIfInBounds_toArray, List.set_cons_zero, List.set_cons_succ]
      refine take_at 14 57 (.int .i64 (j : Int)) rfl rfl (by kernel_rfl) (by kernel_rfl) (by kernel_rfl) (fun _ _ _ h => h) (Or.inl ⟨by rfl, ?_⟩) hHeld ?_
      · intro w hSw; go_simp
      simp only [List.setIfInBounds_toArray, List.set_cons_zero, List.set_cons_succ]
      refine take_at 15 58 (.slice A2 j c2) rfl rfl (by kernel_rfl) (by kernel_rfl) (by kernel_rfl) (fun _ _ _ h => h) (Or.inl ⟨by rfl, ?_⟩) hHeld ?_
      · intro w hSw; go_simp
      simp only [List.setIfInBounds_toArray, List.set_cons_zero, List.set_cons_succ]
      refine wpAnyH_ready (rs := [3]) (by kernel_rfl) (by simp) ?_
      refine AllReadyH.cons rfl (fun K hK => ?_) AllReadyH.nil
      go_simp
      refine (sum_c _ _ _ T8.out RX.out.bytes RX.out.len).mono ?_
      rintro e w9 ⟨rfl, rfl⟩
      refine hK.out _ _ trivial (fun hHeld => ?_)
      clear hK K
      try simp only [List.setIfInBounds_toArray, List.set_cons_zero, List.set_cons_succ]
      refine wpAnyH_ready (rs := [7]) (by kernel_rfl) (by simp) ?_
      refine AllReadyH.cons rfl (fun K hK => ?_) AllReadyH.nil
      go_simp
      refine (sum_c _ _ _ T8.out R0.out.bytes R0.out.len).mono ?_
      rintro e w9 ⟨rfl, rfl⟩
      refine hK.out _ _ trivial (fun hHeld => ?_)
      clear hK K
      try simp only [List.setIfInBounds_toArray, List.set_cons_zero, List.set_cons_succ]
      refine wpAnyH_ready (rs := [11]) (by kernel_rfl) (by simp) ?_
      refine AllReadyH.cons rfl (fun K hK => ?_) AllReadyH.nil
      go_simp
      refine (sum_c _ _ _ T8.out R1.out.bytes R1.out.len).mono ?_
      rintro e w9 ⟨rfl, rfl⟩
      refine hK.out _ _ trivial (fun hHeld => ?_)
      clear hK K
      try simp only [List.setIfInBounds_toArray, List.set_cons_zero, List.set_cons_succ]
      refine take_at 12 55 (.int .u32 ((z01 : Nat) : Int)) rfl rfl (by kernel_rfl) (by kernel_rfl) (by kernel_rfl) (fun _ _ _ h => h) (Or.inl ⟨by rfl, ?_⟩) hHeld ?_
      · intro w hSw; go_simp
      simp only [List.setIfInBounds_toArray, List.set_cons_zero, List.set_cons_succ]
      refine wpAnyH_ready (rs := [16]) (by kernel_rfl) (by simp) ?_
      refine AllReadyH.cons rfl (fun K hK => ?_) AllReadyH.nil
      go_simp
      refine (sum_c _ _ _ T8.out R2.out.bytes R2.out.len).mono ?_
      rintro e w9 ⟨rfl, rfl⟩
      refine hK.out _ _ trivial (fun hHeld => ?_)
      clear hK K
      try simp only [List.setIfInBounds_toArray, List.set_cons_zero, List.set_cons_succ]
      refine take_at 17 60 (.int .u32 ((zx : Nat) : Int)) rfl rfl (by kernel_rfl) (by kernel_rfl) (by kernel_rfl) (fun _ _ _ h => h) (Or.inl ⟨by rfl, ?_⟩) hHeld ?_
      · intro w hSw; go_simp
      simp only [List.setIfInBounds_toArray, List.set_cons_zero, List.set_cons_succ]
      refine take_at 18 61 (.bool true) rfl rfl (by kernel_rfl) (by kernel_rfl) (by kernel_rfl) (fun _ _ _ h => h) (Or.inl ⟨by rfl, ?_⟩) hHeld ?_
      · intro w hSw; go_simp
      simp only [List.setIfInBounds_toArray, List.set_cons_zero, List.set_cons_succ]
      refine take_at 19 62 (.bool true) rfl rfl (by kernel_rfl) (by kernel_rfl) (by kernel_rfl) (fun _ _ _ h => h) (Or.inl ⟨by rfl, ?_⟩) hHeld ?_
      · intro w hSw; go_simp
      simp only [List.setIfInBounds_toArray, List.set_cons_zero, List.set_cons_succ]
      refine wpAnyH_ready (rs := [20]) (by kernel_rfl) (by simp) ?_
      refine AllReadyH.cons rfl (fun K hK => ?_) AllReadyH.nil
      go_simp
      refine hK.out _ _ trivial (fun hHeld => ?_)
      clear hK K
      try simp only [List.setIfInBounds_toArray, List.set_cons_zero, List.set_cons_succ]
      refine wpAnyH_done (by kernel_rfl) (NoPanic.normal ?_) _
      go_wp2_with fail
      go_ret
      exact ⟨rfl, C1.out.trans HC.out.drew⟩
end Go.Proofs.YtppehlnfoendgaaDoor
