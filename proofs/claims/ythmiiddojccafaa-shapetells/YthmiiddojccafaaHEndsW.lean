/-
  The walk of ShapeEnds.
-/
import Derived.Test.YthmiiddojccafaaH9
import Derived.Test.YthmiiddojccafaaHP
import Derived.Test.YthmiiddojccafaaR6A
import Derived.Test.YthmiiddojccafaaMasks
namespace Go.Proofs.Ythmiiddojccafaa
open Go.RowKit
set_option linter.all false

/-- An Op 0 stands in what is right as a second half alone. -/
theorem op0_half {l : List In} (h : rightO l = true) : ∀ (k : Nat) (y : In), l[k]? = some y → y.op = 0 → isHalfO l k = true
  | 0, y, hy, h0 => by
    have := (right_cut l 0 y h hy).1
    rw [decide_eq_false (by omega)] at this
    cases this
  | k + 1, y, hy, h0 => by
    have hlt := (List.getElem?_eq_some_iff.1 hy).1
    obtain ⟨x, hx⟩ : ∃ x, l[k]? = some x := ⟨l[k]'(by omega), List.getElem?_eq_getElem (by omega)⟩
    rw [half_at, opAt_some hx]
    by_cases h24 : x.op = 24
    · exact decide_eq_true h24
    · exfalso
      have hno : ∀ m, m = k + 1 → rightO (l.drop m) = true → False := fun m hm hd => by
        subst hm
        rw [List.drop_eq_getElem_cons hlt, right_op0 _ _ (by have := List.getElem?_eq_some_iff.1 hy; rw [this.2]; exact h0)] at hd
        cases hd
      by_cases hz : x.op = 0
      · have ih := op0_half h k _ hx hz
        rcases Nat.eq_zero_or_pos k with hk0 | hk0
        · subst hk0; cases ih
        · obtain ⟨m, rfl⟩ : ∃ m, k = m + 1 := ⟨k - 1, by omega⟩
          rw [half_at] at ih
          have h24 := of_decide_eq_true ih
          obtain ⟨u, hw⟩ : ∃ u, l[m]? = some u := ⟨l[m]'(by omega), List.getElem?_eq_getElem (by omega)⟩
          rw [opAt_some hw] at h24
          have hd := (right_cut l m _ h hw).2
          rw [right_at l m _ hw, if_pos h24, hx, decide_eq_true (by omega)] at hd
          simp only [Bool.and_eq_true] at hd
          exact hno (m + 2) rfl hd.2.2
      · have hd := (right_cut l k _ h hx).2
        rw [right_at l k _ hx, if_neg h24, decide_eq_true hz] at hd
        simp only [Bool.and_eq_true] at hd
        exact hno (k + 1) rfl hd.2
def farTo (l : List In) (n : Nat) : Nat → Bool
  | 0 => false
  | i + 1 => farTo l n i || (jumpAt l i && (!hfR l i && decide ((n : Int) ≤ toAt l i)))
theorem far_true {l : List In} {n : Nat} : ∀ {i : Nat}, farTo l n i = true → ∃ j, j < i ∧ jumpAt l j = true ∧ (n : Int) ≤ toAt l j
  | i + 1, h => by
    unfold farTo at h
    simp only [Bool.or_eq_true, Bool.and_eq_true, decide_eq_true_eq] at h
    rcases h with h | ⟨h1, _, h2⟩
    · obtain ⟨j, a, b, c⟩ := far_true h
      exact ⟨j, by omega, b, c⟩
    · exact ⟨i, by omega, h1, h2⟩
theorem far_false {l : List In} {n : Nat} : ∀ {i : Nat}, farTo l n i = false → ∀ j, j < i → jumpAt l j = true → hfR l j = false → toAt l j < (n : Int)
  | i + 1, h, j, hj, h1, h2 => by
    unfold farTo at h
    simp only [Bool.or_eq_false_iff] at h
    rcases Nat.lt_or_ge j i with hlt | hge
    · exact far_false h.1 j hlt h1 h2
    · obtain rfl : j = i := by omega
      have h3 := h.2
      rw [h1, h2] at h3
      simp at h3
      exact h3
theorem at_take {l : List In} {n k : Nat} (h : k < n) : (l.take n)[k]? = l[k]? := List.getElem?_take_of_lt h
theorem opAt_take {l : List In} {n k : Nat} (h : k < n) : opAt (l.take n) k = opAt l k := by unfold opAt; rw [at_take h]
/-- Cut anywhere. -/
theorem ends_wide {l : List In} (hS : shapeO l = true) {n : Nat} (h1 : 1 ≤ n) (hn : n ≤ l.length) {x : In} (hx : l[n - 1]? = some x) (h24 : x.op = 24) : rightE (l.take n) = 1 ∧ hfR l (n - 1) = false := by
  obtain ⟨_, _, _, hr, _⟩ := shape_small hS
  obtain ⟨y, hy, hh⟩ := right_wide hr hx h24
  rw [show n - 1 + 1 = n by omega] at hy
  refine ⟨?_, ?_⟩
  · have := (right_cut l n y hr hy).1
    rw [decide_eq_false (by have := (half_op0 hh).1; omega)] at this
    unfold rightE encO
    rw [this, Bool.and_false]
    rfl
  · rw [hfR_right hr (n - 1) (by omega)]
    rcases hf : isHalfO l (n - 1) with _ | _
    · rfl
    · obtain ⟨z, hz, z0, _⟩ := half_zero hr hf
      rw [hx] at hz
      cases hz
      omega
theorem ends_right {l : List In} (hS : shapeO l = true) {n : Nat} (h1 : 1 ≤ n) (hn : n ≤ l.length) {x : In} (hx : l[n - 1]? = some x) (h24 : x.op ≠ 24) : encO (l.take n) = true := by
  obtain ⟨h5, _, _, hr, _⟩ := shape_small hS
  have hl : (l.take n).length = n := by rw [List.length_take]; omega
  refine enc_intro (by omega) (by omega) ?_
  rcases Nat.lt_or_ge n l.length with hlt | hge
  · have hy : l[n]? = some l[n] := List.getElem?_eq_getElem hlt
    rw [(right_cut l n _ hr hy).1]
    apply decide_eq_true
    intro h0
    have := op0_half hr n _ hy h0
    obtain ⟨m, rfl⟩ : ∃ m, n = m + 1 := ⟨n - 1, by omega⟩
    rw [half_at, opAt_some (by simpa using hx)] at this
    exact h24 (of_decide_eq_true this)
  · rw [List.take_of_length_le hge, hr]
theorem ends_wrong {l : List In} (hS : shapeO l = true) {n : Nat} (h1 : 1 ≤ n) (hn : n ≤ l.length) {j : Nat} (hj : j < n) : wrongO (l.take n) j = ((jumpAt l j && decide ((n : Int) ≤ toAt l j)) || (decide (j + 1 = n) && decide (opAt l j ≠ 149))) := by
  obtain ⟨h5, _, _, hr, hno⟩ := shape_small hS
  have hx : l[j]? = some l[j] := List.getElem?_eq_getElem (by omega)
  obtain ⟨a1, a2, a3, a4, a5⟩ := wrong_parts hx (hno j (by omega))
  have hl : (l.take n).length = n := by rw [List.length_take]; omega
  rw [wrongO_some (by rw [at_take hj]; exact hx), opAt_some hx]
  unfold wrongI jumpAt toAt
  rw [hx]
  simp only
  rw [a1, a2, a3]
  unfold wr4 wr5
  rw [hl]
  simp only [Bool.false_or]
  congr 1
  rcases hJ : jumpsO l[j].op with _ | _
  · rfl
  · obtain ⟨b1, b2, b3⟩ := lead_parts (wr4_no a4 hJ)
    simp only [Bool.true_and]
    unfold leadO
    rw [decide_eq_true b1, hl]
    simp only [Bool.true_and]
    by_cases hlt : (j : Int) + 1 + l[j].off < (n : Int)
    · rw [decide_eq_true hlt, decide_eq_false (by omega)]
      obtain ⟨m, hm⟩ : ∃ m, ((j : Int) + 1 + l[j].off).toNat = m + 1 := ⟨((j : Int) + 1 + l[j].off).toNat - 1, by omega⟩
      rw [hm, half_at] at b3 ⊢
      rw [opAt_take (by omega), b3]
      rfl
    · rw [decide_eq_false hlt, decide_eq_true (by omega)]
      rfl
theorem ends_fine {l : List In} (hS : shapeO l = true) {n : Nat} (h1 : 1 ≤ n) (hn : n ≤ l.length) {x : In} (hx : l[n - 1]? = some x) (h9 : x.op = 149) (hf : farTo l n n = false) : rightP (l.take n) = 0 ∧ rightE (l.take n) = 0 := by
  obtain ⟨_, _, _, hr, _⟩ := shape_small hS
  have hl : (l.take n).length = n := by rw [List.length_take]; omega
  have := right_fine (ends_right hS h1 hn hx (by omega)) (fun j hj => by
    rw [hl] at hj
    rw [ends_wrong hS h1 hn hj]
    have e2 : (decide (j + 1 = n) && decide (opAt l j ≠ 149)) = false := by
      by_cases e : j + 1 = n
      · rw [show j = n - 1 by omega, opAt_some hx, h9]; simp
      · rw [decide_eq_false e]; rfl
    rw [e2, Bool.or_false]
    rcases hJ : jumpAt l j with _ | _
    · rfl
    · have hh : hfR l j = false := by
        rw [hfR_right hr j (by omega)]
        rcases hf' : isHalfO l j with _ | _
        · rfl
        · obtain ⟨y, hy, y0, _⟩ := half_zero hr hf'
          unfold jumpAt at hJ
          rw [hy] at hJ
          simp only [y0] at hJ
          cases hJ
      have := far_false hf j hj hJ hh
      rw [decide_eq_false (by omega)]
      rfl)
  exact ⟨this.1, this.2.1⟩
theorem ends_check {l : List In} (hS : shapeO l = true) {n : Nat} (h1 : 1 ≤ n) (hn : n ≤ l.length) {x : In} (hx : l[n - 1]? = some x) (h24 : x.op ≠ 24) (hb : x.op ≠ 149 ∨ farTo l n n = true) : rightE (l.take n) = 7 ∧ rightP (l.take n) < n := by
  have hl : (l.take n).length = n := by rw [List.length_take]; omega
  have he := ends_right hS h1 hn hx h24
  have hw : ∃ j, j < n ∧ wrongO (l.take n) j = true := by
    rcases hb with h9 | hf
    · refine ⟨n - 1, by omega, ?_⟩
      rw [ends_wrong hS h1 hn (by omega), opAt_some hx, decide_eq_true (show n - 1 + 1 = n by omega), decide_eq_true h9]
      simp
    · obtain ⟨j, hj, hJ, ht⟩ := far_true hf
      refine ⟨j, hj, ?_⟩
      rw [ends_wrong hS h1 hn hj, hJ, decide_eq_true ht]
      rfl
  rcases rightE_cases (l.take n) with ⟨e, _⟩ | ⟨_, k, hk, e1, e2⟩ | ⟨_, e, _⟩
  · rw [he] at e; cases e
  · have := (firstO_some.1 hk).1
    rw [hl] at this
    exact ⟨e2, by omega⟩
  · obtain ⟨j, hj, hw⟩ := hw
    rw [firstO_none.1 e j (by omega)] at hw
    cases hw

set_option maxRecDepth 100000 in
set_option maxHeartbeats 12800000 in
theorem shapeEnds_c {w : World} {v : Value} {l : List In} (hl : Ins w v l) (hw : ∀ i ∈ l, i.Wf) (which : Int) : Calls Try.prog 8 #[v, .int .i64 which] w fun e w' => e = .returned (.bool true) ∧ Calm w w' := by
  obtain ⟨A, ca, rfl, hca, hma⟩ := hl.form
  unfold maxLen at hma
  have H1 := Lib.hid hl
  have HW := Lib.hid hw
  obtain ⟨n, hn⟩ : ∃ n, n = l.length := ⟨_, rfl⟩
  have HN := Lib.hid hn
  have i9 : (n : Int) ≤ 9223372036854775807 := by omega
  have i7 : (n : Int) ≤ (ca : Int) := by omega
  obtain ⟨q, hq0, hq1, hq2, hq3⟩ := cut_len n 100
  have hq : min (n : Int) 100 = (q : Int) := by omega
  rw [← hn] at H1 ⊢
  have I1 : Hid (Ins w (.slice A q ca) (l.take q)) := Lib.hid (by have := H1.out; rw [HN.out] at this; exact this.cut q (by rw [← HN.out]; exact hq2))
  have HQ : Hid ((l.take q).length = q) := Lib.hid (by rw [List.length_take, ← HN.out]; omega)
  have HWL : Hid (∀ i ∈ l.take q, i.Wf) := Lib.hid (fun i hi => HW.out i (List.mem_of_mem_take hi))
  generalize l.take q = L at I1 HQ HWL
  have j1 : (q : Int) ≤ 100 := by omega
  have j2 : (q : Int) ≤ (ca : Int) := by omega
  have HQ2 : Hid (q ≤ 100) := Lib.hid hq1
  clear hl hw hn hca hma hq0 hq3 H1 HW HN
  go_enter Try.func8, Try.ntmps8
  go_wp2_with fail
  refine (shown6_c w).mono ?_
  rintro e w1 ⟨rfl, hc1⟩
  have C1 := Lib.hid hc1
  have I0 := Lib.hid (I1.out.calm hc1)
  have IW := I1
  clear hc1 I1
  have E1 := Lib.hid (right_c I0.out HWL.out)
  go_wp2_with fail
  refine E1.out.mono ?_
  rintro e w2 ⟨rfl, hc2⟩
  have C2 := Lib.hid (C1.out.trans hc2)
  have I2 := Lib.hid (I0.out.calm hc2)
  clear hc2 I0 E1 C1 hq hq1 hq2 i9 i7
  by_cases hE : rightE L = 0
  rotate_left
  · obtain ⟨E, hEE⟩ : ∃ E : Int, E = (rightE L : Int) := ⟨_, rfl⟩
    have d1 : (E != 0) = true := by rw [bne_iff_ne]; omega
    rw [← hEE]
    clear hE hEE
    go_wp2_with fail
    go_ret
    exact ⟨rfl, C2.out⟩
  have HS := Lib.hid (rightE_zero hE)
  rw [hE]
  clear hE
  generalize (rightP L : Int) = PP
  have HP0 : Hid (1 ≤ q) := Lib.hid (by rw [← HQ.out]; exact (shape_small HS.out).2.1)
  have k1 : (1 : Int) ≤ (q : Int) := by have := HP0.out; omega
  obtain ⟨r, hr16, hm⟩ := mask_nat which 16 65535 (by decide) rfl
  obtain ⟨n, hm1, hn1, hn2⟩ : ∃ n : Nat, (r : Int).tmod (q : Int) = (n : Int) - 1 ∧ 1 ≤ n ∧ n ≤ q := ⟨r % q + 1, by rw [Int.tmod_eq_emod_of_nonneg (by omega), Int.natCast_add, Int.natCast_emod]; omega, by omega, by have := Nat.mod_lt r HP0.out; omega⟩
  have hm3 : (r : Int) % (q : Int) = (n : Int) - 1 := by rw [← hm1, Int.tmod_eq_emod_of_nonneg (by omega)]
  have HNN := Lib.hid (And.intro hn1 hn2)
  have k2 : (1 : Int) ≤ (n : Int) := by omega
  have k3 : (n : Int) ≤ (q : Int) := by omega
  have k5 : 1 + ((n : Int) - 1) = (n : Int) := by omega
  clear hr16 hn1 hn2
  go_wp2_with fail
  clear hm hm1 hm3
  go_loopw [9, 10] (fun b i wr => ∃ k : Nat, k ≤ n ∧ i = .int .i64 k ∧ b = .bool (farTo L n k) ∧ Calm w wr) (fun _ i _ => n - (intOf i).toNat)
  case atStart => exact ⟨0, by omega, rfl, rfl, C2.out⟩
  case round =>
    obtain ⟨k, hk, rfl, rfl, hcal⟩ := hrel
    have HC := Lib.hid hcal
    clear hcal
    by_cases hlt : k < n
    · have i1 : (k : Int) < (n : Int) := by omega
      have i2 : (k : Int) < (q : Int) := by omega
      have i3 : (k : Int) ≤ 100 := by omega
      obtain ⟨ad, x, hA, hx, hat⟩ := IW.out.at_ HC.out k (by rw [HQ.out]; have := HNN.out; omega)
      subst hA
      have HXW := Lib.hid (HWL.out x (List.mem_of_getElem? hx))
      have JC := Lib.hid (fun w => rjump_c (op := x.op) x.dst x.src x.off x.imm w HXW.out.op)
      have HX := Lib.hid hx
      have HAT := Lib.hid hat
      have HFT : Hid (farTo L n (k + 1) = (farTo L n k || (jumpsO x.op && (!hfR L k && decide ((n : Int) ≤ (k : Int) + 1 + x.off))))) := Lib.hid (by
        show (farTo L n k || (jumpAt L k && (!hfR L k && decide ((n : Int) ≤ toAt L k)))) = _
        unfold jumpAt toAt
        rw [hx])
      have HHC := Lib.hid (fun w' (hc : Calm w w') => rhalf_c (IW.out.calm hc) k (by rw [HQ.out]; have := HNN.out; omega))
      have i4 : -32768 ≤ x.off := HXW.out.off.1
      have i5 : x.off < 32768 := HXW.out.off.2
      obtain ⟨e0, e1, e2, e3, e4⟩ := hat
      generalize jumpsO x.op = J at JC HFT
      generalize hfR L k = Hf at HHC HFT
      generalize farTo L n k = B at HFT ⊢
      clear hx
      go_wp2_with fail
      refine (JC.out _).mono ?_
      rintro e' w3 ⟨rfl, hc3⟩
      have C3 := Lib.hid (HC.out.trans hc3)
      clear e0 e1 e2 e3 e4 JC
      go_wp2_with fail
      refine (HHC.out _ C3.out).mono ?_
      rintro e' w4 ⟨rfl, hc4⟩
      have C4 := Lib.hid (C3.out.trans hc4)
      obtain ⟨e0, e1, e2, e3, e4⟩ := HAT.out.calm (hc3.trans hc4)
      clear hc3 hc4 C3 HHC HAT
      rcases B with _ | _
      · rcases J with _ | _
        · go_wp2_with fail
          go_roundw
          case rel => exact ⟨k + 1, by omega, by go_num, by rw [HFT.out]; rfl, C4.out⟩
          case measure => simp [intOf]; omega
        · rcases Hf with _ | _
          · go_wp2_with fail
            go_roundw
            case rel => exact ⟨k + 1, by omega, by go_num, by rw [HFT.out]; rfl, C4.out⟩
            case measure => simp [intOf]; omega
          · go_wp2_with fail
            go_roundw
            case rel => exact ⟨k + 1, by omega, by go_num, by rw [HFT.out]; rfl, C4.out⟩
            case measure => simp [intOf]; omega
      · go_wp2_with fail
        go_roundw
        case rel => exact ⟨k + 1, by omega, by go_num, by rw [HFT.out]; rfl, C4.out⟩
        case measure => simp [intOf]; omega
    · obtain rfl : k = n := by omega
      have IT : Hid (Ins wr (.slice A k ca) (L.take k)) := Lib.hid (by
        have h := IW.out.calm HC.out
        have hq := HQ.out
        rw [← hq] at h
        exact h.cut k (by rw [hq]; exact HNN.out.2))
      have k4 : (k : Int) ≤ (ca : Int) := by omega
      have RC := Lib.hid (right_c IT.out (fun i hi => HWL.out i (List.mem_of_mem_take hi)))
      obtain ⟨ad, x, hA, hx, -⟩ := IW.out.at_ HC.out (k - 1) (by rw [HQ.out]; have := HNN.out; omega)
      subst hA
      go_wp2_with fail
      refine RC.out.mono ?_
      rintro e' w5 ⟨rfl, hc5⟩
      have C5 := Lib.hid (HC.out.trans hc5)
      obtain ⟨ad', x', e1, e2, hat⟩ := IW.out.at_ C5.out (k - 1) (by rw [HQ.out]; have := HNN.out; omega)
      cases e1
      rw [hx] at e2
      cases e2
      obtain ⟨m, rfl⟩ : ∃ m, k = m + 1 := ⟨k - 1, by have := HNN.out; omega⟩
      rw [show m + 1 - 1 = m by omega] at hat hx
      have e0 := hat.c0
      have HX : Hid (L[m + 1 - 1]? = some x) := Lib.hid (by rw [show m + 1 - 1 = m by omega]; exact hx)
      have HNL : Hid (1 ≤ m + 1 ∧ m + 1 ≤ L.length) := Lib.hid ⟨by omega, by rw [HQ.out]; exact HNN.out.2⟩
      have z1 : ((m + 1 : Nat) : Int) = (m : Int) + 1 := by omega
      rw [z1] at k2 k3 k4 k5
      simp only [z1]
      have k6 : (m : Int) < (q : Int) := by omega
      have k7 : (m : Int) ≤ 100 := by omega
      clear hc5 RC IT hat hx z1
      by_cases h24 : x.op = 24
      · obtain ⟨hE, hH⟩ := ends_wide HS.out HNL.out.1 HNL.out.2 HX.out h24
        have HHC := rhalf_c (IW.out.calm C5.out) m (by rw [HQ.out]; omega)
        rw [show m + 1 - 1 = m by omega] at hH
        rw [hH] at HHC
        have HHC := Lib.hid HHC
        rw [hE]
        generalize (rightP (L.take (m + 1)) : Int) = P7
        have d1 : ((x.op : Int) == 24) = true := by rw [beq_iff_eq]; omega
        clear hE hH h24
        go_wp2_with fail
        refine HHC.out.mono ?_
        rintro e' w6 ⟨rfl, hc6⟩
        have C6 := Lib.hid (C5.out.trans hc6)
        clear hc6 HHC
        go_wp2_with fail
        go_ret
        exact ⟨rfl, C6.out⟩
      · have d1 : ((x.op : Int) == 24) = false := by rw [beq_eq_false_iff_ne]; omega
        by_cases hfine : x.op = 149 ∧ farTo L (m + 1) (m + 1) = false
        · obtain ⟨hP, hE⟩ := ends_fine HS.out HNL.out.1 HNL.out.2 HX.out hfine.1 hfine.2
          rw [hP, hE, hfine.2]
          have d2 : ((x.op : Int) == 149) = true := by rw [beq_iff_eq]; have := hfine.1; omega
          clear hP hE h24 hfine
          go_wp2_with fail
          go_ret
          exact ⟨rfl, C5.out⟩
        · have hb : x.op ≠ 149 ∨ farTo L (m + 1) (m + 1) = true := by
            rcases hf : farTo L (m + 1) (m + 1) with _ | _
            · exact .inl (fun h9 => hfine ⟨h9, hf⟩)
            · exact .inr rfl
          obtain ⟨hE, hP⟩ := ends_check HS.out HNL.out.1 HNL.out.2 HX.out h24 hb
          rw [hE]
          obtain ⟨P7, hP7⟩ : ∃ P7 : Int, P7 = (rightP (L.take (m + 1)) : Int) := ⟨_, rfl⟩
          have d3 : P7 < (m : Int) + 1 := by omega
          rw [← hP7]
          generalize farTo L (m + 1) (m + 1) = B at hb ⊢
          clear hP hE h24 hfine hP7
          rcases hb with h9 | rfl
          · have d2 : ((x.op : Int) == 149) = false := by rw [beq_eq_false_iff_ne]; omega
            clear h9
            go_wp2_with fail
            go_ret
            exact ⟨rfl, C5.out⟩
          · by_cases h9 : x.op = 149
            · have d2 : ((x.op : Int) == 149) = true := by rw [beq_iff_eq]; omega
              clear h9
              go_wp2_with fail
              go_ret
              exact ⟨rfl, C5.out⟩
            · have d2 : ((x.op : Int) == 149) = false := by rw [beq_eq_false_iff_ne]; omega
              clear h9
              go_wp2_with fail
              go_ret
              exact ⟨rfl, C5.out⟩
end Go.Proofs.Ythmiiddojccafaa
