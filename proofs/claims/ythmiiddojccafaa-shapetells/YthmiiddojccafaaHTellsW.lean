/-
  The walk of ShapeTells.
-/
import Derived.Test.YthmiiddojccafaaH9
import Derived.Test.YthmiiddojccafaaHP
import Derived.Test.YthmiiddojccafaaR6C
namespace Go.Proofs.Ythmiiddojccafaa
open Go.RowKit
set_option linter.all false

set_option maxRecDepth 100000 in
set_option maxHeartbeats 12800000 in
theorem shapeTells_c {w : World} {v : Value} {l : List In} (hl : Ins w v l) (hw : ∀ i ∈ l, i.Wf) (at0 : Int) : Calls Try.prog 3 #[v, .int .i64 at0] w fun e w' => e = .returned (.bool true) ∧ Calm w w' := by
  obtain ⟨A, ca, rfl, hca, hma⟩ := hl.form
  unfold maxLen at hma
  have H1 := Lib.hid hl
  have HW := Lib.hid hw
  obtain ⟨n, hn⟩ : ∃ n, n = l.length := ⟨_, rfl⟩
  have HN := Lib.hid hn
  have i9 : (n : Int) ≤ 9223372036854775807 := by omega
  have i7 : (n : Int) ≤ (ca : Int) := by omega
  obtain ⟨q, hq0, hq1, hq2, hq3⟩ := cut_len n 60
  have hq : min (n : Int) 60 = (q : Int) := by omega
  rw [← hn] at H1 ⊢
  have I1 : Hid (Ins w (.slice A q ca) (l.take q)) := Lib.hid (by have := H1.out; rw [HN.out] at this; exact this.cut q (by rw [← HN.out]; exact hq2))
  have HQ : Hid ((l.take q).length = q) := Lib.hid (by rw [List.length_take, ← HN.out]; omega)
  have HWL : Hid (∀ i ∈ l.take q, i.Wf) := Lib.hid (fun i hi => HW.out i (List.mem_of_mem_take hi))
  generalize l.take q = L at I1 HQ HWL
  have j1 : (q : Int) ≤ 60 := by omega
  have j2 : (q : Int) ≤ (ca : Int) := by omega
  have HQ2 : Hid (q ≤ 60) := Lib.hid hq1
  clear hl hw hn hca hma hq0 hq3 H1 HW HN
  go_enter Try.func3, Try.ntmps3
  go_wp2_with fail
  refine (shown6_c w).mono ?_
  rintro e w1 ⟨rfl, hc1⟩
  have C1 := Lib.hid hc1
  have I0 := Lib.hid (I1.out.calm hc1)
  have IW := I1
  clear hc1 I1
  have E1 := Lib.hid (right_c I0.out HWL.out)
  go_wp2_with fail
  refine E1.out.mono ?_
  rintro e w2 ⟨rfl, hc2⟩
  have C2 := Lib.hid (C1.out.trans hc2)
  have I2 := Lib.hid (I0.out.calm hc2)
  clear hc2 I0 E1 C1 hq hq1 hq2 i9 i7
  obtain ⟨PP, hPP⟩ : ∃ PP : Int, PP = (rightP L : Int) := ⟨_, rfl⟩
  obtain ⟨E, hEE⟩ : ∃ E : Int, E = (rightE L : Int) := ⟨_, rfl⟩
  have RR := rright6_c I2.out HWL.out
  rw [← hPP, ← hEE] at RR
  rw [← hPP, ← hEE]
  have RR := Lib.hid RR
  clear hPP hEE
  go_wp2_with fail
  refine RR.out.mono ?_
  rintro e w3 ⟨rfl, hc3⟩
  have C3 := Lib.hid (C2.out.trans hc3)
  clear hc3 RR C2 I2
  have TC := Lib.hid (targets_c (IW.out.calm C3.out) HWL.out)
  go_wp2_with fail
  refine TC.out.mono ?_
  rintro e w4 ⟨v4, rfl, hn4, hc4⟩
  have C4 := Lib.hid (C3.out.trans hc4)
  have N4 := Lib.hid hn4
  have TR := Lib.hid (rtargets_c (IW.out.calm C4.out) HWL.out)
  clear hc4 hn4 TC C3
  go_wp2_with fail
  refine TR.out.mono ?_
  rintro e w5 ⟨v5, rfl, hn5, hc5⟩
  have C5 := Lib.hid (C4.out.trans hc5)
  have SC := Lib.hid (same6_c (N4.out.calm hc5) hn5)
  clear hc5 hn5 TR C4 N4
  go_wp2_with fail
  refine SC.out.mono ?_
  rintro e w6 ⟨rfl, hc6⟩
  have C6 := Lib.hid (C5.out.trans hc6)
  clear hc6 SC C5
  have FC := Lib.hid (follow_c (IW.out.calm C6.out) HWL.out at0)
  go_wp2_with fail
  refine FC.out.mono ?_
  rintro e w7 ⟨v7, rfl, hn7, hc7⟩
  have C7 := Lib.hid (C6.out.trans hc7)
  have N7 := Lib.hid hn7
  have FR := Lib.hid (rfollow_c (IW.out.calm C7.out) HWL.out at0)
  clear hc7 hn7 FC C6
  go_wp2_with fail
  refine FR.out.mono ?_
  rintro e w8 ⟨v8, rfl, hn8, hc8⟩
  have C8 := Lib.hid (C7.out.trans hc8)
  have SC := Lib.hid (same6_c (N7.out.calm hc8) hn8)
  clear hc8 hn8 FR C7 N7
  go_wp2_with fail
  refine SC.out.mono ?_
  rintro e w9 ⟨rfl, hc9⟩
  have C9 := Lib.hid (C8.out.trans hc9)
  clear hc9 SC C8
  go_wp2_with fail
  go_loopw [10] (fun i wr => ∃ k : Nat, k ≤ q + 2 ∧ i = .int .i64 ((k : Int) - 1) ∧ Calm w wr) (fun i _ => ((q : Int) + 1 - intOf i).toNat)
  case atStart => exact ⟨0, by omega, rfl, C9.out⟩
  case round =>
    obtain ⟨k, hk, rfl, hcal⟩ := hrel
    have HC := Lib.hid hcal
    clear hcal
    obtain ⟨z, hz⟩ : ∃ z : Int, z = (k : Int) - 1 := ⟨_, rfl⟩
    rw [← hz]
    have HZ := Lib.hid hz
    by_cases hlt : z ≤ (q : Int)
    · have d1 : decide (z ≤ (q : Int)) = true := decide_eq_true hlt
      have d2 : z ≤ 60 := by omega
      have d3 : -1 ≤ z := by omega
      have FC := Lib.hid (follow_c (IW.out.calm HC.out) HWL.out z)
      clear hz
      go_wp2_with fail
      refine FC.out.mono ?_
      rintro e wa ⟨va, rfl, hna, hca⟩
      have CA := Lib.hid (HC.out.trans hca)
      have NA := Lib.hid hna
      have FR := Lib.hid (rfollow_c (IW.out.calm CA.out) HWL.out z)
      clear hca hna FC
      go_wp2_with fail
      refine FR.out.mono ?_
      rintro e wb ⟨vb, rfl, hnb, hcb⟩
      have CB := Lib.hid (CA.out.trans hcb)
      have SC := Lib.hid (same6_c (NA.out.calm hcb) hnb)
      clear hcb hnb FR CA NA
      go_wp2_with fail
      refine SC.out.mono ?_
      rintro e wc ⟨rfl, hcc⟩
      have CC := Lib.hid (CB.out.trans hcc)
      clear hcc SC CB
      go_wp2_with fail
      go_roundw
      case rel => exact ⟨k + 1, by have := HZ.out; omega, by rw [HZ.out]; go_num, CC.out⟩
      case measure => have := HZ.out; simp [intOf]; omega
    · have d1 : decide (z ≤ (q : Int)) = false := decide_eq_false hlt
      clear hz hlt
      go_wp2_with fail
      go_ret
      exact ⟨rfl, HC.out⟩
end Go.Proofs.Ythmiiddojccafaa
