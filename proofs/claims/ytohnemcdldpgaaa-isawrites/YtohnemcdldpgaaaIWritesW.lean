/-
  The walk of IsaWrites.
-/
import Derived.Test.YtohnemcdldpgaaaIS
import Derived.Test.YtohnemcdldpgaaaR5W
namespace Go.Proofs.Ytohnemcdldpgaaa
open Go.RowKit
set_option linter.all false

set_option maxRecDepth 100000 in
set_option maxHeartbeats 3200000 in
theorem isaWrites_c {w : World} {v : Value} {l : List In} (hl : Ins w v l) (hw : ∀ i ∈ l, i.Wf) : Calls Try.prog 5 #[v] w fun e w' => e = .returned (.bool true) ∧ Calm w w' := by
  obtain ⟨A, ca, rfl, hca, hma⟩ := hl.form
  unfold maxLen at hma
  have H1 := Lib.hid hl
  have HW := Lib.hid hw
  obtain ⟨n, hn⟩ : ∃ n, n = l.length := ⟨_, rfl⟩
  have HN := Lib.hid hn
  have i9 : (n : Int) ≤ 9223372036854775807 := by omega
  have i7 : (n : Int) ≤ (ca : Int) := by omega
  obtain ⟨q, hq0, hq1, hq2, hq3⟩ := cut_len n 600
  have hq : (if 600 < (n : Int) then 600 else (n : Int)) = (q : Int) := hq0
  rw [← hn] at H1 ⊢
  have I1 : Hid (Ins w (.slice A q ca) (l.take q)) := Lib.hid (by have := H1.out; rw [HN.out] at this; exact this.cut q (by rw [← HN.out]; exact hq2))
  have HQ : Hid ((l.take q).length = q) := Lib.hid (by rw [List.length_take, ← HN.out]; omega)
  have HWL : Hid (∀ i ∈ l.take q, i.Wf) := Lib.hid (fun i hi => HW.out i (List.mem_of_mem_take hi))
  generalize l.take q = L at I1 HQ HWL
  have j1 : (q : Int) ≤ 600 := by omega
  have j2 : (q : Int) ≤ (ca : Int) := by omega
  clear hl hw hn hca hma hq0 hq3 H1 HW HN
  go_enter Try.func5, Try.ntmps5
  go_wp2_with fail
  refine (shown5_c w).mono ?_
  rintro e w1 ⟨rfl, hc1⟩
  have C1 := Lib.hid hc1
  have I2 := Lib.hid (I1.out.calm hc1)
  clear hc1 I1
  have E1 := Lib.hid (encode_c I2.out HWL.out)
  go_wp2_with fail
  refine E1.out.mono ?_
  rintro e w2 ⟨hc2, hcase⟩
  have C2 := Lib.hid (C1.out.trans hc2)
  have I3 := Lib.hid (I2.out.calm hc2)
  have E2 := Lib.hid (rencode_c I3.out HWL.out)
  clear hc2 I2 E1 C1
  rcases hcase with ⟨hyes, vx, rfl, hrd⟩ | ⟨hno, rfl⟩
  · obtain ⟨AX, cx, rfl, -, -⟩ := hrd.form
    have HRD := Lib.hid hrd
    have HY := Lib.hid hyes
    clear hrd hyes
    go_wp2_with fail
    refine E2.out.mono ?_
    rintro e w3 ⟨hc3, hcase⟩
    rcases hcase with ⟨-, rfl⟩ | ⟨hno, -⟩
    rotate_left
    · rw [HY.out] at hno; cases hno
    have k1 := conv_rd (HRD.out.calm hc3)
    have C3 := Lib.hid (C2.out.trans hc3)
    clear hc3 E2
    go_wp2_with fail
    go_ret
    exact ⟨rfl, C3.out⟩
  · have HY := Lib.hid hno
    clear hno
    go_wp2_with fail
    refine E2.out.mono ?_
    rintro e w3 ⟨hc3, hcase⟩
    rcases hcase with ⟨hyes, -⟩ | ⟨-, rfl⟩
    · rw [HY.out] at hyes; cases hyes
    have k1 := conv_rd (w := w3) (v := .slice none 0 0) (bs := []) (.inl ⟨rfl, rfl⟩)
    have C3 := Lib.hid (C2.out.trans hc3)
    clear hc3 E2
    go_wp2_with fail
    go_ret
    exact ⟨rfl, C3.out⟩
end Go.Proofs.Ytohnemcdldpgaaa
