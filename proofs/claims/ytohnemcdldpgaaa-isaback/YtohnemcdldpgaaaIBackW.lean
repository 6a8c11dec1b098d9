/-
  The walk of IsaBack.
-/
import Derived.Test.YtohnemcdldpgaaaIS
import Derived.Test.YtohnemcdldpgaaaISame
namespace Go.Proofs.Ytohnemcdldpgaaa
open Go.RowKit
set_option linter.all false

theorem dec_of_enc {l : List In} (hw : ∀ i ∈ l, i.Wf) (h : encO l = true) : decL (encL l) = l ∧ decO (encL l) = true := by
  unfold encO at h
  simp only [Bool.and_eq_true, decide_eq_true_eq] at h
  have he := dec_enc l hw (right_small l h.2)
  refine ⟨he, ?_⟩
  unfold decO
  rw [he, encL_len, h.2, Bool.and_true]
  apply decide_eq_true
  omega
theorem enc_of_dec {bs : List UInt8} (h : decO bs = true) : encO (decL bs) = true ∧ encL (decL bs) = bs := by
  unfold decO at h
  simp only [Bool.and_eq_true, decide_eq_true_eq] at h
  refine ⟨?_, enc_dec (bs.length / 8) bs (by omega)⟩
  unfold encO
  rw [decL_len _ bs rfl, h.2, Bool.and_true]
  exact decide_eq_true h.1.2
theorem decL_wf' (bs : List UInt8) : ∀ i ∈ decL bs, i.Wf := decL_wf _ bs rfl

set_option maxRecDepth 100000 in
set_option maxHeartbeats 6400000 in
theorem isaBack_c {w : World} {v : Value} {l : List In} (hl : Ins w v l) (hw : ∀ i ∈ l, i.Wf) {u : Value} {bs : List UInt8} (hb : Rd w u bs) : Calls Try.prog 6 #[v, u] w fun e w' => e = .returned (.bool true) ∧ Calm w w' := by
  obtain ⟨A, ca, rfl, hca, hma⟩ := hl.form
  obtain ⟨B, cb, rfl, hcb, hmb⟩ := hb.form
  unfold maxLen at hma hmb
  have H1 := Lib.hid hl
  have H2 := Lib.hid hb
  have HW := Lib.hid hw
  obtain ⟨n, hn⟩ : ∃ n, n = l.length := ⟨_, rfl⟩
  obtain ⟨m, hm⟩ : ∃ m, m = bs.length := ⟨_, rfl⟩
  have HN := Lib.hid (And.intro hn hm)
  have i9 : (n : Int) ≤ 9223372036854775807 := by omega
  have i8 : (m : Int) ≤ 9223372036854775807 := by omega
  have i7 : (n : Int) ≤ (ca : Int) := by omega
  have i6 : (m : Int) ≤ (cb : Int) := by omega
  obtain ⟨q, hq0, hq1, hq2, hq3⟩ := cut_len n 600
  obtain ⟨p, hp0, hp1, hp2, hp3⟩ := cut_len m 5000
  have hq : (if 600 < (n : Int) then 600 else (n : Int)) = (q : Int) := hq0
  have hp : (if 5000 < (m : Int) then 5000 else (m : Int)) = (p : Int) := hp0
  rw [← hn] at H1 ⊢
  rw [← hm] at H2 ⊢
  have I1 : Hid (Ins w (.slice A q ca) (l.take q)) := Lib.hid (by have := H1.out; rw [HN.out.1] at this; exact this.cut q (by rw [← HN.out.1]; exact hq2))
  have R1 : Hid (Rd w (.slice B p cb) (bs.take p)) := Lib.hid (by have := H2.out; rw [HN.out.2] at this; exact this.cut p (by rw [← HN.out.2]; exact hp2))
  have HQ : Hid ((l.take q).length = q) := Lib.hid (by rw [List.length_take, ← HN.out.1]; omega)
  have HP : Hid ((bs.take p).length = p) := Lib.hid (by rw [List.length_take, ← HN.out.2]; omega)
  have HWL : Hid (∀ i ∈ l.take q, i.Wf) := Lib.hid (fun i hi => HW.out i (List.mem_of_mem_take hi))
  generalize l.take q = L at I1 HQ HWL
  generalize bs.take p = bb at R1 HP
  have j1 : (q : Int) ≤ 600 := by omega
  have j2 : (q : Int) ≤ (ca : Int) := by omega
  have j3 : (p : Int) ≤ (cb : Int) := by omega
  have j4 : (p : Int) ≤ 5000 := by omega
  clear hl hb hw hn hm hca hcb hma hmb hq0 hp0 hq3 hp3 H1 H2 HW HN
  go_enter Try.func6, Try.ntmps6
  go_wp2_with fail
  refine (shown5_c w).mono ?_
  rintro e w1 ⟨rfl, hc1⟩
  have C1 := Lib.hid hc1
  have I2 := Lib.hid (I1.out.calm hc1)
  have R2 := Lib.hid (R1.out.calm hc1)
  clear hc1 I1 R1
  have E1 := Lib.hid (encode_c I2.out HWL.out)
  go_wp2_with fail
  refine E1.out.mono ?_
  rintro e w2 ⟨hc2, hcase⟩
  have C2 := Lib.hid (C1.out.trans hc2)
  have I3 := Lib.hid (I2.out.calm hc2)
  have R3 := Lib.hid (R2.out.calm hc2)
  clear hc2 I2 R2 E1 C1
  rcases hcase with ⟨hyes, vx, rfl, hrd⟩ | ⟨hno, rfl⟩
  · obtain ⟨AX, cx, rfl, -, -⟩ := hrd.form
    have hde := dec_of_enc HWL.out hyes
    have HDE := Lib.hid hde
    have D1 := Lib.hid (decode_c hrd)
    have hxl : (encL L).length = q * 8 := by rw [encL_len, HQ.out]; omega
    rw [hxl] at D1 ⊢
    clear hrd hde hxl hyes
    go_wp2_with fail
    refine D1.out.mono ?_
    rintro e w3 ⟨hc3, hcase⟩
    rcases hcase with ⟨-, vm, rfl, him⟩ | ⟨hno, -⟩
    rotate_left
    · rw [HDE.out.2] at hno; cases hno
    rw [HDE.out.1] at him
    have C3 := Lib.hid (C2.out.trans hc3)
    have I4 := Lib.hid (I3.out.calm hc3)
    have R4 := Lib.hid (R3.out.calm hc3)
    have SM := Lib.hid (same_c him I4.out)
    rw [decide_eq_true (rfl : L = L)] at SM
    obtain ⟨AM, cm, rfl, -, -⟩ := him.form
    rw [HQ.out] at SM ⊢
    clear hc3 him I3 R3 D1 C2
    go_wp2_with fail
    refine SM.out.mono ?_
    rintro e w4 ⟨rfl, hc4⟩
    have C4 := Lib.hid (C3.out.trans hc4)
    have R5 := Lib.hid (R4.out.calm hc4)
    have k1 : (((q * 8 : Nat) : Int) != 8 * (q : Int)) = false := by rw [bne_eq_false_iff_eq]; omega
    have k2 : (((q : Int) * 8) != 8 * (q : Int)) = false := by rw [bne_eq_false_iff_eq]; omega
    clear hc4 SM I4 R4 C3
    have D2 := Lib.hid (decode_c R5.out)
    go_wp2_with fail
    refine D2.out.mono ?_
    rintro e w5 ⟨hc5, hcase⟩
    have C5 := Lib.hid (C4.out.trans hc5)
    have R6 := Lib.hid (R5.out.calm hc5)
    clear hc5 D2 R5 C4
    rcases hcase with ⟨hyes, vm, rfl, him⟩ | ⟨hno, rfl⟩
    · have hed := enc_of_dec hyes
      have E2 := Lib.hid (encode_c him (decL_wf' bb))
      obtain ⟨AM, cm, rfl, -, -⟩ := him.form
      have HED := Lib.hid hed
      clear him hed hyes
      go_wp2_with fail
      refine E2.out.mono ?_
      rintro e w6 ⟨hc6, hcase⟩
      rcases hcase with ⟨-, vy, rfl, hry⟩ | ⟨hno, -⟩
      rotate_left
      · rw [HED.out.1] at hno; cases hno
      rw [HED.out.2] at hry
      have C6 := Lib.hid (C5.out.trans hc6)
      have k3 := conv_rd hry
      have k4 := conv_rd (R6.out.calm hc6)
      obtain ⟨AY, cy, rfl, -, -⟩ := hry.form
      clear hc6 hry E2 HED
      go_wp2_with fail
      go_ret
      exact ⟨rfl, C6.out⟩
    · clear hno
      go_wp2_with fail
      go_ret
      exact ⟨rfl, C5.out⟩
  · clear hno
    have C4 : Hid (Calm w w2) := C2
    have R5 : Hid (Rd w2 (.slice B p cb) bb) := R3
    have D2 := Lib.hid (decode_c R5.out)
    go_wp2_with fail
    refine D2.out.mono ?_
    rintro e w5 ⟨hc5, hcase⟩
    have C5 := Lib.hid (C4.out.trans hc5)
    have R6 := Lib.hid (R5.out.calm hc5)
    clear hc5 D2 R5 C4
    rcases hcase with ⟨hyes, vm, rfl, him⟩ | ⟨hno, rfl⟩
    · have hed := enc_of_dec hyes
      have E2 := Lib.hid (encode_c him (decL_wf' bb))
      obtain ⟨AM, cm, rfl, -, -⟩ := him.form
      have HED := Lib.hid hed
      clear him hed hyes
      go_wp2_with fail
      refine E2.out.mono ?_
      rintro e w6 ⟨hc6, hcase⟩
      rcases hcase with ⟨-, vy, rfl, hry⟩ | ⟨hno, -⟩
      rotate_left
      · rw [HED.out.1] at hno; cases hno
      rw [HED.out.2] at hry
      have C6 := Lib.hid (C5.out.trans hc6)
      have k3 := conv_rd hry
      have k4 := conv_rd (R6.out.calm hc6)
      obtain ⟨AY, cy, rfl, -, -⟩ := hry.form
      clear hc6 hry E2 HED
      go_wp2_with fail
      go_ret
      exact ⟨rfl, C6.out⟩
    · clear hno
      go_wp2_with fail
      go_ret
      exact ⟨rfl, C5.out⟩
end Go.Proofs.Ytohnemcdldpgaaa
