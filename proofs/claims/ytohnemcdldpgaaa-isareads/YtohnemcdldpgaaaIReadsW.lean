/-
  The walk of IsaReads.
-/
import Derived.Test.YtohnemcdldpgaaaIS
import Derived.Test.YtohnemcdldpgaaaISame
import Derived.Test.YtohnemcdldpgaaaR5E
namespace Go.Proofs.Ytohnemcdldpgaaa
open Go.RowKit
set_option linter.all false

set_option maxRecDepth 100000 in
set_option maxHeartbeats 3200000 in
theorem isaReads_c {w : World} {u : Value} {bs : List UInt8} (hb : Rd w u bs) : Calls Try.prog 4 #[u] w fun e w' => e = .returned (.bool true) ∧ Calm w w' := by
  obtain ⟨A, cap, rfl, hcap, hmax⟩ := hb.form
  unfold maxLen at hmax
  have Hb := Lib.hid hb
  clear hb
  go_enter Try.func4, Try.ntmps4
  go_wp2_with fail
  refine (shown5_c w).mono ?_
  rintro e w1 ⟨rfl, hc1⟩
  have C1 := Lib.hid hc1
  clear hc1
  obtain ⟨q, hq0, hq1, hq2, -⟩ := cut_len bs.length 5000
  have hq : (if 5000 < (bs.length : Int) then 5000 else (bs.length : Int)) = (q : Int) := hq0
  clear hq0
  go_upto_region 3 with fail
  have hr1 : Rd w1 (.slice A q cap) (bs.take q) := (Hb.out.calm C1.out).cut q hq2
  have hl : (bs.take q).length = q := by rw [List.length_take]; omega
  generalize hbs : bs.take q = cs at *
  have C2 : Hid (Calm w1 (w1.alloc (.cells #[] 5))) := Lib.hid ((Keep.refl _ w1).alloc _)
  have Hr1 := Lib.hid hr1
  have Hl := Lib.hid hl
  have Hq := Lib.hid hq1
  clear hr1 hbs hq hl hq1 hq2 hcap hmax
  go_upto_region 4 with (at_builtin; go_loud (refine append_own rfl (.tmp 15) (.tmp 16) rfl w1.heap.size w1.heap.size 0 0 [] rfl (Own.made w1) (.slice A q cap) cs rfl (Hr1.out.calm C2.out) (by simp; have := Hl.out; have := Hq.out; omega) (by simp) ?_); rintro g c w2 ho hg; generalize hle : (([] : List UInt8).length + cs.length) = m at ho ⊢)
  have C3 : Hid (Calm w1 w2) := Lib.hid (C2.out.grown hg (fun k e hk => by injection e with e; omega))
  have hr2 := ho.rd ⟨_, _, _, rfl⟩
  rw [List.nil_append] at hr2
  have HR2 := Lib.hid hr2
  have HR1 := Lib.hid (Hr1.out.calm C3.out)
  clear hr2 ho hg hle C2 Hr1
  have D1 := Lib.hid (decode_c HR2.out)
  go_wp2_with fail
  refine D1.out.mono ?_
  rintro e w3 ⟨hc3, hcase⟩
  have k1 := conv_rd (HR1.out.calm hc3)
  have C4 := Lib.hid hc3
  have RD := Lib.hid (fun w => rdecode_c cs (by have := Hl.out; have := Hq.out; omega) w)
  clear D1 hc3
  rcases hcase with ⟨hyes, vv, rfl, hin⟩ | ⟨hno, rfl⟩
  · obtain ⟨AV, cv, rfl, -, -⟩ := hin.form
    have HIN := Lib.hid hin
    have HY := Lib.hid hyes
    clear hin hyes
    go_wp2_with fail
    refine (RD.out _).mono ?_
    rintro e w4 ⟨hc4, hcase⟩
    rcases hcase with ⟨-, v2, rfl, hin2⟩ | ⟨hno, -⟩
    rotate_left
    · rw [HY.out] at hno; cases hno
    have C5 := Lib.hid hc4
    have SM := Lib.hid (same_c (HIN.out.calm hc4) hin2)
    rw [decide_eq_true (rfl : decL cs = decL cs)] at SM
    obtain ⟨AW, cw, rfl, -, -⟩ := hin2.form
    clear hc4 hin2 k1 RD
    go_wp2_with fail
    refine SM.out.mono ?_
    rintro e w5 ⟨rfl, hc5⟩
    have k2 := conv_rd ((HR2.out.calm (C4.out.trans C5.out)).calm hc5)
    have k3 := conv_rd ((HR1.out.calm (C4.out.trans C5.out)).calm hc5)
    have C6 := Lib.hid hc5
    clear hc5 SM
    go_wp2_with fail
    go_ret
    exact ⟨rfl, (((C1.out.trans C3.out).trans C4.out).trans C5.out).trans C6.out⟩
  · have HY := Lib.hid hno
    clear hno
    go_wp2_with fail
    refine (RD.out _).mono ?_
    rintro e w4 ⟨hc4, hcase⟩
    rcases hcase with ⟨hyes, -⟩ | ⟨-, rfl⟩
    · rw [HY.out] at hyes; cases hyes
    have C5 := Lib.hid hc4
    have SM := Lib.hid (same_c (w := w4) (v1 := .slice none 0 0) (v2 := .slice none 0 0) (a := []) (b := []) (.inl ⟨rfl, rfl⟩) (.inl ⟨rfl, rfl⟩))
    rw [decide_eq_true (rfl : ([] : List In) = [])] at SM
    clear hc4 k1 RD
    go_wp2_with fail
    refine SM.out.mono ?_
    rintro e w5 ⟨rfl, hc5⟩
    have k2 := conv_rd ((HR2.out.calm (C4.out.trans C5.out)).calm hc5)
    have k3 := conv_rd ((HR1.out.calm (C4.out.trans C5.out)).calm hc5)
    have C6 := Lib.hid hc5
    clear hc5 SM
    go_wp2_with fail
    go_ret
    exact ⟨rfl, (((C1.out.trans C3.out).trans C4.out).trans C5.out).trans C6.out⟩
end Go.Proofs.Ytohnemcdldpgaaa
