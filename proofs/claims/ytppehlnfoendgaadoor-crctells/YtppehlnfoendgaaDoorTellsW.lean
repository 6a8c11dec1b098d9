/-
  The walk of CrcTells.
-/
import Derived.Test.YtppehlnfoendgaaDoorCrc5
namespace Go.Proofs.YtppehlnfoendgaaDoor
open Go.RowKit
set_option linter.all false
set_option maxHeartbeats 1600000 in
theorem crcTells_c (v : Value) (bs : List UInt8) (ahead : Nat) (ha : ahead < 2 ^ 32) (w : World) (hT : Tab w) (hb : Rd w v bs) :
    Calls Tryd.prog 3 #[v, .int .u32 (ahead : Int)] w fun e w' => e = .returned (.bool true) ∧ Calm w w' := by
  obtain ⟨A, cap, rfl, hcap, hmax⟩ := hb.form
  unfold maxLen at hmax
  have HT := Lib.hid hT
  have Hb := Lib.hid hb
  clear hT hb
  go_enter Tryd.func3, Tryd.ntmps3
  go_wp2_with fail
  refine (shown_c w HT.out).mono ?_
  rintro e w1 ⟨rfl, hc1⟩
  have C1 := Lib.hid hc1
  clear hc1
  obtain ⟨q, hq0, hq1, hq2, -⟩ := cut_len bs.length 2000
  have hq : (if 2000 < (bs.length : Int) then 2000 else (bs.length : Int)) = (q : Int) := hq0
  clear hq0
  go_upto_region 3 with fail
  have hr1 : Rd w1 (.slice A q cap) (bs.take q) := (Hb.out.calm C1.out).cut q hq2
  have hl : (bs.take q).length = q := by rw [List.length_take]; omega
  generalize hbs : bs.take q = cs at *
  have C2 : Hid (Calm w1 (w1.alloc (.cells #[] 5))) := Lib.hid ((Keep.refl _ w1).alloc _)
  have Hr1 := Lib.hid hr1
  have Hl := Lib.hid hl
  clear hr1 hbs hq hl
  go_upto_region 4 with (at_builtin; go_loud (refine append_own rfl (.tmp 14) (.tmp 15) rfl w1.heap.size w1.heap.size 0 0 [] rfl (Own.made w1) (.slice A q cap) cs rfl (Hr1.out.calm C2.out) (by simp; have := Hl.out; omega) (by simp) ?_); rintro g c w2 ho hg; generalize hle : (([] : List UInt8).length + cs.length) = m at ho ⊢)
  have C3 : Hid (Calm w1 w2) := Lib.hid (C2.out.grown hg (fun k e hk => by injection e with e; omega))
  have hr2 := ho.rd ⟨_, _, _, rfl⟩
  rw [List.nil_append] at hr2
  have HR2 := Lib.hid hr2
  have k1 := conv_rd (Hr1.out.calm C3.out)
  have k2 := conv_rd hr2
  have T2 : Hid (Tab w2) := Lib.hid ((HT.out.calm C1.out).calm C3.out)
  clear hr2 ho hg hle C2
  go_wp2_with fail
  refine (sum_c _ cs _ T2.out HR2.out.bytes HR2.out.len).mono ?_
  rintro e w3 ⟨rfl, rfl⟩
  go_wp2_with fail
  refine (rsum_c (str cs) _ HR2.out.len).mono ?_
  rintro e w3 ⟨rfl, rfl⟩
  rw [str_list]
  go_wp2_with fail
  refine (more_c ahead ha _ cs _ T2.out HR2.out.bytes HR2.out.len).mono ?_
  rintro e w3 ⟨rfl, rfl⟩
  go_wp2_with fail
  refine (rmore_c ahead ha (str cs) _ HR2.out.len).mono ?_
  rintro e w3 ⟨rfl, rfl⟩
  rw [str_list]
  go_wp2_with fail
  go_ret
  exact ⟨rfl, C1.out.trans C3.out⟩
end Go.Proofs.YtppehlnfoendgaaDoor
