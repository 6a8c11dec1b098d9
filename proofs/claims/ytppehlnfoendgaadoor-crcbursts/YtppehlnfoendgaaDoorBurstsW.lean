/-
  The walk of CrcBursts.
-/
import Derived.Test.YtppehlnfoendgaaDoorOwnW
namespace Go.Proofs.YtppehlnfoendgaaDoor
open Go.RowKit
set_option linter.all false

theorem pow_mul_xor (k a b : Nat) : 2 ^ k * (a ^^^ b) = 2 ^ k * a ^^^ 2 ^ k * b := by
  apply Nat.eq_of_testBit_eq
  intro i
  simp only [Nat.testBit_xor, Nat.testBit_two_pow_mul]
  by_cases hi : k ≤ i <;> simp [hi]
theorem part_succ (b j : Nat) : b % 2 ^ (j + 1) = b % 2 ^ j ^^^ (if b / 2 ^ j % 2 = 1 then 2 ^ j else 0) := by
  have h := Nat.mod_pow_succ (b := 2) (x := b) (k := j)
  rw [h]
  split
  · rename_i e
    rw [e]
    exact low_xor j (b % 2 ^ j) 1 (Nat.mod_lt _ (Nat.two_pow_pos j)) |>.trans (by rw [Nat.mul_one])
  · rename_i e
    have : b / 2 ^ j % 2 = 0 := by omega
    rw [this, Nat.mul_zero, Nat.add_zero, Nat.xor_zero]
/-- What the loop has turned. -/
def Turned (ds os : List UInt8) (at_ b j : Nat) : Prop := os.length = ds.length ∧ num os = num ds ^^^ 2 ^ at_ * (b % 2 ^ j)
theorem Turned.zero (ds : List UInt8) (at_ b : Nat) : Turned ds ds at_ b 0 := ⟨rfl, by rw [Nat.pow_zero, Nat.mod_one, Nat.mul_zero, Nat.xor_zero]⟩
theorem Turned.stay {ds os : List UInt8} {at_ b j : Nat} (h : Turned ds os at_ b j) (hb : ¬ b / 2 ^ j % 2 = 1) : Turned ds os at_ b (j + 1) :=
  ⟨h.1, by rw [part_succ, if_neg hb, Nat.xor_zero]; exact h.2⟩
theorem Turned.turn {ds os : List UInt8} {at_ b j : Nat} (h : Turned ds os at_ b j) (hb : b / 2 ^ j % 2 = 1) (hl : at_ + j < 8 * os.length) (x : UInt8) (hx : x.toNat = (os[(at_ + j) / 8]'(by omega)).toNat ^^^ 2 ^ ((at_ + j) % 8)) : Turned ds (os.set ((at_ + j) / 8) x) at_ b (j + 1) := by
  refine ⟨by rw [List.length_set]; exact h.1, ?_⟩
  rw [num_turn os (at_ + j) hl x hx, h.2, part_succ, if_pos hb, pow_mul_xor, Nat.pow_add, Nat.xor_assoc]
theorem Turned.sum {ds os : List UInt8} {at_ b : Nat} (h : Turned ds os at_ b 32) (hb : b < 2 ^ 32) (hl : at_ ≤ 8 * ds.length) : more 0 ds = more 0 os ↔ b = 0 := by
  have e := h.2
  rw [Nat.mod_eq_of_lt hb] at e
  rw [more_eq 0 0 (by decide) (by decide), eat_num, eat_num, h.1, e, ← Nat.xor_assoc, steps_xor _ _ (2 ^ at_ * b), steps_pow_le _ _ _ hl]
  constructor
  · intro e
    have e1 : steps (8 * ds.length - at_) b = 0 := by
      have := congrArg (fun z => steps (8 * ds.length) (ones - 0 ^^^ num ds) ^^^ z) e
      simp only [← Nat.xor_assoc, Nat.xor_self, Nat.zero_xor] at this
      exact this.symm
    exact steps_inj _ b hb e1
  · rintro rfl
    rw [steps_zero, Nat.xor_zero]
theorem bit_test (b j : Nat) (h : b < 2 ^ 32) : bits .and .u32 ((b : Int) / 2 ^ j) 1 = ((b / 2 ^ j % 2 : Nat) : Int) := by
  have h1 : b / 2 ^ j < 4294967296 := Nat.lt_of_le_of_lt (Nat.div_le_self _ _) h
  have := Go.u32_and_nat (b / 2 ^ j) 1 h1 (by decide)
  rw [Nat.and_one_is_mod] at this
  rw [← this]
  congr 1
theorem five : (#[.int .u8 0, .int .u8 0, .int .u8 0, .int .u8 0, .int .u8 0] : Array Value).toList = ([0, 0, 0, 0, 0] : List UInt8).map bv := rfl

set_option maxHeartbeats 1600000 in
theorem crcBursts_c (v : Value) (bs : List UInt8) (n : Int) (b : Nat) (hb32 : b < 2 ^ 32) (w : World) (hT : Tab w) (hb : Rd w v bs) :
    Calls Tryd.prog 5 #[v, .int .i64 n, .int .u32 (b : Int)] w fun e w' => e = .returned (.bool true) ∧ Calm w w' := by
  obtain ⟨A, cap, rfl, hcap, hmax⟩ := hb.form
  unfold maxLen at hmax
  have HT := Lib.hid hT
  have Hb := Lib.hid hb
  clear hT hb
  obtain ⟨r, hr1, hr⟩ := mask_nat n 16 65535 (by decide) (by decide)
  go_enter Tryd.func5, Tryd.ntmps5
  go_wp2_with fail
  refine (shown_c w HT.out).mono ?_
  rintro e w1 ⟨rfl, hc1⟩
  have C1 := Lib.hid hc1
  clear hc1
  obtain ⟨q, hq0, hq1, hq2, -⟩ := cut_len bs.length 500
  have hq : (if 500 < (bs.length : Int) then 500 else (bs.length : Int)) = (q : Int) := hq0
  clear hq0
  have hr1 : Rd w1 (.slice A q cap) (bs.take q) := (Hb.out.calm C1.out).cut q hq2
  have hl : (bs.take q).length = q := by rw [List.length_take]; omega
  generalize hbs : bs.take q = cs at *
  have C2 : Hid (Calm w1 (w1.alloc (.cells #[] 5))) := Lib.hid ((Keep.refl _ w1).alloc _)
  have Hr1 := Lib.hid hr1
  have Hl := Lib.hid hl
  clear hr1 hbs hl
  go_upto_region 3 with (at_builtin; go_loud (refine append_own rfl (.tmp 12) (.tmp 17) rfl w1.heap.size w1.heap.size 0 0 [] rfl (Own.made w1) (.slice A q cap) cs rfl (Hr1.out.calm C2.out) (by simp; have := Hl.out; omega) (by simp) ?_); rintro g c w2 ho hg; generalize hle : (([] : List UInt8).length + cs.length) = m at ho ⊢)
  have C3 : Hid (Calm w1 w2) := Lib.hid (C2.out.grown hg (fun k e hk => by injection e with e; omega))
  rw [List.nil_append] at ho
  have HO := Lib.hid ho
  have hbase : Hid (w1.heap.size ≤ g) := Lib.hid (by obtain ⟨_, _, h, _⟩ := ho.form; exact h)
  clear ho hg hle C2 hq
  have C4 : Hid (Calm w2 (w2.alloc (.cells #[.int .u8 0, .int .u8 0, .int .u8 0, .int .u8 0, .int .u8 0] 5))) := Lib.hid ((Keep.refl _ w2).alloc _)
  have R4 : Hid (Rd (w2.alloc (.cells #[.int .u8 0, .int .u8 0, .int .u8 0, .int .u8 0, .int .u8 0] 5)) (.slice (some ⟨w2.heap.size, 0, none⟩) 5 5) [0, 0, 0, 0, 0]) := Lib.hid (Rd.made w2 _ 5 _ rfl five (by decide))
  have O4 : Hid (Own (w2.alloc (.cells #[.int .u8 0, .int .u8 0, .int .u8 0, .int .u8 0, .int .u8 0] 5)) w1.heap.size (.slice (some ⟨g, 0, none⟩) m c) cs) := Lib.hid (HO.out.moved C4.out)
  go_upto_region 4 with (at_builtin; go_loud (refine append_own rfl (.tmp 19) (.tmp 20) rfl w1.heap.size g m c cs rfl O4.out _ [0, 0, 0, 0, 0] rfl R4.out (by have := Hl.out; simp; omega) (Nat.le_trans C3.out.size C4.out.size) ?_); rintro g' c' w5 ho hg; generalize hle : (cs.length + ([0, 0, 0, 0, 0] : List UInt8).length) = mm at ho ⊢)
  have C5 : Hid (Calm w1 w5) := Lib.hid ((C3.out.trans C4.out).grown hg (fun k e hk => by injection e with e; have := hbase.out; omega))
  have hlen : (cs ++ [0, 0, 0, 0, 0]).length = q + 5 := by rw [List.length_append, Hl.out]; rfl
  generalize hds : cs ++ [0, 0, 0, 0, 0] = ds at *
  have HR5 := Lib.hid (ho.rd ⟨_, _, _, rfl⟩)
  have hmm : mm = q + 5 := by rw [← hle, Hl.out]; rfl
  subst hmm
  have HO5 := Lib.hid ho
  clear ho hg hle C4 R4 O4 hds hbase HO C3
  have C6 : Hid (Calm w5 (w5.alloc (.cells #[] 5))) := Lib.hid ((Keep.refl _ w5).alloc _)
  go_upto_region 5 with (at_builtin; go_loud (refine append_own rfl (.tmp 22) (.tmp 23) rfl w5.heap.size w5.heap.size 0 0 [] rfl (Own.made w5) _ ds rfl (HR5.out.calm C6.out) (by simp; omega) (by simp) ?_); rintro g2 c2 w7 ho hg; generalize hle : (([] : List UInt8).length + ds.length) = m2 at ho ⊢)
  have C7 : Hid (Calm w5 w7) := Lib.hid (C6.out.grown hg (fun k e hk => by injection e with e; omega))
  rw [List.nil_append] at ho
  have hm2 : m2 = q + 5 := by rw [← hle, hlen]; simp
  subst hm2
  have HO7 := Lib.hid ho
  have HR7 := Lib.hid (HR5.out.calm C7.out)
  have T7 : Hid (Tab w7) := Lib.hid (((HT.out.calm C1.out).calm C5.out).calm C7.out)
  clear ho hg hle C6
  obtain ⟨k, hk, hk1⟩ : ∃ k : Nat, (r : Int) % (8 * ((q : Int) + 5) - 31) = (k : Int) ∧ k < 8 * (q + 5) - 31 := ⟨r % (8 * (q + 5) - 31), by rw [Int.natCast_emod]; congr 1; omega, Nat.mod_lt _ (by omega)⟩
  go_wp2_with fail
  rw [hk]
  clear hk hr
  go_loopw [9] (fun i wr => ∃ (j : Nat) (os : List UInt8), j ≤ 32 ∧ i = .int .i64 j ∧ Calm w5 wr ∧ Own wr w5.heap.size (.slice (some ⟨g2, 0, none⟩) (q + 5) c2) os ∧ Turned ds os k b j) (fun i _ => 32 - (intOf i).toNat)
  case atStart => exact ⟨0, ds, by omega, rfl, C7.out, HO7.out, Turned.zero _ _ _⟩
  case round =>
    obtain ⟨j, os, hj, rfl, hcw, how, htu⟩ := hrel
    by_cases hlt : j < 32
    · have HC := Lib.hid hcw
      have HO := Lib.hid how
      have HU := Lib.hid htu
      have i1 : (j : Int) < 32 := by omega
      clear hcw how htu
      have hbt := bit_test b j hb32
      by_cases hbit : b / 2 ^ j % 2 = 1
      · rw [hbit] at hbt
        have hbt : bits .and .u32 ((b : Int) / 2 ^ j) 1 = 1 := hbt
        obtain ⟨i, t, hki, hkj, hi, ht⟩ : ∃ i t : Nat, (k + j) / 8 = i ∧ (k + j) % 8 = t ∧ i < q + 5 ∧ t < 8 := ⟨_, _, rfl, rfl, by omega, by omega⟩
        have hlo : os.length = q + 5 := by rw [HU.out.1]; exact hlen
        have hki' : ((k : Int) + (j : Int)) / 8 = (i : Int) := by omega
        have hkj' : ((k : Int) + (j : Int)) % 8 = (t : Int) := by omega
        have hcell := HO.out.at_ i (by omega)
        have hc0 := hcell.1
        have hf0 := hcell.2
        have i2 : (i : Int) < (q : Int) + 5 := by omega
        have t1 : (t : Int) < 8 := by omega
        obtain ⟨x, hx1, hx2⟩ := bit_turn (os[i]'(by omega)) t ht
        have Hx1 := Lib.hid hx1
        have Hki := Lib.hid hki
        have Hkj := Lib.hid hkj
        have Hbit := Lib.hid hbit
        clear hcell hki hkj hx1 hbit hb32
        go_wp2_with fail
        go_roundw
        case rel =>
          refine ⟨j + 1, os.set i x, by omega, by go_num, HC.out.store (p := ⟨g2, i, none⟩) (fun h => absurd h (Nat.not_lt.2 (by obtain ⟨_, _, h, _⟩ := HO.out.form; exact h))) _, HO.out.set i (by omega) x, ?_⟩
          have hki := Hki.out
          have hkj := Hkj.out
          subst hki; subst hkj
          exact HU.out.turn Hbit.out (by omega) x Hx1.out
        case measure => simp [intOf]; omega
      · have h0 : b / 2 ^ j % 2 = 0 := by omega
        rw [h0] at hbt
        have hbt : bits .and .u32 ((b : Int) / 2 ^ j) 1 = 0 := hbt
        have Hbit := Lib.hid hbit
        clear hbit h0
        go_wp2_with fail
        go_roundw
        case rel => exact ⟨j + 1, os, by omega, by go_num, HC.out, HO.out, HU.out.stay Hbit.out⟩
        case measure => simp [intOf]; omega
    · obtain rfl : j = 32 := by omega
      have HC := Lib.hid hcw
      have HO := Lib.hid (how.rd ⟨_, _, _, rfl⟩)
      have T8 : Hid (Tab wr) := Lib.hid (((HT.out.calm C1.out).calm C5.out).calm hcw)
      have R8 := Lib.hid (HR5.out.calm hcw)
      obtain ⟨B, hB1, hB2⟩ := same_test _ _ b 0 (htu.sum hb32 (by omega))
      have hB2 : ((b : Int) == 0) = B := hB2
      clear hcw how htu
      go_wp2_with fail
      refine (sum_c _ _ _ T8.out R8.out.bytes R8.out.len).mono ?_
      rintro e w9 ⟨rfl, rfl⟩
      go_wp2_with fail
      refine (sum_c _ _ _ T8.out HO.out.bytes HO.out.len).mono ?_
      rintro e w9 ⟨rfl, rfl⟩
      go_wp2_with fail
      go_ret
      exact ⟨rfl, (C1.out.trans C5.out).trans HC.out⟩
end Go.Proofs.YtppehlnfoendgaaDoor
