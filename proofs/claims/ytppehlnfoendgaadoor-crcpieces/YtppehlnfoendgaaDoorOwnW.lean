/-
  The walk of CrcOwn.
-/
import Derived.Test.YtppehlnfoendgaaDoorZerosW
namespace Go.Proofs.YtppehlnfoendgaaDoor
open Go.RowKit
set_option linter.all false

/-- A sum's bytes, the lowest first. -/
def le4 (s : Nat) : List UInt8 := [UInt8.ofNat s, UInt8.ofNat (s / 256), UInt8.ofNat (s / 65536), UInt8.ofNat (s / 16777216)]
theorem le4_num (s : Nat) (h : s < 2 ^ 32) : num (le4 s) = s := by
  simp only [le4, num, UInt8.toNat_ofNat']
  omega
theorem own_sum (bs : List UInt8) : more 0 (bs ++ le4 (more 0 bs)) = 558161692 := by
  have hc := eat_lt (ones - 0) bs (by decide)
  have hm : more 0 bs = ones ^^^ eat (ones - 0) bs := (ones_xor _ hc).symm
  unfold more
  rw [eat_app, eat_num (eat (ones - 0) bs), le4_num _ (by unfold ones; omega)]
  show ones - steps 32 (eat (ones - 0) bs ^^^ more 0 bs) = _
  rw [hm, Nat.xor_comm ones, ← Nat.xor_assoc, Nat.xor_self, Nat.zero_xor]
  decide +kernel
theorem turned (bs : List UInt8) (k : Nat) (h : k < 8 * bs.length) (x : UInt8) (hx : x.toNat = (bs[k / 8]'(by omega)).toNat ^^^ 2 ^ (k % 8)) : more 0 (bs.set (k / 8) x) ≠ more 0 bs := by
  rw [Ne, more_eq 0 0 (by decide) (by decide), eat_num, eat_num, List.length_set, num_turn bs k h x hx, ← Nat.xor_assoc, steps_xor _ _ (2 ^ k)]
  intro e
  have e1 : steps (8 * bs.length) (2 ^ k) = 0 := by
    have := congrArg (fun z => steps (8 * bs.length) (ones - 0 ^^^ num bs) ^^^ z) e
    simp only [← Nat.xor_assoc, Nat.xor_self, Nat.zero_xor] at this
    exact this
  have e2 := steps_pow_le (8 * bs.length) k 1 (by omega)
  rw [Nat.mul_one, e1] at e2
  have := steps_inj _ 1 (by decide) e2.symm
  omega

theorem le4_vals (s : Nat) (h : s < 2 ^ 32) : [Value.int .u8 ((s : Int) % 256), .int .u8 ((s : Int) / 256 % 256), .int .u8 ((s : Int) / 65536 % 256), .int .u8 ((s : Int) / 16777216)] = (le4 s).map bv := by
  simp only [le4, List.map_cons, List.map_nil, bv, UInt8.toNat_ofNat', List.cons.injEq, Value.int.injEq, true_and, and_true]
  omega
theorem Own.form {w : World} {base : Nat} {g n c : Nat} {bs : List UInt8} (h : Own w base (.slice (some ⟨g, 0, none⟩) n c) bs) : ∃ cur, n = bs.length ∧ base ≤ g ∧ Row w g 5 cur ∧ n ≤ c ∧ c ≤ maxLen ∧ cur.size = c ∧ cur.toList.take n = bs.map bv := by
  rcases h.2 with ⟨e, _⟩ | ⟨g', cap', cur, e, b1, b2, b3, b4, b5, b6⟩
  · cases e
  · injection e with e1 e2 e3
    injection e1 with e1
    injection e1 with e1
    subst e1; subst e2; subst e3
    exact ⟨cur, rfl, b1, b2, b3, b4, by omega, by simpa using b6⟩
theorem Own.at_ {w : World} {base : Nat} {g n c : Nat} {bs : List UInt8} (h : Own w base (.slice (some ⟨g, 0, none⟩) n c) bs) (i : Nat) (hi : i < bs.length) : w.cell? ⟨g, i, none⟩ = some (.int .u8 (bs[i].toNat : Int)) ∧ w.frozen? ⟨g, i, none⟩ = false := by
  obtain ⟨cur, e, _, h1, h2, h3, h4, h5⟩ := h.form
  refine ⟨?_, h1.soft i⟩
  rw [h1.cell i]
  have : cur.toList[i]? = some (bv bs[i]) := by
    have e2 := congrArg (fun l => l[i]?) h5
    simp only [List.getElem?_take, if_pos (show i < n by omega), List.getElem?_map, List.getElem?_eq_getElem hi] at e2
    simpa using e2
  simpa [bv] using this
theorem Own.set {w : World} {base : Nat} {g n c : Nat} {bs : List UInt8} (h : Own w base (.slice (some ⟨g, 0, none⟩) n c) bs) (i : Nat) (hi : i < bs.length) (x : UInt8) : Own (w.setCell ⟨g, i, none⟩ (.int .u8 (x.toNat : Int))) base (.slice (some ⟨g, 0, none⟩) n c) (bs.set i x) := by
  obtain ⟨cur, rfl, hb, h1, h2, h3, h4, h5⟩ := h.form
  refine ⟨by simp, .inr ⟨g, c, cur.setIfInBounds i (bv x), by simp, hb, h1.store i (bv x), by simpa using h2, h3, by simpa using h4, ?_⟩⟩
  simp only [List.length_set, Nat.mul_one, Array.toList_setIfInBounds, List.map_set]
  rw [← h5, List.take_set]

theorem bit_turn (b : UInt8) (j : Nat) (hj : j < 8) : ∃ x : UInt8, x.toNat = b.toNat ^^^ 2 ^ j ∧ bits .xor .u8 (b.toNat : Int) ((2 : Int) ^ j % 256) = (x.toNat : Int) := by
  have hp : 2 ^ j < 256 := Nat.lt_of_lt_of_le (Nat.pow_lt_pow_right (by decide) hj) (by decide)
  have hl : b.toNat ^^^ 2 ^ j < 2 ^ 8 := Nat.xor_lt_two_pow (u8_lt b) hp
  refine ⟨UInt8.ofNat (b.toNat ^^^ 2 ^ j), by rw [UInt8.toNat_ofNat']; exact Nat.mod_eq_of_lt hl, ?_⟩
  rw [UInt8.toNat_ofNat', Nat.mod_eq_of_lt hl, ← Go.u8_xor_nat b.toNat (2 ^ j) (u8_lt b) hp]
  have e : (2 : Int) ^ j % 256 = ((2 ^ j : Nat) : Int) := by
    have : ((2 ^ j : Nat) : Int) = (2 : Int) ^ j := by simp
    rw [← this]
    generalize 2 ^ j = p at hp
    omega
  rw [e]

set_option maxHeartbeats 1600000 in
theorem crcOwn_c (v : Value) (bs : List UInt8) (n : Int) (w : World) (hT : Tab w) (hb : Rd w v bs) :
    Calls Tryd.prog 7 #[v, .int .i64 n] w fun e w' => e = .returned (.bool true) ∧ Calm w w' := by
  obtain ⟨A, cap, rfl, hcap, hmax⟩ := hb.form
  unfold maxLen at hmax
  have HT := Lib.hid hT
  have Hb := Lib.hid hb
  clear hT hb
  obtain ⟨r, hr1, hr⟩ := mask_nat n 24 16777215 (by decide) (by decide)
  go_enter Tryd.func7, Tryd.ntmps7
  go_wp2_with fail
  refine (shown_c w HT.out).mono ?_
  rintro e w1 ⟨rfl, hc1⟩
  have C1 := Lib.hid hc1
  clear hc1
  obtain ⟨q, hq0, hq1, hq2, -⟩ := cut_len bs.length 1000
  have hq : (if 1000 < (bs.length : Int) then 1000 else (bs.length : Int)) = (q : Int) := hq0
  clear hq0
  have hr1 : Rd w1 (.slice A q cap) (bs.take q) := (Hb.out.calm C1.out).cut q hq2
  have hl : (bs.take q).length = q := by rw [List.length_take]; omega
  generalize hbs : bs.take q = cs at *
  have C2 : Hid (Calm w1 (w1.alloc (.cells #[] 5))) := Lib.hid ((Keep.refl _ w1).alloc _)
  have Hr1 := Lib.hid hr1
  have Hl := Lib.hid hl
  clear hr1 hbs hl
  go_upto_region 3 with (at_builtin; go_loud (refine append_own rfl (.tmp 10) (.tmp 15) rfl w1.heap.size w1.heap.size 0 0 [] rfl (Own.made w1) (.slice A q cap) cs rfl (Hr1.out.calm C2.out) (by simp; have := Hl.out; omega) (by simp) ?_); rintro g c w2 ho hg; generalize hle : (([] : List UInt8).length + cs.length) = m at ho ⊢)
  have C3 : Hid (Calm w1 w2) := Lib.hid (C2.out.grown hg (fun k e hk => by injection e with e; omega))
  rw [List.nil_append] at ho
  have HR2 := Lib.hid (ho.rd ⟨_, _, _, rfl⟩)
  have T2 : Hid (Tab w2) := Lib.hid ((HT.out.calm C1.out).calm C3.out)
  have HO := Lib.hid ho
  clear ho hg hle C2 hq
  go_wp2_with fail
  refine (sum_c _ cs _ T2.out HR2.out.bytes HR2.out.len).mono ?_
  rintro e w3 ⟨rfl, rfl⟩
  have hs := more_lt 0 cs
  generalize hsm : more 0 cs = s at *
  have HSm := Lib.hid hsm
  clear hsm
  have C4 : Hid (Calm w2 (w2.alloc (.cells #[.int .u8 ((s : Int) % 256), .int .u8 ((s : Int) / 256 % 256), .int .u8 ((s : Int) / 65536 % 256), .int .u8 ((s : Int) / 16777216)] 5))) := Lib.hid ((Keep.refl _ w2).alloc _)
  have R4 : Hid (Rd (w2.alloc (.cells #[.int .u8 ((s : Int) % 256), .int .u8 ((s : Int) / 256 % 256), .int .u8 ((s : Int) / 65536 % 256), .int .u8 ((s : Int) / 16777216)] 5)) (.slice (some ⟨w2.heap.size, 0, none⟩) 4 4) (le4 s)) := Lib.hid (Rd.made w2 (le4 s) 4 _ rfl (le4_vals s hs) (by decide))
  have O4 : Hid (Own (w2.alloc (.cells #[.int .u8 ((s : Int) % 256), .int .u8 ((s : Int) / 256 % 256), .int .u8 ((s : Int) / 65536 % 256), .int .u8 ((s : Int) / 16777216)] 5)) w1.heap.size (.slice (some ⟨g, 0, none⟩) m c) cs) := Lib.hid (HO.out.moved C4.out)
  have hbase : Hid (w1.heap.size ≤ g) := Lib.hid (by obtain ⟨_, _, h, _⟩ := HO.out.form; exact h)
  go_upto_region 5 with (at_builtin; go_loud (refine append_own rfl (.tmp 19) (.tmp 31) rfl w1.heap.size g m c cs rfl O4.out _ (le4 s) rfl R4.out (by have := Hl.out; simp [le4]; omega) (Nat.le_trans C3.out.size C4.out.size) ?_); rintro g' c' w5 ho hg; generalize hle : (cs.length + (le4 s).length) = mm at ho ⊢)
  have C5 : Hid (Calm w1 w5) := Lib.hid ((C3.out.trans C4.out).grown hg (fun k e hk => by injection e with e; have := hbase.out; omega))
  have T5 : Hid (Tab w5) := Lib.hid ((HT.out.calm C1.out).calm C5.out)
  have hsum : more 0 (cs ++ le4 s) = 558161692 := by rw [← HSm.out]; exact own_sum cs
  have hlen : (cs ++ le4 s).length = q + 4 := by rw [List.length_append, Hl.out]; rfl
  generalize hds : cs ++ le4 s = ds at *
  have HR5 := Lib.hid (ho.rd ⟨_, _, _, rfl⟩)
  have hmm : mm = q + 4 := by rw [← hle, Hl.out]; rfl
  subst hmm
  have HO5 := Lib.hid ho
  have Hsum := Lib.hid hsum
  clear ho hg hle C4 R4 O4 hds hbase
  obtain ⟨k, hk, hk1⟩ : ∃ k : Nat, (r : Int) % (8 * ((q : Int) + 4)) = (k : Int) ∧ k < 8 * (q + 4) := ⟨r % (8 * (q + 4)), by simp, Nat.mod_lt _ (by omega)⟩
  go_wp2_with fail
  refine (sum_c _ ds _ T5.out HR5.out.bytes HR5.out.len).mono ?_
  rintro e w6 ⟨rfl, rfl⟩
  rw [Hsum.out]
  go_upto_region 7 with fail
  rw [hk]
  obtain ⟨i, j, hki, hkj, hi, hj⟩ : ∃ i j : Nat, k / 8 = i ∧ k % 8 = j ∧ i < q + 4 ∧ j < 8 := ⟨_, _, rfl, rfl, by omega, by omega⟩
  have hki' : (k : Int) / 8 = (i : Int) := by omega
  have hkj' : (k : Int) % 8 = (j : Int) := by omega
  have hcell := HO5.out.at_ i (by omega)
  have hc0 := hcell.1
  have hf0 := hcell.2
  have i1 : (i : Int) < (q : Int) + 4 := by omega
  have j1 : (j : Int) < 8 := by omega
  have Hki := Lib.hid hki
  have Hkj := Lib.hid hkj
  clear hcell hk hr hki hkj
  obtain ⟨x, hx1, hx2⟩ := bit_turn (ds[i]'(by omega)) j hj
  have Hx1 := Lib.hid hx1
  clear hx1
  go_upto_region 8 with fail
  have O6 := HO5.out.set i (by omega) x
  have hg1 : w1.heap.size ≤ g' := by obtain ⟨_, _, h, _⟩ := HO5.out.form; exact h
  have C6 : Hid (Calm w1 (w5.setCell ⟨g', i, none⟩ (.int .u8 (x.toNat : Int)))) := Lib.hid (C5.out.store (p := ⟨g', i, none⟩) (fun h => absurd h (Nat.not_lt.2 hg1)) _)
  have hne : more 0 (ds.set i x) ≠ 558161692 := by
    have hki := Hki.out
    have hkj := Hkj.out
    subst hki; subst hkj
    rw [← Hsum.out]
    exact turned ds k (by omega) x Hx1.out
  have T6 : Hid (Tab (w5.setCell ⟨g', i, none⟩ (.int .u8 (x.toNat : Int)))) := Lib.hid ((HT.out.calm C1.out).calm C6.out)
  have R6 := Lib.hid (O6.rd ⟨_, _, _, rfl⟩)
  generalize World.setCell w5 _ _ = w6 at *
  have hN : (((more 0 (ds.set i x) : Nat) : Int) != 558161692) = true := by rw [bne_iff_ne]; omega
  clear O6 hg1 hne Hx1 hc0 hf0 hx2 hki' hkj'
  go_wp2_with fail
  refine (sum_c _ _ _ T6.out R6.out.bytes R6.out.len).mono ?_
  rintro e w7 ⟨rfl, rfl⟩
  go_wp2_with fail
  go_ret
  exact ⟨rfl, C1.out.trans C6.out⟩
end Go.Proofs.YtppehlnfoendgaaDoor
