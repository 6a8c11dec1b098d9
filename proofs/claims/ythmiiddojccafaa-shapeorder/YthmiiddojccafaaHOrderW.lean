/-
  The walk of ShapeOrder.
-/
import Derived.Test.YthmiiddojccafaaHA
import Derived.Test.YthmiiddojccafaaHEndsW
import Derived.Test.YthmiiddojccafaaRegion
import Derived.Deep.DeepCutAuto
import Derived.Deep.CutBlock
namespace Go.Proofs.Ythmiiddojccafaa
open Go.RowKit
set_option linter.all false

theorem Ins.drop {w : World} {ad : Addr} {n cap : Nat} {l : List In} (h : Ins w (.slice (some ad) n cap) l) (k : Nat) (hk : k < l.length) : Ins w (.slice (some (ad.add (k * 5))) (n - k) (cap - k)) (l.drop k) := by
  rcases h with ⟨e, _⟩ | ⟨ad', cap', e, h1, h2, h4⟩
  · cases e
  · injection e with e1 e2 e3
    injection e1 with e1
    subst e1; subst e2; subst e3
    refine .inr ⟨ad.add (k * 5), cap - k, by rw [List.length_drop], by rw [List.length_drop]; omega, by omega, fun i b hi => ?_⟩
    rw [add_add, ← Nat.add_mul]
    rw [List.getElem?_drop] at hi
    exact h4 (k + i) b hi
theorem Ins.grown {w w' : World} {ad : Addr} {n c : Nat} {l : List In} {r : Option Nat} (h : Ins w (.slice (some ad) n c) l) (hg : w.grownBy w' r) (hne : some ad.block ≠ r) : Ins w' (.slice (some ad) n c) l := by
  rcases h with ⟨e, _⟩ | ⟨ad', cap', e, h1, h2, h4⟩
  · cases e
  · injection e with e1 e2 e3
    injection e1 with e1
    subst e1
    have hc : ∀ p : Addr, p.block = ad.block → ∀ u, w.cell? p = some u → w'.cell? p = some u := fun p hp u hu => by
      have hb := World.block_lt_of_cell? _ _ hu
      rw [← hu]
      exact World.cell?_of_block (w := w) (hg.block p.block hb (by rw [hp]; exact hne))
    refine .inr ⟨ad, cap', by rw [← e3, ← e2], h1, h2, fun k i hk => ?_⟩
    have hi := h4 k i hk
    have hbk : (ad.add (k * 5)).block = ad.block := Addr.add_block _ _
    exact ⟨hc _ hbk _ hi.c0, hc ⟨_, _, none⟩ hbk _ hi.c1, hc ⟨_, _, none⟩ hbk _ hi.c2, hc ⟨_, _, none⟩ hbk _ hi.c3, hc ⟨_, _, none⟩ hbk _ hi.c4⟩
theorem step_appendI {w : World} {ops : Array Oper} {o : Oper} {a : Act} {K : Act → World → Prop} {Q : Exit → Act → World → Prop} {E : Prop} (hgd : o.guard = none) (s x : Operand)
    (ho : o.op = .call { callee := .builtin .append, args := #[s, x], argTypes := #[22, 22] })
    (base : Nat) (v : Value) (xs : List In) (hs : a.eval s = v) (hown : OwnI w base v xs)
    (y : Value) (l : List In) (hx : a.eval x = y) (hb : Ins w y l) (hlen : xs.length + l.length ≤ 1000000) (hbase : base ≤ w.heap.size) (N : Nat) (hN : (xs ++ l).length = N)
    (h : ∀ A c w', OwnI w' base (.slice A N c) (xs ++ l) → w.grownBy w' v.ownBlock → K (a.put o.dst (.slice A N c)) w') :
    if Region.wanted o (yielded ops a.tmps) = true then Oper.wp Try.prog o a w K Q else E := by
  have hw : Region.wanted o (yielded ops a.tmps) = true := by simp [Region.wanted, hgd]
  rw [if_pos hw]
  subst hN
  obtain ⟨A, c, w', hr, h2, h3⟩ := run_append_insN w o.type base v xs hown y l hb hlen hbase
  unfold Oper.wp execOp
  simp only [ho, resolve, invoke, builtin, Sem.run_bind, Sem.run_pure, Result.andThen_ok, List.map_toArray, List.map_cons, List.map_nil, hs, hx, hr]
  exact h A c w' h2 h3
/-- Those that are neither wide, nor halves, nor jumps, of the first so many. -/
def plainAt (l : List In) (k : Nat) : Bool := !isHalfO l k && (decide (opAt l k ≠ 24) && !jumpAt l k)
def plainTo (l : List In) : Nat → List In
  | 0 => []
  | k + 1 => plainTo l k ++ (match l[k]? with | some x => if plainAt l k then [x] else [] | none => [])
theorem plain_len (l : List In) : ∀ k, (plainTo l k).length ≤ k
  | 0 => Nat.le_refl _
  | k + 1 => by
    unfold plainTo
    have := plain_len l k
    rw [List.length_append]
    split
    · split <;> simp <;> omega
    · simp; omega
theorem plain_mem {l : List In} : ∀ {k : Nat} {x : In}, x ∈ plainTo l k → ∃ j, j < k ∧ l[j]? = some x ∧ plainAt l j = true
  | k + 1, x, h => by
    unfold plainTo at h
    rcases List.mem_append.1 h with h | h
    · obtain ⟨j, h1, h2⟩ := plain_mem h
      exact ⟨j, by omega, h2⟩
    · split at h
      · rename_i y hy
        split at h
        · rename_i hp
          simp only [List.mem_singleton] at h
          subst h
          exact ⟨k, by omega, hy, hp⟩
        · cases h
      · cases h
theorem plain_tame {l : List In} (hS : shapeO l = true) {k : Nat} {x : In} (hx : l[k]? = some x) (hp : plainAt l k = true) : Tame x := by
  obtain ⟨_, _, _, hr, hno⟩ := shape_small hS
  obtain ⟨h1, h2, h3, h4, h5⟩ := wrong_parts hx (hno k (List.getElem?_eq_some_iff.1 hx).1)
  unfold plainAt at hp
  simp only [Bool.and_eq_true, Bool.not_eq_true', decide_eq_true_eq] at hp
  obtain ⟨hh, h24, hj⟩ := hp
  rw [opAt_some hx] at h24
  unfold jumpAt at hj
  rw [hx] at hj
  have h0 : x.op ≠ 0 := fun e => by rw [op0_half hr k x hx e] at hh; cases hh
  have hd := (right_cut l k x hr hx).2
  rw [right_at l k x hx, decide_eq_true h0] at hd
  simp only [Bool.and_eq_true] at hd
  exact ⟨hd.1, h24, h1, h2, h3, hj⟩
theorem plain_some {l : List In} (hS : shapeO l = true) : 1 ≤ (plainTo l l.length).length := by
  obtain ⟨_, hl, _, hr, hno⟩ := shape_small hS
  obtain ⟨m, hm⟩ : ∃ m, l.length = m + 1 := ⟨l.length - 1, by omega⟩
  have hx : l[m]? = some (l[m]'(by omega)) := List.getElem?_eq_getElem (by omega)
  generalize l[m]'(by omega) = x at hx
  obtain ⟨_, _, _, _, h5⟩ := wrong_parts hx (hno m (by omega))
  have h9 : x.op = 149 := Classical.byContradiction fun h => wr5_no h5 h hm.symm
  have hp : plainAt l m = true := by
    unfold plainAt jumpAt
    rw [opAt_some hx, hx]
    have : isHalfO l m = false := by
      rcases hf : isHalfO l m with _ | _
      · rfl
      · obtain ⟨y, hy, y0, _⟩ := half_zero hr hf
        rw [hx] at hy
        cases hy
        omega
    simp only [this, h9]
    decide
  rw [hm]
  unfold plainTo
  rw [hx]
  simp only [hp, if_true]
  simp
def badI : In := ⟨183, 10, 0, 0, 0⟩
def callI : In := ⟨133, 0, 0, 0, 4⟩
theorem order_told {P : List In} (hP : ∀ x ∈ P, Tame x) {a b : Nat} (ha : a ≤ b) (hb : b < P.length) (hl : P.length ≤ 100) (M : List In) (hM : M = P.take b ++ [badI] ++ P.drop b) (N : List In) (hN : N = M.take a ++ [callI] ++ M.drop a) : rightP N = a ∧ rightE N = 7 := by
  have lM : M.length = P.length + 1 := by rw [hM]; simp; omega
  have lN : N.length = P.length + 2 := by rw [hN]; simp; omega
  have mM : ∀ x ∈ M, knownI x = true ∧ x.op ≠ 24 := fun x hx => by
    rw [hM] at hx
    simp only [List.mem_append, List.mem_singleton] at hx
    rcases hx with (hx | rfl) | hx
    · have := hP x (List.mem_of_mem_take hx); exact ⟨this.known, this.op24⟩
    · exact ⟨by decide +kernel, by decide⟩
    · have := hP x (List.mem_of_mem_drop hx); exact ⟨this.known, this.op24⟩
  have mN : ∀ x ∈ N, knownI x = true ∧ x.op ≠ 24 := fun x hx => by
    rw [hN] at hx
    simp only [List.mem_append, List.mem_singleton] at hx
    rcases hx with (hx | rfl) | hx
    · exact mM x (List.mem_of_mem_take hx)
    · exact ⟨by decide +kernel, by decide⟩
    · exact mM x (List.mem_of_mem_drop hx)
  have lt : (M.take a).length = a := by rw [List.length_take]; omega
  have hr : rightO N = true := by
    have := right_tame (M := N) mN []
    rw [List.append_nil] at this
    rw [this]
    rfl
  have atA : N[a]? = some callI := by
    rw [hN, List.append_assoc, List.getElem?_append_right (by omega), lt]
    simp
  refine right_told (enc_intro (by omega) (by omega) hr) (by omega) ?_ (fun j hj => ?_)
  · rw [wrongO_some atA]
    unfold wrongI
    rw [show wr3 callI = true by decide]
    simp
  · have hx : N[j]? = P[j]? := by
      rw [hN, List.append_assoc, List.getElem?_append_left (by omega), List.getElem?_take_of_lt hj, hM, List.append_assoc, List.getElem?_append_left (by rw [List.length_take]; omega), List.getElem?_take_of_lt (by omega)]
    have hp : P[j]? = some (P[j]'(by omega)) := List.getElem?_eq_getElem _
    exact (hP _ (List.getElem_mem (by omega))).ok (hx.trans hp) (.inl (by omega))

set_option maxRecDepth 100000 in
set_option maxHeartbeats 12800000 in
theorem shapeOrder_c {w : World} {v : Value} {l : List In} (hl : Ins w v l) (hw : ∀ i ∈ l, i.Wf) (a0 b0 : Int) : Calls Try.prog 9 #[v, .int .i64 a0, .int .i64 b0] w fun e w' => e = .returned (.bool true) ∧ Calm w w' := by
  obtain ⟨A, ca, rfl, hca, hma⟩ := hl.form
  unfold maxLen at hma
  have H1 := Lib.hid hl
  have HW := Lib.hid hw
  obtain ⟨n, hn⟩ : ∃ n, n = l.length := ⟨_, rfl⟩
  have HN := Lib.hid hn
  have i9 : (n : Int) ≤ 9223372036854775807 := by omega
  have i7 : (n : Int) ≤ (ca : Int) := by omega
  obtain ⟨q, hq0, hq1, hq2, hq3⟩ := cut_len n 100
  have hq : min (n : Int) 100 = (q : Int) := by omega
  rw [← hn] at H1 ⊢
  have I1 : Hid (Ins w (.slice A q ca) (l.take q)) := Lib.hid (by have := H1.out; rw [HN.out] at this; exact this.cut q (by rw [← HN.out]; exact hq2))
  have HQ : Hid ((l.take q).length = q) := Lib.hid (by rw [List.length_take, ← HN.out]; omega)
  have HWL : Hid (∀ i ∈ l.take q, i.Wf) := Lib.hid (fun i hi => HW.out i (List.mem_of_mem_take hi))
  generalize l.take q = L at I1 HQ HWL
  have j1 : (q : Int) ≤ 100 := by omega
  have j2 : (q : Int) ≤ (ca : Int) := by omega
  have HQ2 : Hid (q ≤ 100) := Lib.hid hq1
  clear hl hw hn hca hma hq0 hq3 H1 HW HN
  go_enter Try.func9, Try.ntmps9
  go_wp2_with fail
  refine (shown6_c w).mono ?_
  rintro e w1 ⟨rfl, hc1⟩
  have C1 := Lib.hid hc1
  have I0 := Lib.hid (I1.out.calm hc1)
  have IW := I1
  clear hc1 I1
  have E1 := Lib.hid (right_c I0.out HWL.out)
  go_wp2_with fail
  refine E1.out.mono ?_
  rintro e w2 ⟨rfl, hc2⟩
  have C2 := Lib.hid (C1.out.trans hc2)
  have I2 := Lib.hid (I0.out.calm hc2)
  clear hc2 I0 E1 C1 hq hq1 hq2 i9 i7
  by_cases hE : rightE L = 0
  rotate_left
  · obtain ⟨E, hEE⟩ : ∃ E : Int, E = (rightE L : Int) := ⟨_, rfl⟩
    have d1 : (E != 0) = true := by rw [bne_iff_ne]; omega
    rw [← hEE]
    clear hE hEE
    go_wp2_with fail
    go_ret
    exact ⟨rfl, C2.out⟩
  have HS := Lib.hid (rightE_zero hE)
  rw [hE]
  clear hE
  generalize (rightP L : Int) = PP
  have HRT := Lib.hid (shape_small HS.out).2.2.2.1
  go_wp2_with fail
  go_loopw [10, 11] (fun p i wr => ∃ (k : Nat) (pv : Value), pv = p ∧ k ≤ q ∧ i = .int .i64 k ∧ Calm w wr ∧ OwnI wr w.heap.size p (plainTo L k)) (fun _ i _ => q - (intOf i).toNat)
  case atStart => exact ⟨0, _, rfl, by omega, rfl, C2.out, OwnI.nil _ _⟩
  case round =>
    obtain ⟨k, pv, rfl, hk, rfl, hcal, how⟩ := hrel
    have HC := Lib.hid hcal
    have HO := Lib.hid how
    clear hcal how
    by_cases hlt : k < q
    · have i1 : (k : Int) < (q : Int) := by omega
      have i2 : (k : Int) ≤ 100 := by omega
      obtain ⟨ad, x, hA, hx, hat⟩ := IW.out.at_ HC.out k (by rw [HQ.out]; exact hlt)
      subst hA
      have HX := Lib.hid hx
      have HXW := Lib.hid (HWL.out x (List.mem_of_getElem? hx))
      have HHC := rhalf_c (IW.out.calm HC.out) k (by rw [HQ.out]; omega)
      rw [hfR_right HRT.out k (by rw [HQ.out]; omega)] at HHC
      have HHC := Lib.hid HHC
      have HAT := Lib.hid hat
      have HPL : Hid (plainTo L (k + 1) = plainTo L k ++ (if (!isHalfO L k && (decide (x.op ≠ 24) && !jumpsO x.op)) = true then [x] else [])) := Lib.hid (by
        show plainTo L k ++ (match L[k]? with | some x => if plainAt L k then [x] else [] | none => []) = _
        rw [hx]
        unfold plainAt jumpAt
        rw [opAt_some hx, hx])
      have JC := Lib.hid (fun w => rjump_c (op := x.op) x.dst x.src x.off x.imm w HXW.out.op)
      generalize isHalfO L k = Hf at HHC HPL
      generalize jumpsO x.op = J at JC HPL
      clear hx hat
      go_wp2_with fail
      refine HHC.out.mono ?_
      rintro e' w5 ⟨rfl, hc5⟩
      have C5 := Lib.hid (HC.out.trans hc5)
      have O5 := Lib.hid (HO.out.moved hc5)
      obtain ⟨e0, e1, e2, e3, e4⟩ := HAT.out.calm hc5
      have HAT5 := Lib.hid (HAT.out.calm hc5)
      clear hc5 HHC HC HO HAT
      rcases Hf with _ | _
      rotate_left
      · have HPN : Hid (plainTo L (k + 1) = plainTo L k) := Lib.hid (by rw [HPL.out, if_neg (by simp), List.append_nil])
        clear HPL
        go_wp2_with fail
        go_roundw
        case rel => exact ⟨k + 1, _, rfl, by omega, by go_num, C5.out, by rw [HPN.out]; exact O5.out⟩
        case measure => simp [intOf]; omega
      by_cases h24 : x.op = 24
      · have d1 : ((x.op : Int) != 24) = false := by rw [h24]; rfl
        have HPN : Hid (plainTo L (k + 1) = plainTo L k) := Lib.hid (by rw [HPL.out, if_neg (by simp [h24]), List.append_nil])
        clear h24
        go_wp2_with fail
        go_roundw
        case rel => exact ⟨k + 1, _, rfl, by omega, by go_num, C5.out, by rw [HPN.out]; exact O5.out⟩
        case measure => simp [intOf]; omega
      have d1 : ((x.op : Int) != 24) = true := by rw [bne_iff_ne]; omega
      have HP2 : Hid (plainTo L (k + 1) = plainTo L k ++ (if J = false then [x] else [])) := Lib.hid (by rw [HPL.out]; cases J <;> simp [h24])
      clear h24 HPL
      go_wp2_with fail
      refine (JC.out _).mono ?_
      rintro e' w6 ⟨rfl, hc6⟩
      have C6 := Lib.hid (C5.out.trans hc6)
      have O6 := Lib.hid (O5.out.moved hc6)
      clear e0 e1 e2 e3 e4
      obtain ⟨e0, e1, e2, e3, e4⟩ := HAT5.out.calm hc6
      clear hc6 JC C5 O5 HAT5
      rcases J with _ | _
      rotate_left
      · have HPN : Hid (plainTo L (k + 1) = plainTo L k) := Lib.hid (by rw [HP2.out, if_neg (by decide), List.append_nil])
        clear HP2
        go_wp2_with fail
        go_roundw
        case rel => exact ⟨k + 1, _, rfl, by omega, by go_num, C6.out, by rw [HPN.out]; exact O6.out⟩
        case measure => simp [intOf]; omega
      have HPY : Hid (plainTo L (k + 1) = plainTo L k ++ [x]) := Lib.hid (by rw [HP2.out, if_pos rfl])
      clear HP2
      have IX : Hid (Ins (w6.alloc (.cells #[.int .u8 (x.op : Int), .int .u8 (x.dst : Int), .int .u8 (x.src : Int), .int .i16 x.off, .int .i32 x.imm] 34)) (.slice (some ⟨w6.heap.size, 0, none⟩) 1 1) [x]) := Lib.hid (Ins.lit w6 [x] 1 _ rfl rfl (by decide))
      have O7 : Hid (OwnI (w6.alloc (.cells #[.int .u8 (x.op : Int), .int .u8 (x.dst : Int), .int .u8 (x.src : Int), .int .i16 x.off, .int .i32 x.imm] 34)) w.heap.size pv (plainTo L k)) := Lib.hid (O6.out.moved ((Keep.refl _ _).alloc _))
      have C7 : Hid (Calm w (w6.alloc (.cells #[.int .u8 (x.op : Int), .int .u8 (x.dst : Int), .int .u8 (x.src : Int), .int .i16 x.off, .int .i32 x.imm] 34))) := Lib.hid (C6.out.alloc _)
      go_wp2_with (at_builtin; go_loud (refine append_insN (by rfl) (.tmp 57) (.tmp 62) rfl w.heap.size pv (plainTo L k) rfl O7.out (.slice (some ⟨w6.heap.size, 0, none⟩) 1 1) [x] rfl IX.out (by have := plain_len L k; simp; omega) C7.out.size ((plainTo L k).length + 1) (by simp) ?_); rintro A8 c8 w8 ho8 hg8)
      have C8 := Lib.hid (O7.out.calm C7.out (Nat.le_refl _) hg8)
      have O8 := Lib.hid ho8
      clear ho8 hg8 IX O7 C7 e0 e1 e2 e3 e4
      go_wp2_with fail
      go_roundw
      case rel => exact ⟨k + 1, _, rfl, by omega, by go_num, C8.out, by rw [HPY.out]; exact O8.out⟩
      case measure => simp [intOf]; omega
    · obtain rfl : k = q := by omega
      have HP1 : Hid (1 ≤ (plainTo L k).length ∧ (plainTo L k).length ≤ 100) := Lib.hid ⟨by have := plain_some HS.out; rwa [HQ.out] at this, Nat.le_trans (plain_len L k) HQ2.out⟩
      have HPT : Hid (∀ x ∈ plainTo L k, Tame x ∧ x.Wf) := Lib.hid (fun x hx => by
        obtain ⟨j, _, h1, h2⟩ := plain_mem hx
        exact ⟨plain_tame HS.out h1 h2, HWL.out x (List.mem_of_getElem? h1)⟩)
      generalize plainTo L k = P at HO HP1 HPT
      obtain ⟨AP, cp, rfl, hcp⟩ := HO.out.form
      have hAP : ∃ gp, AP = some ⟨gp, 0, none⟩ := by
        rcases HO.out.2 with ⟨e, h0⟩ | ⟨g, cap, cur, e, _⟩
        · have := HP1.out.1; omega
        · injection e with e1; exact ⟨g, e1⟩
      obtain ⟨gp, rfl⟩ := hAP
      obtain ⟨m, hm⟩ : ∃ m, m = P.length := ⟨_, rfl⟩
      have HM := Lib.hid hm
      rw [← hm] at HO hcp ⊢
      have m1 : (1 : Int) ≤ (m : Int) := by have := HP1.out.1; omega
      have m2 : (m : Int) ≤ 100 := by have := HP1.out.2; omega
      have m3 : (m : Int) ≤ (cp : Int) := by omega
      have HMB : Hid (1 ≤ m ∧ m ≤ 100) := Lib.hid ⟨by omega, by omega⟩
      obtain ⟨ra, -, hra⟩ := mask_nat a0 16 65535 (by decide) rfl
      obtain ⟨a, ha1, ha2⟩ : ∃ a : Nat, (ra : Int).tmod (m : Int) = (a : Int) ∧ a < m := ⟨ra % m, by rw [Int.tmod_eq_emod_of_nonneg (by omega), Int.natCast_emod], Nat.mod_lt _ (by omega)⟩
      have ha3 : (ra : Int) % (m : Int) = (a : Int) := by rw [← ha1, Int.tmod_eq_emod_of_nonneg (by omega)]
      obtain ⟨rb, -, hrb⟩ := mask_nat b0 16 65535 (by decide) rfl
      obtain ⟨b, hb1, hb2, hb3⟩ : ∃ b : Nat, (rb : Int).tmod ((m : Int) - (a : Int)) = (b : Int) - (a : Int) ∧ a ≤ b ∧ b < m := ⟨a + rb % (m - a), by rw [Int.tmod_eq_emod_of_nonneg (by omega), ← Int.ofNat_sub (by omega), ← Int.natCast_emod]; omega, by omega, by have := Nat.mod_lt rb (show 0 < m - a by omega); omega⟩
      have hb4 : (rb : Int) % ((m : Int) - (a : Int)) = (b : Int) - (a : Int) := by rw [← hb1, Int.tmod_eq_emod_of_nonneg (by omega)]
      have hb5 : (a : Int) + ((b : Int) - (a : Int)) = (b : Int) := by omega
      have n1 : (a : Int) ≤ (b : Int) := by omega
      have n2 : (b : Int) < (m : Int) := by omega
      have n3 : (a : Int) < (m : Int) := by omega
      have HAB := Lib.hid (And.intro hb2 hb3)
      clear hm hcp ha2 hb2 hb3
      go_upto_region 16 with fail
      clear hra ha1 ha3 hrb hb1 hb4 hb5
      obtain ⟨gb, hgb⟩ : ∃ gb, gb = wr.heap.size := ⟨_, rfl⟩
      have RB : Hid (Row (wr.alloc (.cells #[.int .u8 183, .int .u8 10, .int .u8 0, .int .i16 0, .int .i32 0] 34)) wr.heap.size 34 #[.int .u8 183, .int .u8 10, .int .u8 0, .int .i16 0, .int .i32 0]) := Lib.hid (Row.made wr _ _)
      have C5 : Hid (Calm w (wr.alloc (.cells #[.int .u8 183, .int .u8 10, .int .u8 0, .int .i16 0, .int .i32 0] 34))) := Lib.hid (HC.out.alloc _)
      have O5 : Hid (OwnI (wr.alloc (.cells #[.int .u8 183, .int .u8 10, .int .u8 0, .int .i16 0, .int .i32 0] 34)) w.heap.size (.slice (some ⟨gp, 0, none⟩) m cp) P) := Lib.hid (HO.out.moved ((Keep.refl _ _).alloc _))
      rw [← hgb] at RB ⊢
      generalize wr.alloc (.cells #[.int .u8 183, .int .u8 10, .int .u8 0, .int .i16 0, .int .i32 0] 34) = w5 at RB C5 O5 ⊢
      clear hgb HC HO
      obtain ⟨adp, hadp⟩ : ∃ adp : Addr, adp = ⟨gp, 0, none⟩ := ⟨_, rfl⟩
      have IP : Hid (Ins w5 (.slice (some adp) m cp) P) := Lib.hid (by rw [hadp]; exact O5.out.insN)
      rw [← hadp]
      clear hadp
      have IPa : Hid (Ins w5 (.slice (some adp) b cp) (P.take b)) := Lib.hid (by have := IP.out; rw [HM.out] at this; exact this.cut b (by have := HAB.out; have := HM.out; omega))
      have IPb : Hid (Ins w5 (.slice (some (adp.add (b * 5))) (m - b) (cp - b)) (P.drop b)) := Lib.hid (IP.out.drop b (by have := HAB.out; have := HM.out; omega))
      have b0 : Hid (w5.cell? ⟨gb, 0, none⟩ = some (.int .u8 183)) := Lib.hid (RB.out.cell 0)
      have b1 : Hid (w5.cell? ⟨gb, 1, none⟩ = some (.int .u8 10)) := Lib.hid (RB.out.cell 1)
      have b2 : Hid (w5.cell? ⟨gb, 2, none⟩ = some (.int .u8 0)) := Lib.hid (RB.out.cell 2)
      have b3 : Hid (w5.cell? ⟨gb, 3, none⟩ = some (.int .i16 0)) := Lib.hid (RB.out.cell 3)
      have b4 : Hid (w5.cell? ⟨gb, 4, none⟩ = some (.int .i32 0)) := Lib.hid (RB.out.cell 4)
      have HGB : Hid (gb < w5.heap.size) := Lib.hid RB.out.lt
      have HLA : Hid ((P.take b).length = b) := Lib.hid (by rw [List.length_take]; have := HAB.out; have := HM.out; omega)
      have HLB : Hid ((P.drop b).length = m - b) := Lib.hid (by rw [List.length_drop, HM.out])
      have HLIB : Hid (m = P.length) := HM
      have p1 : (b : Int) ≤ (cp : Int) := by omega
      have p2 : (b : Int) ≤ (m : Int) := by omega
      go_cut [14] (fun s14 wc => ∃ (A6 : Option Addr) (c6 : Nat), s14 = .slice A6 (m + 1) c6 ∧ OwnI wc w5.heap.size s14 (P.take b ++ [badI] ++ P.drop b) ∧ Calm w5 wc)
      case first =>
        refine wp_region_noPanic ?_
        refine wp_region_held_drew (S := fun w' => Calm w5 w') (by kernel_rfl) (Keep.refl _ w5).drew (fun hHeld => ?_)
        refine take_at 1 80 (.slice (some adp) m cp) rfl rfl (by kernel_rfl) (by kernel_rfl) (by kernel_rfl) (fun _ _ _ h => h) (Or.inl ⟨by rfl, ?_⟩) hHeld ?_
        · intro w hSw; go_simp
        simp only [List.setIfInBounds_toArray, List.set_cons_zero, List.set_cons_succ]
        refine take_at 2 81 (.int .i64 (b : Int)) rfl rfl (by kernel_rfl) (by kernel_rfl) (by kernel_rfl) (fun _ _ _ h => h) (Or.inl ⟨by rfl, ?_⟩) hHeld ?_
        · intro w hSw; go_simp
        simp only [List.setIfInBounds_toArray, List.set_cons_zero, List.set_cons_succ]
        refine take_at 3 82 (.slice (some adp) b cp) rfl rfl (by kernel_rfl) (by kernel_rfl) (by kernel_rfl) (fun _ _ _ h => h) (Or.inl ⟨by rfl, ?_⟩) hHeld ?_
        · intro w hSw; go_simp
        simp only [List.setIfInBounds_toArray, List.set_cons_zero, List.set_cons_succ]
        refine take_at 5 84 (.agg #[.int .u8 183, .int .u8 10, .int .u8 0, .int .i16 0, .int .i32 0]) rfl rfl (by kernel_rfl) (by kernel_rfl) (by kernel_rfl) (fun _ _ _ h => h) (Or.inl ⟨by rfl, ?_⟩) hHeld ?_
        · intro w hSw; have c0 := (hSw.cell (p := ⟨gb, 0, none⟩) HGB.out (fun e => e)).trans b0.out; have c1 := (hSw.cell (p := ⟨gb, 1, none⟩) HGB.out (fun e => e)).trans b1.out; have c2 := (hSw.cell (p := ⟨gb, 2, none⟩) HGB.out (fun e => e)).trans b2.out; have c3 := (hSw.cell (p := ⟨gb, 3, none⟩) HGB.out (fun e => e)).trans b3.out; have c4 := (hSw.cell (p := ⟨gb, 4, none⟩) HGB.out (fun e => e)).trans b4.out; go_simp
        simp only [List.setIfInBounds_toArray, List.set_cons_zero, List.set_cons_succ]
        refine take_at 8 87 (.slice (some adp) m cp) rfl rfl (by kernel_rfl) (by kernel_rfl) (by kernel_rfl) (fun _ _ _ h => h) (Or.inl ⟨by rfl, ?_⟩) hHeld ?_
        · intro w hSw; go_simp
        simp only [List.setIfInBounds_toArray, List.set_cons_zero, List.set_cons_succ]
        refine take_at 9 88 (.int .i64 (b : Int)) rfl rfl (by kernel_rfl) (by kernel_rfl) (by kernel_rfl) (fun _ _ _ h => h) (Or.inl ⟨by rfl, ?_⟩) hHeld ?_
        · intro w hSw; go_simp
        simp only [List.setIfInBounds_toArray, List.set_cons_zero, List.set_cons_succ]
        refine take_at 10 89 (.slice (some (adp.add (b * 5))) (m - b) (cp - b)) rfl rfl (by kernel_rfl) (by kernel_rfl) (by kernel_rfl) (fun _ _ _ h => h) (Or.inl ⟨by rfl, ?_⟩) hHeld ?_
        · intro w hSw; go_simp <;> (intro h; exfalso; have := HAB.out; have := HLIB.out; omega)
        simp only [List.setIfInBounds_toArray, List.set_cons_zero, List.set_cons_succ]
        refine wpAnyH_ready (rs := [0, 6]) (by kernel_rfl) (by simp) ?_
        refine AllReadyH.cons rfl (fun K hK => ?_) ?_
        · go_simp
          refine hK.out _ _ (hHeld.trans ((Keep.refl _ _).alloc _)) (fun hHeld => ?_)
          clear hK K
          try simp only [List.setIfInBounds_toArray, List.set_cons_zero, List.set_cons_succ]
          refine wpAnyH_ready (rs := [4, 6]) (by kernel_rfl) (by simp) ?_
          refine AllReadyH.cons rfl (fun K hK => ?_) ?_
          · refine step_appendI rfl (.tmp 79) (.tmp 82) rfl w5.heap.size (.slice (some ⟨w5.heap.size, 0, none⟩) 0 0) [] rfl ((OwnI.made w5).moved (Keep.refl _ _).drew) (.slice (some adp) b cp) (P.take b) rfl (IPa.out.calm hHeld) (by have := HMB.out; have := HAB.out; have := HM.out; simp [HLIB.out]; omega) hHeld.size b (by rw [List.nil_append, HLA.out]) ?_
            rintro A4 c4 w4 ho4 hg4
            have hC4 : Calm w5 w4 := OwnI.calm (OwnI.moved (OwnI.made w5) (Keep.refl _ _).drew) hHeld (Nat.le_refl _) hg4
            rw [put_at _ _ _ 83 rfl]
            refine hK.out _ _ hC4 (fun hHeld => ?_)
            clear hK K
            try simp only [List.setIfInBounds_toArray, List.set_cons_zero, List.set_cons_succ]
            rw [List.nil_append] at ho4
            have O83 := Lib.hid (ho4.moved ((Keep.refl _ _).alloc (.cells #[.int .u8 183, .int .u8 10, .int .u8 0, .int .i16 0, .int .i32 0] 34)))
            clear ho4 hg4
            refine wpAnyH_ready (rs := [6]) (by kernel_rfl) (by simp) ?_
            refine AllReadyH.cons rfl (fun K hK => ?_) AllReadyH.nil
            go_simp
            refine hK.out _ _ (hHeld.trans ((Keep.refl _ _).alloc _)) (fun hHeld => ?_)
            clear hK K
            try simp only [List.setIfInBounds_toArray, List.set_cons_zero, List.set_cons_succ]
            refine wpAnyH_ready (rs := [7]) (by kernel_rfl) (by simp) ?_
            refine AllReadyH.cons rfl (fun K hK => ?_) AllReadyH.nil
            refine step_appendI rfl (.tmp 83) (.tmp 85) rfl w5.heap.size (.slice A4 b c4) (P.take b) rfl (O83.out) (.slice (some ⟨w4.heap.size, 0, none⟩) 1 1) [badI] rfl (Ins.lit w4 [badI] 1 #[.int .u8 183, .int .u8 10, .int .u8 0, .int .i16 0, .int .i32 0] rfl rfl (by decide)) (by have := HMB.out; have := HAB.out; have := HM.out; simp [HLIB.out]; omega) hHeld.size (b + 1) (by rw [List.length_append, HLA.out]; rfl) ?_
            rintro A7 c7 w7 ho7 hg7
            have hC7 : Calm w5 w7 := O83.out.calm hHeld (Nat.le_refl _) hg7
            rw [put_at _ _ _ 86 rfl]
            refine hK.out _ _ hC7 (fun hHeld => ?_)
            clear hK K
            try simp only [List.setIfInBounds_toArray, List.set_cons_zero, List.set_cons_succ]
            have O86 := Lib.hid ho7
            clear ho7 hg7
            refine wpAnyH_ready (rs := [11]) (by kernel_rfl) (by simp) ?_
            refine AllReadyH.cons rfl (fun K hK => ?_) AllReadyH.nil
            refine step_appendI rfl (.tmp 86) (.tmp 89) rfl w5.heap.size (.slice A7 (b + 1) c7) ((P.take b) ++ [badI]) rfl (O86.out) (.slice (some (adp.add (b * 5))) (m - b) (cp - b)) (P.drop b) rfl (IPb.out.calm hHeld) (by have := HMB.out; have := HAB.out; have := HM.out; simp [HLIB.out]; omega) hHeld.size (m + 1) (by rw [List.length_append, List.length_append, HLA.out, HLB.out]; simp; have := HMB.out; have := HAB.out; omega) ?_
            rintro A11 c11 w11 ho11 hg11
            have hC11 : Calm w5 w11 := O86.out.calm hHeld (Nat.le_refl _) hg11
            rw [put_at _ _ _ 90 rfl]
            refine hK.out _ _ hC11 (fun hHeld => ?_)
            clear hK K
            try simp only [List.setIfInBounds_toArray, List.set_cons_zero, List.set_cons_succ]
            have O90 := Lib.hid ho11
            clear ho11 hg11
            refine wpAnyH_ready (rs := [12]) (by kernel_rfl) (by simp) ?_
            refine AllReadyH.cons rfl (fun K hK => ?_) AllReadyH.nil
            go_simp
            refine hK.out _ _ hHeld (fun hHeld => ?_)
            clear hK K
            try simp only [List.setIfInBounds_toArray, List.set_cons_zero, List.set_cons_succ]
            refine wpAnyH_done (by kernel_rfl) (NoPanic.normal ?_) _
            go_wp2_with fail
            go_meet
            case rel => exact ⟨_, _, rfl, O90.out, hHeld⟩
          refine AllReadyH.cons rfl (fun K hK => ?_) AllReadyH.nil
          go_simp
          refine hK.out _ _ (hHeld.trans ((Keep.refl _ _).alloc _)) (fun hHeld => ?_)
          clear hK K
          try simp only [List.setIfInBounds_toArray, List.set_cons_zero, List.set_cons_succ]
          refine wpAnyH_ready (rs := [4]) (by kernel_rfl) (by simp) ?_
          refine AllReadyH.cons rfl (fun K hK => ?_) AllReadyH.nil
          have I85 := Ins.lit (w5.alloc (.cells #[] 34)) [badI] 1 #[.int .u8 183, .int .u8 10, .int .u8 0, .int .i16 0, .int .i32 0] rfl rfl (by decide)
          rw [World.size_alloc] at I85
          refine step_appendI rfl (.tmp 79) (.tmp 82) rfl w5.heap.size (.slice (some ⟨w5.heap.size, 0, none⟩) 0 0) [] rfl (OwnI.moved (OwnI.made w5) (((Keep.refl _ _).alloc (.cells #[.int .u8 183, .int .u8 10, .int .u8 0, .int .i16 0, .int .i32 0] 34)).drew)) (.slice (some adp) b cp) (P.take b) rfl (IPa.out.calm hHeld) (by have := HMB.out; have := HAB.out; have := HM.out; simp [HLIB.out]; omega) hHeld.size b (by rw [List.nil_append, HLA.out]) ?_
          rintro A4 c4 w4 ho4 hg4
          have hC4 : Calm w5 w4 := OwnI.calm (OwnI.moved (OwnI.made w5) (((Keep.refl _ _).alloc (.cells #[.int .u8 183, .int .u8 10, .int .u8 0, .int .i16 0, .int .i32 0] 34)).drew)) hHeld (Nat.le_refl _) hg4
          rw [put_at _ _ _ 83 rfl]
          refine hK.out _ _ hC4 (fun hHeld => ?_)
          clear hK K
          try simp only [List.setIfInBounds_toArray, List.set_cons_zero, List.set_cons_succ]
          rw [List.nil_append] at ho4
          have I86 := Lib.hid (Ins.grown (I85.calm (Keep.refl _ _).drew) hg4 (by intro e; injection e with e; simp at e))
          have O83 := Lib.hid ho4
          clear ho4 hg4 I85
          refine wpAnyH_ready (rs := [7]) (by kernel_rfl) (by simp) ?_
          refine AllReadyH.cons rfl (fun K hK => ?_) AllReadyH.nil
          refine step_appendI rfl (.tmp 83) (.tmp 85) rfl w5.heap.size (.slice A4 b c4) (P.take b) rfl (O83.out) (.slice (some ⟨w5.heap.size + 1, 0, none⟩) 1 1) [badI] rfl (I86.out) (by have := HMB.out; have := HAB.out; have := HM.out; simp [HLIB.out]; omega) hHeld.size (b + 1) (by rw [List.length_append, HLA.out]; rfl) ?_
          rintro A7 c7 w7 ho7 hg7
          have hC7 : Calm w5 w7 := O83.out.calm hHeld (Nat.le_refl _) hg7
          rw [put_at _ _ _ 86 rfl]
          refine hK.out _ _ hC7 (fun hHeld => ?_)
          clear hK K
          try simp only [List.setIfInBounds_toArray, List.set_cons_zero, List.set_cons_succ]
          have O86 := Lib.hid ho7
          clear ho7 hg7
          refine wpAnyH_ready (rs := [11]) (by kernel_rfl) (by simp) ?_
          refine AllReadyH.cons rfl (fun K hK => ?_) AllReadyH.nil
          refine step_appendI rfl (.tmp 86) (.tmp 89) rfl w5.heap.size (.slice A7 (b + 1) c7) ((P.take b) ++ [badI]) rfl (O86.out) (.slice (some (adp.add (b * 5))) (m - b) (cp - b)) (P.drop b) rfl (IPb.out.calm hHeld) (by have := HMB.out; have := HAB.out; have := HM.out; simp [HLIB.out]; omega) hHeld.size (m + 1) (by rw [List.length_append, List.length_append, HLA.out, HLB.out]; simp; have := HMB.out; have := HAB.out; omega) ?_
          rintro A11 c11 w11 ho11 hg11
          have hC11 : Calm w5 w11 := O86.out.calm hHeld (Nat.le_refl _) hg11
          rw [put_at _ _ _ 90 rfl]
          refine hK.out _ _ hC11 (fun hHeld => ?_)
          clear hK K
          try simp only [List.setIfInBounds_toArray, List.set_cons_zero, List.set_cons_succ]
          have O90 := Lib.hid ho11
          clear ho11 hg11
          refine wpAnyH_ready (rs := [12]) (by kernel_rfl) (by simp) ?_
          refine AllReadyH.cons rfl (fun K hK => ?_) AllReadyH.nil
          go_simp
          refine hK.out _ _ hHeld (fun hHeld => ?_)
          clear hK K
          try simp only [List.setIfInBounds_toArray, List.set_cons_zero, List.set_cons_succ]
          refine wpAnyH_done (by kernel_rfl) (NoPanic.normal ?_) _
          go_wp2_with fail
          go_meet
          case rel => exact ⟨_, _, rfl, O90.out, hHeld⟩
        refine AllReadyH.cons rfl (fun K hK => ?_) AllReadyH.nil
        go_simp
        refine hK.out _ _ (hHeld.trans ((Keep.refl _ _).alloc _)) (fun hHeld => ?_)
        clear hK K
        try simp only [List.setIfInBounds_toArray, List.set_cons_zero, List.set_cons_succ]
        refine wpAnyH_ready (rs := [0]) (by kernel_rfl) (by simp) ?_
        refine AllReadyH.cons rfl (fun K hK => ?_) AllReadyH.nil
        go_simp
        refine hK.out _ _ (hHeld.trans ((Keep.refl _ _).alloc _)) (fun hHeld => ?_)
        clear hK K
        try simp only [List.setIfInBounds_toArray, List.set_cons_zero, List.set_cons_succ]
        refine wpAnyH_ready (rs := [4]) (by kernel_rfl) (by simp) ?_
        refine AllReadyH.cons rfl (fun K hK => ?_) AllReadyH.nil
        have I85 := Ins.calm (Ins.lit w5 [badI] 1 #[.int .u8 183, .int .u8 10, .int .u8 0, .int .i16 0, .int .i32 0] rfl rfl (by decide)) ((Keep.refl _ _).alloc (.cells #[] 34))
        have O79 := OwnI.made (w5.alloc (.cells #[.int .u8 183, .int .u8 10, .int .u8 0, .int .i16 0, .int .i32 0] 34))
        rw [World.size_alloc] at O79
        have O79 : OwnI ((w5.alloc (.cells #[.int .u8 183, .int .u8 10, .int .u8 0, .int .i16 0, .int .i32 0] 34)).alloc (.cells #[] 34)) w5.heap.size (.slice (some ⟨w5.heap.size + 1, 0, none⟩) 0 0) [] := by
          refine ⟨O79.1, ?_⟩
          rcases O79.2 with h | ⟨g, cap, cur, e, b0, h1⟩
          · exact .inl h
          · exact .inr ⟨g, cap, cur, e, by omega, h1⟩
        refine step_appendI rfl (.tmp 79) (.tmp 82) rfl w5.heap.size (.slice (some ⟨w5.heap.size + 1, 0, none⟩) 0 0) [] rfl (O79.moved (Keep.refl _ _).drew) (.slice (some adp) b cp) (P.take b) rfl (IPa.out.calm hHeld) (by have := HMB.out; have := HAB.out; have := HM.out; simp [HLIB.out]; omega) hHeld.size b (by rw [List.nil_append, HLA.out]) ?_
        rintro A4 c4 w4 ho4 hg4
        have hC4 : Calm w5 w4 := OwnI.calm (OwnI.moved O79 (Keep.refl _ _).drew) hHeld (Nat.le_refl _) hg4
        rw [put_at _ _ _ 83 rfl]
        refine hK.out _ _ hC4 (fun hHeld => ?_)
        clear hK K
        try simp only [List.setIfInBounds_toArray, List.set_cons_zero, List.set_cons_succ]
        rw [List.nil_append] at ho4
        have I86 := Lib.hid (Ins.grown (I85.calm (Keep.refl _ _).drew) hg4 (by intro e; injection e with e; simp at e))
        have O83 := Lib.hid ho4
        clear ho4 hg4 I85 O79
        refine wpAnyH_ready (rs := [7]) (by kernel_rfl) (by simp) ?_
        refine AllReadyH.cons rfl (fun K hK => ?_) AllReadyH.nil
        refine step_appendI rfl (.tmp 83) (.tmp 85) rfl w5.heap.size (.slice A4 b c4) (P.take b) rfl (O83.out) (.slice (some ⟨w5.heap.size, 0, none⟩) 1 1) [badI] rfl (I86.out) (by have := HMB.out; have := HAB.out; have := HM.out; simp [HLIB.out]; omega) hHeld.size (b + 1) (by rw [List.length_append, HLA.out]; rfl) ?_
        rintro A7 c7 w7 ho7 hg7
        have hC7 : Calm w5 w7 := O83.out.calm hHeld (Nat.le_refl _) hg7
        rw [put_at _ _ _ 86 rfl]
        refine hK.out _ _ hC7 (fun hHeld => ?_)
        clear hK K
        try simp only [List.setIfInBounds_toArray, List.set_cons_zero, List.set_cons_succ]
        have O86 := Lib.hid ho7
        clear ho7 hg7
        refine wpAnyH_ready (rs := [11]) (by kernel_rfl) (by simp) ?_
        refine AllReadyH.cons rfl (fun K hK => ?_) AllReadyH.nil
        refine step_appendI rfl (.tmp 86) (.tmp 89) rfl w5.heap.size (.slice A7 (b + 1) c7) ((P.take b) ++ [badI]) rfl (O86.out) (.slice (some (adp.add (b * 5))) (m - b) (cp - b)) (P.drop b) rfl (IPb.out.calm hHeld) (by have := HMB.out; have := HAB.out; have := HM.out; simp [HLIB.out]; omega) hHeld.size (m + 1) (by rw [List.length_append, List.length_append, HLA.out, HLB.out]; simp; have := HMB.out; have := HAB.out; omega) ?_
        rintro A11 c11 w11 ho11 hg11
        have hC11 : Calm w5 w11 := O86.out.calm hHeld (Nat.le_refl _) hg11
        rw [put_at _ _ _ 90 rfl]
        refine hK.out _ _ hC11 (fun hHeld => ?_)
        clear hK K
        try simp only [List.setIfInBounds_toArray, List.set_cons_zero, List.set_cons_succ]
        have O90 := Lib.hid ho11
        clear ho11 hg11
        refine wpAnyH_ready (rs := [12]) (by kernel_rfl) (by simp) ?_
        refine AllReadyH.cons rfl (fun K hK => ?_) AllReadyH.nil
        go_simp
        refine hK.out _ _ hHeld (fun hHeld => ?_)
        clear hK K
        try simp only [List.setIfInBounds_toArray, List.set_cons_zero, List.set_cons_succ]
        refine wpAnyH_done (by kernel_rfl) (NoPanic.normal ?_) _
        go_wp2_with fail
        go_meet
        case rel => exact ⟨_, _, rfl, O90.out, hHeld⟩
      case rest =>
        obtain ⟨w6, rfl⟩ : ∃ x : World, x = wc := ⟨_, rfl⟩
        obtain ⟨A6, c6, rfl, ho6, hc6⟩ := hcut
        have C6 := Lib.hid (C5.out.trans hc6)
        obtain ⟨M, hM⟩ : ∃ M, M = P.take b ++ [badI] ++ P.drop b := ⟨_, rfl⟩
        rw [← hM] at ho6
        have HMM := Lib.hid hM
        have HLM : Hid (M.length = m + 1) := Lib.hid (by rw [hM, List.length_append, List.length_append, HLA.out, HLB.out]; simp; have := HAB.out; omega)
        have hA6 : ∃ g6, A6 = some ⟨g6, 0, none⟩ ∧ m + 1 ≤ c6 := by
          rcases ho6.2 with ⟨e, h0⟩ | ⟨g, cap, cur, e, _, _, h2, _⟩
          · have := HLM.out; omega
          · injection e with e1 e2 e3; exact ⟨g, e1, by have := HLM.out; omega⟩
        obtain ⟨g6, rfl, hcap6⟩ := hA6
        have HWM : Hid (∀ x ∈ M, x.Wf) := Lib.hid (fun x hx => by
          rw [HMM.out] at hx
          simp only [List.mem_append, List.mem_singleton] at hx
          rcases hx with (hx | rfl) | hx
          · exact (HPT.out x (List.mem_of_mem_take hx)).2
          · exact ⟨by decide, by decide, by decide, by decide, by decide⟩
          · exact (HPT.out x (List.mem_of_mem_drop hx)).2)
        obtain ⟨adm, hadm⟩ : ∃ adm : Addr, adm = ⟨g6, 0, none⟩ := ⟨_, rfl⟩
        have IM : Hid (Ins w6 (.slice (some adm) (m + 1) c6) M) := Lib.hid (by rw [hadm]; exact ho6.insN)
        rw [← hadm]
        obtain ⟨mm, hmm⟩ : ∃ mm, mm = m + 1 := ⟨_, rfl⟩
        rw [← hmm] at IM ⊢
        have IMa : Hid (Ins w6 (.slice (some adm) a c6) (M.take a)) := Lib.hid (by have h := IM.out; have := HLM.out; rw [show mm = M.length by omega] at h; exact h.cut a (by have := HAB.out; omega))
        have IMb : Hid (Ins w6 (.slice (some (adm.add (a * 5))) (mm - a) (c6 - a)) (M.drop a)) := Lib.hid (IM.out.drop a (by have := HAB.out; have := HLM.out; omega))
        have HLA : Hid ((M.take a).length = a) := Lib.hid (by rw [List.length_take]; have := HAB.out; have := HLM.out; omega)
        have HLB : Hid ((M.drop a).length = mm - a) := Lib.hid (by rw [List.length_drop]; have := HLM.out; omega)
        have HLIB : Hid (mm = m + 1) := Lib.hid hmm
        have s1 : (a : Int) ≤ (c6 : Int) := by omega
        have s2 : (a : Int) ≤ (mm : Int) := by omega
        have s3 : (mm : Int) ≤ (c6 : Int) := by omega
        have s4 : (mm : Int) ≤ 101 := by omega
        clear ho6 hc6 hM hcap6 hadm hmm IP IPa IPb RB C5 O5 b0 b1 b2 b3 b4 HGB
        go_upto_region 17 with fail
        go_cut [14] (fun s14 wc => ∃ (A6 : Option Addr) (c6 : Nat), s14 = .slice A6 (m + 2) c6 ∧ OwnI wc w6.heap.size s14 (M.take a ++ [callI] ++ M.drop a) ∧ Calm w6 wc)
        case first =>
          refine wp_region_noPanic ?_
          refine wp_region_held_drew (S := fun w' => Calm w6 w') (by kernel_rfl) (Keep.refl _ w6).drew (fun hHeld => ?_)
          refine take_at 1 92 (.slice (some adm) mm c6) rfl rfl (by kernel_rfl) (by kernel_rfl) (by kernel_rfl) (fun _ _ _ h => h) (Or.inl ⟨by rfl, ?_⟩) hHeld ?_
          · intro w hSw; go_simp
          simp only [List.setIfInBounds_toArray, List.set_cons_zero, List.set_cons_succ]
          refine take_at 2 93 (.int .i64 (a : Int)) rfl rfl (by kernel_rfl) (by kernel_rfl) (by kernel_rfl) (fun _ _ _ h => h) (Or.inl ⟨by rfl, ?_⟩) hHeld ?_
          · intro w hSw; go_simp
          simp only [List.setIfInBounds_toArray, List.set_cons_zero, List.set_cons_succ]
          refine take_at 3 94 (.slice (some adm) a c6) rfl rfl (by kernel_rfl) (by kernel_rfl) (by kernel_rfl) (fun _ _ _ h => h) (Or.inl ⟨by rfl, ?_⟩) hHeld ?_
          · intro w hSw; go_simp
          simp only [List.setIfInBounds_toArray, List.set_cons_zero, List.set_cons_succ]
          refine take_at 5 96 (.agg #[.int .u8 133, .int .u8 0, .int .u8 0, .int .i16 0, .int .i32 4]) rfl rfl (by kernel_rfl) (by kernel_rfl) (by kernel_rfl) (fun _ _ _ h => h) (Or.inl ⟨by rfl, ?_⟩) hHeld ?_
          · intro w hSw; go_simp
          simp only [List.setIfInBounds_toArray, List.set_cons_zero, List.set_cons_succ]
          refine take_at 8 99 (.slice (some adm) mm c6) rfl rfl (by kernel_rfl) (by kernel_rfl) (by kernel_rfl) (fun _ _ _ h => h) (Or.inl ⟨by rfl, ?_⟩) hHeld ?_
          · intro w hSw; go_simp
          simp only [List.setIfInBounds_toArray, List.set_cons_zero, List.set_cons_succ]
          refine take_at 9 100 (.int .i64 (a : Int)) rfl rfl (by kernel_rfl) (by kernel_rfl) (by kernel_rfl) (fun _ _ _ h => h) (Or.inl ⟨by rfl, ?_⟩) hHeld ?_
          · intro w hSw; go_simp
          simp only [List.setIfInBounds_toArray, List.set_cons_zero, List.set_cons_succ]
          refine take_at 10 101 (.slice (some (adm.add (a * 5))) (mm - a) (c6 - a)) rfl rfl (by kernel_rfl) (by kernel_rfl) (by kernel_rfl) (fun _ _ _ h => h) (Or.inl ⟨by rfl, ?_⟩) hHeld ?_
          · intro w hSw; go_simp <;> (intro h; exfalso; have := HAB.out; have := HLIB.out; omega)
          simp only [List.setIfInBounds_toArray, List.set_cons_zero, List.set_cons_succ]
          refine wpAnyH_ready (rs := [0, 6]) (by kernel_rfl) (by simp) ?_
          refine AllReadyH.cons rfl (fun K hK => ?_) ?_
          · go_simp
            refine hK.out _ _ (hHeld.trans ((Keep.refl _ _).alloc _)) (fun hHeld => ?_)
            clear hK K
            try simp only [List.setIfInBounds_toArray, List.set_cons_zero, List.set_cons_succ]
            refine wpAnyH_ready (rs := [4, 6]) (by kernel_rfl) (by simp) ?_
            refine AllReadyH.cons rfl (fun K hK => ?_) ?_
            · refine step_appendI rfl (.tmp 91) (.tmp 94) rfl w6.heap.size (.slice (some ⟨w6.heap.size, 0, none⟩) 0 0) [] rfl ((OwnI.made w6).moved (Keep.refl _ _).drew) (.slice (some adm) a c6) (M.take a) rfl (IMa.out.calm hHeld) (by have := HMB.out; have := HAB.out; have := HLM.out; have := HLA.out; have := HLB.out; simp; omega) hHeld.size a (by rw [List.nil_append, HLA.out]) ?_
              rintro A4 c4 w4 ho4 hg4
              have hC4 : Calm w6 w4 := OwnI.calm (OwnI.moved (OwnI.made w6) (Keep.refl _ _).drew) hHeld (Nat.le_refl _) hg4
              rw [put_at _ _ _ 95 rfl]
              refine hK.out _ _ hC4 (fun hHeld => ?_)
              clear hK K
              try simp only [List.setIfInBounds_toArray, List.set_cons_zero, List.set_cons_succ]
              rw [List.nil_append] at ho4
              have O83 := Lib.hid (ho4.moved ((Keep.refl _ _).alloc (.cells #[.int .u8 133, .int .u8 0, .int .u8 0, .int .i16 0, .int .i32 4] 34)))
              clear ho4 hg4
              refine wpAnyH_ready (rs := [6]) (by kernel_rfl) (by simp) ?_
              refine AllReadyH.cons rfl (fun K hK => ?_) AllReadyH.nil
              go_simp
              refine hK.out _ _ (hHeld.trans ((Keep.refl _ _).alloc _)) (fun hHeld => ?_)
              clear hK K
              try simp only [List.setIfInBounds_toArray, List.set_cons_zero, List.set_cons_succ]
              refine wpAnyH_ready (rs := [7]) (by kernel_rfl) (by simp) ?_
              refine AllReadyH.cons rfl (fun K hK => ?_) AllReadyH.nil
              refine step_appendI rfl (.tmp 95) (.tmp 97) rfl w6.heap.size (.slice A4 a c4) (M.take a) rfl (O83.out) (.slice (some ⟨w4.heap.size, 0, none⟩) 1 1) [callI] rfl (Ins.lit w4 [callI] 1 #[.int .u8 133, .int .u8 0, .int .u8 0, .int .i16 0, .int .i32 4] rfl rfl (by decide)) (by have := HMB.out; have := HAB.out; have := HLM.out; have := HLA.out; have := HLB.out; simp; omega) hHeld.size (a + 1) (by rw [List.length_append, HLA.out]; rfl) ?_
              rintro A7 c7 w7 ho7 hg7
              have hC7 : Calm w6 w7 := O83.out.calm hHeld (Nat.le_refl _) hg7
              rw [put_at _ _ _ 98 rfl]
              refine hK.out _ _ hC7 (fun hHeld => ?_)
              clear hK K
              try simp only [List.setIfInBounds_toArray, List.set_cons_zero, List.set_cons_succ]
              have O86 := Lib.hid ho7
              clear ho7 hg7
              refine wpAnyH_ready (rs := [11]) (by kernel_rfl) (by simp) ?_
              refine AllReadyH.cons rfl (fun K hK => ?_) AllReadyH.nil
              refine step_appendI rfl (.tmp 98) (.tmp 101) rfl w6.heap.size (.slice A7 (a + 1) c7) ((M.take a) ++ [callI]) rfl (O86.out) (.slice (some (adm.add (a * 5))) (mm - a) (c6 - a)) (M.drop a) rfl (IMb.out.calm hHeld) (by have := HMB.out; have := HAB.out; have := HLM.out; have := HLA.out; have := HLB.out; simp; omega) hHeld.size (m + 2) (by rw [List.length_append, List.length_append, HLA.out, HLB.out]; simp; have := HMB.out; have := HAB.out; have := HLIB.out; omega) ?_
              rintro A11 c11 w11 ho11 hg11
              have hC11 : Calm w6 w11 := O86.out.calm hHeld (Nat.le_refl _) hg11
              rw [put_at _ _ _ 102 rfl]
              refine hK.out _ _ hC11 (fun hHeld => ?_)
              clear hK K
              try simp only [List.setIfInBounds_toArray, List.set_cons_zero, List.set_cons_succ]
              have O90 := Lib.hid ho11
              clear ho11 hg11
              refine wpAnyH_ready (rs := [12]) (by kernel_rfl) (by simp) ?_
              refine AllReadyH.cons rfl (fun K hK => ?_) AllReadyH.nil
              go_simp
              refine hK.out _ _ hHeld (fun hHeld => ?_)
              clear hK K
              try simp only [List.setIfInBounds_toArray, List.set_cons_zero, List.set_cons_succ]
              refine wpAnyH_done (by kernel_rfl) (NoPanic.normal ?_) _
              go_wp2_with fail
              go_meet
              case rel => exact ⟨_, _, rfl, O90.out, hHeld⟩
            refine AllReadyH.cons rfl (fun K hK => ?_) AllReadyH.nil
            go_simp
            refine hK.out _ _ (hHeld.trans ((Keep.refl _ _).alloc _)) (fun hHeld => ?_)
            clear hK K
            try simp only [List.setIfInBounds_toArray, List.set_cons_zero, List.set_cons_succ]
            refine wpAnyH_ready (rs := [4]) (by kernel_rfl) (by simp) ?_
            refine AllReadyH.cons rfl (fun K hK => ?_) AllReadyH.nil
            have I85 := Ins.lit (w6.alloc (.cells #[] 34)) [callI] 1 #[.int .u8 133, .int .u8 0, .int .u8 0, .int .i16 0, .int .i32 4] rfl rfl (by decide)
            rw [World.size_alloc] at I85
            refine step_appendI rfl (.tmp 91) (.tmp 94) rfl w6.heap.size (.slice (some ⟨w6.heap.size, 0, none⟩) 0 0) [] rfl (OwnI.moved (OwnI.made w6) (((Keep.refl _ _).alloc (.cells #[.int .u8 133, .int .u8 0, .int .u8 0, .int .i16 0, .int .i32 4] 34)).drew)) (.slice (some adm) a c6) (M.take a) rfl (IMa.out.calm hHeld) (by have := HMB.out; have := HAB.out; have := HLM.out; have := HLA.out; have := HLB.out; simp; omega) hHeld.size a (by rw [List.nil_append, HLA.out]) ?_
            rintro A4 c4 w4 ho4 hg4
            have hC4 : Calm w6 w4 := OwnI.calm (OwnI.moved (OwnI.made w6) (((Keep.refl _ _).alloc (.cells #[.int .u8 133, .int .u8 0, .int .u8 0, .int .i16 0, .int .i32 4] 34)).drew)) hHeld (Nat.le_refl _) hg4
            rw [put_at _ _ _ 95 rfl]
            refine hK.out _ _ hC4 (fun hHeld => ?_)
            clear hK K
            try simp only [List.setIfInBounds_toArray, List.set_cons_zero, List.set_cons_succ]
            rw [List.nil_append] at ho4
            have I86 := Lib.hid (Ins.grown (I85.calm (Keep.refl _ _).drew) hg4 (by intro e; injection e with e; simp at e))
            have O83 := Lib.hid ho4
            clear ho4 hg4 I85
            refine wpAnyH_ready (rs := [7]) (by kernel_rfl) (by simp) ?_
            refine AllReadyH.cons rfl (fun K hK => ?_) AllReadyH.nil
            refine step_appendI rfl (.tmp 95) (.tmp 97) rfl w6.heap.size (.slice A4 a c4) (M.take a) rfl (O83.out) (.slice (some ⟨w6.heap.size + 1, 0, none⟩) 1 1) [callI] rfl (I86.out) (by have := HMB.out; have := HAB.out; have := HLM.out; have := HLA.out; have := HLB.out; simp; omega) hHeld.size (a + 1) (by rw [List.length_append, HLA.out]; rfl) ?_
            rintro A7 c7 w7 ho7 hg7
            have hC7 : Calm w6 w7 := O83.out.calm hHeld (Nat.le_refl _) hg7
            rw [put_at _ _ _ 98 rfl]
            refine hK.out _ _ hC7 (fun hHeld => ?_)
            clear hK K
            try simp only [List.setIfInBounds_toArray, List.set_cons_zero, List.set_cons_succ]
            have O86 := Lib.hid ho7
            clear ho7 hg7
            refine wpAnyH_ready (rs := [11]) (by kernel_rfl) (by simp) ?_
            refine AllReadyH.cons rfl (fun K hK => ?_) AllReadyH.nil
            refine step_appendI rfl (.tmp 98) (.tmp 101) rfl w6.heap.size (.slice A7 (a + 1) c7) ((M.take a) ++ [callI]) rfl (O86.out) (.slice (some (adm.add (a * 5))) (mm - a) (c6 - a)) (M.drop a) rfl (IMb.out.calm hHeld) (by have := HMB.out; have := HAB.out; have := HLM.out; have := HLA.out; have := HLB.out; simp; omega) hHeld.size (m + 2) (by rw [List.length_append, List.length_append, HLA.out, HLB.out]; simp; have := HMB.out; have := HAB.out; have := HLIB.out; omega) ?_
            rintro A11 c11 w11 ho11 hg11
            have hC11 : Calm w6 w11 := O86.out.calm hHeld (Nat.le_refl _) hg11
            rw [put_at _ _ _ 102 rfl]
            refine hK.out _ _ hC11 (fun hHeld => ?_)
            clear hK K
            try simp only [List.setIfInBounds_toArray, List.set_cons_zero, List.set_cons_succ]
            have O90 := Lib.hid ho11
            clear ho11 hg11
            refine wpAnyH_ready (rs := [12]) (by kernel_rfl) (by simp) ?_
            refine AllReadyH.cons rfl (fun K hK => ?_) AllReadyH.nil
            go_simp
            refine hK.out _ _ hHeld (fun hHeld => ?_)
            clear hK K
            try simp only [List.setIfInBounds_toArray, List.set_cons_zero, List.set_cons_succ]
            refine wpAnyH_done (by kernel_rfl) (NoPanic.normal ?_) _
            go_wp2_with fail
            go_meet
            case rel => exact ⟨_, _, rfl, O90.out, hHeld⟩
          refine AllReadyH.cons rfl (fun K hK => ?_) AllReadyH.nil
          go_simp
          refine hK.out _ _ (hHeld.trans ((Keep.refl _ _).alloc _)) (fun hHeld => ?_)
          clear hK K
          try simp only [List.setIfInBounds_toArray, List.set_cons_zero, List.set_cons_succ]
          refine wpAnyH_ready (rs := [0]) (by kernel_rfl) (by simp) ?_
          refine AllReadyH.cons rfl (fun K hK => ?_) AllReadyH.nil
          go_simp
          refine hK.out _ _ (hHeld.trans ((Keep.refl _ _).alloc _)) (fun hHeld => ?_)
          clear hK K
          try simp only [List.setIfInBounds_toArray, List.set_cons_zero, List.set_cons_succ]
          refine wpAnyH_ready (rs := [4]) (by kernel_rfl) (by simp) ?_
          refine AllReadyH.cons rfl (fun K hK => ?_) AllReadyH.nil
          have I85 := Ins.calm (Ins.lit w6 [callI] 1 #[.int .u8 133, .int .u8 0, .int .u8 0, .int .i16 0, .int .i32 4] rfl rfl (by decide)) ((Keep.refl _ _).alloc (.cells #[] 34))
          have O79 := OwnI.made (w6.alloc (.cells #[.int .u8 133, .int .u8 0, .int .u8 0, .int .i16 0, .int .i32 4] 34))
          rw [World.size_alloc] at O79
          have O79 : OwnI ((w6.alloc (.cells #[.int .u8 133, .int .u8 0, .int .u8 0, .int .i16 0, .int .i32 4] 34)).alloc (.cells #[] 34)) w6.heap.size (.slice (some ⟨w6.heap.size + 1, 0, none⟩) 0 0) [] := by
            refine ⟨O79.1, ?_⟩
            rcases O79.2 with h | ⟨g, cap, cur, e, b0, h1⟩
            · exact .inl h
            · exact .inr ⟨g, cap, cur, e, by omega, h1⟩
          refine step_appendI rfl (.tmp 91) (.tmp 94) rfl w6.heap.size (.slice (some ⟨w6.heap.size + 1, 0, none⟩) 0 0) [] rfl (O79.moved (Keep.refl _ _).drew) (.slice (some adm) a c6) (M.take a) rfl (IMa.out.calm hHeld) (by have := HMB.out; have := HAB.out; have := HLM.out; have := HLA.out; have := HLB.out; simp; omega) hHeld.size a (by rw [List.nil_append, HLA.out]) ?_
          rintro A4 c4 w4 ho4 hg4
          have hC4 : Calm w6 w4 := OwnI.calm (OwnI.moved O79 (Keep.refl _ _).drew) hHeld (Nat.le_refl _) hg4
          rw [put_at _ _ _ 95 rfl]
          refine hK.out _ _ hC4 (fun hHeld => ?_)
          clear hK K
          try simp only [List.setIfInBounds_toArray, List.set_cons_zero, List.set_cons_succ]
          rw [List.nil_append] at ho4
          have I86 := Lib.hid (Ins.grown (I85.calm (Keep.refl _ _).drew) hg4 (by intro e; injection e with e; simp at e))
          have O83 := Lib.hid ho4
          clear ho4 hg4 I85 O79
          refine wpAnyH_ready (rs := [7]) (by kernel_rfl) (by simp) ?_
          refine AllReadyH.cons rfl (fun K hK => ?_) AllReadyH.nil
          refine step_appendI rfl (.tmp 95) (.tmp 97) rfl w6.heap.size (.slice A4 a c4) (M.take a) rfl (O83.out) (.slice (some ⟨w6.heap.size, 0, none⟩) 1 1) [callI] rfl (I86.out) (by have := HMB.out; have := HAB.out; have := HLM.out; have := HLA.out; have := HLB.out; simp; omega) hHeld.size (a + 1) (by rw [List.length_append, HLA.out]; rfl) ?_
          rintro A7 c7 w7 ho7 hg7
          have hC7 : Calm w6 w7 := O83.out.calm hHeld (Nat.le_refl _) hg7
          rw [put_at _ _ _ 98 rfl]
          refine hK.out _ _ hC7 (fun hHeld => ?_)
          clear hK K
          try simp only [List.setIfInBounds_toArray, List.set_cons_zero, List.set_cons_succ]
          have O86 := Lib.hid ho7
          clear ho7 hg7
          refine wpAnyH_ready (rs := [11]) (by kernel_rfl) (by simp) ?_
          refine AllReadyH.cons rfl (fun K hK => ?_) AllReadyH.nil
          refine step_appendI rfl (.tmp 98) (.tmp 101) rfl w6.heap.size (.slice A7 (a + 1) c7) ((M.take a) ++ [callI]) rfl (O86.out) (.slice (some (adm.add (a * 5))) (mm - a) (c6 - a)) (M.drop a) rfl (IMb.out.calm hHeld) (by have := HMB.out; have := HAB.out; have := HLM.out; have := HLA.out; have := HLB.out; simp; omega) hHeld.size (m + 2) (by rw [List.length_append, List.length_append, HLA.out, HLB.out]; simp; have := HMB.out; have := HAB.out; have := HLIB.out; omega) ?_
          rintro A11 c11 w11 ho11 hg11
          have hC11 : Calm w6 w11 := O86.out.calm hHeld (Nat.le_refl _) hg11
          rw [put_at _ _ _ 102 rfl]
          refine hK.out _ _ hC11 (fun hHeld => ?_)
          clear hK K
          try simp only [List.setIfInBounds_toArray, List.set_cons_zero, List.set_cons_succ]
          have O90 := Lib.hid ho11
          clear ho11 hg11
          refine wpAnyH_ready (rs := [12]) (by kernel_rfl) (by simp) ?_
          refine AllReadyH.cons rfl (fun K hK => ?_) AllReadyH.nil
          go_simp
          refine hK.out _ _ hHeld (fun hHeld => ?_)
          clear hK K
          try simp only [List.setIfInBounds_toArray, List.set_cons_zero, List.set_cons_succ]
          refine wpAnyH_done (by kernel_rfl) (NoPanic.normal ?_) _
          go_wp2_with fail
          go_meet
          case rel => exact ⟨_, _, rfl, O90.out, hHeld⟩
        case rest =>
          obtain ⟨w8, rfl⟩ : ∃ x : World, x = wc := ⟨_, rfl⟩
          obtain ⟨A8, c8, rfl, ho8, hc8⟩ := hcut
          have C8 := Lib.hid (C6.out.trans hc8)
          have hT := order_told (fun x hx => (HPT.out x hx).1) HAB.out.1 (by have := HAB.out; have := HM.out; omega) HP1.out.2 M HMM.out _ rfl
          have RC := right_c ho8.insN (fun x hx => by
            simp only [List.mem_append, List.mem_singleton] at hx
            rcases hx with (hx | rfl) | hx
            · exact HWM.out x (List.mem_of_mem_take hx)
            · exact ⟨by decide, by decide, by decide, by decide, by decide⟩
            · exact HWM.out x (List.mem_of_mem_drop hx))
          rw [hT.1, hT.2] at RC
          have RC := Lib.hid RC
          clear ho8 hc8 hT
          go_wp2_with fail
          refine RC.out.mono ?_
          rintro e' w9 ⟨rfl, hc9⟩
          have C9 := Lib.hid (C8.out.trans hc9)
          clear hc9 RC
          go_wp2_with fail
          go_ret
          exact ⟨rfl, C9.out⟩
end Go.Proofs.Ythmiiddojccafaa
