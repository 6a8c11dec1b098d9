/-
  The walk of ShapeReached.
-/
import Derived.Test.YthmiiddojccafaaH9
import Derived.Test.YthmiiddojccafaaHP
import Derived.Test.YthmiiddojccafaaR6A
namespace Go.Proofs.Ythmiiddojccafaa
open Go.RowKit
set_option linter.all false

def boolsV (bl : List Bool) : Array Value := (bl.map Value.bool).toArray
theorem infoB : (Try.prog.info? 4).map (fun i => (i.zero, i.size, i.bytes)) = some (some (.bool false), 1, 1) := by kernel_rfl
theorem run_makeB (w : World) (n : Nat) (hn : n ≤ 1000000) :
    Sem.run Try.prog (Instr.makeSlice 41 (.int .i64 (n : Int)) (.int .i64 (n : Int))) w = .ok (.slice (some ⟨w.heap.size, 0, none⟩) n n) (w.alloc (.cells (boolsV (List.replicate n false)) 4)) := by
  obtain ⟨i, hi, h2⟩ := Option.map_eq_some_iff.1 infoB
  simp only [Prod.mk.injEq] at h2
  obtain ⟨hz0, hz1, hz2⟩ := h2
  have hb' : (i.bytes : Int) * (n : Int) ≤ 281474976710656 := by rw [hz2]; omega
  have hr := run_make (P := Try.prog) w 41 4 i _ Try.underlying41 hi hz0 .i64 .i64 n n (by omega) (Int.le_refl _) hb' (by omega)
  have hm : madeCells (Value.bool false).cells (n * 1) = boolsV (List.replicate n false) := by
    apply Array.toList_inj.1
    show (madeCells #[Value.bool false] (n * 1)).toList = _
    rw [toList_madeCells_one, Nat.mul_one]
    simp [boolsV]
  simp only [Int.toNat_natCast, hz1] at hr
  rw [hr, hm]
/-- Which places are reached by the jumps of the first k. -/
def reachL (l : List In) (q k : Nat) : List Bool := (List.range q).map (fun t : Nat => decide ((t : Int) ∈ leadsTo l k))
theorem reach_len (l : List In) (q k : Nat) : (reachL l q k).length = q := by simp [reachL]
theorem reach_at {l : List In} {q k t : Nat} (ht : t < q) : (reachL l q k)[t]? = some (decide ((t : Int) ∈ leadsTo l k)) := by
  unfold reachL
  rw [List.getElem?_map, List.getElem?_range ht]
  rfl
theorem reach_zero (l : List In) (q : Nat) : reachL l q 0 = List.replicate q false := by
  apply List.ext_getElem?
  intro t
  rcases Nat.lt_or_ge t q with h | h
  · rw [reach_at h, List.getElem?_replicate_of_lt h]
    simp [leadsTo]
  · rw [List.getElem?_eq_none (by rw [reach_len]; exact h), List.getElem?_eq_none (by simpa using h)]
theorem reach_skip {l : List In} {q k : Nat} (h : jumpAt l k = false) : reachL l q (k + 1) = reachL l q k := by
  have : leadsTo l (k + 1) = leadsTo l k := by
    show leadsTo l k ++ (if jumpAt l k then [toAt l k] else []) = _
    rw [h]
    simp
  unfold reachL
  rw [this]
theorem reach_step {l : List In} {q k m : Nat} (h : jumpAt l k = true) (hm : toAt l k = (m : Int)) (hq : m < q) : reachL l q (k + 1) = (reachL l q k).set m true := by
  apply List.ext_getElem?
  intro t
  rcases Nat.lt_or_ge t q with ht | ht
  · rw [reach_at ht, List.getElem?_set]
    by_cases e : m = t
    · subst e
      rw [if_pos rfl, if_pos (by rw [reach_len]; exact ht)]
      congr 1
      apply decide_eq_true
      exact leads_mem.2 ⟨k, by omega, h, hm⟩
    · rw [if_neg e, reach_at ht]
      congr 1
      apply decide_eq_decide.2
      have hls : leadsTo l (k + 1) = leadsTo l k ++ [toAt l k] := by
        show leadsTo l k ++ (if jumpAt l k then [toAt l k] else []) = _
        rw [if_pos h]
      rw [hls, List.mem_append, List.mem_singleton, hm]
      constructor
      · rintro (h | h)
        · exact h
        · omega
      · exact .inl
  · rw [List.getElem?_eq_none (by rw [reach_len]; exact ht), List.getElem?_eq_none (by rw [List.length_set, reach_len]; exact ht)]
theorem boolsV_set (bl : List Bool) (m : Nat) (b : Bool) : (boolsV bl).setIfInBounds m (.bool b) = boolsV (bl.set m b) := by
  unfold boolsV
  rw [List.setIfInBounds_toArray, List.map_set]
theorem boolsV_at {bl : List Bool} {t : Nat} {b : Bool} (h : bl[t]? = some b) : (boolsV bl)[t]? = some (.bool b) := by
  unfold boolsV
  rw [List.getElem?_toArray, List.getElem?_map, h]
  rfl
/-- How many of a row that rises are below a number. -/
def below (T : List Int) (t : Nat) : Nat := (T.filter (fun z => decide (z < (t : Int)))).length
theorem below_at : ∀ {T : List Int} {t : Nat}, Rises T → (t : Int) ∈ T → T[below T t]? = some (t : Int)
  | x :: T, t, hr, h => by
    obtain ⟨h1, h2⟩ := List.pairwise_cons.1 hr
    rcases List.mem_cons.1 h with e | e
    · have : below (x :: T) t = 0 := by
        unfold below
        rw [List.length_eq_zero_iff, List.filter_eq_nil_iff]
        intro z hz
        rcases List.mem_cons.1 hz with e' | e'
        · subst e'; simp; omega
        · have := h1 z e'; simp; omega
      rw [this, e]
      rfl
    · have hx := h1 _ e
      have : below (x :: T) t = below T t + 1 := by
        unfold below
        rw [List.filter_cons, if_pos (by simpa using hx)]
        rfl
      rw [this]
      exact below_at h2 e
theorem below_succ : ∀ {T : List Int} {t : Nat}, Rises T → below T (t + 1) = below T t + (if (t : Int) ∈ T then 1 else 0)
  | [], t, _ => by simp [below]
  | x :: T, t, hr => by
    obtain ⟨h1, h2⟩ := List.pairwise_cons.1 hr
    have ih := below_succ (t := t) h2
    have cons : ∀ s : Nat, below (x :: T) s = below T s + (if x < (s : Int) then 1 else 0) := fun s => by
      unfold below
      rw [List.filter_cons]
      by_cases e : x < (s : Int)
      · rw [if_pos (by simpa using e), if_pos e]; rfl
      · rw [if_neg (by simpa using e), if_neg e]; rfl
    rw [cons, cons, ih]
    by_cases c : (t : Int) ∈ T
    · have hx := h1 _ c
      simp only [if_pos c, if_pos (List.mem_cons_of_mem x c), if_pos hx, if_pos (show x < ((t + 1 : Nat) : Int) by omega)]
    · by_cases e : x = (t : Int)
      · have d : (t : Int) ∈ x :: T := by rw [e]; simp
        simp only [if_neg c, if_pos d, if_neg (show ¬ x < (t : Int) by omega), if_pos (show x < ((t + 1 : Nat) : Int) by omega)]
      · have d : ¬ (t : Int) ∈ x :: T := fun h => by
          rcases List.mem_cons.1 h with h | h
          · exact e h.symm
          · exact c h
        by_cases hl : x < (t : Int)
        · simp only [if_neg c, if_neg d, if_pos hl, if_pos (show x < ((t + 1 : Nat) : Int) by omega)]
        · simp only [if_neg c, if_neg d, if_neg hl, if_neg (show ¬ x < ((t + 1 : Nat) : Int) by omega)]
theorem below_all {T : List Int} {q : Nat} (h : ∀ z ∈ T, z < (q : Int)) : below T q = T.length := by
  unfold below
  rw [List.filter_eq_self.2 (fun z hz => by simpa using h z hz)]
theorem below_zero {T : List Int} (h : ∀ z ∈ T, 0 ≤ z) : below T 0 = 0 := by
  unfold below
  rw [List.length_eq_zero_iff, List.filter_eq_nil_iff]
  intro z hz
  have := h z hz
  simp
  omega
/-- A jump leads to a place that is there, and no second half. -/
theorem jump_ok {l : List In} (hS : shapeO l = true) {k : Nat} (hk : k < l.length) (hj : jumpAt l k = true) : ∃ m : Nat, toAt l k = (m : Int) ∧ m < l.length ∧ isHalfO l m = false ∧ isHalfO l k = false := by
  obtain ⟨_, _, _, hr, hno⟩ := shape_small hS
  have hx : l[k]? = some l[k] := List.getElem?_eq_getElem hk
  obtain ⟨_, _, _, h4, _⟩ := wrong_parts hx (hno k hk)
  unfold jumpAt at hj
  rw [hx] at hj
  obtain ⟨a, b, c⟩ := lead_parts (wr4_no h4 hj)
  unfold toAt
  rw [hx]
  refine ⟨((k : Int) + 1 + l[k].off).toNat, by simp only; omega, by omega, c, ?_⟩
  rcases hf : isHalfO l k with _ | _
  · rfl
  · obtain ⟨y, hy, y0, _⟩ := half_zero hr hf
    rw [hx] at hy
    cases hy
    simp only [y0] at hj
    cases hj

set_option maxRecDepth 100000 in
set_option maxHeartbeats 12800000 in
theorem shapeReached_c {w : World} {v : Value} {l : List In} (hl : Ins w v l) (hw : ∀ i ∈ l, i.Wf) : Calls Try.prog 7 #[v] w fun e w' => e = .returned (.bool true) ∧ Calm w w' := by
  obtain ⟨A, ca, rfl, hca, hma⟩ := hl.form
  unfold maxLen at hma
  have H1 := Lib.hid hl
  have HW := Lib.hid hw
  obtain ⟨n, hn⟩ : ∃ n, n = l.length := ⟨_, rfl⟩
  have HN := Lib.hid hn
  have i9 : (n : Int) ≤ 9223372036854775807 := by omega
  have i7 : (n : Int) ≤ (ca : Int) := by omega
  obtain ⟨q, hq0, hq1, hq2, hq3⟩ := cut_len n 100
  have hq : min (n : Int) 100 = (q : Int) := by omega
  rw [← hn] at H1 ⊢
  have I1 : Hid (Ins w (.slice A q ca) (l.take q)) := Lib.hid (by have := H1.out; rw [HN.out] at this; exact this.cut q (by rw [← HN.out]; exact hq2))
  have HQ : Hid ((l.take q).length = q) := Lib.hid (by rw [List.length_take, ← HN.out]; omega)
  have HWL : Hid (∀ i ∈ l.take q, i.Wf) := Lib.hid (fun i hi => HW.out i (List.mem_of_mem_take hi))
  generalize l.take q = L at I1 HQ HWL
  have j1 : (q : Int) ≤ 100 := by omega
  have j2 : (q : Int) ≤ (ca : Int) := by omega
  have HQ2 : Hid (q ≤ 100) := Lib.hid hq1
  clear hl hw hn hca hma hq0 hq3 H1 HW HN
  go_enter Try.func7, Try.ntmps7
  go_wp2_with fail
  refine (shown6_c w).mono ?_
  rintro e w1 ⟨rfl, hc1⟩
  have C1 := Lib.hid hc1
  have I0 := Lib.hid (I1.out.calm hc1)
  have IW := I1
  clear hc1 I1
  have E1 := Lib.hid (right_c I0.out HWL.out)
  go_wp2_with fail
  refine E1.out.mono ?_
  rintro e w2 ⟨rfl, hc2⟩
  have C2 := Lib.hid (C1.out.trans hc2)
  have I2 := Lib.hid (I0.out.calm hc2)
  clear hc2 I0 E1 C1 hq hq1 hq2 i9 i7
  by_cases hE : rightE L = 0
  rotate_left
  · obtain ⟨E, hEE⟩ : ∃ E : Int, E = (rightE L : Int) := ⟨_, rfl⟩
    have d1 : (E != 0) = true := by rw [bne_iff_ne]; omega
    rw [← hEE]
    clear hE hEE
    go_wp2_with fail
    go_ret
    exact ⟨rfl, C2.out⟩
  have HS := Lib.hid (rightE_zero hE)
  rw [hE]
  clear hE
  generalize (rightP L : Int) = PP
  have TC := Lib.hid (targets_c I2.out HWL.out)
  go_wp2_with fail
  refine TC.out.mono ?_
  rintro e w3 ⟨vt, rfl, hn3, hc3⟩
  have C3 := Lib.hid (C2.out.trans hc3)
  have HT1 := Lib.hid (targets_rises L)
  have HT2 : Hid (∀ z : Int, z ∈ targetsO L ↔ z ∈ leadsTo L q) := Lib.hid (fun z => by rw [targets_mem HS.out, leads_mem, HQ.out])
  have HT3 : Hid (∀ z ∈ targetsO L, 0 ≤ z ∧ z < (q : Int)) := Lib.hid (fun z hz => by
    obtain ⟨k, hk, hj, e⟩ := (targets_mem HS.out z).1 hz
    obtain ⟨m, e', hm, _⟩ := jump_ok HS.out hk hj
    rw [← e, e', ← HQ.out]
    omega)
  have HT4 : Hid (∀ t : Nat, (t : Int) ∈ targetsO L → isHalfO L t = false) := Lib.hid (fun t ht => by
    obtain ⟨k, hk, hj, e⟩ := (targets_mem HS.out _).1 ht
    obtain ⟨m, e', hm, hh, _⟩ := jump_ok HS.out hk hj
    rw [e] at e'
    rwa [show t = m by omega])
  obtain ⟨T, hT⟩ : ∃ T, T = targetsO L := ⟨_, rfl⟩
  rw [← hT] at hn3 HT1 HT2 HT3 HT4
  obtain ⟨AT, cT, rfl, hcT, hmT⟩ := hn3.form
  obtain ⟨tn, htn⟩ : ∃ tn, tn = T.length := ⟨_, rfl⟩
  have HTN := Lib.hid htn
  rw [← htn] at hn3 ⊢
  have l9 : (tn : Int) ≤ 9223372036854775807 := by unfold maxLen at hmT; omega
  have N3 := Lib.hid hn3
  have qm := run_makeB w3 q (by have := HQ2.out; omega)
  have R4 : Hid (Row (w3.alloc (.cells (boolsV (List.replicate q false)) 4)) w3.heap.size 4 (boolsV (List.replicate q false))) := Lib.hid (Row.made w3 _ _)
  have C4 : Hid (Calm w (w3.alloc (.cells (boolsV (List.replicate q false)) 4))) := Lib.hid (C3.out.alloc _)
  have D4 : Hid (Keep (fun b => b = w3.heap.size) w3 (w3.alloc (.cells (boolsV (List.replicate q false)) 4))) := Lib.hid ((Keep.refl _ w3).alloc _)
  have HG0 : Hid (w.heap.size ≤ w3.heap.size) := Lib.hid C3.out.size
  clear hn3 hc3 hT htn hcT hmT TC
  go_upto_region 8 with fail
  generalize w3.alloc (.cells (boolsV (List.replicate q false)) 4) = w4 at R4 C4 D4 ⊢
  obtain ⟨g, hg⟩ : ∃ g, g = w3.heap.size := ⟨_, rfl⟩
  have HG : Hid (w.heap.size ≤ g ∧ g = w3.heap.size) := Lib.hid ⟨by rw [hg]; exact HG0.out, hg⟩
  rw [← hg] at R4 D4 ⊢
  clear hg qm HG0
  go_wp2_with fail
  go_loopw [8] (fun i wr => ∃ k : Nat, k ≤ q ∧ i = .int .i64 k ∧ Calm w wr ∧ Keep (fun b => b = g) w3 wr ∧ Row wr g 4 (boolsV (reachL L q k))) (fun i _ => q - (intOf i).toNat)
  case atStart => exact ⟨0, by omega, rfl, C4.out, D4.out, by rw [reach_zero]; exact R4.out⟩
  case round =>
    obtain ⟨k, hk, rfl, hcal, hkp, hrow⟩ := hrel
    have HC := Lib.hid hcal
    have HD := Lib.hid hkp
    have HR := Lib.hid hrow
    clear hcal hkp hrow
    by_cases hlt : k < q
    · have i1 : (k : Int) < (q : Int) := by omega
      have i2 : (k : Int) ≤ 100 := by omega
      obtain ⟨ad, x, hA, hx, hat⟩ := IW.out.at_ HC.out k (by rw [HQ.out]; exact hlt)
      subst hA
      have HX := Lib.hid hx
      have HXW := Lib.hid (HWL.out x (List.mem_of_getElem? hx))
      have HKQ : Hid (k < L.length) := Lib.hid (by rw [HQ.out]; exact hlt)
      have HHC := rhalf_c (IW.out.calm HC.out) k (by have := HKQ.out; omega)
      rw [hfR_right (shape_small HS.out).2.2.2.1 k (by have := HKQ.out; omega)] at HHC
      have HHC := Lib.hid HHC
      have HAT := Lib.hid hat
      have HJ : Hid (jumpAt L k = jumpsO x.op ∧ toAt L k = (k : Int) + 1 + x.off) := Lib.hid (by unfold jumpAt toAt; rw [hx]; exact ⟨rfl, rfl⟩)
      have HHJ : Hid (isHalfO L k = true → jumpAt L k = false) := Lib.hid (fun h => by
        rcases hj : jumpAt L k with _ | _
        · rfl
        · obtain ⟨_, _, _, _, h5⟩ := jump_ok HS.out HKQ.out hj
          rw [h] at h5; cases h5)
      clear hx hat
      go_wp2_with fail
      refine HHC.out.mono ?_
      rintro e' w5 ⟨rfl, hc5⟩
      have C5 := Lib.hid (HC.out.trans hc5)
      have D5 := Lib.hid (HD.out.trans (hc5.keep _))
      have R5 := Lib.hid (HR.out.keep hc5 (fun e => e))
      obtain ⟨e0, e1, e2, e3, e4⟩ := HAT.out.calm hc5
      clear hc5 HHC HC HD HR HAT
      rcases hH : isHalfO L k with _ | _
      rotate_left
      · have HNJ := Lib.hid (HHJ.out hH)
        clear hH
        go_wp2_with fail
        go_roundw
        case rel => exact ⟨k + 1, by omega, by go_num, C5.out, D5.out, by rw [reach_skip HNJ.out]; exact R5.out⟩
        case measure => simp [intOf]; omega
      have HNH := Lib.hid hH
      clear hH
      have JC := Lib.hid (fun w => rjump_c (op := x.op) x.dst x.src x.off x.imm w HXW.out.op)
      go_wp2_with fail
      refine (JC.out _).mono ?_
      rintro e' w6 ⟨rfl, hc6⟩
      have C6 := Lib.hid (C5.out.trans hc6)
      have D6 := Lib.hid (D5.out.trans (hc6.keep _))
      have R6 := Lib.hid (R5.out.keep hc6 (fun e => e))
      clear hc6 JC C5 D5 R5 e0 e1 e2 e3 e4
      rcases hJ : jumpsO x.op with _ | _
      · have HNJ : Hid (jumpAt L k = false) := Lib.hid (by rw [HJ.out.1]; exact hJ)
        clear hJ
        go_wp2_with fail
        go_roundw
        case rel => exact ⟨k + 1, by omega, by go_num, C6.out, D6.out, by rw [reach_skip HNJ.out]; exact R6.out⟩
        case measure => simp [intOf]; omega
      have HYJ : Hid (jumpAt L k = true) := Lib.hid (by rw [HJ.out.1]; exact hJ)
      have HNI : Hid (nextO L k = nextI k x) := Lib.hid (by unfold nextO; rw [if_neg (by rw [HNH.out]; decide), HX.out])
      have FC := follow_in (IW.out.calm C6.out) HWL.out HS.out HX.out
      rw [HNI.out] at FC
      have FC := Lib.hid FC
      obtain ⟨m, hm, hmq, -, -⟩ := jump_ok HS.out HKQ.out HYJ.out
      rw [HQ.out] at hmq
      have HM := Lib.hid (And.intro hm hmq)
      have i3 : (m : Int) < (q : Int) := by omega
      have hlast : (∃ a, nextI k x = [a] ∧ a = (m : Int)) ∨ ∃ a b, nextI k x = [a, b] ∧ b = (m : Int) := by
        obtain ⟨hne, hl⟩ := next_last (k := k) hJ
        rw [← HJ.out.2, hm] at hl
        have h9 : x.op ≠ 149 := fun e => by rw [e] at hJ; cases hJ
        rcases next_form HS.out HX.out h9 with ⟨a, e⟩ | ⟨a, b, e, _⟩
        · refine .inl ⟨a, e, ?_⟩
          simp only [e, List.getLast_singleton] at hl
          exact hl
        · refine .inr ⟨a, b, e, ?_⟩
          simp only [e, List.getLast_cons_cons, List.getLast_singleton] at hl
          exact hl
      clear hJ hm hmq
      go_wp2_with fail
      refine FC.out.mono ?_
      rintro e' w7 ⟨vn, rfl, hn7, hc7⟩
      have C7 := Lib.hid (C6.out.trans hc7)
      have D7 := Lib.hid (D6.out.trans (hc7.keep _))
      have R7 := Lib.hid (R6.out.keep hc7 (fun e => e))
      have cb : ∃ b0 : Bool, w7.cell? ⟨g, m, none⟩ = some (.bool b0) := ⟨_, by rw [R7.out.cell m]; exact boolsV_at (reach_at HM.out.2)⟩
      obtain ⟨b0, cb⟩ := cb
      have fb : w7.frozen? ⟨g, m, none⟩ = false := R7.out.soft m
      have R8 : Hid (Row (w7.setCell ⟨g, m, none⟩ (.bool true)) g 4 (boolsV (reachL L q (k + 1)))) := Lib.hid (by
        have := R7.out.store m (.bool true)
        rwa [boolsV_set, ← reach_step HYJ.out HM.out.1 HM.out.2] at this)
      have C8 : Hid (Calm w (w7.setCell ⟨g, m, none⟩ (.bool true))) := Lib.hid (C7.out.store (p := ⟨g, m, none⟩) (fun e => by have := HG.out.1; exact absurd e (Nat.not_lt.2 this)) _)
      have D8 : Hid (Keep (fun b => b = g) w3 (w7.setCell ⟨g, m, none⟩ (.bool true))) := Lib.hid (D7.out.store (p := ⟨g, m, none⟩) (fun _ => rfl) _)
      have N7 := Lib.hid hn7
      clear hc7 FC C6 D6 R6 hn7
      rcases hlast with ⟨a, ha, rfl⟩ | ⟨a, b, ha, rfl⟩
      · rw [ha] at N7
        obtain ⟨A7, c7, rfl, -, -⟩ := N7.out.form
        obtain ⟨ad7, e7, cz⟩ := N7.out.at_ (Keep.refl _ _) 0 (by simp)
        subst e7
        have cz : w7.cell? ad7 = some (.int .i64 (m : Int)) := cz
        rw [show ([(m : Int)] : List Int).length = 1 from rfl]
        clear ha
        go_wp2_with fail
        go_roundw
        case rel => exact ⟨k + 1, by omega, by go_num, C8.out, D8.out, R8.out⟩
        case measure => simp [intOf]; omega
      · rw [ha] at N7
        obtain ⟨A7, c7, rfl, -, -⟩ := N7.out.form
        obtain ⟨ad7, e7, cz⟩ := N7.out.at_ (Keep.refl _ _) 1 (by simp)
        subst e7
        have cz : w7.cell? ⟨ad7.block, ad7.off + 1, none⟩ = some (.int .i64 (m : Int)) := cz
        rw [show ([a, (m : Int)] : List Int).length = 2 from rfl]
        clear ha
        go_wp2_with fail
        go_roundw
        case rel => exact ⟨k + 1, by omega, by go_num, C8.out, D8.out, R8.out⟩
        case measure => simp [intOf]; omega
    · obtain rfl : k = q := by omega
      have HI3 : Hid (∀ wx, Keep (fun b => b = g) w3 wx → Num wx (.slice AT tn cT) T) := Lib.hid (fun wx hx => by
        have h3 := N3.out
        rcases h3 with h | ⟨ad, cap, h1, h2, h3, h4⟩
        · exact .inl h
        · refine .inr ⟨ad, cap, h1, h2, h3, fun j z hj => ?_⟩
          have h5 := h4 j z hj
          have hb := World.block_lt_of_cell? _ _ h5
          exact (hx.cell (p := ad.add j) hb (fun e => by have := HG.out.2; rw [e] at hb; omega)).trans h5)
      go_wp2_with fail
      go_loopw [10, 11] (fun c i wr' => ∃ t : Nat, t ≤ k ∧ i = .int .i64 t ∧ c = .int .i64 (below T t : Int) ∧ Calm w wr' ∧ Keep (fun b => b = g) w3 wr' ∧ Row wr' g 4 (boolsV (reachL L k k))) (fun _ i _ => k - (intOf i).toNat)
      case atStart => exact ⟨0, by omega, rfl, by rw [below_zero (fun z hz => (HT3.out z hz).1)]; rfl, HC.out, HD.out, HR.out⟩
      case round =>
        obtain ⟨t, ht, rfl, rfl, hcal, hkp, hrow⟩ := hrel
        have HC' := Lib.hid hcal
        have HD' := Lib.hid hkp
        have HR' := Lib.hid hrow
        clear hcal hkp hrow
        by_cases hlt : t < k
        · have i1 : (t : Int) < (k : Int) := by omega
          have i2 : (t : Int) ≤ 100 := by omega
          by_cases hm : (t : Int) ∈ T
          · have cb : wr.cell? ⟨g, t, none⟩ = some (.bool true) := by
              rw [HR'.out.cell t, boolsV_at (reach_at hlt), decide_eq_true ((HT2.out _).1 hm)]
            have hb := below_at HT1.out hm
            have hbl := (List.getElem?_eq_some_iff.1 hb).1
            obtain ⟨bt, hbt⟩ : ∃ bt, bt = below T t := ⟨_, rfl⟩
            have HB : Hid (below T (t + 1) = bt + 1) := Lib.hid (by rw [below_succ HT1.out, if_pos hm, hbt])
            rw [← hbt] at hb hbl ⊢
            have i3 : (bt : Int) < (tn : Int) := by rw [HTN.out]; omega
            have i4 : (bt : Int) ≤ 9223372036854775806 := by omega
            obtain ⟨adt, eT, ct⟩ := (HI3.out _ HD'.out).at_ (Keep.refl _ _) bt hbl
            subst eT
            have he : T[bt] = (t : Int) := (List.getElem?_eq_some_iff.1 hb).2
            rw [he] at ct
            have HHC := rhalf_c (IW.out.calm HC'.out) t (by rw [HQ.out]; omega)
            rw [hfR_right (shape_small HS.out).2.2.2.1 t (by rw [HQ.out]; omega), HT4.out t hm] at HHC
            have HHC := Lib.hid HHC
            clear hm hb hbl hbt he
            go_wp2_with fail
            refine HHC.out.mono ?_
            rintro e' w9 ⟨rfl, hc9⟩
            have C9 := Lib.hid (HC'.out.trans hc9)
            have D9 := Lib.hid (HD'.out.trans (hc9.keep _))
            have R9 := Lib.hid (HR'.out.keep hc9 (fun e => e))
            clear hc9 HHC
            go_wp2_with fail
            go_roundw
            case rel => exact ⟨t + 1, by omega, by go_num, by rw [HB.out]; go_num, C9.out, D9.out, R9.out⟩
            case measure => simp [intOf]; omega
          · have cb : wr.cell? ⟨g, t, none⟩ = some (.bool false) := by
              rw [HR'.out.cell t, boolsV_at (reach_at hlt), decide_eq_false (fun h => hm ((HT2.out _).2 h))]
            have HB : Hid (below T (t + 1) = below T t) := Lib.hid (by rw [below_succ HT1.out, if_neg hm]; rfl)
            clear hm
            go_wp2_with fail
            go_roundw
            case rel => exact ⟨t + 1, by omega, by go_num, by rw [HB.out], HC'.out, HD'.out, HR'.out⟩
            case measure => simp [intOf]; omega
        · obtain rfl : t = k := by omega
          have hb : below T t = tn := by rw [below_all (fun z hz => (HT3.out z hz).2), HTN.out]
          rw [hb]
          clear hb
          go_wp2_with fail
          go_ret
          exact ⟨rfl, HC'.out⟩
end Go.Proofs.Ythmiiddojccafaa
