/-
  The reference of layer 6: Targets, Follow; are two rows of places the same?
-/
import Derived.Test.YthmiiddojccafaaR6B
import Derived.Test.YthmiiddojccafaaHReachedW
namespace Go.Proofs.Ythmiiddojccafaa
open Go.RowKit
set_option linter.all false

theorem Num.made1' (w : World) (o : Obj) (z : Int) : Num ((w.alloc o).alloc (.cells #[.int .i64 z] 3)) (.slice (some ⟨w.heap.size + 1, 0, none⟩) 1 1) [z] := by
  have := Num.made1 (w.alloc o) z
  rwa [World.size_alloc] at this
/-- Does a jump of the first k lead to a place? -/
def isTo (l : List In) (t : Nat) : Nat → Bool
  | 0 => false
  | k + 1 => isTo l t k || (!hfR l k && (jumpAt l k && decide (toAt l k = (t : Int))))
theorem isTo_true {l : List In} {t : Nat} : ∀ {k : Nat}, isTo l t k = true ↔ ∃ j, j < k ∧ hfR l j = false ∧ jumpAt l j = true ∧ toAt l j = (t : Int)
  | 0 => by simp [isTo]
  | k + 1 => by
    unfold isTo
    simp only [Bool.or_eq_true, Bool.and_eq_true, decide_eq_true_eq, Bool.not_eq_true', isTo_true]
    constructor
    · rintro (⟨j, h1, h2⟩ | ⟨h1, h2, h3⟩)
      · exact ⟨j, by omega, h2⟩
      · exact ⟨k, by omega, h1, h2, h3⟩
    · rintro ⟨j, h1, h2⟩
      rcases Nat.lt_or_ge j k with h | h
      · exact .inl ⟨j, h, h2⟩
      · obtain rfl : j = k := by omega
        exact .inr h2
def tgTo (l : List In) : Nat → List Int
  | 0 => []
  | t + 1 => tgTo l t ++ (if isTo l t t = true then [(t : Int)] else [])
theorem tgTo_mem {l : List In} : ∀ {n : Nat} {z : Int}, z ∈ tgTo l n ↔ ∃ t : Nat, t < n ∧ isTo l t t = true ∧ z = (t : Int)
  | 0, z => by simp [tgTo]
  | n + 1, z => by
    unfold tgTo
    rw [List.mem_append, tgTo_mem]
    constructor
    · rintro (⟨t, h1, h2⟩ | h)
      · exact ⟨t, by omega, h2⟩
      · by_cases hi : isTo l n n = true
        · rw [if_pos hi, List.mem_singleton] at h
          exact ⟨n, by omega, hi, h⟩
        · rw [if_neg hi] at h; cases h
    · rintro ⟨t, h1, h2, h3⟩
      rcases Nat.lt_or_ge t n with h | h
      · exact .inl ⟨t, h, h2, h3⟩
      · obtain rfl : t = n := by omega
        rw [if_pos h2]
        exact .inr (by simp [h3])
theorem tgTo_rises (l : List In) : ∀ n, Rises (tgTo l n)
  | 0 => .nil
  | n + 1 => by
    unfold tgTo
    refine List.pairwise_append.2 ⟨tgTo_rises l n, ?_, fun a ha b hb => ?_⟩
    · split <;> simp
    · obtain ⟨t, ht, _, e⟩ := tgTo_mem.1 ha
      split at hb
      · simp only [List.mem_singleton] at hb; omega
      · cases hb
theorem tgTo_len (l : List In) : ∀ n, (tgTo l n).length ≤ n
  | 0 => Nat.le_refl _
  | n + 1 => by
    unfold tgTo
    have := tgTo_len l n
    rw [List.length_append]
    split <;> simp <;> omega
theorem tgTo_all {l : List In} (hS : shapeO l = true) : tgTo l l.length = targetsO l := by
  obtain ⟨_, _, _, hr, _⟩ := shape_small hS
  refine Rises.ext (tgTo_rises _ _) (targets_rises _) (fun z => ?_)
  rw [tgTo_mem, targets_mem hS]
  constructor
  · rintro ⟨t, h1, h2, rfl⟩
    obtain ⟨j, h3, _, h4, h5⟩ := isTo_true.1 h2
    exact ⟨j, by omega, h4, h5⟩
  · rintro ⟨k, h1, h2, h3⟩
    obtain ⟨m, e, hm, _, hh⟩ := jump_ok hS h1 h2
    have hx : l[k]? = some l[k] := List.getElem?_eq_getElem h1
    obtain ⟨_, _, _, h4, _⟩ := wrong_parts hx ((shape_small hS).2.2.2.2 k h1)
    have hj := h2
    unfold jumpAt at hj
    rw [hx] at hj
    obtain ⟨a, _, _⟩ := lead_parts (wr4_no h4 hj)
    have e' := e
    unfold toAt at e'
    rw [hx] at e'
    simp only at e'
    refine ⟨m, hm, isTo_true.2 ⟨k, by omega, ?_, h2, e⟩, by rw [← h3, e]⟩
    rw [hfR_right hr k (by omega)]
    exact hh
set_option maxHeartbeats 6400000 in
theorem rtargets_c {w : World} {v : Value} {l : List In} (h : Ins w v l) (hw : ∀ i ∈ l, i.Wf) : Calls Try.prog 15 #[v] w fun x w' => ∃ vv, x = .returned vv ∧ Num w' vv (targetsO l) ∧ Calm w w' := by
  have RC := Lib.hid (rright6_c h hw)
  obtain ⟨A, cap, rfl, hcap, hmax⟩ := h.form
  have HI := Lib.hid h
  have HW := Lib.hid hw
  obtain ⟨n, hn⟩ : ∃ n, n = l.length := ⟨_, rfl⟩
  have HN := Lib.hid hn
  rw [← hn] at HI RC ⊢
  clear h hw hn hcap hmax
  go_enter Try.func15, Try.ntmps15
  go_wp2_with fail
  refine RC.out.mono ?_
  rintro e' w1 ⟨rfl, hc1⟩
  have C1 := Lib.hid hc1
  clear RC hc1
  generalize (rightP l : Int) = PP
  by_cases hE : rightE l = 0
  rotate_left
  · have HT := Lib.hid (targets_none (rightE_shape hE))
    obtain ⟨E, hEE⟩ : ∃ E : Int, E = (rightE l : Int) := ⟨_, rfl⟩
    have d1 : (E != 0) = true := by rw [bne_iff_ne]; omega
    rw [← hEE]
    clear hE hEE
    go_wp2_with fail
    go_ret
    exact ⟨_, rfl, by rw [HT.out]; exact Num.nil _, C1.out⟩
  have HS := Lib.hid (rightE_zero hE)
  have HP := Lib.hid (shape_small HS.out)
  rw [hE]
  have i2 : (n : Int) ≤ 512 := by have := HP.out.1; rw [← HN.out] at this; omega
  clear hE
  have C2 : Hid (Calm w (w1.alloc (.cells #[] 3))) := Lib.hid (C1.out.alloc _)
  have O2 : Hid (OwnZ (w1.alloc (.cells #[] 3)) w.heap.size (.slice (some ⟨w1.heap.size, 0, none⟩) 0 0) []) := Lib.hid (World.ownsRow_made w1 #[] 0 C1.out.size (Nat.zero_le _) rfl)
  go_wp2_with fail
  go_loopw [5, 6] (fun p i wr => ∃ (t : Nat) (pv : Value), pv = p ∧ t ≤ n ∧ i = .int .i64 t ∧ Calm w wr ∧ OwnZ wr w.heap.size p (tgTo l t)) (fun _ i _ => n - (intOf i).toNat)
  case atStart => exact ⟨0, _, rfl, by omega, rfl, C2.out, O2.out⟩
  case round =>
    obtain ⟨t, pv, rfl, ht, rfl, hcal, how⟩ := hrel
    have HC := Lib.hid hcal
    have HO := Lib.hid how
    clear hcal how
    by_cases hlt : t < n
    · have i3 : (t : Int) < (n : Int) := by omega
      have HTN := Lib.hid hlt
      go_wp2_with fail
      go_loopw [7, 8] (fun b i wr' => ∃ k : Nat, k ≤ t ∧ i = .int .i64 k ∧ b = .bool (isTo l t k) ∧ Calm w wr' ∧ OwnZ wr' w.heap.size pv (tgTo l t)) (fun _ i _ => t - (intOf i).toNat)
      case atStart => exact ⟨0, by omega, rfl, rfl, HC.out, HO.out⟩
      case round =>
        obtain ⟨k, hk, rfl, rfl, hcal, how⟩ := hrel
        have HC2 := Lib.hid hcal
        have HO2 := Lib.hid how
        clear hcal how
        by_cases hlt2 : k < t
        · have i4 : (k : Int) < (t : Int) := by omega
          have i5 : (k : Int) < (n : Int) := by omega
          have HKL : Hid (k < l.length) := Lib.hid (by rw [← HN.out]; have := HTN.out; omega)
          obtain ⟨ad, x, hA, hx, hat⟩ := HI.out.at_ HC2.out k HKL.out
          subst hA
          have HXW := Lib.hid (HW.out x (List.mem_of_getElem? hx))
          have FC := Lib.hid (rhalf_c (HI.out.calm HC2.out) k (by have := HKL.out; omega))
          have JC := Lib.hid (fun w => rjump_c (op := x.op) x.dst x.src x.off x.imm w HXW.out.op)
          have HIS : Hid (isTo l t (k + 1) = (isTo l t k || (!hfR l k && (jumpsO x.op && decide ((k : Int) + 1 + x.off = (t : Int)))))) := Lib.hid (by
            show (isTo l t k || (!hfR l k && (jumpAt l k && decide (toAt l k = (t : Int))))) = _
            unfold jumpAt toAt
            rw [hx])
          have HAT := Lib.hid hat
          have j3 : -32768 ≤ x.off := HXW.out.off.1
          have j4 : x.off < 32768 := HXW.out.off.2
          generalize hfR l k = Hf at FC HIS
          generalize jumpsO x.op = J at JC HIS
          generalize isTo l t k = B at HIS ⊢
          clear hx hat
          go_wp2_with fail
          refine FC.out.mono ?_
          rintro e' w3 ⟨rfl, hc3⟩
          have C3 := Lib.hid (HC2.out.trans hc3)
          have O3 := Lib.hid (HO2.out.moved hc3)
          obtain ⟨e0, e1, e2, e3, e4⟩ := HAT.out.calm hc3
          have HAT3 := Lib.hid (HAT.out.calm hc3)
          clear hc3 FC HC2 HO2 HAT
          go_wp2_with fail
          refine (JC.out _).mono ?_
          rintro e' w4 ⟨rfl, hc4⟩
          have C4 := Lib.hid (C3.out.trans hc4)
          have O4 := Lib.hid (O3.out.moved hc4)
          clear e0 e1 e2 e3 e4
          obtain ⟨e0, e1, e2, e3, e4⟩ := HAT3.out.calm hc4
          clear hc4 JC C3 O3 HAT3
          rcases B with _ | _
          · rcases Hf with _ | _
            · rcases J with _ | _
              · go_wp2_with fail
                go_roundw
                case rel => exact ⟨k + 1, by omega, by go_num, by rw [HIS.out]; rfl, C4.out, O4.out⟩
                case measure => simp [intOf]; omega
              · have d1 : ((k : Int) + 1 + x.off == (t : Int)) = decide ((k : Int) + 1 + x.off = (t : Int)) := rfl
                generalize decide ((k : Int) + 1 + x.off = (t : Int)) = D at d1 HIS
                go_wp2_with fail
                go_roundw
                case rel => exact ⟨k + 1, by omega, by go_num, by rw [HIS.out]; rfl, C4.out, O4.out⟩
                case measure => simp [intOf]; omega
            · go_wp2_with fail
              go_roundw
              case rel => exact ⟨k + 1, by omega, by go_num, by rw [HIS.out]; rfl, C4.out, O4.out⟩
              case measure => simp [intOf]; omega
          · go_wp2_with fail
            go_roundw
            case rel => exact ⟨k + 1, by omega, by go_num, by rw [HIS.out]; rfl, C4.out, O4.out⟩
            case measure => simp [intOf]; omega
        · obtain rfl : k = t := by omega
          have HTG : Hid (tgTo l (k + 1) = tgTo l k ++ (if isTo l k k = true then [(k : Int)] else [])) := Lib.hid rfl
          generalize isTo l k k = B at HTG ⊢
          rcases B with _ | _
          · have HTN2 : Hid (tgTo l (k + 1) = tgTo l k) := Lib.hid (by rw [HTG.out, if_neg (by decide), List.append_nil])
            clear HTG
            go_wp2_with fail
            go_roundw
            case rel => exact ⟨k + 1, _, rfl, by have := HTN.out; omega, by go_num, HC2.out, by rw [HTN2.out]; exact HO2.out⟩
            case measure => have := HTN.out; simp [intOf]; omega
          · have HTY : Hid (tgTo l (k + 1) = tgTo l k ++ [(k : Int)]) := Lib.hid (by rw [HTG.out, if_pos rfl])
            clear HTG
            have C4 : Hid (Calm w (wr.alloc (.cells #[.int .i64 (k : Int)] 3))) := Lib.hid (HC2.out.alloc _)
            have O4 : Hid (OwnZ (wr.alloc (.cells #[.int .i64 (k : Int)] 3)) w.heap.size pv (tgTo l k)) := Lib.hid (HO2.out.moved ((Keep.refl _ _).alloc _))
            have cz : Hid ((wr.alloc (.cells #[.int .i64 (k : Int)] 3)).cell? ⟨wr.heap.size, 0, none⟩ = some (.int .i64 (k : Int))) := Lib.hid ((Row.made wr 3 #[.int .i64 (k : Int)]).cell 0)
            go_wp2_with (at_builtin; go_loud (refine append_int rfl (.tmp 60) (.tmp 62) rfl w.heap.size pv (tgTo l k) rfl O4.out wr.heap.size (k : Int) rfl cz.out (by have := tgTo_len l k; have := HTN.out; have := HP.out.1; have := HN.out; omega) C4.out.size ?_); rintro g c w5 ho hg)
            have C5 : Hid (Calm w w5) := Lib.hid (C4.out.grown hg (fun k' hk' hlt' => by
              rcases O4.out.base with ⟨e, _⟩ | ⟨g', cap', cur', e, hb, _⟩
              · rw [e] at hk'; cases hk'
              · rw [e] at hk'; cases hk'; exact absurd hlt' (Nat.not_lt.2 hb)))
            have O5 := Lib.hid ho
            clear ho hg C4 O4 cz
            go_wp2_with fail
            go_roundw
            case rel => exact ⟨k + 1, _, rfl, by have := HTN.out; omega, by go_num, C5.out, by
              have := O5.out
              rw [show (tgTo l k ++ [(k : Int)]).length = (tgTo l k).length + 1 by simp] at this
              rw [HTY.out]
              exact this⟩
            case measure => have := HTN.out; simp [intOf]; omega
    · obtain rfl : t = n := by omega
      have HTT : Hid (tgTo l t = targetsO l) := Lib.hid (by rw [HN.out]; exact tgTo_all HS.out)
      go_wp2_with fail
      go_ret
      exact ⟨_, rfl, by rw [← HTT.out]; exact HO.out.num, HC.out⟩
set_option maxHeartbeats 6400000 in
theorem rfollow_in {w : World} {v : Value} {l : List In} (h : Ins w v l) (hw : ∀ i ∈ l, i.Wf) (hS : shapeO l = true) {k : Nat} {x : In} (hx : l[k]? = some x) : Calls Try.prog 17 #[v, .int .i64 (k : Int)] w fun y w' => ∃ vv, y = .returned vv ∧ Num w' vv (nextO l k) ∧ Calm w w' := by
  have RC := Lib.hid (rright6_c h hw)
  have hE : rightE l = 0 := by have := rightE_ok l; rw [hS] at this; exact of_decide_eq_true this
  rw [hE] at RC
  have HS := Lib.hid (shape_small hS)
  obtain ⟨A, cap, rfl, hcap, hmax⟩ := h.form
  have HI := Lib.hid h
  have hk := (List.getElem?_eq_some_iff.1 hx).1
  obtain ⟨ad, y, rfl, hy, hat⟩ := h.at_ (Keep.refl _ w) k hk
  obtain rfl : x = y := by rw [hx] at hy; injection hy
  have H4 := Lib.hid (wrong_parts hx (HS.out.2.2.2.2 k hk)).2.2.2.1
  obtain ⟨n, hn⟩ : ∃ n, n = l.length := ⟨_, rfl⟩
  have HN := Lib.hid hn
  rw [← hn] at HI RC hk ⊢
  have HXW := Lib.hid (hw x (List.mem_of_getElem? hx))
  have HX := Lib.hid hx
  have HAT := Lib.hid hat
  have i1 : (k : Int) < (n : Int) := by omega
  have i9 : (n : Int) ≤ 512 := by have := HS.out.1; rw [← HN.out] at this; omega
  have HO : Hid (nextO l k = if isHalfO l k = true then [] else nextI k x) := Lib.hid (by unfold nextO; rw [hx])
  have IHC := Lib.hid (fun w' (hc : Calm w w') => rhalf_c (HI.out.calm hc) k (by rw [← HN.out]; omega))
  rw [hfR_right HS.out.2.2.2.1 k (by rw [← HN.out]; omega)] at IHC
  have JC := Lib.hid (fun w => rjump_c (op := x.op) x.dst x.src x.off x.imm w HXW.out.op)
  have i3 : -32768 ≤ x.off := HXW.out.off.1
  have i4 : x.off < 32768 := HXW.out.off.2
  obtain ⟨B, hB⟩ : ∃ B, B = isHalfO l k := ⟨_, rfl⟩
  rw [← hB] at IHC HO
  generalize (rightP l : Int) = PP at RC
  clear h hw hS hE hcap hmax hx hy hat hn hk hB
  cases B
  rotate_left
  · have HO1 : Hid (nextO l k = []) := Lib.hid (by rw [HO.out, if_pos rfl])
    clear HO
    go_enter Try.func17, Try.ntmps17
    go_wp2_with fail
    refine RC.out.mono ?_
    rintro e' w1 ⟨rfl, hc1⟩
    have C1 := Lib.hid hc1
    clear hc1 RC
    go_wp2_with fail
    refine (IHC.out _ C1.out).mono ?_
    rintro e' w2 ⟨rfl, hc2⟩
    have C2 := Lib.hid (C1.out.trans hc2)
    clear hc2 IHC C1
    go_wp2_with fail
    go_ret
    exact ⟨_, rfl, by rw [HO1.out]; exact Num.nil _, C2.out⟩
  · have HO2 : Hid (nextO l k = nextI k x) := Lib.hid (by rw [HO.out, if_neg (by decide)])
    clear HO
    by_cases h149 : x.op = 149
    · have HR : Hid (nextI k x = []) := Lib.hid (by unfold nextI; rw [if_pos h149])
      have d1 : ((x.op : Int) == 149) = true := by rw [beq_iff_eq]; omega
      clear h149
      go_enter Try.func17, Try.ntmps17
      go_wp2_with fail
      refine RC.out.mono ?_
      rintro e' w1 ⟨rfl, hc1⟩
      have C1 := Lib.hid hc1
      clear hc1 RC
      go_wp2_with fail
      refine (IHC.out _ C1.out).mono ?_
      rintro e' w2 ⟨rfl, hc2⟩
      have C2 := Lib.hid (C1.out.trans hc2)
      obtain ⟨e0, e1, e2, e3, e4⟩ := HAT.out.calm C2.out
      clear hc2 IHC C1 HAT
      go_wp2_with fail
      go_ret
      exact ⟨_, rfl, by rw [HO2.out, HR.out]; exact Num.nil _, C2.out⟩
    have d1 : ((x.op : Int) == 149) = false := by rw [beq_eq_false_iff_ne]; omega
    by_cases h5 : x.op = 5
    · have HR : Hid (nextI k x = [(k : Int) + 1 + x.off]) := Lib.hid (by unfold nextI; rw [if_neg h149, if_pos h5])
      have d2 : ((x.op : Int) == 5) = true := by rw [beq_iff_eq]; omega
      have d3 : ((x.op : Int) == 24) = false := by rw [beq_eq_false_iff_ne]; omega
      clear h149 h5
      go_enter Try.func17, Try.ntmps17
      go_wp2_with fail
      refine RC.out.mono ?_
      rintro e' w1 ⟨rfl, hc1⟩
      have C1 := Lib.hid hc1
      clear hc1 RC
      go_wp2_with fail
      refine (IHC.out _ C1.out).mono ?_
      rintro e' w2 ⟨rfl, hc2⟩
      have C2 := Lib.hid (C1.out.trans hc2)
      obtain ⟨e0, e1, e2, e3, e4⟩ := HAT.out.calm C2.out
      clear hc2 IHC C1 HAT
      go_wp2_with fail
      go_ret
      exact ⟨_, rfl, by rw [HO2.out, HR.out]; exact Num.made1' _ _ _, (C2.out.alloc _).alloc _⟩
    have d2 : ((x.op : Int) == 5) = false := by rw [beq_eq_false_iff_ne]; omega
    by_cases h24 : x.op = 24
    · have HR : Hid (nextI k x = [(k : Int) + 2]) := Lib.hid (by unfold nextI; rw [if_neg h149, if_neg h5, if_pos h24])
      have d3 : ((x.op : Int) == 24) = true := by rw [beq_iff_eq]; omega
      clear h149 h5 h24
      go_enter Try.func17, Try.ntmps17
      go_wp2_with fail
      refine RC.out.mono ?_
      rintro e' w1 ⟨rfl, hc1⟩
      have C1 := Lib.hid hc1
      clear hc1 RC
      go_wp2_with fail
      refine (IHC.out _ C1.out).mono ?_
      rintro e' w2 ⟨rfl, hc2⟩
      have C2 := Lib.hid (C1.out.trans hc2)
      obtain ⟨e0, e1, e2, e3, e4⟩ := HAT.out.calm C2.out
      clear hc2 IHC C1 HAT
      go_wp2_with fail
      go_ret
      exact ⟨_, rfl, by rw [HO2.out, HR.out]; exact Num.made1' _ _ _, (C2.out.alloc _).alloc _⟩
    have d3 : ((x.op : Int) == 24) = false := by rw [beq_eq_false_iff_ne]; omega
    rcases hJ : jumpsO x.op with _ | _
    · have HR : Hid (nextI k x = [(k : Int) + 1]) := Lib.hid (by unfold nextI; rw [if_neg h149, if_neg h5, if_neg h24, if_neg (by rw [hJ]; simp)])
      rw [hJ] at JC
      clear h149 h5 h24 hJ
      go_enter Try.func17, Try.ntmps17
      go_wp2_with fail
      refine RC.out.mono ?_
      rintro e' w1 ⟨rfl, hc1⟩
      have C1 := Lib.hid hc1
      clear hc1 RC
      go_wp2_with fail
      refine (IHC.out _ C1.out).mono ?_
      rintro e' w2 ⟨rfl, hc2⟩
      have C2 := Lib.hid (C1.out.trans hc2)
      obtain ⟨e0, e1, e2, e3, e4⟩ := HAT.out.calm C2.out
      clear hc2 IHC C1 HAT
      have B3 : Hid (Box (w2.alloc (.cells #[.int .u8 (x.op : Int), .int .u8 (x.dst : Int), .int .u8 (x.src : Int), .int .i16 x.off, .int .i32 x.imm] 34)) w2.heap.size x.op x.dst x.src x.off x.imm) := Lib.hid (Box.made w2 _ _ _ _ _)
      have C3 : Hid (Calm w (w2.alloc (.cells #[.int .u8 (x.op : Int), .int .u8 (x.dst : Int), .int .u8 (x.src : Int), .int .i16 x.off, .int .i32 x.imm] 34))) := Lib.hid (C2.out.alloc _)
      go_wp2_with fail
      refine (JC.out _).mono ?_
      rintro e' w4 ⟨rfl, hc4⟩
      have C4 := Lib.hid (C3.out.trans hc4)
      clear e0 e1 e2 e3 e4
      obtain ⟨e0, e1, e2, e3, e4⟩ := B3.out.calm hc4
      clear hc4 JC C3 B3 C2
      go_wp2_with fail
      go_ret
      exact ⟨_, rfl, by rw [HO2.out, HR.out]; exact Num.made1 _ _, C4.out.alloc _⟩
    rw [hJ] at JC
    have hoff : 0 ≤ x.off := (lead_parts (wr4_no H4.out hJ)).1
    by_cases h0 : x.off = 0
    · have HR : Hid (nextI k x = [(k : Int) + 1]) := Lib.hid (by unfold nextI; rw [if_neg h149, if_neg h5, if_neg h24, if_neg (fun h => h.2 h0)])
      have d4 : decide (0 < x.off) = false := decide_eq_false (by omega)
      clear h149 h5 h24 hJ h0 hoff
      go_enter Try.func17, Try.ntmps17
      go_wp2_with fail
      refine RC.out.mono ?_
      rintro e' w1 ⟨rfl, hc1⟩
      have C1 := Lib.hid hc1
      clear hc1 RC
      go_wp2_with fail
      refine (IHC.out _ C1.out).mono ?_
      rintro e' w2 ⟨rfl, hc2⟩
      have C2 := Lib.hid (C1.out.trans hc2)
      obtain ⟨e0, e1, e2, e3, e4⟩ := HAT.out.calm C2.out
      clear hc2 IHC C1 HAT
      have B3 : Hid (Box (w2.alloc (.cells #[.int .u8 (x.op : Int), .int .u8 (x.dst : Int), .int .u8 (x.src : Int), .int .i16 x.off, .int .i32 x.imm] 34)) w2.heap.size x.op x.dst x.src x.off x.imm) := Lib.hid (Box.made w2 _ _ _ _ _)
      have C3 : Hid (Calm w (w2.alloc (.cells #[.int .u8 (x.op : Int), .int .u8 (x.dst : Int), .int .u8 (x.src : Int), .int .i16 x.off, .int .i32 x.imm] 34))) := Lib.hid (C2.out.alloc _)
      go_wp2_with fail
      refine (JC.out _).mono ?_
      rintro e' w4 ⟨rfl, hc4⟩
      have C4 := Lib.hid (C3.out.trans hc4)
      clear e0 e1 e2 e3 e4
      obtain ⟨e0, e1, e2, e3, e4⟩ := B3.out.calm hc4
      clear hc4 JC C3 B3 C2
      go_wp2_with fail
      go_ret
      exact ⟨_, rfl, by rw [HO2.out, HR.out]; exact Num.made1 _ _, C4.out.alloc _⟩
    · have HR : Hid (nextI k x = [(k : Int) + 1, (k : Int) + 1 + x.off]) := Lib.hid (by unfold nextI; rw [if_neg h149, if_neg h5, if_neg h24, if_pos ⟨hJ, h0⟩])
      have d4 : decide (0 < x.off) = true := decide_eq_true (by omega)
      clear h149 h5 h24 hJ h0 hoff
      go_enter Try.func17, Try.ntmps17
      go_wp2_with fail
      refine RC.out.mono ?_
      rintro e' w1 ⟨rfl, hc1⟩
      have C1 := Lib.hid hc1
      clear hc1 RC
      go_wp2_with fail
      refine (IHC.out _ C1.out).mono ?_
      rintro e' w2 ⟨rfl, hc2⟩
      have C2 := Lib.hid (C1.out.trans hc2)
      obtain ⟨e0, e1, e2, e3, e4⟩ := HAT.out.calm C2.out
      clear hc2 IHC C1 HAT
      have B3 : Hid (Box (w2.alloc (.cells #[.int .u8 (x.op : Int), .int .u8 (x.dst : Int), .int .u8 (x.src : Int), .int .i16 x.off, .int .i32 x.imm] 34)) w2.heap.size x.op x.dst x.src x.off x.imm) := Lib.hid (Box.made w2 _ _ _ _ _)
      have C3 : Hid (Calm w (w2.alloc (.cells #[.int .u8 (x.op : Int), .int .u8 (x.dst : Int), .int .u8 (x.src : Int), .int .i16 x.off, .int .i32 x.imm] 34))) := Lib.hid (C2.out.alloc _)
      go_wp2_with fail
      refine (JC.out _).mono ?_
      rintro e' w4 ⟨rfl, hc4⟩
      have C4 := Lib.hid (C3.out.trans hc4)
      clear e0 e1 e2 e3 e4
      obtain ⟨e0, e1, e2, e3, e4⟩ := B3.out.calm hc4
      clear hc4 JC C3 B3 C2
      go_wp2_with fail
      go_ret
      exact ⟨_, rfl, by rw [HO2.out, HR.out]; exact Num.made2 _ _ _, C4.out.alloc _⟩
set_option maxHeartbeats 3200000 in
theorem rfollow_c {w : World} {v : Value} {l : List In} (h : Ins w v l) (hw : ∀ i ∈ l, i.Wf) (k : Int) : Calls Try.prog 17 #[v, .int .i64 k] w fun y w' => ∃ vv, y = .returned vv ∧ Num w' vv (followO l k) ∧ Calm w w' := by
  by_cases hall : shapeO l = true ∧ 0 ≤ k ∧ k < (l.length : Int)
  · obtain ⟨m, rfl⟩ : ∃ m : Nat, k = (m : Int) := ⟨k.toNat, by omega⟩
    have hm : m < l.length := by omega
    have := rfollow_in h hw hall.1 (k := m) (List.getElem?_eq_getElem hm)
    refine this.mono ?_
    rintro e w' ⟨vv, h1, h2, h3⟩
    refine ⟨vv, h1, ?_, h3⟩
    unfold followO
    rw [if_pos hall, Int.toNat_natCast]
    exact h2
  · have HF : Hid (followO l k = []) := Lib.hid (by unfold followO; rw [if_neg hall])
    have RC := Lib.hid (rright6_c h hw)
    obtain ⟨A, cap, rfl, hcap, hmax⟩ := h.form
    obtain ⟨n, hn⟩ : ∃ n, n = l.length := ⟨_, rfl⟩
    rw [← hn] at RC hall ⊢
    generalize (rightP l : Int) = PP at RC
    by_cases hE : rightE l = 0
    rotate_left
    · obtain ⟨E, hEE⟩ : ∃ E : Int, E = (rightE l : Int) := ⟨_, rfl⟩
      have d1 : (E != 0) = true := by rw [bne_iff_ne]; omega
      rw [← hEE] at RC
      clear h hw hcap hmax hn hE hEE hall
      go_enter Try.func17, Try.ntmps17
      go_wp2_with fail
      refine RC.out.mono ?_
      rintro e' w1 ⟨rfl, hc1⟩
      go_wp2_with fail
      go_ret
      exact ⟨_, rfl, by rw [HF.out]; exact Num.nil _, hc1⟩
    · have hS := rightE_zero hE
      rw [hE] at RC
      by_cases h0 : k < 0
      · have d1 : decide (k < 0) = true := decide_eq_true h0
        clear h hw hcap hmax hn hS hall h0 hE
        go_enter Try.func17, Try.ntmps17
        go_wp2_with fail
        refine RC.out.mono ?_
        rintro e' w1 ⟨rfl, hc1⟩
        go_wp2_with fail
        go_ret
        exact ⟨_, rfl, by rw [HF.out]; exact Num.nil _, hc1⟩
      · have hge : (n : Int) ≤ k := Classical.byContradiction fun hh => hall ⟨hS, by omega, by omega⟩
        have d1 : decide (k < 0) = false := decide_eq_false h0
        have d2 : decide ((n : Int) ≤ k) = true := decide_eq_true hge
        clear h hw hcap hmax hn hS hall h0 hge hE
        go_enter Try.func17, Try.ntmps17
        go_wp2_with fail
        refine RC.out.mono ?_
        rintro e' w1 ⟨rfl, hc1⟩
        go_wp2_with fail
        go_ret
        exact ⟨_, rfl, by rw [HF.out]; exact Num.nil _, hc1⟩
set_option maxHeartbeats 3200000 in
theorem same6_c {w : World} {va vb : Value} {zs : List Int} (ha : Num w va zs) (hb : Num w vb zs) : Calls Try.prog 13 #[va, vb] w fun x w' => x = .returned (.bool true) ∧ Calm w w' := by
  obtain ⟨A, ca, rfl, -, hma⟩ := ha.form
  obtain ⟨B, cb, rfl, -, -⟩ := hb.form
  obtain ⟨_, _, _, hc1, hc2⟩ := ha.form
  have HA := Lib.hid ha
  have HB := Lib.hid hb
  obtain ⟨n, hn⟩ : ∃ n, n = zs.length := ⟨_, rfl⟩
  have HN := Lib.hid hn
  unfold maxLen at hc2
  rw [← hn] at HA HB hc1 ⊢
  have i9 : (n : Int) ≤ 9223372036854775807 := by omega
  clear ha hb hn hma hc1 hc2
  go_enter Try.func13, Try.ntmps13
  go_wp2_with fail
  go_loopw [5] (fun i wr => ∃ k : Nat, k ≤ n ∧ i = .int .i64 k ∧ Calm w wr) (fun i _ => n - (intOf i).toNat)
  case atStart => exact ⟨0, by omega, rfl, Keep.refl _ _⟩
  case round =>
    obtain ⟨k, hk, rfl, hcal⟩ := hrel
    have HC := Lib.hid hcal
    clear hcal
    by_cases hlt : k < n
    · have i1 : (k : Int) < (n : Int) := by omega
      obtain ⟨ad, rfl, c1⟩ := HA.out.at_ HC.out k (by rw [← HN.out]; exact hlt)
      obtain ⟨ad2, rfl, c2⟩ := HB.out.at_ HC.out k (by rw [← HN.out]; exact hlt)
      generalize zs[k]'(by rw [← HN.out]; exact hlt) = z at c1 c2
      go_wp2_with fail
      go_region
      go_wp2_with fail
      go_roundw
      case rel => exact ⟨k + 1, by omega, by go_num, HC.out.drewN _⟩
      case measure => simp [intOf]; omega
    · obtain rfl : k = n := by omega
      go_wp2_with fail
      go_ret
      exact ⟨rfl, HC.out⟩
end Go.Proofs.Ythmiiddojccafaa
