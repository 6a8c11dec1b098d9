/-
  Package shape: Follow.
-/
import Derived.Test.YthmiiddojccafaaH7
namespace Go.Proofs.Ythmiiddojccafaa
open Go.RowKit
set_option linter.all false

/-- What may come behind the instruction x at a place k. -/
def nextI (k : Nat) (x : In) : List Int :=
  if x.op = 149 then [] else if x.op = 5 then [(k : Int) + 1 + x.off] else if x.op = 24 then [(k : Int) + 2] else if jumpsO x.op = true ∧ x.off ≠ 0 then [(k : Int) + 1, (k : Int) + 1 + x.off] else [(k : Int) + 1]
def nextO (l : List In) (k : Nat) : List Int := if isHalfO l k = true then [] else match l[k]? with | some x => nextI k x | none => []
/-- What Follow tells. -/
def followO (l : List In) (at_ : Int) : List Int := if shapeO l = true ∧ 0 ≤ at_ ∧ at_ < (l.length : Int) then nextO l at_.toNat else []

set_option maxHeartbeats 6400000 in
theorem follow_in {w : World} {v : Value} {l : List In} (h : Ins w v l) (hw : ∀ i ∈ l, i.Wf) (hS : shapeO l = true) {k : Nat} {x : In} (hx : l[k]? = some x) : Calls Try.prog 16 #[v, .int .i64 (k : Int)] w fun y w' => ∃ vv, y = .returned vv ∧ Num w' vv (nextO l k) ∧ Calm w w' := by
  have RC := Lib.hid (isRight_c h hw)
  rw [hS] at RC
  have HS := Lib.hid (shape_small hS)
  obtain ⟨A, cap, rfl, hcap, hmax⟩ := h.form
  have HI := Lib.hid h
  have hk := (List.getElem?_eq_some_iff.1 hx).1
  obtain ⟨ad, y, rfl, hy, hat⟩ := h.at_ (Keep.refl _ w) k hk
  obtain rfl : x = y := by rw [hx] at hy; injection hy
  obtain ⟨n, hn⟩ : ∃ n, n = l.length := ⟨_, rfl⟩
  have HN := Lib.hid hn
  rw [← hn] at HI RC hk ⊢
  have HXW := Lib.hid (hw x (List.mem_of_getElem? hx))
  have HX := Lib.hid hx
  have HAT := Lib.hid hat
  have i1 : (k : Int) < (n : Int) := by omega
  have i2 : decide ((n : Int) ≤ (k : Int)) = false := decide_eq_false (by omega)
  have i9 : (n : Int) ≤ 512 := by have := HS.out.1; rw [← HN.out] at this; omega
  have HK := Lib.hid hk
  have HO : Hid (nextO l k = if isHalfO l k = true then [] else nextI k x) := Lib.hid (by unfold nextO; rw [hx])
  have IHC := Lib.hid (fun w' (hc : Calm w w') => isHalf_c (HI.out.calm hc) HS.out.1 k (by rw [← HN.out]; omega))
  obtain ⟨B, hB⟩ : ∃ B, B = isHalfO l k := ⟨_, rfl⟩
  rw [← hB] at IHC HO
  clear h hw hS hcap hmax hx hy hat hn hk hB
  cases B
  rotate_left
  · have HO1 : Hid (nextO l k = []) := Lib.hid (by rw [HO.out, if_pos rfl])
    clear HO
    go_enter Try.func16, Try.ntmps16
    go_wp2_with fail
    refine RC.out.mono ?_
    rintro e' w1 ⟨rfl, hc1⟩
    have C1 := Lib.hid hc1
    clear hc1 RC
    go_wp2_with fail
    refine (IHC.out _ C1.out).mono ?_
    rintro e' w2 ⟨rfl, hc2⟩
    have C2 := Lib.hid (C1.out.trans hc2)
    clear hc2 IHC C1
    go_wp2_with fail
    go_ret
    exact ⟨_, rfl, by rw [HO1.out]; exact Num.nil _, C2.out⟩
  · have HO2 : Hid (nextO l k = nextI k x) := Lib.hid (by rw [HO.out, if_neg (by decide)])
    have TC0 := Lib.hid (fun w' (hc : Calm w w') => target_c (HI.out.calm hc) HS.out.1 HX.out HXW.out)
    have WC := Lib.hid (fun w => wide_c (op := x.op) x.dst x.src x.off x.imm w)
    have JC := Lib.hid (fun w => jumps_c (op := x.op) x.dst x.src x.off x.imm w HXW.out.op)
    have i3 : -32768 ≤ x.off := HXW.out.off.1
    have i4 : x.off < 32768 := HXW.out.off.2
    clear HO
    by_cases h149 : x.op = 149
    · have HR : Hid (nextI k x = []) := Lib.hid (by unfold nextI; rw [if_pos h149])
      have d1 : ((x.op : Int) == 149) = true := by rw [beq_iff_eq]; omega
      clear h149
      go_enter Try.func16, Try.ntmps16
      go_wp2_with fail
      refine RC.out.mono ?_
      rintro e' w1 ⟨rfl, hc1⟩
      have C1 := Lib.hid hc1
      clear hc1 RC
      go_wp2_with fail
      refine (IHC.out _ C1.out).mono ?_
      rintro e' w2 ⟨rfl, hc2⟩
      have C2 := Lib.hid (C1.out.trans hc2)
      obtain ⟨e0, e1, e2, e3, e4⟩ := HAT.out.calm C2.out
      clear hc2 IHC C1 HAT
      go_wp2_with fail
      go_ret
      exact ⟨_, rfl, by rw [HO2.out, HR.out]; exact Num.nil _, C2.out⟩
    have d1 : ((x.op : Int) == 149) = false := by rw [beq_eq_false_iff_ne]; omega
    by_cases h5 : x.op = 5
    · have HR : Hid (nextI k x = [(k : Int) + 1 + x.off]) := Lib.hid (by unfold nextI; rw [if_neg h149, if_pos h5])
      have d2 : ((x.op : Int) == 5) = true := by rw [beq_iff_eq]; omega
      clear h149 h5
      go_enter Try.func16, Try.ntmps16
      go_wp2_with fail
      refine RC.out.mono ?_
      rintro e' w1 ⟨rfl, hc1⟩
      have C1 := Lib.hid hc1
      clear hc1 RC
      go_wp2_with fail
      refine (IHC.out _ C1.out).mono ?_
      rintro e' w2 ⟨rfl, hc2⟩
      have C2 := Lib.hid (C1.out.trans hc2)
      obtain ⟨e0, e1, e2, e3, e4⟩ := HAT.out.calm C2.out
      clear hc2 IHC C1 HAT
      go_wp2_with fail
      refine (TC0.out _ C2.out).mono ?_
      rintro e' w3 ⟨rfl, hc⟩
      have C3 := Lib.hid (C2.out.trans hc)
      clear hc
      go_wp2_with fail
      go_ret
      exact ⟨_, rfl, by rw [HO2.out, HR.out]; exact Num.made1 _ _, C3.out.alloc _⟩
    have d2 : ((x.op : Int) == 5) = false := by rw [beq_eq_false_iff_ne]; omega
    by_cases h24 : x.op = 24
    · have HR : Hid (nextI k x = [(k : Int) + 2]) := Lib.hid (by unfold nextI; rw [if_neg h149, if_neg h5, if_pos h24])
      have d3 : decide (x.op = 24) = true := decide_eq_true h24
      rw [d3] at WC
      clear h149 h5 h24 d3
      go_enter Try.func16, Try.ntmps16
      go_wp2_with fail
      refine RC.out.mono ?_
      rintro e' w1 ⟨rfl, hc1⟩
      have C1 := Lib.hid hc1
      clear hc1 RC
      go_wp2_with fail
      refine (IHC.out _ C1.out).mono ?_
      rintro e' w2 ⟨rfl, hc2⟩
      have C2 := Lib.hid (C1.out.trans hc2)
      obtain ⟨e0, e1, e2, e3, e4⟩ := HAT.out.calm C2.out
      clear hc2 IHC C1 HAT
      go_wp2_with fail
      refine (WC.out _).mono ?_
      rintro e' w3 ⟨rfl, hc3⟩
      have C3 := Lib.hid (C2.out.trans hc3)
      obtain ⟨f0, f1, f2, f3, f4⟩ := (⟨e0, e1, e2, e3, e4⟩ : InAt w2 (ad.add (k * 5)) x).calm hc3
      clear hc3 WC C2 e0 e1 e2 e3 e4
      go_wp2_with fail
      go_ret
      exact ⟨_, rfl, by rw [HO2.out, HR.out]; exact (show (k : Int) + 2 = (k : Int) + 1 + 1 by omega) ▸ Num.made1 _ _, C3.out.alloc _⟩
    have d3 : decide (x.op = 24) = false := decide_eq_false h24
    rw [d3] at WC
    clear d3
    rcases hJ : jumpsO x.op with _ | _
    · have HR : Hid (nextI k x = [(k : Int) + 1]) := Lib.hid (by unfold nextI; rw [if_neg h149, if_neg h5, if_neg h24, if_neg (by rw [hJ]; simp)])
      rw [hJ] at JC
      clear h149 h5 h24 hJ
      go_enter Try.func16, Try.ntmps16
      go_wp2_with fail
      refine RC.out.mono ?_
      rintro e' w1 ⟨rfl, hc1⟩
      have C1 := Lib.hid hc1
      clear hc1 RC
      go_wp2_with fail
      refine (IHC.out _ C1.out).mono ?_
      rintro e' w2 ⟨rfl, hc2⟩
      have C2 := Lib.hid (C1.out.trans hc2)
      obtain ⟨e0, e1, e2, e3, e4⟩ := HAT.out.calm C2.out
      clear hc2 IHC C1 HAT
      go_wp2_with fail
      refine (WC.out _).mono ?_
      rintro e' w3 ⟨rfl, hc3⟩
      have C3 := Lib.hid (C2.out.trans hc3)
      obtain ⟨f0, f1, f2, f3, f4⟩ := (⟨e0, e1, e2, e3, e4⟩ : InAt w2 (ad.add (k * 5)) x).calm hc3
      clear hc3 WC C2 e0 e1 e2 e3 e4
      go_wp2_with fail
      refine (JC.out _).mono ?_
      rintro e' w4 ⟨rfl, hc4⟩
      have C4 := Lib.hid (C3.out.trans hc4)
      clear hc4 JC C3 f0 f1 f2 f3 f4
      go_wp2_with fail
      go_ret
      exact ⟨_, rfl, by rw [HO2.out, HR.out]; exact Num.made1 _ _, C4.out.alloc _⟩
    rw [hJ] at JC
    by_cases h0 : x.off = 0
    · have HR : Hid (nextI k x = [(k : Int) + 1]) := Lib.hid (by unfold nextI; rw [if_neg h149, if_neg h5, if_neg h24, if_neg (fun h => h.2 h0)])
      have d4 : ((k : Int) + 1 + x.off != (k : Int) + 1) = false := by rw [h0]; simp
      clear h149 h5 h24 hJ h0
      go_enter Try.func16, Try.ntmps16
      go_wp2_with fail
      refine RC.out.mono ?_
      rintro e' w1 ⟨rfl, hc1⟩
      have C1 := Lib.hid hc1
      clear hc1 RC
      go_wp2_with fail
      refine (IHC.out _ C1.out).mono ?_
      rintro e' w2 ⟨rfl, hc2⟩
      have C2 := Lib.hid (C1.out.trans hc2)
      obtain ⟨e0, e1, e2, e3, e4⟩ := HAT.out.calm C2.out
      clear hc2 IHC C1 HAT
      go_wp2_with fail
      refine (WC.out _).mono ?_
      rintro e' w3 ⟨rfl, hc3⟩
      have C3 := Lib.hid (C2.out.trans hc3)
      obtain ⟨f0, f1, f2, f3, f4⟩ := (⟨e0, e1, e2, e3, e4⟩ : InAt w2 (ad.add (k * 5)) x).calm hc3
      clear hc3 WC C2 e0 e1 e2 e3 e4
      go_wp2_with fail
      refine (JC.out _).mono ?_
      rintro e' w4 ⟨rfl, hc4⟩
      have C4 := Lib.hid (C3.out.trans hc4)
      clear hc4 JC C3 f0 f1 f2 f3 f4
      go_wp2_with fail
      refine (TC0.out _ C4.out).mono ?_
      rintro e' w5 ⟨rfl, hc⟩
      have C5 := Lib.hid (C4.out.trans hc)
      clear hc
      go_wp2_with fail
      go_ret
      exact ⟨_, rfl, by rw [HO2.out, HR.out]; exact Num.made1 _ _, C5.out.alloc _⟩
    · have HR : Hid (nextI k x = [(k : Int) + 1, (k : Int) + 1 + x.off]) := Lib.hid (by unfold nextI; rw [if_neg h149, if_neg h5, if_neg h24, if_pos ⟨hJ, h0⟩])
      have d4 : ((k : Int) + 1 + x.off != (k : Int) + 1) = true := by rw [bne_iff_ne]; omega
      clear h149 h5 h24 hJ h0
      go_enter Try.func16, Try.ntmps16
      go_wp2_with fail
      refine RC.out.mono ?_
      rintro e' w1 ⟨rfl, hc1⟩
      have C1 := Lib.hid hc1
      clear hc1 RC
      go_wp2_with fail
      refine (IHC.out _ C1.out).mono ?_
      rintro e' w2 ⟨rfl, hc2⟩
      have C2 := Lib.hid (C1.out.trans hc2)
      obtain ⟨e0, e1, e2, e3, e4⟩ := HAT.out.calm C2.out
      clear hc2 IHC C1 HAT
      go_wp2_with fail
      refine (WC.out _).mono ?_
      rintro e' w3 ⟨rfl, hc3⟩
      have C3 := Lib.hid (C2.out.trans hc3)
      obtain ⟨f0, f1, f2, f3, f4⟩ := (⟨e0, e1, e2, e3, e4⟩ : InAt w2 (ad.add (k * 5)) x).calm hc3
      clear hc3 WC C2 e0 e1 e2 e3 e4
      go_wp2_with fail
      refine (JC.out _).mono ?_
      rintro e' w4 ⟨rfl, hc4⟩
      have C4 := Lib.hid (C3.out.trans hc4)
      clear hc4 JC C3 f0 f1 f2 f3 f4
      go_wp2_with fail
      refine (TC0.out _ C4.out).mono ?_
      rintro e' w5 ⟨rfl, hc⟩
      have C5 := Lib.hid (C4.out.trans hc)
      clear hc
      go_wp2_with fail
      refine (TC0.out _ C5.out).mono ?_
      rintro e' w6 ⟨rfl, hc⟩
      have C6 := Lib.hid (C5.out.trans hc)
      clear hc
      go_wp2_with fail
      go_ret
      exact ⟨_, rfl, by rw [HO2.out, HR.out]; exact Num.made2 _ _ _, C6.out.alloc _⟩
set_option maxHeartbeats 3200000 in
theorem follow_c {w : World} {v : Value} {l : List In} (h : Ins w v l) (hw : ∀ i ∈ l, i.Wf) (k : Int) : Calls Try.prog 16 #[v, .int .i64 k] w fun y w' => ∃ vv, y = .returned vv ∧ Num w' vv (followO l k) ∧ Calm w w' := by
  by_cases hall : shapeO l = true ∧ 0 ≤ k ∧ k < (l.length : Int)
  · obtain ⟨m, rfl⟩ : ∃ m : Nat, k = (m : Int) := ⟨k.toNat, by omega⟩
    have hm : m < l.length := by omega
    have := follow_in h hw hall.1 (k := m) (List.getElem?_eq_getElem hm)
    refine this.mono ?_
    rintro e w' ⟨vv, h1, h2, h3⟩
    refine ⟨vv, h1, ?_, h3⟩
    unfold followO
    rw [if_pos hall, Int.toNat_natCast]
    exact h2
  · have HF : Hid (followO l k = []) := Lib.hid (by unfold followO; rw [if_neg hall])
    have RC := Lib.hid (isRight_c h hw)
    obtain ⟨A, cap, rfl, hcap, hmax⟩ := h.form
    obtain ⟨n, hn⟩ : ∃ n, n = l.length := ⟨_, rfl⟩
    rw [← hn] at RC hall ⊢
    rcases hS : shapeO l with _ | _
    · rw [hS] at RC
      clear h hw hcap hmax hn hS hall
      go_enter Try.func16, Try.ntmps16
      go_wp2_with fail
      refine RC.out.mono ?_
      rintro e' w1 ⟨rfl, hc1⟩
      go_wp2_with fail
      go_ret
      exact ⟨_, rfl, by rw [HF.out]; exact Num.nil _, hc1⟩
    · rw [hS] at RC
      by_cases h0 : k < 0
      · have d1 : decide (k < 0) = true := decide_eq_true h0
        clear h hw hcap hmax hn hS hall h0
        go_enter Try.func16, Try.ntmps16
        go_wp2_with fail
        refine RC.out.mono ?_
        rintro e' w1 ⟨rfl, hc1⟩
        go_wp2_with fail
        go_ret
        exact ⟨_, rfl, by rw [HF.out]; exact Num.nil _, hc1⟩
      · have hge : (n : Int) ≤ k := Classical.byContradiction fun hh => hall ⟨hS, by omega, by omega⟩
        have d1 : decide (k < 0) = false := decide_eq_false h0
        have d2 : decide ((n : Int) ≤ k) = true := decide_eq_true hge
        clear h hw hcap hmax hn hS hall h0 hge
        go_enter Try.func16, Try.ntmps16
        go_wp2_with fail
        refine RC.out.mono ?_
        rintro e' w1 ⟨rfl, hc1⟩
        go_wp2_with fail
        go_ret
        exact ⟨_, rfl, by rw [HF.out]; exact Num.nil _, hc1⟩
end Go.Proofs.Ythmiiddojccafaa
