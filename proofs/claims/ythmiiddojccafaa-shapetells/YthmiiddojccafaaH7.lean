/-
  Package shape: Targets.
-/
import Derived.Test.YthmiiddojccafaaH6
import Derived.Handy
namespace Go.Proofs.Ythmiiddojccafaa
open Go.RowKit
set_option linter.all false

theorem shape_small {l : List In} (h : shapeO l = true) : l.length ≤ 512 ∧ 1 ≤ l.length ∧ encO l = true ∧ rightO l = true ∧ ∀ k, k < l.length → wrongO l k = false := by
  unfold shapeO at h
  simp only [Bool.and_eq_true, Option.isNone_iff_eq_none] at h
  have h1 := h.1
  unfold encO at h1
  simp only [Bool.and_eq_true, decide_eq_true_eq] at h1
  exact ⟨h1.1.2, h1.1.1, h.1, h1.2, fun k hk => firstO_none.1 h.2 k hk⟩

set_option maxHeartbeats 3200000 in
theorem targets_c {w : World} {v : Value} {l : List In} (h : Ins w v l) (hw : ∀ i ∈ l, i.Wf) : Calls Try.prog 14 #[v] w fun x w' => ∃ vv, x = .returned vv ∧ Num w' vv (targetsO l) ∧ Calm w w' := by
  have RC := Lib.hid (isRight_c h hw)
  obtain ⟨A, cap, rfl, hcap, hmax⟩ := h.form
  have HI := Lib.hid h
  have HW := Lib.hid hw
  obtain ⟨n, hn⟩ : ∃ n, n = l.length := ⟨_, rfl⟩
  have HN := Lib.hid hn
  rw [← hn] at HI RC ⊢
  clear h hw hn hcap
  unfold maxLen at hmax
  clear hmax
  rcases hS : shapeO l with _ | _
  · have HT := Lib.hid (targets_none hS)
    rw [hS] at RC
    clear hS
    go_enter Try.func14, Try.ntmps14
    go_wp2_with fail
    refine RC.out.mono ?_
    rintro e' w1 ⟨rfl, hc1⟩
    go_wp2_with fail
    go_ret
    exact ⟨_, rfl, by rw [HT.out]; exact Num.nil _, hc1⟩
  · have HT : Hid (targetsO l = Lib.compact (sortZ (leadsTo l n))) := Lib.hid (by unfold targetsO; rw [if_pos hS, HN.out])
    have HS := Lib.hid (shape_small hS)
    have i9 : (n : Int) ≤ 512 := by have := HS.out.1; rw [← HN.out] at this; omega
    rw [hS] at RC
    clear hS
    go_enter Try.func14, Try.ntmps14
    go_wp2_with fail
    refine RC.out.mono ?_
    rintro e' w1 ⟨rfl, hc1⟩
    have C1 := Lib.hid hc1
    clear hc1 RC
    go_wp2_with fail
    go_loopw [3, 11] (fun p i wr => ∃ (k : Nat) (pv : Value), pv = p ∧ k ≤ n ∧ i = .int .i64 k ∧ Calm w wr ∧ OwnZ wr w.heap.size p (leadsTo l k)) (fun _ i _ => n - (intOf i).toNat)
    case atStart => exact ⟨0, _, rfl, by omega, rfl, C1.out, OwnZ.nil _ _⟩
    case round =>
      obtain ⟨k, pv, rfl, hk, rfl, hcal, how⟩ := hrel
      have HC := Lib.hid hcal
      have HO := Lib.hid how
      clear hcal how
      by_cases hlt : k < n
      · have i3 : (k : Int) < (n : Int) := by omega
        obtain ⟨ad, x, rfl, hx, hat⟩ := HI.out.at_ HC.out k (by rw [← HN.out]; exact hlt)
        have e0 := hat.c0
        have e1 := hat.c1
        have e2 := hat.c2
        have e3 := hat.c3
        have e4 := hat.c4
        have HX := Lib.hid hx
        have HXW := Lib.hid (HW.out x (List.mem_of_getElem? hx))
        have JC := Lib.hid (fun w => jumps_c (op := x.op) x.dst x.src x.off x.imm w HXW.out.op)
        have HJ : Hid (jumpAt l k = jumpsO x.op ∧ toAt l k = (k : Int) + 1 + x.off) := Lib.hid (by unfold jumpAt toAt; rw [hx]; exact ⟨rfl, rfl⟩)
        generalize jumpsO x.op = B at JC HJ
        clear hat hx
        go_wp2_with fail
        refine (JC.out _).mono ?_
        rintro e' w2 ⟨rfl, hc2⟩
        have C2 := Lib.hid ((HC.out.alloc _).trans hc2)
        have O2 := Lib.hid ((HO.out.moved ((Keep.refl _ _).alloc _)).moved hc2)
        clear hc2 e0 e1 e2 e3 e4 JC
        cases B
        · go_wp2_with fail
          go_roundw
          case rel => exact ⟨k + 1, _, rfl, by omega, by go_num, C2.out, by
            show OwnZ _ _ _ (leadsTo l k ++ (if jumpAt l k then [toAt l k] else []))
            rw [HJ.out.1, if_neg (by decide), List.append_nil]
            exact O2.out⟩
          case measure => simp [intOf]; omega
        · have TC := target_c (HI.out.calm C2.out) HS.out.1 HX.out HXW.out
          rw [← HJ.out.2] at TC
          have HTC := Lib.hid TC
          clear TC
          go_wp2_with fail
          refine HTC.out.mono ?_
          rintro e' w3 ⟨rfl, hc3⟩
          have C3 := Lib.hid (C2.out.trans hc3)
          have O3 := Lib.hid (O2.out.moved hc3)
          clear hc3 HTC C2 O2
          obtain ⟨z, hz⟩ : ∃ z, z = toAt l k := ⟨_, rfl⟩
          have HZ := Lib.hid hz
          rw [← hz]
          clear hz
          have C4 : Hid (Calm w (w3.alloc (.cells #[.int .i64 z] 3))) := Lib.hid (C3.out.alloc _)
          have O4 : Hid (OwnZ (w3.alloc (.cells #[.int .i64 z] 3)) w.heap.size pv (leadsTo l k)) := Lib.hid (O3.out.moved ((Keep.refl _ _).alloc _))
          have cz : Hid ((w3.alloc (.cells #[.int .i64 z] 3)).cell? ⟨w3.heap.size, 0, none⟩ = some (.int .i64 z)) := Lib.hid ((Row.made w3 3 #[.int .i64 z]).cell 0)
          go_wp2_with (at_builtin; go_loud (refine append_int rfl (.tmp 18) (.tmp 22) rfl w.heap.size pv (leadsTo l k) rfl O4.out w3.heap.size z rfl cz.out (by have := leads_len l k; omega) C4.out.size ?_); rintro g c w5 ho hg)
          have C5 : Hid (Calm w w5) := Lib.hid (C4.out.grown hg (fun k' hk' hlt' => by
            rcases O4.out.base with ⟨e, _⟩ | ⟨g', cap', cur', e, hb, _⟩
            · rw [e] at hk'; cases hk'
            · rw [e] at hk'; cases hk'; exact absurd hlt' (Nat.not_lt.2 hb)))
          have O5 := Lib.hid ho
          clear ho hg C4 O4 cz C3 O3
          go_wp2_with fail
          go_roundw
          case rel => exact ⟨k + 1, _, rfl, by omega, by go_num, C5.out, by
            show OwnZ _ _ _ (leadsTo l k ++ (if jumpAt l k then [toAt l k] else []))
            rw [HJ.out.1, if_pos rfl, ← HZ.out]
            have := O5.out
            rwa [show (leadsTo l k ++ [z]).length = (leadsTo l k).length + 1 by simp] at this⟩
          case measure => simp [intOf]; omega
      · obtain rfl : k = n := by omega
        have SC := Lib.hid (sort_c HO.out (by have := leads_len l k; omega) HC.out)
        go_wp2_with fail
        refine SC.out.mono ?_
        rintro e' w6 ⟨rfl, ho6, hc6⟩
        have CC := Lib.hid (compact_c ho6 (by have := leads_len l k; have : (sortZ (leadsTo l k)).length = (leadsTo l k).length := List.length_mergeSort _; omega) hc6)
        clear ho6 hc6 SC
        go_wp2_with fail
        refine CC.out.mono ?_
        rintro e' w7 ⟨vv, rfl, ho7, hc7⟩
        have HC7 := Lib.hid hc7
        have HO7 := Lib.hid ho7
        clear hc7 ho7 CC
        go_wp2_with fail
        go_ret
        exact ⟨_, rfl, by rw [HT.out]; exact HO7.out.num, HC7.out⟩
end Go.Proofs.Ythmiiddojccafaa
