/-
  Package shape: Right, isRight.
-/
import Derived.Test.YthmiiddojccafaaH3
namespace Go.Proofs.Ythmiiddojccafaa
open Go.RowKit
set_option linter.all false

set_option maxHeartbeats 3200000 in
theorem right_c {w : World} {v : Value} {l : List In} (h : Ins w v l) (hw : ∀ i ∈ l, i.Wf) : Calls Try.prog 11 #[v] w fun x w' => x = .returned (.tuple #[.int .i64 (rightP l : Int), .int .i64 (rightE l : Int)]) ∧ Calm w w' := by
  obtain ⟨A, cap, rfl, hcap, hmax⟩ := h.form
  have HI := Lib.hid h
  have HW := Lib.hid hw
  obtain ⟨n, hn⟩ : ∃ n, n = l.length := ⟨_, rfl⟩
  have HN := Lib.hid hn
  rw [← hn] at HI ⊢
  have EC : Hid _ := Lib.hid (encode_c (HI.out.calm ((Keep.refl _ w).alloc (.cells #[.slice A n cap] 22))) hw)
  have R0 : Hid (Row (w.alloc (.cells #[.slice A n cap] 22)) w.heap.size 22 #[.slice A n cap]) := Lib.hid (Row.made w _ _)
  have C0 : Hid (Calm w (w.alloc (.cells #[.slice A n cap] 22))) := Lib.hid ((Keep.refl _ w).alloc _)
  clear h hw hn hcap hmax
  go_enter Try.func11, Try.ntmps11
  go_wp2_with fail
  refine EC.out.mono ?_
  rintro e' w1 ⟨hc1, hcase⟩
  have C1 := Lib.hid (C0.out.trans hc1)
  have R1 := Lib.hid (R0.out.keep hc1 (fun e => e))
  clear EC C0 R0 hc1
  obtain ⟨g, hg⟩ : ∃ g, g = w.heap.size := ⟨_, rfl⟩
  rw [← hg] at R1 ⊢
  clear hg
  rcases hcase with ⟨hen, vv, rfl, -⟩ | ⟨hen, rfl⟩
  rotate_left
  · have HE : Hid (rightP l = 0 ∧ rightE l = 1) := Lib.hid (by unfold rightP rightE; rw [hen]; exact ⟨rfl, rfl⟩)
    clear hen
    go_wp2_with fail
    go_ret2
    exact ⟨by rw [HE.out.1, HE.out.2]; rfl, C1.out⟩
  · have HE : Hid (rightP l = firstP l ∧ rightE l = firstE l ∧ l.length ≤ 512) := Lib.hid ⟨by unfold rightP; rw [if_pos hen], by unfold rightE; rw [if_pos hen], by
      unfold encO at hen
      simp only [Bool.and_eq_true, decide_eq_true_eq] at hen
      exact hen.1.2⟩
    have cg := R1.out.cell 0
    have cg : w1.cell? ⟨g, 0, none⟩ = some (.slice A n cap) := cg
    clear hen
    go_wp2_with fail
    have RF := Row.made w1 47 #[.func (.func 24) #[] #[.pointer (some ⟨g, 0, none⟩)], .func (.func 25) #[] #[.pointer (some ⟨g, 0, none⟩)], .func (.func 27) #[] #[.pointer (some ⟨g, 0, none⟩)], .func (.func 29) #[] #[.pointer (some ⟨g, 0, none⟩)], .func (.func 32) #[] #[.pointer (some ⟨g, 0, none⟩)]]
    have hcA : Calm w1 (w1.alloc (.cells #[.func (.func 24) #[] #[.pointer (some ⟨g, 0, none⟩)], .func (.func 25) #[] #[.pointer (some ⟨g, 0, none⟩)], .func (.func 27) #[] #[.pointer (some ⟨g, 0, none⟩)], .func (.func 29) #[] #[.pointer (some ⟨g, 0, none⟩)], .func (.func 32) #[] #[.pointer (some ⟨g, 0, none⟩)]] 47)) := (Keep.refl _ w1).alloc _
    have FC := firstWrong_c (HI.out.calm (C1.out.trans hcA)) HE.out.2.2 HW.out (g := g) (f := w1.heap.size) ((R1.out.keep hcA (fun e => e)).cell 0) (RF.cell 0) (RF.cell 1) (RF.cell 2) (RF.cell 3) (RF.cell 4)
    rw [← HN.out] at FC
    have FH := Lib.hid FC
    have CA := Lib.hid (C1.out.trans hcA)
    clear FC RF hcA cg
    refine FH.out.mono ?_
    rintro e' w2 ⟨rfl, hc2⟩
    have C2 := Lib.hid (CA.out.trans hc2)
    clear hc2 FH CA
    go_wp2_with fail
    go_ret2
    exact ⟨by rw [HE.out.1, HE.out.2.1]; rfl, C2.out⟩
theorem rightE_ok (l : List In) : decide (rightE l = 0) = shapeO l := by
  unfold rightE shapeO
  by_cases h : encO l = true
  · rw [if_pos h, h]
    unfold firstE
    cases firstO l <;> rfl
  · rw [if_neg h]
    simp only [Bool.not_eq_true] at h
    rw [h]
    rfl
theorem isRight_c {w : World} {v : Value} {l : List In} (h : Ins w v l) (hw : ∀ i ∈ l, i.Wf) : Calls Try.prog 35 #[v] w fun x w' => x = .returned (.bool (shapeO l)) ∧ Calm w w' := by
  have RC := Lib.hid (right_c h hw)
  have hR : ((rightE l : Int) == 0) = shapeO l := by
    rw [← rightE_ok]
    by_cases h : rightE l = 0
    · rw [h]; rfl
    · rw [decide_eq_false h, beq_eq_false_iff_ne]; omega
  obtain ⟨A, cap, rfl, hcap, hmax⟩ := h.form
  rw [← hR]
  generalize l.length = n at RC ⊢
  clear h hw hR hcap hmax
  go_enter Try.func35, Try.ntmps35
  go_wp2_with fail
  refine RC.out.mono ?_
  rintro e' w1 ⟨rfl, hc1⟩
  go_wp2_with fail
  go_ret
  exact ⟨rfl, hc1⟩
end Go.Proofs.Ythmiiddojccafaa
