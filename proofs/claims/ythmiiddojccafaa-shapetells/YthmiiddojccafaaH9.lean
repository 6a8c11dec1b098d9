/-
  What must be in any case (shown), of layer 6.
-/
import Derived.Test.YthmiiddojccafaaH8
namespace Go.Proofs.Ythmiiddojccafaa
open Go.RowKit
set_option linter.all false

/-- A literal's row of instructions. -/
theorem OwnI.lit (w : World) (l : List In) (n : Nat) (cs : Array Value) (hn : l.length = n) (hcs : cs.toList = flat l) (hl : n ≤ 1000) : OwnI (w.alloc (.cells cs 34)) w.heap.size (.slice (some ⟨w.heap.size, 0, none⟩) n n) l := by
  subst hn
  have hs : cs.size = l.length * 5 := by rw [← Array.length_toList, hcs, flat_len]
  exact ⟨flat_len l, .inr ⟨w.heap.size, l.length, cs, rfl, Nat.le_refl _, Row.made w _ _, Nat.le_refl _, by unfold maxLen; omega, hs, by rw [hcs, List.take_of_length_le (by rw [flat_len]; omega)]⟩⟩
theorem Ins.lit (w : World) (l : List In) (n : Nat) (cs : Array Value) (hn : l.length = n) (hcs : cs.toList = flat l) (hl : n ≤ 1000) : Ins (w.alloc (.cells cs 34)) (.slice (some ⟨w.heap.size, 0, none⟩) n n) l := (OwnI.lit w l n cs hn hcs hl).ins

set_option maxHeartbeats 1600000 in
theorem exit_c (w : World) : Calls Try.prog 22 #[] w fun x w' => x = .returned (.agg #[.int .u8 149, .int .u8 0, .int .u8 0, .int .i16 0, .int .i32 0]) ∧ Calm w w' := by
  go_enter Try.func22, Try.ntmps22
  go_wp2_with fail
  have R := Row.made w 34 #[.int .u8 149, .int .u8 0, .int .u8 0, .int .i16 0, .int .i32 0]
  have d0 := R.cell 0
  have d1 := R.cell 1
  have d2 := R.cell 2
  have d3 := R.cell 3
  have d4 := R.cell 4
  refine bodyPost_ret (by simp [results, Try.results22, go_sem, d0, d1, d2, d3, d4]; try rfl) rfl ?_
  exact ⟨rfl, (Keep.refl _ w).alloc _⟩
def exI : In := ⟨149, 0, 0, 0, 0⟩
def movI : In := ⟨183, 0, 0, 0, 0⟩
def lA : List In := [movI, ⟨5, 0, 0, 5, 0⟩, exI]
def lB : List In := [⟨21, 0, 0, 1, 0⟩, movI, exI]
theorem ex_right : rightP [exI] = 0 ∧ rightE [exI] = 0 := by decide +kernel
theorem lA_right : rightP lA = 1 ∧ rightE lA = 7 := by decide +kernel
theorem nil_right : rightP [] = 0 ∧ rightE [] = 1 := by decide +kernel
theorem lB_shape : shapeO lB = true := by decide +kernel
theorem lB_follow : followO lB 0 = [1, 2] := by decide +kernel
theorem lB_jumps : jumpAt lB 0 = true ∧ jumpAt lB 1 = false ∧ jumpAt lB 2 = false ∧ toAt lB 0 = 2 := by decide +kernel
theorem lB_targets : targetsO lB = [2] := by
  refine Rises.ext (targets_rises _) (by simp) (fun z => ?_)
  rw [targets_mem lB_shape]
  obtain ⟨j0, j1, j2, t0⟩ := lB_jumps
  constructor
  · rintro ⟨k, hk, hj, e⟩
    have hk : k < 3 := hk
    have : k = 0 ∨ k = 1 ∨ k = 2 := by omega
    rcases this with rfl | rfl | rfl
    · rw [← e, t0]; simp
    · rw [j1] at hj; cases hj
    · rw [j2] at hj; cases hj
  · intro h
    simp at h
    subst h
    exact ⟨0, by decide, j0, t0⟩
theorem all_wf {l : List In} (h : l.all (fun i => decide (i.op < 256 ∧ i.dst < 256 ∧ i.src < 256 ∧ -32768 ≤ i.off ∧ i.off < 32768 ∧ -2147483648 ≤ i.imm ∧ i.imm < 2147483648)) = true) : ∀ i ∈ l, i.Wf := by
  intro i hi
  have := List.all_eq_true.1 h i hi
  simp only [decide_eq_true_eq] at this
  obtain ⟨h1, h2, h3, h4, h5, h6, h7⟩ := this
  exact ⟨h1, h2, h3, ⟨h4, h5⟩, ⟨h6, h7⟩⟩
set_option maxHeartbeats 6400000 in
theorem shown6_c (w : World) : Calls Try.prog 10 #[] w fun x w' => x = .returned (.bool true) ∧ Calm w w' := by
  have EC := Lib.hid exit_c
  have HA := Lib.hid lA_right
  have HB := Lib.hid (And.intro lB_targets lB_follow)
  go_enter Try.func10, Try.ntmps10
  go_wp2_with fail
  refine (EC.out _).mono ?_
  rintro e w1 ⟨rfl, hc1⟩
  have C1 := Lib.hid hc1
  clear hc1
  go_wp2_with fail
  have RC := right_c (Ins.lit w1 [exI] 1 #[.int .u8 149, .int .u8 0, .int .u8 0, .int .i16 0, .int .i32 0] rfl rfl (by decide)) (all_wf (by decide))
  rw [ex_right.1, ex_right.2] at RC
  refine RC.mono ?_
  rintro e w2 ⟨rfl, hc2⟩
  have C2 := Lib.hid ((C1.out.alloc _).trans hc2)
  clear hc2 RC C1
  go_wp2_with fail
  refine (EC.out _).mono ?_
  rintro e w3 ⟨rfl, hc3⟩
  have C3 := Lib.hid (C2.out.trans hc3)
  clear hc3 C2
  go_wp2_with fail
  have RC := right_c (Ins.lit w3 lA 3 #[.int .u8 183, .int .u8 0, .int .u8 0, .int .i16 0, .int .i32 0, .int .u8 5, .int .u8 0, .int .u8 0, .int .i16 5, .int .i32 0, .int .u8 149, .int .u8 0, .int .u8 0, .int .i16 0, .int .i32 0] rfl rfl (by decide)) (all_wf (by decide))
  rw [HA.out.1, HA.out.2] at RC
  refine RC.mono ?_
  rintro e w4 ⟨rfl, hc4⟩
  have C4 := Lib.hid ((C3.out.alloc _).trans hc4)
  clear hc4 RC C3
  go_wp2_with fail
  have RC := right_c (w := w4) (v := .slice none 0 0) (l := []) (.inl ⟨rfl, rfl⟩) (fun i hi => by cases hi)
  rw [nil_right.1, nil_right.2] at RC
  refine RC.mono ?_
  rintro e w5 ⟨rfl, hc5⟩
  have C5 := Lib.hid (C4.out.trans hc5)
  clear hc5 RC C4
  go_wp2_with fail
  refine (EC.out _).mono ?_
  rintro e w6 ⟨rfl, hc6⟩
  have C6 := Lib.hid (C5.out.trans hc6)
  clear hc6 C5
  go_wp2_with fail
  have IB := Lib.hid (Ins.lit w6 lB 3 #[.int .u8 21, .int .u8 0, .int .u8 0, .int .i16 1, .int .i32 0, .int .u8 183, .int .u8 0, .int .u8 0, .int .i16 0, .int .i32 0, .int .u8 149, .int .u8 0, .int .u8 0, .int .i16 0, .int .i32 0] rfl rfl (by decide))
  have WB := Lib.hid (all_wf (l := lB) (by decide))
  have TC := targets_c IB.out WB.out
  rw [HB.out.1] at TC
  refine TC.mono ?_
  rintro e w7 ⟨vt, rfl, hn7, hc7⟩
  have I7 := Lib.hid (IB.out.calm hc7)
  have C7 := Lib.hid ((C6.out.alloc _).trans hc7)
  have N7 := Lib.hid hn7
  clear hc7 TC C6 IB hn7
  go_wp2_with fail
  have FC := follow_c I7.out WB.out 0
  rw [HB.out.2] at FC
  refine FC.mono ?_
  rintro e w8 ⟨vf, rfl, hn8, hc8⟩
  have C8 := Lib.hid (C7.out.trans hc8)
  obtain ⟨A, cap, rfl, -, -⟩ := N7.out.form
  obtain ⟨ad, rfl, t0⟩ := N7.out.at_ hc8 0 (by decide)
  obtain ⟨A2, cap2, rfl, -, -⟩ := hn8.form
  obtain ⟨ad2, rfl, f0⟩ := hn8.at_ (Keep.refl _ _) 0 (by decide)
  obtain ⟨ad2', e2, f1⟩ := hn8.at_ (Keep.refl _ _) 1 (by decide)
  cases e2
  have t0 : w8.cell? ad = some (.int .i64 2) := t0
  have f0 : w8.cell? ad2 = some (.int .i64 1) := f0
  have f1 : w8.cell? ⟨ad2.block, ad2.off + 1, none⟩ = some (.int .i64 2) := f1
  rw [show ([2] : List Int).length = 1 from rfl, show ([1, 2] : List Int).length = 2 from rfl]
  clear hc8 FC C7 N7 hn8 I7 WB HA HB EC
  go_wp2_with fail
  go_ret
  exact ⟨rfl, C8.out⟩
end Go.Proofs.Ythmiiddojccafaa
