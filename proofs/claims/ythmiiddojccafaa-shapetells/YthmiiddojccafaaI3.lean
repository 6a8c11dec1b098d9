/-
  Package isa: Known.
-/
import Derived.Test.YthmiiddojccafaaI3a
import Derived.Test.YthmiiddojccafaaI3b
namespace Go.Proofs.Ythmiiddojccafaa
open Go.RowKit
set_option linter.all false
theorem class_at0 (p1 p2 p3 : Nat) (w : World) : Sem.run Try.prog (Instr.index 80 (.agg #[.func (.func 75) #[] #[], .func (.func 77) #[] #[.pointer (some ⟨p1, 0, none⟩)], .func (.func 77) #[] #[.pointer (some ⟨p2, 0, none⟩)], .func (.func 77) #[] #[.pointer (some ⟨p3, 0, none⟩)], .func (.func 78) #[] #[], .func (.func 79) #[] #[], .func (.func 80) #[] #[], .func (.func 78) #[] #[]]) (.int .u8 0)) w = .ok (.func (.func 75) #[] #[]) w := by kernel_rfl
theorem class_at1 (p1 p2 p3 : Nat) (w : World) : Sem.run Try.prog (Instr.index 80 (.agg #[.func (.func 75) #[] #[], .func (.func 77) #[] #[.pointer (some ⟨p1, 0, none⟩)], .func (.func 77) #[] #[.pointer (some ⟨p2, 0, none⟩)], .func (.func 77) #[] #[.pointer (some ⟨p3, 0, none⟩)], .func (.func 78) #[] #[], .func (.func 79) #[] #[], .func (.func 80) #[] #[], .func (.func 78) #[] #[]]) (.int .u8 1)) w = .ok (.func (.func 77) #[] #[.pointer (some ⟨p1, 0, none⟩)]) w := by kernel_rfl
theorem class_at2 (p1 p2 p3 : Nat) (w : World) : Sem.run Try.prog (Instr.index 80 (.agg #[.func (.func 75) #[] #[], .func (.func 77) #[] #[.pointer (some ⟨p1, 0, none⟩)], .func (.func 77) #[] #[.pointer (some ⟨p2, 0, none⟩)], .func (.func 77) #[] #[.pointer (some ⟨p3, 0, none⟩)], .func (.func 78) #[] #[], .func (.func 79) #[] #[], .func (.func 80) #[] #[], .func (.func 78) #[] #[]]) (.int .u8 2)) w = .ok (.func (.func 77) #[] #[.pointer (some ⟨p2, 0, none⟩)]) w := by kernel_rfl
theorem class_at3 (p1 p2 p3 : Nat) (w : World) : Sem.run Try.prog (Instr.index 80 (.agg #[.func (.func 75) #[] #[], .func (.func 77) #[] #[.pointer (some ⟨p1, 0, none⟩)], .func (.func 77) #[] #[.pointer (some ⟨p2, 0, none⟩)], .func (.func 77) #[] #[.pointer (some ⟨p3, 0, none⟩)], .func (.func 78) #[] #[], .func (.func 79) #[] #[], .func (.func 80) #[] #[], .func (.func 78) #[] #[]]) (.int .u8 3)) w = .ok (.func (.func 77) #[] #[.pointer (some ⟨p3, 0, none⟩)]) w := by kernel_rfl
theorem class_at4 (p1 p2 p3 : Nat) (w : World) : Sem.run Try.prog (Instr.index 80 (.agg #[.func (.func 75) #[] #[], .func (.func 77) #[] #[.pointer (some ⟨p1, 0, none⟩)], .func (.func 77) #[] #[.pointer (some ⟨p2, 0, none⟩)], .func (.func 77) #[] #[.pointer (some ⟨p3, 0, none⟩)], .func (.func 78) #[] #[], .func (.func 79) #[] #[], .func (.func 80) #[] #[], .func (.func 78) #[] #[]]) (.int .u8 4)) w = .ok (.func (.func 78) #[] #[]) w := by kernel_rfl
theorem class_at5 (p1 p2 p3 : Nat) (w : World) : Sem.run Try.prog (Instr.index 80 (.agg #[.func (.func 75) #[] #[], .func (.func 77) #[] #[.pointer (some ⟨p1, 0, none⟩)], .func (.func 77) #[] #[.pointer (some ⟨p2, 0, none⟩)], .func (.func 77) #[] #[.pointer (some ⟨p3, 0, none⟩)], .func (.func 78) #[] #[], .func (.func 79) #[] #[], .func (.func 80) #[] #[], .func (.func 78) #[] #[]]) (.int .u8 5)) w = .ok (.func (.func 79) #[] #[]) w := by kernel_rfl
theorem class_at6 (p1 p2 p3 : Nat) (w : World) : Sem.run Try.prog (Instr.index 80 (.agg #[.func (.func 75) #[] #[], .func (.func 77) #[] #[.pointer (some ⟨p1, 0, none⟩)], .func (.func 77) #[] #[.pointer (some ⟨p2, 0, none⟩)], .func (.func 77) #[] #[.pointer (some ⟨p3, 0, none⟩)], .func (.func 78) #[] #[], .func (.func 79) #[] #[], .func (.func 80) #[] #[], .func (.func 78) #[] #[]]) (.int .u8 6)) w = .ok (.func (.func 80) #[] #[]) w := by kernel_rfl
theorem class_at7 (p1 p2 p3 : Nat) (w : World) : Sem.run Try.prog (Instr.index 80 (.agg #[.func (.func 75) #[] #[], .func (.func 77) #[] #[.pointer (some ⟨p1, 0, none⟩)], .func (.func 77) #[] #[.pointer (some ⟨p2, 0, none⟩)], .func (.func 77) #[] #[.pointer (some ⟨p3, 0, none⟩)], .func (.func 78) #[] #[], .func (.func 79) #[] #[], .func (.func 80) #[] #[], .func (.func 78) #[] #[]]) (.int .u8 7)) w = .ok (.func (.func 78) #[] #[]) w := by kernel_rfl

/-- The parts of an instruction, and whether there is one. -/
def partO (op : Nat) : Nat := match op % 8 with | 0 => 11 | 1 => 7 | 2 => 13 | 3 => 7 | 4 => aluP op | 5 => jmpP op | 6 => brP op | _ => aluP op
def okO (op src : Nat) : Bool := match op % 8 with | 0 => decide (op = 24) && decide (src ≤ 1) | 1 => memO op | 2 => memO op | 3 => memO op | 4 => aluO op | 5 => jmpO op | 6 => cmpO op | _ => aluO op
def knownO (op b c : Nat) (d e : Int) : Bool := okO op c && allO (partO op) op b c d e
theorem partO_lt : ∀ op : Fin 256, partO op.1 < 16 := by decide +kernel
theorem seven (op : Nat) : op % 8 = 0 ∨ op % 8 = 1 ∨ op % 8 = 2 ∨ op % 8 = 3 ∨ op % 8 = 4 ∨ op % 8 = 5 ∨ op % 8 = 6 ∨ op % 8 = 7 := by omega
section
variable {op : Nat} (b c : Nat) (d e : Int) (w : World)
set_option maxHeartbeats 1600000 in
theorem known0_c (ho : op < 256) (hk : op % 8 = 0) : Calls Try.prog 50 #[.agg #[.int .u8 (op : Int), .int .u8 (b : Int), .int .u8 (c : Int), .int .i16 d, .int .i32 e]] w fun x w' => x = .returned (.bool (knownO op b c d e)) ∧ Calm w w' := by
  have hkn : knownO op b c d e = ((decide (op = 24) && decide (c ≤ 1)) && allO (11) op b c d e) := by unfold knownO okO partO; rw [hk]; rfl
  rw [hkn]
  have hlt : (11) < 16 := by have := partO_lt ⟨op, ho⟩; unfold partO at this; simp only [hk] at this; exact this
  have b1 := (op_bits ⟨op, ho⟩).1
  simp only [hk] at b1
  have b1 : bits .and .u8 (op : Int) 7 = 0 := b1
  have HO := Lib.hid ho
  have AC := Lib.hid (fun w => areAll_c (op := op) b c d e w (11) hlt)
  have HB : Hid (Box (w.alloc (.cells #[.int .u8 (op : Int), .int .u8 (b : Int), .int .u8 (c : Int), .int .i16 d, .int .i32 e] 34)) w.heap.size op b c d e) := Lib.hid (Box.made w op b c d e)
  have HC : Hid (Calm w (w.alloc (.cells #[.int .u8 (op : Int), .int .u8 (b : Int), .int .u8 (c : Int), .int .i16 d, .int .i32 e] 34))) := Lib.hid ((Keep.refl _ w).alloc _)
  clear hkn hlt hk ho
  go_enter Try.func50, Try.ntmps50
  go_upto_region 1 with fail
  generalize World.alloc w _ = w1 at HB HC ⊢
  generalize w.heap.size = g at HB ⊢
  refine wp_region_noPanic ?_
  refine wp_region_held_drew (S := fun w' => Calm w w' ∧ Box w' g op b c d e) (by kernel_rfl) ⟨HC.out.drew, HB.out.drew⟩ (fun hHeld => ?_)
  refine take_at 1 7 (.pointer (some ⟨g, 0, none⟩)) rfl rfl (by kernel_rfl) (by kernel_rfl) (by kernel_rfl) (fun _ _ _ h => h) (Or.inl ⟨by rfl, ?_⟩) hHeld ?_
  · intro w hSw; go_simp
  simp only [List.setIfInBounds_toArray, List.set_cons_zero, List.set_cons_succ]
  refine take_at 2 8 (.int .u8 (op : Int)) rfl rfl (by kernel_rfl) (by kernel_rfl) (by kernel_rfl) (fun _ _ _ h => h) (Or.inl ⟨by rfl, ?_⟩) hHeld ?_
  · intro w hSw; obtain ⟨-, c0, c1, c2, c3, c4⟩ := hSw; go_simp
  simp only [List.setIfInBounds_toArray, List.set_cons_zero, List.set_cons_succ]
  refine take_at 3 9 (.int .u8 0) rfl rfl (by kernel_rfl) (by kernel_rfl) (by kernel_rfl) (fun _ _ _ h => h) (Or.inl ⟨by rfl, ?_⟩) hHeld ?_
  · intro w hSw; go_simp
  simp only [List.setIfInBounds_toArray, List.set_cons_zero, List.set_cons_succ]
  refine take_at 5 11 (.agg #[.int .u8 (op : Int), .int .u8 (b : Int), .int .u8 (c : Int), .int .i16 d, .int .i32 e]) rfl rfl (by kernel_rfl) (by kernel_rfl) (by kernel_rfl) (fun _ _ _ h => h) (Or.inl ⟨by rfl, ?_⟩) hHeld ?_
  · intro w hSw; obtain ⟨-, c0, c1, c2, c3, c4⟩ := hSw; go_simp
  simp only [List.setIfInBounds_toArray, List.set_cons_zero, List.set_cons_succ]
  refine wpAnyH_ready (rs := [0]) (by kernel_rfl) (by simp) ?_
  refine AllReadyH.cons rfl (fun K hK => ?_) AllReadyH.nil
  go_simp
  refine (classes_c _).mono ?_
  rintro e' w2 ⟨p1, p2, p3, rfl, q1, q2, q3, hc2⟩
  have q1 := Lib.hid q1
  have q2 := Lib.hid q2
  have q3 := Lib.hid q3
  refine hK.out _ _ ⟨hHeld.1.trans hc2, hHeld.2.calm hc2⟩ (fun hHeld => ?_)
  clear hK K
  try simp only [List.setIfInBounds_toArray, List.set_cons_zero, List.set_cons_succ]
  have qa := class_at0 p1 p2 p3
  refine take_at 4 10 (.func (.func 75) #[] #[]) rfl rfl (by kernel_rfl) (by kernel_rfl) (by kernel_rfl) (fun _ _ _ h => h) (Or.inl ⟨by rfl, ?_⟩) hHeld ?_
  · intro w hSw; go_simp
  simp only [List.setIfInBounds_toArray, List.set_cons_zero, List.set_cons_succ]
  clear qa
  refine wpAnyH_ready (rs := [6]) (by kernel_rfl) (by simp) ?_
  refine AllReadyH.cons rfl (fun K hK => ?_) AllReadyH.nil
  go_simp
  refine (wideC_c (op := op) b c d e _).mono ?_
  rintro e' w3 ⟨rfl, hc3⟩
  refine hK.out _ _ ⟨hHeld.1.trans hc3, hHeld.2.calm hc3⟩ (fun hHeld => ?_)
  clear hK K
  try simp only [List.setIfInBounds_toArray, List.set_cons_zero, List.set_cons_succ]
  refine take_at 7 5 (.tuple #[.int .u8 11, .bool (decide (op = 24) && decide (c ≤ 1))]) rfl rfl (by kernel_rfl) (by kernel_rfl) (by kernel_rfl) (fun _ _ _ h => h) (Or.inl ⟨by rfl, ?_⟩) hHeld ?_
  · intro w hSw; go_simp
  simp only [List.setIfInBounds_toArray, List.set_cons_zero, List.set_cons_succ]
  refine take_at 8 13 (.int .u8 11) rfl rfl (by kernel_rfl) (by kernel_rfl) (by kernel_rfl) (fun _ _ _ h => h) (Or.inl ⟨by rfl, ?_⟩) hHeld ?_
  · intro w hSw; go_simp
  simp only [List.setIfInBounds_toArray, List.set_cons_zero, List.set_cons_succ]
  refine take_at 9 14 (.bool (decide (op = 24) && decide (c ≤ 1))) rfl rfl (by kernel_rfl) (by kernel_rfl) (by kernel_rfl) (fun _ _ _ h => h) (Or.inl ⟨by rfl, ?_⟩) hHeld ?_
  · intro w hSw; go_simp
  simp only [List.setIfInBounds_toArray, List.set_cons_zero, List.set_cons_succ]
  refine wpAnyH_ready (rs := [10]) (by kernel_rfl) (by simp) ?_
  refine AllReadyH.cons rfl (fun K hK => ?_) AllReadyH.nil
  go_simp
  refine hK.out _ _ hHeld (fun hHeld => ?_)
  clear hK K
  try simp only [List.setIfInBounds_toArray, List.set_cons_zero, List.set_cons_succ]
  refine wpAnyH_ready (rs := [11]) (by kernel_rfl) (by simp) ?_
  refine AllReadyH.cons rfl (fun K hK => ?_) AllReadyH.nil
  go_simp
  refine hK.out _ _ hHeld (fun hHeld => ?_)
  clear hK K
  try simp only [List.setIfInBounds_toArray, List.set_cons_zero, List.set_cons_succ]
  refine wpAnyH_done (by kernel_rfl) (NoPanic.normal ?_) _
  obtain ⟨hc4, hb4⟩ := hHeld
  have c0 := hb4.c0
  have c1 := hb4.c1
  have c2 := hb4.c2
  have c3 := hb4.c3
  have c4 := hb4.c4
  have HC4 := Lib.hid hc4
  clear hc4 hb4
  generalize hB : (decide (op = 24) && decide (c ≤ 1)) = B
  cases B
  · go_wp2_with fail
    go_ret
    exact ⟨by rw [hB, Bool.false_and]; rfl, HC4.out⟩
  · go_wp2_with fail
    refine (AC.out _).mono ?_
    rintro e' w5 ⟨rfl, hc5⟩
    go_wp2_with fail
    go_ret
    exact ⟨by rw [hB, Bool.true_and]; rfl, HC4.out.trans hc5⟩
set_option maxHeartbeats 1600000 in
theorem known1_c (ho : op < 256) (hk : op % 8 = 1) : Calls Try.prog 50 #[.agg #[.int .u8 (op : Int), .int .u8 (b : Int), .int .u8 (c : Int), .int .i16 d, .int .i32 e]] w fun x w' => x = .returned (.bool (knownO op b c d e)) ∧ Calm w w' := by
  have hkn : knownO op b c d e = ((memO op) && allO (7) op b c d e) := by unfold knownO okO partO; rw [hk]; rfl
  rw [hkn]
  have hlt : (7) < 16 := by have := partO_lt ⟨op, ho⟩; unfold partO at this; simp only [hk] at this; exact this
  have b1 := (op_bits ⟨op, ho⟩).1
  simp only [hk] at b1
  have b1 : bits .and .u8 (op : Int) 7 = 1 := b1
  have HO := Lib.hid ho
  have AC := Lib.hid (fun w => areAll_c (op := op) b c d e w (7) hlt)
  have HB : Hid (Box (w.alloc (.cells #[.int .u8 (op : Int), .int .u8 (b : Int), .int .u8 (c : Int), .int .i16 d, .int .i32 e] 34)) w.heap.size op b c d e) := Lib.hid (Box.made w op b c d e)
  have HC : Hid (Calm w (w.alloc (.cells #[.int .u8 (op : Int), .int .u8 (b : Int), .int .u8 (c : Int), .int .i16 d, .int .i32 e] 34))) := Lib.hid ((Keep.refl _ w).alloc _)
  clear hkn hlt hk ho
  go_enter Try.func50, Try.ntmps50
  go_upto_region 1 with fail
  generalize World.alloc w _ = w1 at HB HC ⊢
  generalize w.heap.size = g at HB ⊢
  refine wp_region_noPanic ?_
  refine wp_region_held_drew (S := fun w' => Calm w w' ∧ Box w' g op b c d e) (by kernel_rfl) ⟨HC.out.drew, HB.out.drew⟩ (fun hHeld => ?_)
  refine take_at 1 7 (.pointer (some ⟨g, 0, none⟩)) rfl rfl (by kernel_rfl) (by kernel_rfl) (by kernel_rfl) (fun _ _ _ h => h) (Or.inl ⟨by rfl, ?_⟩) hHeld ?_
  · intro w hSw; go_simp
  simp only [List.setIfInBounds_toArray, List.set_cons_zero, List.set_cons_succ]
  refine take_at 2 8 (.int .u8 (op : Int)) rfl rfl (by kernel_rfl) (by kernel_rfl) (by kernel_rfl) (fun _ _ _ h => h) (Or.inl ⟨by rfl, ?_⟩) hHeld ?_
  · intro w hSw; obtain ⟨-, c0, c1, c2, c3, c4⟩ := hSw; go_simp
  simp only [List.setIfInBounds_toArray, List.set_cons_zero, List.set_cons_succ]
  refine take_at 3 9 (.int .u8 1) rfl rfl (by kernel_rfl) (by kernel_rfl) (by kernel_rfl) (fun _ _ _ h => h) (Or.inl ⟨by rfl, ?_⟩) hHeld ?_
  · intro w hSw; go_simp
  simp only [List.setIfInBounds_toArray, List.set_cons_zero, List.set_cons_succ]
  refine take_at 5 11 (.agg #[.int .u8 (op : Int), .int .u8 (b : Int), .int .u8 (c : Int), .int .i16 d, .int .i32 e]) rfl rfl (by kernel_rfl) (by kernel_rfl) (by kernel_rfl) (fun _ _ _ h => h) (Or.inl ⟨by rfl, ?_⟩) hHeld ?_
  · intro w hSw; obtain ⟨-, c0, c1, c2, c3, c4⟩ := hSw; go_simp
  simp only [List.setIfInBounds_toArray, List.set_cons_zero, List.set_cons_succ]
  refine wpAnyH_ready (rs := [0]) (by kernel_rfl) (by simp) ?_
  refine AllReadyH.cons rfl (fun K hK => ?_) AllReadyH.nil
  go_simp
  refine (classes_c _).mono ?_
  rintro e' w2 ⟨p1, p2, p3, rfl, q1, q2, q3, hc2⟩
  have q1 := Lib.hid q1
  have q2 := Lib.hid q2
  have q3 := Lib.hid q3
  refine hK.out _ _ ⟨hHeld.1.trans hc2, hHeld.2.calm hc2⟩ (fun hHeld => ?_)
  clear hK K
  try simp only [List.setIfInBounds_toArray, List.set_cons_zero, List.set_cons_succ]
  have qa := class_at1 p1 p2 p3
  refine take_at 4 10 (.func (.func 77) #[] #[.pointer (some ⟨p1, 0, none⟩)]) rfl rfl (by kernel_rfl) (by kernel_rfl) (by kernel_rfl) (fun _ _ _ h => h) (Or.inl ⟨by rfl, ?_⟩) hHeld ?_
  · intro w hSw; go_simp
  simp only [List.setIfInBounds_toArray, List.set_cons_zero, List.set_cons_succ]
  clear qa
  refine wpAnyH_ready (rs := [6]) (by kernel_rfl) (by simp) ?_
  refine AllReadyH.cons rfl (fun K hK => ?_) AllReadyH.nil
  go_simp
  refine (mem_c (op := op) b c d e _ HO.out 7 _ q1.out).mono ?_
  rintro e' w3 ⟨rfl, hc3⟩
  refine hK.out _ _ ⟨hHeld.1.trans hc3, hHeld.2.calm hc3⟩ (fun hHeld => ?_)
  clear hK K
  try simp only [List.setIfInBounds_toArray, List.set_cons_zero, List.set_cons_succ]
  refine take_at 7 5 (.tuple #[.int .u8 7, .bool (memO op)]) rfl rfl (by kernel_rfl) (by kernel_rfl) (by kernel_rfl) (fun _ _ _ h => h) (Or.inl ⟨by rfl, ?_⟩) hHeld ?_
  · intro w hSw; go_simp
  simp only [List.setIfInBounds_toArray, List.set_cons_zero, List.set_cons_succ]
  refine take_at 8 13 (.int .u8 7) rfl rfl (by kernel_rfl) (by kernel_rfl) (by kernel_rfl) (fun _ _ _ h => h) (Or.inl ⟨by rfl, ?_⟩) hHeld ?_
  · intro w hSw; go_simp
  simp only [List.setIfInBounds_toArray, List.set_cons_zero, List.set_cons_succ]
  refine take_at 9 14 (.bool (memO op)) rfl rfl (by kernel_rfl) (by kernel_rfl) (by kernel_rfl) (fun _ _ _ h => h) (Or.inl ⟨by rfl, ?_⟩) hHeld ?_
  · intro w hSw; go_simp
  simp only [List.setIfInBounds_toArray, List.set_cons_zero, List.set_cons_succ]
  refine wpAnyH_ready (rs := [10]) (by kernel_rfl) (by simp) ?_
  refine AllReadyH.cons rfl (fun K hK => ?_) AllReadyH.nil
  go_simp
  refine hK.out _ _ hHeld (fun hHeld => ?_)
  clear hK K
  try simp only [List.setIfInBounds_toArray, List.set_cons_zero, List.set_cons_succ]
  refine wpAnyH_ready (rs := [11]) (by kernel_rfl) (by simp) ?_
  refine AllReadyH.cons rfl (fun K hK => ?_) AllReadyH.nil
  go_simp
  refine hK.out _ _ hHeld (fun hHeld => ?_)
  clear hK K
  try simp only [List.setIfInBounds_toArray, List.set_cons_zero, List.set_cons_succ]
  refine wpAnyH_done (by kernel_rfl) (NoPanic.normal ?_) _
  obtain ⟨hc4, hb4⟩ := hHeld
  have c0 := hb4.c0
  have c1 := hb4.c1
  have c2 := hb4.c2
  have c3 := hb4.c3
  have c4 := hb4.c4
  have HC4 := Lib.hid hc4
  clear hc4 hb4
  generalize hB : (memO op) = B
  cases B
  · go_wp2_with fail
    go_ret
    exact ⟨by rw [hB, Bool.false_and]; rfl, HC4.out⟩
  · go_wp2_with fail
    refine (AC.out _).mono ?_
    rintro e' w5 ⟨rfl, hc5⟩
    go_wp2_with fail
    go_ret
    exact ⟨by rw [hB, Bool.true_and]; rfl, HC4.out.trans hc5⟩
set_option maxHeartbeats 1600000 in
theorem known2_c (ho : op < 256) (hk : op % 8 = 2) : Calls Try.prog 50 #[.agg #[.int .u8 (op : Int), .int .u8 (b : Int), .int .u8 (c : Int), .int .i16 d, .int .i32 e]] w fun x w' => x = .returned (.bool (knownO op b c d e)) ∧ Calm w w' := by
  have hkn : knownO op b c d e = ((memO op) && allO (13) op b c d e) := by unfold knownO okO partO; rw [hk]; rfl
  rw [hkn]
  have hlt : (13) < 16 := by have := partO_lt ⟨op, ho⟩; unfold partO at this; simp only [hk] at this; exact this
  have b1 := (op_bits ⟨op, ho⟩).1
  simp only [hk] at b1
  have b1 : bits .and .u8 (op : Int) 7 = 2 := b1
  have HO := Lib.hid ho
  have AC := Lib.hid (fun w => areAll_c (op := op) b c d e w (13) hlt)
  have HB : Hid (Box (w.alloc (.cells #[.int .u8 (op : Int), .int .u8 (b : Int), .int .u8 (c : Int), .int .i16 d, .int .i32 e] 34)) w.heap.size op b c d e) := Lib.hid (Box.made w op b c d e)
  have HC : Hid (Calm w (w.alloc (.cells #[.int .u8 (op : Int), .int .u8 (b : Int), .int .u8 (c : Int), .int .i16 d, .int .i32 e] 34))) := Lib.hid ((Keep.refl _ w).alloc _)
  clear hkn hlt hk ho
  go_enter Try.func50, Try.ntmps50
  go_upto_region 1 with fail
  generalize World.alloc w _ = w1 at HB HC ⊢
  generalize w.heap.size = g at HB ⊢
  refine wp_region_noPanic ?_
  refine wp_region_held_drew (S := fun w' => Calm w w' ∧ Box w' g op b c d e) (by kernel_rfl) ⟨HC.out.drew, HB.out.drew⟩ (fun hHeld => ?_)
  refine take_at 1 7 (.pointer (some ⟨g, 0, none⟩)) rfl rfl (by kernel_rfl) (by kernel_rfl) (by kernel_rfl) (fun _ _ _ h => h) (Or.inl ⟨by rfl, ?_⟩) hHeld ?_
  · intro w hSw; go_simp
  simp only [List.setIfInBounds_toArray, List.set_cons_zero, List.set_cons_succ]
  refine take_at 2 8 (.int .u8 (op : Int)) rfl rfl (by kernel_rfl) (by kernel_rfl) (by kernel_rfl) (fun _ _ _ h => h) (Or.inl ⟨by rfl, ?_⟩) hHeld ?_
  · intro w hSw; obtain ⟨-, c0, c1, c2, c3, c4⟩ := hSw; go_simp
  simp only [List.setIfInBounds_toArray, List.set_cons_zero, List.set_cons_succ]
  refine take_at 3 9 (.int .u8 2) rfl rfl (by kernel_rfl) (by kernel_rfl) (by kernel_rfl) (fun _ _ _ h => h) (Or.inl ⟨by rfl, ?_⟩) hHeld ?_
  · intro w hSw; go_simp
  simp only [List.setIfInBounds_toArray, List.set_cons_zero, List.set_cons_succ]
  refine take_at 5 11 (.agg #[.int .u8 (op : Int), .int .u8 (b : Int), .int .u8 (c : Int), .int .i16 d, .int .i32 e]) rfl rfl (by kernel_rfl) (by kernel_rfl) (by kernel_rfl) (fun _ _ _ h => h) (Or.inl ⟨by rfl, ?_⟩) hHeld ?_
  · intro w hSw; obtain ⟨-, c0, c1, c2, c3, c4⟩ := hSw; go_simp
  simp only [List.setIfInBounds_toArray, List.set_cons_zero, List.set_cons_succ]
  refine wpAnyH_ready (rs := [0]) (by kernel_rfl) (by simp) ?_
  refine AllReadyH.cons rfl (fun K hK => ?_) AllReadyH.nil
  go_simp
  refine (classes_c _).mono ?_
  rintro e' w2 ⟨p1, p2, p3, rfl, q1, q2, q3, hc2⟩
  have q1 := Lib.hid q1
  have q2 := Lib.hid q2
  have q3 := Lib.hid q3
  refine hK.out _ _ ⟨hHeld.1.trans hc2, hHeld.2.calm hc2⟩ (fun hHeld => ?_)
  clear hK K
  try simp only [List.setIfInBounds_toArray, List.set_cons_zero, List.set_cons_succ]
  have qa := class_at2 p1 p2 p3
  refine take_at 4 10 (.func (.func 77) #[] #[.pointer (some ⟨p2, 0, none⟩)]) rfl rfl (by kernel_rfl) (by kernel_rfl) (by kernel_rfl) (fun _ _ _ h => h) (Or.inl ⟨by rfl, ?_⟩) hHeld ?_
  · intro w hSw; go_simp
  simp only [List.setIfInBounds_toArray, List.set_cons_zero, List.set_cons_succ]
  clear qa
  refine wpAnyH_ready (rs := [6]) (by kernel_rfl) (by simp) ?_
  refine AllReadyH.cons rfl (fun K hK => ?_) AllReadyH.nil
  go_simp
  refine (mem_c (op := op) b c d e _ HO.out 13 _ q2.out).mono ?_
  rintro e' w3 ⟨rfl, hc3⟩
  refine hK.out _ _ ⟨hHeld.1.trans hc3, hHeld.2.calm hc3⟩ (fun hHeld => ?_)
  clear hK K
  try simp only [List.setIfInBounds_toArray, List.set_cons_zero, List.set_cons_succ]
  refine take_at 7 5 (.tuple #[.int .u8 13, .bool (memO op)]) rfl rfl (by kernel_rfl) (by kernel_rfl) (by kernel_rfl) (fun _ _ _ h => h) (Or.inl ⟨by rfl, ?_⟩) hHeld ?_
  · intro w hSw; go_simp
  simp only [List.setIfInBounds_toArray, List.set_cons_zero, List.set_cons_succ]
  refine take_at 8 13 (.int .u8 13) rfl rfl (by kernel_rfl) (by kernel_rfl) (by kernel_rfl) (fun _ _ _ h => h) (Or.inl ⟨by rfl, ?_⟩) hHeld ?_
  · intro w hSw; go_simp
  simp only [List.setIfInBounds_toArray, List.set_cons_zero, List.set_cons_succ]
  refine take_at 9 14 (.bool (memO op)) rfl rfl (by kernel_rfl) (by kernel_rfl) (by kernel_rfl) (fun _ _ _ h => h) (Or.inl ⟨by rfl, ?_⟩) hHeld ?_
  · intro w hSw; go_simp
  simp only [List.setIfInBounds_toArray, List.set_cons_zero, List.set_cons_succ]
  refine wpAnyH_ready (rs := [10]) (by kernel_rfl) (by simp) ?_
  refine AllReadyH.cons rfl (fun K hK => ?_) AllReadyH.nil
  go_simp
  refine hK.out _ _ hHeld (fun hHeld => ?_)
  clear hK K
  try simp only [List.setIfInBounds_toArray, List.set_cons_zero, List.set_cons_succ]
  refine wpAnyH_ready (rs := [11]) (by kernel_rfl) (by simp) ?_
  refine AllReadyH.cons rfl (fun K hK => ?_) AllReadyH.nil
  go_simp
  refine hK.out _ _ hHeld (fun hHeld => ?_)
  clear hK K
  try simp only [List.setIfInBounds_toArray, List.set_cons_zero, List.set_cons_succ]
  refine wpAnyH_done (by kernel_rfl) (NoPanic.normal ?_) _
  obtain ⟨hc4, hb4⟩ := hHeld
  have c0 := hb4.c0
  have c1 := hb4.c1
  have c2 := hb4.c2
  have c3 := hb4.c3
  have c4 := hb4.c4
  have HC4 := Lib.hid hc4
  clear hc4 hb4
  generalize hB : (memO op) = B
  cases B
  · go_wp2_with fail
    go_ret
    exact ⟨by rw [hB, Bool.false_and]; rfl, HC4.out⟩
  · go_wp2_with fail
    refine (AC.out _).mono ?_
    rintro e' w5 ⟨rfl, hc5⟩
    go_wp2_with fail
    go_ret
    exact ⟨by rw [hB, Bool.true_and]; rfl, HC4.out.trans hc5⟩
set_option maxHeartbeats 1600000 in
theorem known3_c (ho : op < 256) (hk : op % 8 = 3) : Calls Try.prog 50 #[.agg #[.int .u8 (op : Int), .int .u8 (b : Int), .int .u8 (c : Int), .int .i16 d, .int .i32 e]] w fun x w' => x = .returned (.bool (knownO op b c d e)) ∧ Calm w w' := by
  have hkn : knownO op b c d e = ((memO op) && allO (7) op b c d e) := by unfold knownO okO partO; rw [hk]; rfl
  rw [hkn]
  have hlt : (7) < 16 := by have := partO_lt ⟨op, ho⟩; unfold partO at this; simp only [hk] at this; exact this
  have b1 := (op_bits ⟨op, ho⟩).1
  simp only [hk] at b1
  have b1 : bits .and .u8 (op : Int) 7 = 3 := b1
  have HO := Lib.hid ho
  have AC := Lib.hid (fun w => areAll_c (op := op) b c d e w (7) hlt)
  have HB : Hid (Box (w.alloc (.cells #[.int .u8 (op : Int), .int .u8 (b : Int), .int .u8 (c : Int), .int .i16 d, .int .i32 e] 34)) w.heap.size op b c d e) := Lib.hid (Box.made w op b c d e)
  have HC : Hid (Calm w (w.alloc (.cells #[.int .u8 (op : Int), .int .u8 (b : Int), .int .u8 (c : Int), .int .i16 d, .int .i32 e] 34))) := Lib.hid ((Keep.refl _ w).alloc _)
  clear hkn hlt hk ho
  go_enter Try.func50, Try.ntmps50
  go_upto_region 1 with fail
  generalize World.alloc w _ = w1 at HB HC ⊢
  generalize w.heap.size = g at HB ⊢
  refine wp_region_noPanic ?_
  refine wp_region_held_drew (S := fun w' => Calm w w' ∧ Box w' g op b c d e) (by kernel_rfl) ⟨HC.out.drew, HB.out.drew⟩ (fun hHeld => ?_)
  refine take_at 1 7 (.pointer (some ⟨g, 0, none⟩)) rfl rfl (by kernel_rfl) (by kernel_rfl) (by kernel_rfl) (fun _ _ _ h => h) (Or.inl ⟨by rfl, ?_⟩) hHeld ?_
  · intro w hSw; go_simp
  simp only [List.setIfInBounds_toArray, List.set_cons_zero, List.set_cons_succ]
  refine take_at 2 8 (.int .u8 (op : Int)) rfl rfl (by kernel_rfl) (by kernel_rfl) (by kernel_rfl) (fun _ _ _ h => h) (Or.inl ⟨by rfl, ?_⟩) hHeld ?_
  · intro w hSw; obtain ⟨-, c0, c1, c2, c3, c4⟩ := hSw; go_simp
  simp only [List.setIfInBounds_toArray, List.set_cons_zero, List.set_cons_succ]
  refine take_at 3 9 (.int .u8 3) rfl rfl (by kernel_rfl) (by kernel_rfl) (by kernel_rfl) (fun _ _ _ h => h) (Or.inl ⟨by rfl, ?_⟩) hHeld ?_
  · intro w hSw; go_simp
  simp only [List.setIfInBounds_toArray, List.set_cons_zero, List.set_cons_succ]
  refine take_at 5 11 (.agg #[.int .u8 (op : Int), .int .u8 (b : Int), .int .u8 (c : Int), .int .i16 d, .int .i32 e]) rfl rfl (by kernel_rfl) (by kernel_rfl) (by kernel_rfl) (fun _ _ _ h => h) (Or.inl ⟨by rfl, ?_⟩) hHeld ?_
  · intro w hSw; obtain ⟨-, c0, c1, c2, c3, c4⟩ := hSw; go_simp
  simp only [List.setIfInBounds_toArray, List.set_cons_zero, List.set_cons_succ]
  refine wpAnyH_ready (rs := [0]) (by kernel_rfl) (by simp) ?_
  refine AllReadyH.cons rfl (fun K hK => ?_) AllReadyH.nil
  go_simp
  refine (classes_c _).mono ?_
  rintro e' w2 ⟨p1, p2, p3, rfl, q1, q2, q3, hc2⟩
  have q1 := Lib.hid q1
  have q2 := Lib.hid q2
  have q3 := Lib.hid q3
  refine hK.out _ _ ⟨hHeld.1.trans hc2, hHeld.2.calm hc2⟩ (fun hHeld => ?_)
  clear hK K
  try simp only [List.setIfInBounds_toArray, List.set_cons_zero, List.set_cons_succ]
  have qa := class_at3 p1 p2 p3
  refine take_at 4 10 (.func (.func 77) #[] #[.pointer (some ⟨p3, 0, none⟩)]) rfl rfl (by kernel_rfl) (by kernel_rfl) (by kernel_rfl) (fun _ _ _ h => h) (Or.inl ⟨by rfl, ?_⟩) hHeld ?_
  · intro w hSw; go_simp
  simp only [List.setIfInBounds_toArray, List.set_cons_zero, List.set_cons_succ]
  clear qa
  refine wpAnyH_ready (rs := [6]) (by kernel_rfl) (by simp) ?_
  refine AllReadyH.cons rfl (fun K hK => ?_) AllReadyH.nil
  go_simp
  refine (mem_c (op := op) b c d e _ HO.out 7 _ q3.out).mono ?_
  rintro e' w3 ⟨rfl, hc3⟩
  refine hK.out _ _ ⟨hHeld.1.trans hc3, hHeld.2.calm hc3⟩ (fun hHeld => ?_)
  clear hK K
  try simp only [List.setIfInBounds_toArray, List.set_cons_zero, List.set_cons_succ]
  refine take_at 7 5 (.tuple #[.int .u8 7, .bool (memO op)]) rfl rfl (by kernel_rfl) (by kernel_rfl) (by kernel_rfl) (fun _ _ _ h => h) (Or.inl ⟨by rfl, ?_⟩) hHeld ?_
  · intro w hSw; go_simp
  simp only [List.setIfInBounds_toArray, List.set_cons_zero, List.set_cons_succ]
  refine take_at 8 13 (.int .u8 7) rfl rfl (by kernel_rfl) (by kernel_rfl) (by kernel_rfl) (fun _ _ _ h => h) (Or.inl ⟨by rfl, ?_⟩) hHeld ?_
  · intro w hSw; go_simp
  simp only [List.setIfInBounds_toArray, List.set_cons_zero, List.set_cons_succ]
  refine take_at 9 14 (.bool (memO op)) rfl rfl (by kernel_rfl) (by kernel_rfl) (by kernel_rfl) (fun _ _ _ h => h) (Or.inl ⟨by rfl, ?_⟩) hHeld ?_
  · intro w hSw; go_simp
  simp only [List.setIfInBounds_toArray, List.set_cons_zero, List.set_cons_succ]
  refine wpAnyH_ready (rs := [10]) (by kernel_rfl) (by simp) ?_
  refine AllReadyH.cons rfl (fun K hK => ?_) AllReadyH.nil
  go_simp
  refine hK.out _ _ hHeld (fun hHeld => ?_)
  clear hK K
  try simp only [List.setIfInBounds_toArray, List.set_cons_zero, List.set_cons_succ]
  refine wpAnyH_ready (rs := [11]) (by kernel_rfl) (by simp) ?_
  refine AllReadyH.cons rfl (fun K hK => ?_) AllReadyH.nil
  go_simp
  refine hK.out _ _ hHeld (fun hHeld => ?_)
  clear hK K
  try simp only [List.setIfInBounds_toArray, List.set_cons_zero, List.set_cons_succ]
  refine wpAnyH_done (by kernel_rfl) (NoPanic.normal ?_) _
  obtain ⟨hc4, hb4⟩ := hHeld
  have c0 := hb4.c0
  have c1 := hb4.c1
  have c2 := hb4.c2
  have c3 := hb4.c3
  have c4 := hb4.c4
  have HC4 := Lib.hid hc4
  clear hc4 hb4
  generalize hB : (memO op) = B
  cases B
  · go_wp2_with fail
    go_ret
    exact ⟨by rw [hB, Bool.false_and]; rfl, HC4.out⟩
  · go_wp2_with fail
    refine (AC.out _).mono ?_
    rintro e' w5 ⟨rfl, hc5⟩
    go_wp2_with fail
    go_ret
    exact ⟨by rw [hB, Bool.true_and]; rfl, HC4.out.trans hc5⟩
set_option maxHeartbeats 1600000 in
theorem known4_c (ho : op < 256) (hk : op % 8 = 4) : Calls Try.prog 50 #[.agg #[.int .u8 (op : Int), .int .u8 (b : Int), .int .u8 (c : Int), .int .i16 d, .int .i32 e]] w fun x w' => x = .returned (.bool (knownO op b c d e)) ∧ Calm w w' := by
  have hkn : knownO op b c d e = ((aluO op) && allO (aluP op) op b c d e) := by unfold knownO okO partO; rw [hk]; rfl
  rw [hkn]
  have hlt : (aluP op) < 16 := by have := partO_lt ⟨op, ho⟩; unfold partO at this; simp only [hk] at this; exact this
  have b1 := (op_bits ⟨op, ho⟩).1
  simp only [hk] at b1
  have b1 : bits .and .u8 (op : Int) 7 = 4 := b1
  have HO := Lib.hid ho
  have AC := Lib.hid (fun w => areAll_c (op := op) b c d e w (aluP op) hlt)
  have HB : Hid (Box (w.alloc (.cells #[.int .u8 (op : Int), .int .u8 (b : Int), .int .u8 (c : Int), .int .i16 d, .int .i32 e] 34)) w.heap.size op b c d e) := Lib.hid (Box.made w op b c d e)
  have HC : Hid (Calm w (w.alloc (.cells #[.int .u8 (op : Int), .int .u8 (b : Int), .int .u8 (c : Int), .int .i16 d, .int .i32 e] 34))) := Lib.hid ((Keep.refl _ w).alloc _)
  clear hkn hlt hk ho
  go_enter Try.func50, Try.ntmps50
  go_upto_region 1 with fail
  generalize World.alloc w _ = w1 at HB HC ⊢
  generalize w.heap.size = g at HB ⊢
  refine wp_region_noPanic ?_
  refine wp_region_held_drew (S := fun w' => Calm w w' ∧ Box w' g op b c d e) (by kernel_rfl) ⟨HC.out.drew, HB.out.drew⟩ (fun hHeld => ?_)
  refine take_at 1 7 (.pointer (some ⟨g, 0, none⟩)) rfl rfl (by kernel_rfl) (by kernel_rfl) (by kernel_rfl) (fun _ _ _ h => h) (Or.inl ⟨by rfl, ?_⟩) hHeld ?_
  · intro w hSw; go_simp
  simp only [List.setIfInBounds_toArray, List.set_cons_zero, List.set_cons_succ]
  refine take_at 2 8 (.int .u8 (op : Int)) rfl rfl (by kernel_rfl) (by kernel_rfl) (by kernel_rfl) (fun _ _ _ h => h) (Or.inl ⟨by rfl, ?_⟩) hHeld ?_
  · intro w hSw; obtain ⟨-, c0, c1, c2, c3, c4⟩ := hSw; go_simp
  simp only [List.setIfInBounds_toArray, List.set_cons_zero, List.set_cons_succ]
  refine take_at 3 9 (.int .u8 4) rfl rfl (by kernel_rfl) (by kernel_rfl) (by kernel_rfl) (fun _ _ _ h => h) (Or.inl ⟨by rfl, ?_⟩) hHeld ?_
  · intro w hSw; go_simp
  simp only [List.setIfInBounds_toArray, List.set_cons_zero, List.set_cons_succ]
  refine take_at 5 11 (.agg #[.int .u8 (op : Int), .int .u8 (b : Int), .int .u8 (c : Int), .int .i16 d, .int .i32 e]) rfl rfl (by kernel_rfl) (by kernel_rfl) (by kernel_rfl) (fun _ _ _ h => h) (Or.inl ⟨by rfl, ?_⟩) hHeld ?_
  · intro w hSw; obtain ⟨-, c0, c1, c2, c3, c4⟩ := hSw; go_simp
  simp only [List.setIfInBounds_toArray, List.set_cons_zero, List.set_cons_succ]
  refine wpAnyH_ready (rs := [0]) (by kernel_rfl) (by simp) ?_
  refine AllReadyH.cons rfl (fun K hK => ?_) AllReadyH.nil
  go_simp
  refine (classes_c _).mono ?_
  rintro e' w2 ⟨p1, p2, p3, rfl, q1, q2, q3, hc2⟩
  have q1 := Lib.hid q1
  have q2 := Lib.hid q2
  have q3 := Lib.hid q3
  refine hK.out _ _ ⟨hHeld.1.trans hc2, hHeld.2.calm hc2⟩ (fun hHeld => ?_)
  clear hK K
  try simp only [List.setIfInBounds_toArray, List.set_cons_zero, List.set_cons_succ]
  have qa := class_at4 p1 p2 p3
  refine take_at 4 10 (.func (.func 78) #[] #[]) rfl rfl (by kernel_rfl) (by kernel_rfl) (by kernel_rfl) (fun _ _ _ h => h) (Or.inl ⟨by rfl, ?_⟩) hHeld ?_
  · intro w hSw; go_simp
  simp only [List.setIfInBounds_toArray, List.set_cons_zero, List.set_cons_succ]
  clear qa
  refine wpAnyH_ready (rs := [6]) (by kernel_rfl) (by simp) ?_
  refine AllReadyH.cons rfl (fun K hK => ?_) AllReadyH.nil
  go_simp
  refine (operation_c (op := op) b c d e _ HO.out).mono ?_
  rintro e' w3 ⟨rfl, hc3⟩
  refine hK.out _ _ ⟨hHeld.1.trans hc3, hHeld.2.calm hc3⟩ (fun hHeld => ?_)
  clear hK K
  try simp only [List.setIfInBounds_toArray, List.set_cons_zero, List.set_cons_succ]
  refine take_at 7 5 (.tuple #[.int .u8 ((aluP op : Nat) : Int), .bool (aluO op)]) rfl rfl (by kernel_rfl) (by kernel_rfl) (by kernel_rfl) (fun _ _ _ h => h) (Or.inl ⟨by rfl, ?_⟩) hHeld ?_
  · intro w hSw; go_simp
  simp only [List.setIfInBounds_toArray, List.set_cons_zero, List.set_cons_succ]
  refine take_at 8 13 (.int .u8 ((aluP op : Nat) : Int)) rfl rfl (by kernel_rfl) (by kernel_rfl) (by kernel_rfl) (fun _ _ _ h => h) (Or.inl ⟨by rfl, ?_⟩) hHeld ?_
  · intro w hSw; go_simp
  simp only [List.setIfInBounds_toArray, List.set_cons_zero, List.set_cons_succ]
  refine take_at 9 14 (.bool (aluO op)) rfl rfl (by kernel_rfl) (by kernel_rfl) (by kernel_rfl) (fun _ _ _ h => h) (Or.inl ⟨by rfl, ?_⟩) hHeld ?_
  · intro w hSw; go_simp
  simp only [List.setIfInBounds_toArray, List.set_cons_zero, List.set_cons_succ]
  refine wpAnyH_ready (rs := [10]) (by kernel_rfl) (by simp) ?_
  refine AllReadyH.cons rfl (fun K hK => ?_) AllReadyH.nil
  go_simp
  refine hK.out _ _ hHeld (fun hHeld => ?_)
  clear hK K
  try simp only [List.setIfInBounds_toArray, List.set_cons_zero, List.set_cons_succ]
  refine wpAnyH_ready (rs := [11]) (by kernel_rfl) (by simp) ?_
  refine AllReadyH.cons rfl (fun K hK => ?_) AllReadyH.nil
  go_simp
  refine hK.out _ _ hHeld (fun hHeld => ?_)
  clear hK K
  try simp only [List.setIfInBounds_toArray, List.set_cons_zero, List.set_cons_succ]
  refine wpAnyH_done (by kernel_rfl) (NoPanic.normal ?_) _
  obtain ⟨hc4, hb4⟩ := hHeld
  have c0 := hb4.c0
  have c1 := hb4.c1
  have c2 := hb4.c2
  have c3 := hb4.c3
  have c4 := hb4.c4
  have HC4 := Lib.hid hc4
  clear hc4 hb4
  generalize hB : (aluO op) = B
  cases B
  · go_wp2_with fail
    go_ret
    exact ⟨by rw [hB, Bool.false_and]; rfl, HC4.out⟩
  · go_wp2_with fail
    refine (AC.out _).mono ?_
    rintro e' w5 ⟨rfl, hc5⟩
    go_wp2_with fail
    go_ret
    exact ⟨by rw [hB, Bool.true_and]; rfl, HC4.out.trans hc5⟩
set_option maxHeartbeats 1600000 in
theorem known5_c (ho : op < 256) (hk : op % 8 = 5) : Calls Try.prog 50 #[.agg #[.int .u8 (op : Int), .int .u8 (b : Int), .int .u8 (c : Int), .int .i16 d, .int .i32 e]] w fun x w' => x = .returned (.bool (knownO op b c d e)) ∧ Calm w w' := by
  have hkn : knownO op b c d e = ((jmpO op) && allO (jmpP op) op b c d e) := by unfold knownO okO partO; rw [hk]; rfl
  rw [hkn]
  have hlt : (jmpP op) < 16 := by have := partO_lt ⟨op, ho⟩; unfold partO at this; simp only [hk] at this; exact this
  have b1 := (op_bits ⟨op, ho⟩).1
  simp only [hk] at b1
  have b1 : bits .and .u8 (op : Int) 7 = 5 := b1
  have HO := Lib.hid ho
  have AC := Lib.hid (fun w => areAll_c (op := op) b c d e w (jmpP op) hlt)
  have HB : Hid (Box (w.alloc (.cells #[.int .u8 (op : Int), .int .u8 (b : Int), .int .u8 (c : Int), .int .i16 d, .int .i32 e] 34)) w.heap.size op b c d e) := Lib.hid (Box.made w op b c d e)
  have HC : Hid (Calm w (w.alloc (.cells #[.int .u8 (op : Int), .int .u8 (b : Int), .int .u8 (c : Int), .int .i16 d, .int .i32 e] 34))) := Lib.hid ((Keep.refl _ w).alloc _)
  clear hkn hlt hk ho
  go_enter Try.func50, Try.ntmps50
  go_upto_region 1 with fail
  generalize World.alloc w _ = w1 at HB HC ⊢
  generalize w.heap.size = g at HB ⊢
  refine wp_region_noPanic ?_
  refine wp_region_held_drew (S := fun w' => Calm w w' ∧ Box w' g op b c d e) (by kernel_rfl) ⟨HC.out.drew, HB.out.drew⟩ (fun hHeld => ?_)
  refine take_at 1 7 (.pointer (some ⟨g, 0, none⟩)) rfl rfl (by kernel_rfl) (by kernel_rfl) (by kernel_rfl) (fun _ _ _ h => h) (Or.inl ⟨by rfl, ?_⟩) hHeld ?_
  · intro w hSw; go_simp
  simp only [List.setIfInBounds_toArray, List.set_cons_zero, List.set_cons_succ]
  refine take_at 2 8 (.int .u8 (op : Int)) rfl rfl (by kernel_rfl) (by kernel_rfl) (by kernel_rfl) (fun _ _ _ h => h) (Or.inl ⟨by rfl, ?_⟩) hHeld ?_
  · intro w hSw; obtain ⟨-, c0, c1, c2, c3, c4⟩ := hSw; go_simp
  simp only [List.setIfInBounds_toArray, List.set_cons_zero, List.set_cons_succ]
  refine take_at 3 9 (.int .u8 5) rfl rfl (by kernel_rfl) (by kernel_rfl) (by kernel_rfl) (fun _ _ _ h => h) (Or.inl ⟨by rfl, ?_⟩) hHeld ?_
  · intro w hSw; go_simp
  simp only [List.setIfInBounds_toArray, List.set_cons_zero, List.set_cons_succ]
  refine take_at 5 11 (.agg #[.int .u8 (op : Int), .int .u8 (b : Int), .int .u8 (c : Int), .int .i16 d, .int .i32 e]) rfl rfl (by kernel_rfl) (by kernel_rfl) (by kernel_rfl) (fun _ _ _ h => h) (Or.inl ⟨by rfl, ?_⟩) hHeld ?_
  · intro w hSw; obtain ⟨-, c0, c1, c2, c3, c4⟩ := hSw; go_simp
  simp only [List.setIfInBounds_toArray, List.set_cons_zero, List.set_cons_succ]
  refine wpAnyH_ready (rs := [0]) (by kernel_rfl) (by simp) ?_
  refine AllReadyH.cons rfl (fun K hK => ?_) AllReadyH.nil
  go_simp
  refine (classes_c _).mono ?_
  rintro e' w2 ⟨p1, p2, p3, rfl, q1, q2, q3, hc2⟩
  have q1 := Lib.hid q1
  have q2 := Lib.hid q2
  have q3 := Lib.hid q3
  refine hK.out _ _ ⟨hHeld.1.trans hc2, hHeld.2.calm hc2⟩ (fun hHeld => ?_)
  clear hK K
  try simp only [List.setIfInBounds_toArray, List.set_cons_zero, List.set_cons_succ]
  have qa := class_at5 p1 p2 p3
  refine take_at 4 10 (.func (.func 79) #[] #[]) rfl rfl (by kernel_rfl) (by kernel_rfl) (by kernel_rfl) (fun _ _ _ h => h) (Or.inl ⟨by rfl, ?_⟩) hHeld ?_
  · intro w hSw; go_simp
  simp only [List.setIfInBounds_toArray, List.set_cons_zero, List.set_cons_succ]
  clear qa
  refine wpAnyH_ready (rs := [6]) (by kernel_rfl) (by simp) ?_
  refine AllReadyH.cons rfl (fun K hK => ?_) AllReadyH.nil
  go_simp
  refine (jump_c (op := op) b c d e _ HO.out).mono ?_
  rintro e' w3 ⟨rfl, hc3⟩
  refine hK.out _ _ ⟨hHeld.1.trans hc3, hHeld.2.calm hc3⟩ (fun hHeld => ?_)
  clear hK K
  try simp only [List.setIfInBounds_toArray, List.set_cons_zero, List.set_cons_succ]
  refine take_at 7 5 (.tuple #[.int .u8 ((jmpP op : Nat) : Int), .bool (jmpO op)]) rfl rfl (by kernel_rfl) (by kernel_rfl) (by kernel_rfl) (fun _ _ _ h => h) (Or.inl ⟨by rfl, ?_⟩) hHeld ?_
  · intro w hSw; go_simp
  simp only [List.setIfInBounds_toArray, List.set_cons_zero, List.set_cons_succ]
  refine take_at 8 13 (.int .u8 ((jmpP op : Nat) : Int)) rfl rfl (by kernel_rfl) (by kernel_rfl) (by kernel_rfl) (fun _ _ _ h => h) (Or.inl ⟨by rfl, ?_⟩) hHeld ?_
  · intro w hSw; go_simp
  simp only [List.setIfInBounds_toArray, List.set_cons_zero, List.set_cons_succ]
  refine take_at 9 14 (.bool (jmpO op)) rfl rfl (by kernel_rfl) (by kernel_rfl) (by kernel_rfl) (fun _ _ _ h => h) (Or.inl ⟨by rfl, ?_⟩) hHeld ?_
  · intro w hSw; go_simp
  simp only [List.setIfInBounds_toArray, List.set_cons_zero, List.set_cons_succ]
  refine wpAnyH_ready (rs := [10]) (by kernel_rfl) (by simp) ?_
  refine AllReadyH.cons rfl (fun K hK => ?_) AllReadyH.nil
  go_simp
  refine hK.out _ _ hHeld (fun hHeld => ?_)
  clear hK K
  try simp only [List.setIfInBounds_toArray, List.set_cons_zero, List.set_cons_succ]
  refine wpAnyH_ready (rs := [11]) (by kernel_rfl) (by simp) ?_
  refine AllReadyH.cons rfl (fun K hK => ?_) AllReadyH.nil
  go_simp
  refine hK.out _ _ hHeld (fun hHeld => ?_)
  clear hK K
  try simp only [List.setIfInBounds_toArray, List.set_cons_zero, List.set_cons_succ]
  refine wpAnyH_done (by kernel_rfl) (NoPanic.normal ?_) _
  obtain ⟨hc4, hb4⟩ := hHeld
  have c0 := hb4.c0
  have c1 := hb4.c1
  have c2 := hb4.c2
  have c3 := hb4.c3
  have c4 := hb4.c4
  have HC4 := Lib.hid hc4
  clear hc4 hb4
  generalize hB : (jmpO op) = B
  cases B
  · go_wp2_with fail
    go_ret
    exact ⟨by rw [hB, Bool.false_and]; rfl, HC4.out⟩
  · go_wp2_with fail
    refine (AC.out _).mono ?_
    rintro e' w5 ⟨rfl, hc5⟩
    go_wp2_with fail
    go_ret
    exact ⟨by rw [hB, Bool.true_and]; rfl, HC4.out.trans hc5⟩
set_option maxHeartbeats 1600000 in
theorem known6_c (ho : op < 256) (hk : op % 8 = 6) : Calls Try.prog 50 #[.agg #[.int .u8 (op : Int), .int .u8 (b : Int), .int .u8 (c : Int), .int .i16 d, .int .i32 e]] w fun x w' => x = .returned (.bool (knownO op b c d e)) ∧ Calm w w' := by
  have hkn : knownO op b c d e = ((cmpO op) && allO (brP op) op b c d e) := by unfold knownO okO partO; rw [hk]; rfl
  rw [hkn]
  have hlt : (brP op) < 16 := by have := partO_lt ⟨op, ho⟩; unfold partO at this; simp only [hk] at this; exact this
  have b1 := (op_bits ⟨op, ho⟩).1
  simp only [hk] at b1
  have b1 : bits .and .u8 (op : Int) 7 = 6 := b1
  have HO := Lib.hid ho
  have AC := Lib.hid (fun w => areAll_c (op := op) b c d e w (brP op) hlt)
  have HB : Hid (Box (w.alloc (.cells #[.int .u8 (op : Int), .int .u8 (b : Int), .int .u8 (c : Int), .int .i16 d, .int .i32 e] 34)) w.heap.size op b c d e) := Lib.hid (Box.made w op b c d e)
  have HC : Hid (Calm w (w.alloc (.cells #[.int .u8 (op : Int), .int .u8 (b : Int), .int .u8 (c : Int), .int .i16 d, .int .i32 e] 34))) := Lib.hid ((Keep.refl _ w).alloc _)
  clear hkn hlt hk ho
  go_enter Try.func50, Try.ntmps50
  go_upto_region 1 with fail
  generalize World.alloc w _ = w1 at HB HC ⊢
  generalize w.heap.size = g at HB ⊢
  refine wp_region_noPanic ?_
  refine wp_region_held_drew (S := fun w' => Calm w w' ∧ Box w' g op b c d e) (by kernel_rfl) ⟨HC.out.drew, HB.out.drew⟩ (fun hHeld => ?_)
  refine take_at 1 7 (.pointer (some ⟨g, 0, none⟩)) rfl rfl (by kernel_rfl) (by kernel_rfl) (by kernel_rfl) (fun _ _ _ h => h) (Or.inl ⟨by rfl, ?_⟩) hHeld ?_
  · intro w hSw; go_simp
  simp only [List.setIfInBounds_toArray, List.set_cons_zero, List.set_cons_succ]
  refine take_at 2 8 (.int .u8 (op : Int)) rfl rfl (by kernel_rfl) (by kernel_rfl) (by kernel_rfl) (fun _ _ _ h => h) (Or.inl ⟨by rfl, ?_⟩) hHeld ?_
  · intro w hSw; obtain ⟨-, c0, c1, c2, c3, c4⟩ := hSw; go_simp
  simp only [List.setIfInBounds_toArray, List.set_cons_zero, List.set_cons_succ]
  refine take_at 3 9 (.int .u8 6) rfl rfl (by kernel_rfl) (by kernel_rfl) (by kernel_rfl) (fun _ _ _ h => h) (Or.inl ⟨by rfl, ?_⟩) hHeld ?_
  · intro w hSw; go_simp
  simp only [List.setIfInBounds_toArray, List.set_cons_zero, List.set_cons_succ]
  refine take_at 5 11 (.agg #[.int .u8 (op : Int), .int .u8 (b : Int), .int .u8 (c : Int), .int .i16 d, .int .i32 e]) rfl rfl (by kernel_rfl) (by kernel_rfl) (by kernel_rfl) (fun _ _ _ h => h) (Or.inl ⟨by rfl, ?_⟩) hHeld ?_
  · intro w hSw; obtain ⟨-, c0, c1, c2, c3, c4⟩ := hSw; go_simp
  simp only [List.setIfInBounds_toArray, List.set_cons_zero, List.set_cons_succ]
  refine wpAnyH_ready (rs := [0]) (by kernel_rfl) (by simp) ?_
  refine AllReadyH.cons rfl (fun K hK => ?_) AllReadyH.nil
  go_simp
  refine (classes_c _).mono ?_
  rintro e' w2 ⟨p1, p2, p3, rfl, q1, q2, q3, hc2⟩
  have q1 := Lib.hid q1
  have q2 := Lib.hid q2
  have q3 := Lib.hid q3
  refine hK.out _ _ ⟨hHeld.1.trans hc2, hHeld.2.calm hc2⟩ (fun hHeld => ?_)
  clear hK K
  try simp only [List.setIfInBounds_toArray, List.set_cons_zero, List.set_cons_succ]
  have qa := class_at6 p1 p2 p3
  refine take_at 4 10 (.func (.func 80) #[] #[]) rfl rfl (by kernel_rfl) (by kernel_rfl) (by kernel_rfl) (fun _ _ _ h => h) (Or.inl ⟨by rfl, ?_⟩) hHeld ?_
  · intro w hSw; go_simp
  simp only [List.setIfInBounds_toArray, List.set_cons_zero, List.set_cons_succ]
  clear qa
  refine wpAnyH_ready (rs := [6]) (by kernel_rfl) (by simp) ?_
  refine AllReadyH.cons rfl (fun K hK => ?_) AllReadyH.nil
  go_simp
  refine (branch_c (op := op) b c d e _ HO.out).mono ?_
  rintro e' w3 ⟨rfl, hc3⟩
  refine hK.out _ _ ⟨hHeld.1.trans hc3, hHeld.2.calm hc3⟩ (fun hHeld => ?_)
  clear hK K
  try simp only [List.setIfInBounds_toArray, List.set_cons_zero, List.set_cons_succ]
  refine take_at 7 5 (.tuple #[.int .u8 ((brP op : Nat) : Int), .bool (cmpO op)]) rfl rfl (by kernel_rfl) (by kernel_rfl) (by kernel_rfl) (fun _ _ _ h => h) (Or.inl ⟨by rfl, ?_⟩) hHeld ?_
  · intro w hSw; go_simp
  simp only [List.setIfInBounds_toArray, List.set_cons_zero, List.set_cons_succ]
  refine take_at 8 13 (.int .u8 ((brP op : Nat) : Int)) rfl rfl (by kernel_rfl) (by kernel_rfl) (by kernel_rfl) (fun _ _ _ h => h) (Or.inl ⟨by rfl, ?_⟩) hHeld ?_
  · intro w hSw; go_simp
  simp only [List.setIfInBounds_toArray, List.set_cons_zero, List.set_cons_succ]
  refine take_at 9 14 (.bool (cmpO op)) rfl rfl (by kernel_rfl) (by kernel_rfl) (by kernel_rfl) (fun _ _ _ h => h) (Or.inl ⟨by rfl, ?_⟩) hHeld ?_
  · intro w hSw; go_simp
  simp only [List.setIfInBounds_toArray, List.set_cons_zero, List.set_cons_succ]
  refine wpAnyH_ready (rs := [10]) (by kernel_rfl) (by simp) ?_
  refine AllReadyH.cons rfl (fun K hK => ?_) AllReadyH.nil
  go_simp
  refine hK.out _ _ hHeld (fun hHeld => ?_)
  clear hK K
  try simp only [List.setIfInBounds_toArray, List.set_cons_zero, List.set_cons_succ]
  refine wpAnyH_ready (rs := [11]) (by kernel_rfl) (by simp) ?_
  refine AllReadyH.cons rfl (fun K hK => ?_) AllReadyH.nil
  go_simp
  refine hK.out _ _ hHeld (fun hHeld => ?_)
  clear hK K
  try simp only [List.setIfInBounds_toArray, List.set_cons_zero, List.set_cons_succ]
  refine wpAnyH_done (by kernel_rfl) (NoPanic.normal ?_) _
  obtain ⟨hc4, hb4⟩ := hHeld
  have c0 := hb4.c0
  have c1 := hb4.c1
  have c2 := hb4.c2
  have c3 := hb4.c3
  have c4 := hb4.c4
  have HC4 := Lib.hid hc4
  clear hc4 hb4
  generalize hB : (cmpO op) = B
  cases B
  · go_wp2_with fail
    go_ret
    exact ⟨by rw [hB, Bool.false_and]; rfl, HC4.out⟩
  · go_wp2_with fail
    refine (AC.out _).mono ?_
    rintro e' w5 ⟨rfl, hc5⟩
    go_wp2_with fail
    go_ret
    exact ⟨by rw [hB, Bool.true_and]; rfl, HC4.out.trans hc5⟩
set_option maxHeartbeats 1600000 in
theorem known7_c (ho : op < 256) (hk : op % 8 = 7) : Calls Try.prog 50 #[.agg #[.int .u8 (op : Int), .int .u8 (b : Int), .int .u8 (c : Int), .int .i16 d, .int .i32 e]] w fun x w' => x = .returned (.bool (knownO op b c d e)) ∧ Calm w w' := by
  have hkn : knownO op b c d e = ((aluO op) && allO (aluP op) op b c d e) := by unfold knownO okO partO; rw [hk]; rfl
  rw [hkn]
  have hlt : (aluP op) < 16 := by have := partO_lt ⟨op, ho⟩; unfold partO at this; simp only [hk] at this; exact this
  have b1 := (op_bits ⟨op, ho⟩).1
  simp only [hk] at b1
  have b1 : bits .and .u8 (op : Int) 7 = 7 := b1
  have HO := Lib.hid ho
  have AC := Lib.hid (fun w => areAll_c (op := op) b c d e w (aluP op) hlt)
  have HB : Hid (Box (w.alloc (.cells #[.int .u8 (op : Int), .int .u8 (b : Int), .int .u8 (c : Int), .int .i16 d, .int .i32 e] 34)) w.heap.size op b c d e) := Lib.hid (Box.made w op b c d e)
  have HC : Hid (Calm w (w.alloc (.cells #[.int .u8 (op : Int), .int .u8 (b : Int), .int .u8 (c : Int), .int .i16 d, .int .i32 e] 34))) := Lib.hid ((Keep.refl _ w).alloc _)
  clear hkn hlt hk ho
  go_enter Try.func50, Try.ntmps50
  go_upto_region 1 with fail
  generalize World.alloc w _ = w1 at HB HC ⊢
  generalize w.heap.size = g at HB ⊢
  refine wp_region_noPanic ?_
  refine wp_region_held_drew (S := fun w' => Calm w w' ∧ Box w' g op b c d e) (by kernel_rfl) ⟨HC.out.drew, HB.out.drew⟩ (fun hHeld => ?_)
  refine take_at 1 7 (.pointer (some ⟨g, 0, none⟩)) rfl rfl (by kernel_rfl) (by kernel_rfl) (by kernel_rfl) (fun _ _ _ h => h) (Or.inl ⟨by rfl, ?_⟩) hHeld ?_
  · intro w hSw; go_simp
  simp only [List.setIfInBounds_toArray, List.set_cons_zero, List.set_cons_succ]
  refine take_at 2 8 (.int .u8 (op : Int)) rfl rfl (by kernel_rfl) (by kernel_rfl) (by kernel_rfl) (fun _ _ _ h => h) (Or.inl ⟨by rfl, ?_⟩) hHeld ?_
  · intro w hSw; obtain ⟨-, c0, c1, c2, c3, c4⟩ := hSw; go_simp
  simp only [List.setIfInBounds_toArray, List.set_cons_zero, List.set_cons_succ]
  refine take_at 3 9 (.int .u8 7) rfl rfl (by kernel_rfl) (by kernel_rfl) (by kernel_rfl) (fun _ _ _ h => h) (Or.inl ⟨by rfl, ?_⟩) hHeld ?_
  · intro w hSw; go_simp
  simp only [List.setIfInBounds_toArray, List.set_cons_zero, List.set_cons_succ]
  refine take_at 5 11 (.agg #[.int .u8 (op : Int), .int .u8 (b : Int), .int .u8 (c : Int), .int .i16 d, .int .i32 e]) rfl rfl (by kernel_rfl) (by kernel_rfl) (by kernel_rfl) (fun _ _ _ h => h) (Or.inl ⟨by rfl, ?_⟩) hHeld ?_
  · intro w hSw; obtain ⟨-, c0, c1, c2, c3, c4⟩ := hSw; go_simp
  simp only [List.setIfInBounds_toArray, List.set_cons_zero, List.set_cons_succ]
  refine wpAnyH_ready (rs := [0]) (by kernel_rfl) (by simp) ?_
  refine AllReadyH.cons rfl (fun K hK => ?_) AllReadyH.nil
  go_simp
  refine (classes_c _).mono ?_
  rintro e' w2 ⟨p1, p2, p3, rfl, q1, q2, q3, hc2⟩
  have q1 := Lib.hid q1
  have q2 := Lib.hid q2
  have q3 := Lib.hid q3
  refine hK.out _ _ ⟨hHeld.1.trans hc2, hHeld.2.calm hc2⟩ (fun hHeld => ?_)
  clear hK K
  try simp only [List.setIfInBounds_toArray, List.set_cons_zero, List.set_cons_succ]
  have qa := class_at7 p1 p2 p3
  refine take_at 4 10 (.func (.func 78) #[] #[]) rfl rfl (by kernel_rfl) (by kernel_rfl) (by kernel_rfl) (fun _ _ _ h => h) (Or.inl ⟨by rfl, ?_⟩) hHeld ?_
  · intro w hSw; go_simp
  simp only [List.setIfInBounds_toArray, List.set_cons_zero, List.set_cons_succ]
  clear qa
  refine wpAnyH_ready (rs := [6]) (by kernel_rfl) (by simp) ?_
  refine AllReadyH.cons rfl (fun K hK => ?_) AllReadyH.nil
  go_simp
  refine (operation_c (op := op) b c d e _ HO.out).mono ?_
  rintro e' w3 ⟨rfl, hc3⟩
  refine hK.out _ _ ⟨hHeld.1.trans hc3, hHeld.2.calm hc3⟩ (fun hHeld => ?_)
  clear hK K
  try simp only [List.setIfInBounds_toArray, List.set_cons_zero, List.set_cons_succ]
  refine take_at 7 5 (.tuple #[.int .u8 ((aluP op : Nat) : Int), .bool (aluO op)]) rfl rfl (by kernel_rfl) (by kernel_rfl) (by kernel_rfl) (fun _ _ _ h => h) (Or.inl ⟨by rfl, ?_⟩) hHeld ?_
  · intro w hSw; go_simp
  simp only [List.setIfInBounds_toArray, List.set_cons_zero, List.set_cons_succ]
  refine take_at 8 13 (.int .u8 ((aluP op : Nat) : Int)) rfl rfl (by kernel_rfl) (by kernel_rfl) (by kernel_rfl) (fun _ _ _ h => h) (Or.inl ⟨by rfl, ?_⟩) hHeld ?_
  · intro w hSw; go_simp
  simp only [List.setIfInBounds_toArray, List.set_cons_zero, List.set_cons_succ]
  refine take_at 9 14 (.bool (aluO op)) rfl rfl (by kernel_rfl) (by kernel_rfl) (by kernel_rfl) (fun _ _ _ h => h) (Or.inl ⟨by rfl, ?_⟩) hHeld ?_
  · intro w hSw; go_simp
  simp only [List.setIfInBounds_toArray, List.set_cons_zero, List.set_cons_succ]
  refine wpAnyH_ready (rs := [10]) (by kernel_rfl) (by simp) ?_
  refine AllReadyH.cons rfl (fun K hK => ?_) AllReadyH.nil
  go_simp
  refine hK.out _ _ hHeld (fun hHeld => ?_)
  clear hK K
  try simp only [List.setIfInBounds_toArray, List.set_cons_zero, List.set_cons_succ]
  refine wpAnyH_ready (rs := [11]) (by kernel_rfl) (by simp) ?_
  refine AllReadyH.cons rfl (fun K hK => ?_) AllReadyH.nil
  go_simp
  refine hK.out _ _ hHeld (fun hHeld => ?_)
  clear hK K
  try simp only [List.setIfInBounds_toArray, List.set_cons_zero, List.set_cons_succ]
  refine wpAnyH_done (by kernel_rfl) (NoPanic.normal ?_) _
  obtain ⟨hc4, hb4⟩ := hHeld
  have c0 := hb4.c0
  have c1 := hb4.c1
  have c2 := hb4.c2
  have c3 := hb4.c3
  have c4 := hb4.c4
  have HC4 := Lib.hid hc4
  clear hc4 hb4
  generalize hB : (aluO op) = B
  cases B
  · go_wp2_with fail
    go_ret
    exact ⟨by rw [hB, Bool.false_and]; rfl, HC4.out⟩
  · go_wp2_with fail
    refine (AC.out _).mono ?_
    rintro e' w5 ⟨rfl, hc5⟩
    go_wp2_with fail
    go_ret
    exact ⟨by rw [hB, Bool.true_and]; rfl, HC4.out.trans hc5⟩
theorem known_c (ho : op < 256) : Calls Try.prog 50 #[.agg #[.int .u8 (op : Int), .int .u8 (b : Int), .int .u8 (c : Int), .int .i16 d, .int .i32 e]] w fun x w' => x = .returned (.bool (knownO op b c d e)) ∧ Calm w w' := by
  rcases seven op with h | h | h | h | h | h | h | h
  · exact known0_c b c d e w ho h
  · exact known1_c b c d e w ho h
  · exact known2_c b c d e w ho h
  · exact known3_c b c d e w ho h
  · exact known4_c b c d e w ho h
  · exact known5_c b c d e w ho h
  · exact known6_c b c d e w ho h
  · exact known7_c b c d e w ho h
end
end Go.Proofs.Ythmiiddojccafaa
