/-
  Package isa: what each class tells: jump, operation, memory, wide; classes.
-/
import Derived.Test.YthmiiddojccafaaI1
namespace Go.Proofs.Ythmiiddojccafaa
open Go.RowKit
set_option linter.all false

/-- The cells of an instruction that lies in a block of its own. -/
structure Box (w : World) (g : Nat) (op b c : Nat) (d e : Int) : Prop where
  c0 : w.cell? ⟨g, 0, none⟩ = some (.int .u8 (op : Int))
  c1 : w.cell? ⟨g, 1, none⟩ = some (.int .u8 (b : Int))
  c2 : w.cell? ⟨g, 2, none⟩ = some (.int .u8 (c : Int))
  c3 : w.cell? ⟨g, 3, none⟩ = some (.int .i16 d)
  c4 : w.cell? ⟨g, 4, none⟩ = some (.int .i32 e)
theorem Box.calm {w w' : World} {g op b c : Nat} {d e : Int} (h : Box w g op b c d e) (hc : Calm w w') : Box w' g op b c d e := by
  have hl := World.block_lt_of_cell? _ _ h.c0
  exact ⟨(hc.cell (p := ⟨g, 0, none⟩) hl (fun e => e)).trans h.c0, (hc.cell (p := ⟨g, 1, none⟩) hl (fun e => e)).trans h.c1, (hc.cell (p := ⟨g, 2, none⟩) hl (fun e => e)).trans h.c2, (hc.cell (p := ⟨g, 3, none⟩) hl (fun e => e)).trans h.c3, (hc.cell (p := ⟨g, 4, none⟩) hl (fun e => e)).trans h.c4⟩
theorem Box.drew {w : World} {g op b c : Nat} {d e : Int} (h : Box w g op b c d e) : Box w.drew g op b c d e := ⟨h.c0, h.c1, h.c2, h.c3, h.c4⟩
theorem Box.made (w : World) (op b c : Nat) (d e : Int) : Box (w.alloc (.cells #[.int .u8 (op : Int), .int .u8 (b : Int), .int .u8 (c : Int), .int .i16 d, .int .i32 e] 34)) w.heap.size op b c d e := by
  have h := Row.made w 34 #[.int .u8 (op : Int), .int .u8 (b : Int), .int .u8 (c : Int), .int .i16 d, .int .i32 e]
  exact ⟨h.cell 0, h.cell 1, h.cell 2, h.cell 3, h.cell 4⟩

section
variable {op : Nat} (b c : Nat) (d e : Int) (w : World)
theorem jump_c (ho : op < 256) : Calls Try.prog 79 #[.agg #[.int .u8 (op : Int), .int .u8 (b : Int), .int .u8 (c : Int), .int .i16 d, .int .i32 e]] w fun x w' => x = .returned (.tuple #[.int .u8 (jmpP op : Int), .bool (jmpO op)]) ∧ Calm w w' := by
  have BC := Lib.hid (fun w => branch_c (op := op) b c d e w ho)
  unfold jmpP jmpO
  rcases Nat.decEq op 5 with h1 | h1
  · rcases Nat.decEq op 133 with h2 | h2
    · rcases Nat.decEq op 149 with h3 | h3
      · have i1 : ((op : Int) == 5) = false := by rw [beq_eq_false_iff_ne]; omega
        have i2 : ((op : Int) == 133) = false := by rw [beq_eq_false_iff_ne]; omega
        have i3 : ((op : Int) == 149) = false := by rw [beq_eq_false_iff_ne]; omega
        rw [if_neg h1, if_neg h2, if_neg h3, if_neg h1, if_neg h2, if_neg h3]
        go_enter Try.func79, Try.ntmps79
        go_wp2_with fail
        refine (BC.out _).mono ?_
        rintro e' w1 ⟨rfl, hc1⟩
        go_wp2_with fail
        go_ret2
        exact ⟨rfl, ((Keep.refl _ w).alloc _).trans hc1⟩
      · subst h3
        go_enter Try.func79, Try.ntmps79
        go_wp2_with fail
        go_ret2
        exact ⟨rfl, (Keep.refl _ w).alloc _⟩
    · subst h2
      go_enter Try.func79, Try.ntmps79
      go_wp2_with fail
      go_ret2
      exact ⟨rfl, (Keep.refl _ w).alloc _⟩
  · subst h1
    go_enter Try.func79, Try.ntmps79
    go_wp2_with fail
    go_ret2
    exact ⟨rfl, (Keep.refl _ w).alloc _⟩
theorem operation_c (ho : op < 256) : Calls Try.prog 78 #[.agg #[.int .u8 (op : Int), .int .u8 (b : Int), .int .u8 (c : Int), .int .i16 d, .int .i32 e]] w fun x w' => x = .returned (.tuple #[.int .u8 (aluP op : Int), .bool (aluO op)]) ∧ Calm w w' := by
  have SC := Lib.hid (fun w => second_c (op := op) b c d e w ho)
  have hb := op_bits ⟨op, ho⟩
  have b1 := hb.2.1
  have b2 := hb.2.2.1
  simp only at b1 b2
  clear hb
  by_cases h : op / 16 = 8
  · have r1 : ((aluP op : Nat) : Int) = 1 := by unfold aluP; rw [if_pos h]; rfl
    have r2 : aluO op = decide (op / 8 % 2 = 0) := by unfold aluO; rw [if_pos h]
    rw [r1, r2]
    rw [h] at b2
    have b2 : bits .and .u8 (op : Int) 240 = 128 := b2
    rcases Nat.lt_or_ge (op / 8 % 2) 1 with h0 | h0
    · have h0 : op / 8 % 2 = 0 := by omega
      rw [h0] at b1 ⊢
      have b1 : bits .and .u8 (op : Int) 8 = 0 := b1
      go_enter Try.func78, Try.ntmps78
      go_wp2_with fail
      go_quiet (fail)
      go_wp2_with fail
      go_ret2
      exact ⟨rfl, ((Keep.refl _ w).alloc _).drewN _⟩
    · have h0 : op / 8 % 2 = 1 := by omega
      rw [h0] at b1 ⊢
      have b1 : bits .and .u8 (op : Int) 8 = 8 := b1
      go_enter Try.func78, Try.ntmps78
      go_wp2_with fail
      go_quiet (fail)
      go_wp2_with fail
      go_ret2
      exact ⟨rfl, ((Keep.refl _ w).alloc _).drewN _⟩
  · have r1 : ((aluP op : Nat) : Int) = ((1 + secO op : Nat) : Int) := by unfold aluP; rw [if_neg h]
    have r2 : aluO op = decide (((op / 16 * 16 : Nat) : Int) ≤ 192) := by unfold aluO; rw [if_neg h]; exact decide_eq_decide.2 (by omega)
    rw [r1, r2]
    have i1 : (((op / 16 * 16 : Nat) : Int) == 128) = false := by rw [beq_eq_false_iff_ne]; omega
    obtain ⟨o1, -⟩ := sec_or op
    generalize ((op / 16 * 16 : Nat) : Int) = x at b2 i1 ⊢
    have HB : Hid (Box (w.alloc (.cells #[.int .u8 (op : Int), .int .u8 (b : Int), .int .u8 (c : Int), .int .i16 d, .int .i32 e] 34)) w.heap.size op b c d e) := Lib.hid (Box.made w op b c d e)
    have HC : Hid (Calm w (w.alloc (.cells #[.int .u8 (op : Int), .int .u8 (b : Int), .int .u8 (c : Int), .int .i16 d, .int .i32 e] 34))) := Lib.hid ((Keep.refl _ w).alloc _)
    go_enter Try.func78, Try.ntmps78
    go_upto_region 3 with fail
    generalize World.alloc w _ = w1 at HB HC ⊢
    generalize w.heap.size = g at HB ⊢
    refine wp_region_noPanic ?_
    refine wp_region_held_drew (S := fun w' => Calm w w' ∧ Box w' g op b c d e) (by kernel_rfl) ⟨HC.out.drew, HB.out.drew⟩ (fun hHeld => ?_)
    refine take_at 0 12 (.agg #[.int .u8 (op : Int), .int .u8 (b : Int), .int .u8 (c : Int), .int .i16 d, .int .i32 e]) rfl rfl (by kernel_rfl) (by kernel_rfl) (by kernel_rfl) (fun _ _ _ h => h) (Or.inl ⟨by rfl, ?_⟩) hHeld ?_
    · intro w hSw; obtain ⟨-, c0, c1, c2, c3, c4⟩ := hSw; go_simp
    simp only [List.setIfInBounds_toArray, List.set_cons_zero, List.set_cons_succ]
    refine take_at 3 15 (.pointer (some ⟨g, 0, none⟩)) rfl rfl (by kernel_rfl) (by kernel_rfl) (by kernel_rfl) (fun _ _ _ h => h) (Or.inl ⟨by rfl, ?_⟩) hHeld ?_
    · intro w hSw; go_simp
    simp only [List.setIfInBounds_toArray, List.set_cons_zero, List.set_cons_succ]
    refine take_at 4 16 (.int .u8 (op : Int)) rfl rfl (by kernel_rfl) (by kernel_rfl) (by kernel_rfl) (fun _ _ _ h => h) (Or.inl ⟨by rfl, ?_⟩) hHeld ?_
    · intro w hSw; obtain ⟨-, c0, c1, c2, c3, c4⟩ := hSw; go_simp
    simp only [List.setIfInBounds_toArray, List.set_cons_zero, List.set_cons_succ]
    refine take_at 5 17 (.int .u8 x) rfl rfl (by kernel_rfl) (by kernel_rfl) (by kernel_rfl) (fun _ _ _ h => h) (Or.inl ⟨by rfl, ?_⟩) hHeld ?_
    · intro w hSw; go_simp
    simp only [List.setIfInBounds_toArray, List.set_cons_zero, List.set_cons_succ]
    refine take_at 6 18 (.bool (decide (x ≤ 192))) rfl rfl (by kernel_rfl) (by kernel_rfl) (by kernel_rfl) (fun _ _ _ h => h) (Or.inl ⟨by rfl, ?_⟩) hHeld ?_
    · intro w hSw; go_simp
    simp only [List.setIfInBounds_toArray, List.set_cons_zero, List.set_cons_succ]
    refine wpAnyH_ready (rs := [1]) (by kernel_rfl) (by simp) ?_
    refine AllReadyH.cons rfl (fun K hK => ?_) AllReadyH.nil
    go_simp
    refine (SC.out _).mono ?_
    rintro e' w2 ⟨rfl, hc2⟩
    refine hK.out _ _ ⟨hHeld.1.trans hc2, hHeld.2.calm hc2⟩ (fun hHeld => ?_)
    clear hK K
    try simp only [List.setIfInBounds_toArray, List.set_cons_zero, List.set_cons_succ]
    refine take_at 2 14 (.int .u8 ((1 + secO op : Nat) : Int)) rfl rfl (by kernel_rfl) (by kernel_rfl) (by kernel_rfl) (fun _ _ _ h => h) (Or.inl ⟨by rfl, ?_⟩) hHeld ?_
    · intro w hSw; go_simp
    simp only [List.setIfInBounds_toArray, List.set_cons_zero, List.set_cons_succ]
    refine wpAnyH_ready (rs := [7]) (by kernel_rfl) (by simp) ?_
    refine AllReadyH.cons rfl (fun K hK => ?_) AllReadyH.nil
    go_simp
    refine hK.out _ _ hHeld (fun hHeld => ?_)
    clear hK K
    try simp only [List.setIfInBounds_toArray, List.set_cons_zero, List.set_cons_succ]
    refine wpAnyH_ready (rs := [8]) (by kernel_rfl) (by simp) ?_
    refine AllReadyH.cons rfl (fun K hK => ?_) AllReadyH.nil
    go_simp
    refine hK.out _ _ hHeld (fun hHeld => ?_)
    clear hK K
    try simp only [List.setIfInBounds_toArray, List.set_cons_zero, List.set_cons_succ]
    refine wpAnyH_done (by kernel_rfl) (NoPanic.normal ?_) _
    go_wp2_with fail
    go_ret2
    exact ⟨rfl, hHeld.1⟩
theorem mem_c (ho : op < 256) (has : Nat) (p : Addr) (hp : w.cell? p = some (.int .u8 (has : Int))) : Calls Try.prog 77 #[.agg #[.int .u8 (op : Int), .int .u8 (b : Int), .int .u8 (c : Int), .int .i16 d, .int .i32 e], .pointer (some p)] w fun x w' => x = .returned (.tuple #[.int .u8 (has : Int), .bool (memO op)]) ∧ Calm w w' := by
  have hb := op_bits ⟨op, ho⟩
  have b1 := hb.2.2.2.1
  simp only at b1
  clear hb
  have hl := World.block_lt_of_cell? _ _ hp
  have q : ∀ o : Obj, (w.alloc o).cell? p = some (.int .u8 (has : Int)) := fun o => (World.cell?_alloc_lt w o p hl).trans hp
  have r2 : memO op = (((op / 32 * 32 : Nat) : Int) == 96) := by
    unfold memO
    by_cases h : op / 32 = 3
    · rw [h]; rfl
    · have : ¬ (((op / 32 * 32 : Nat) : Int) = 96) := by omega
      rw [decide_eq_false h, beq_eq_false_iff_ne.2 this]
  rw [r2]
  generalize ((op / 32 * 32 : Nat) : Int) = x at b1 ⊢
  clear hp
  go_enter Try.func77, Try.ntmps77
  go_wp2_with fail
  go_quiet (fail)
  go_wp2_with fail
  go_ret2
  exact ⟨rfl, ((Keep.refl _ w).alloc _).drewN _⟩
theorem wideC_c : Calls Try.prog 75 #[.agg #[.int .u8 (op : Int), .int .u8 (b : Int), .int .u8 (c : Int), .int .i16 d, .int .i32 e]] w fun x w' => x = .returned (.tuple #[.int .u8 11, .bool (decide (op = 24) && decide (c ≤ 1))]) ∧ Calm w w' := by
  have SC := Lib.hid (fun w => wide_c (op := op) b c d e w)
  have HB : Hid (Box (w.alloc (.cells #[.int .u8 (op : Int), .int .u8 (b : Int), .int .u8 (c : Int), .int .i16 d, .int .i32 e] 34)) w.heap.size op b c d e) := Lib.hid (Box.made w op b c d e)
  have HC : Hid (Calm w (w.alloc (.cells #[.int .u8 (op : Int), .int .u8 (b : Int), .int .u8 (c : Int), .int .i16 d, .int .i32 e] 34))) := Lib.hid ((Keep.refl _ w).alloc _)
  rcases Nat.decEq op 24 with h | h
  · have hd : decide (op = 24) = false := decide_eq_false h
    rw [hd] at SC ⊢
    clear h hd
    go_enter Try.func75, Try.ntmps75
    go_upto_region 1 with fail
    generalize World.alloc w _ = w1 at HB HC ⊢
    generalize w.heap.size = g at HB ⊢
    refine wp_region_noPanic ?_
    refine wp_region_held_drew (S := fun w' => Calm w w' ∧ Box w' g op b c d e) (by kernel_rfl) ⟨HC.out.drew, HB.out.drew⟩ (fun hHeld => ?_)
    refine take_at 0 4 (.agg #[.int .u8 (op : Int), .int .u8 (b : Int), .int .u8 (c : Int), .int .i16 d, .int .i32 e]) rfl rfl (by kernel_rfl) (by kernel_rfl) (by kernel_rfl) (fun _ _ _ h => h) (Or.inl ⟨by rfl, ?_⟩) hHeld ?_
    · intro w hSw; obtain ⟨-, c0, c1, c2, c3, c4⟩ := hSw; go_simp
    simp only [List.setIfInBounds_toArray, List.set_cons_zero, List.set_cons_succ]
    refine wpAnyH_ready (rs := [1]) (by kernel_rfl) (by simp) ?_
    refine AllReadyH.cons rfl (fun K hK => ?_) AllReadyH.nil
    go_simp
    refine (SC.out _).mono ?_
    rintro e' w2 ⟨rfl, hc2⟩
    refine hK.out _ _ ⟨hHeld.1.trans hc2, hHeld.2.calm hc2⟩ (fun hHeld => ?_)
    clear hK K
    try simp only [List.setIfInBounds_toArray, List.set_cons_zero, List.set_cons_succ]
    refine take_at 2 6 (.bool false) rfl rfl (by kernel_rfl) (by kernel_rfl) (by kernel_rfl) (fun _ _ _ h => h) (Or.inl ⟨by rfl, ?_⟩) hHeld ?_
    · intro w hSw; go_simp
    simp only [List.setIfInBounds_toArray, List.set_cons_zero, List.set_cons_succ]
    refine take_at 3 7 (undef) rfl rfl (by kernel_rfl) (by kernel_rfl) (by kernel_rfl) (fun _ _ _ h => h) (Or.inr ⟨by rfl, rfl⟩) hHeld ?_
    simp only [List.setIfInBounds_toArray, List.set_cons_zero, List.set_cons_succ]
    refine take_at 4 8 (undef) rfl rfl (by kernel_rfl) (by kernel_rfl) (by kernel_rfl) (fun _ _ _ h => h) (Or.inr ⟨by rfl, rfl⟩) hHeld ?_
    simp only [List.setIfInBounds_toArray, List.set_cons_zero, List.set_cons_succ]
    refine take_at 5 9 (undef) rfl rfl (by kernel_rfl) (by kernel_rfl) (by kernel_rfl) (fun _ _ _ h => h) (Or.inr ⟨by rfl, rfl⟩) hHeld ?_
    simp only [List.setIfInBounds_toArray, List.set_cons_zero, List.set_cons_succ]
    refine take_at 6 10 (.bool false) rfl rfl (by kernel_rfl) (by kernel_rfl) (by kernel_rfl) (fun _ _ _ h => h) (Or.inl ⟨by rfl, ?_⟩) hHeld ?_
    · intro w hSw; go_simp
    simp only [List.setIfInBounds_toArray, List.set_cons_zero, List.set_cons_succ]
    refine wpAnyH_ready (rs := [7]) (by kernel_rfl) (by simp) ?_
    refine AllReadyH.cons rfl (fun K hK => ?_) AllReadyH.nil
    go_simp
    refine hK.out _ _ hHeld (fun hHeld => ?_)
    clear hK K
    try simp only [List.setIfInBounds_toArray, List.set_cons_zero, List.set_cons_succ]
    refine wpAnyH_ready (rs := [8]) (by kernel_rfl) (by simp) ?_
    refine AllReadyH.cons rfl (fun K hK => ?_) AllReadyH.nil
    go_simp
    refine hK.out _ _ hHeld (fun hHeld => ?_)
    clear hK K
    try simp only [List.setIfInBounds_toArray, List.set_cons_zero, List.set_cons_succ]
    refine wpAnyH_done (by kernel_rfl) (NoPanic.normal ?_) _
    go_wp2_with fail
    go_ret2
    exact ⟨rfl, hHeld.1⟩
  · have hd : decide (op = 24) = true := decide_eq_true h
    rw [hd] at SC ⊢
    clear h hd
    go_enter Try.func75, Try.ntmps75
    go_upto_region 1 with fail
    generalize World.alloc w _ = w1 at HB HC ⊢
    generalize w.heap.size = g at HB ⊢
    refine wp_region_noPanic ?_
    refine wp_region_held_drew (S := fun w' => Calm w w' ∧ Box w' g op b c d e) (by kernel_rfl) ⟨HC.out.drew, HB.out.drew⟩ (fun hHeld => ?_)
    refine take_at 0 4 (.agg #[.int .u8 (op : Int), .int .u8 (b : Int), .int .u8 (c : Int), .int .i16 d, .int .i32 e]) rfl rfl (by kernel_rfl) (by kernel_rfl) (by kernel_rfl) (fun _ _ _ h => h) (Or.inl ⟨by rfl, ?_⟩) hHeld ?_
    · intro w hSw; obtain ⟨-, c0, c1, c2, c3, c4⟩ := hSw; go_simp
    simp only [List.setIfInBounds_toArray, List.set_cons_zero, List.set_cons_succ]
    refine wpAnyH_ready (rs := [1]) (by kernel_rfl) (by simp) ?_
    refine AllReadyH.cons rfl (fun K hK => ?_) AllReadyH.nil
    go_simp
    refine (SC.out _).mono ?_
    rintro e' w2 ⟨rfl, hc2⟩
    refine hK.out _ _ ⟨hHeld.1.trans hc2, hHeld.2.calm hc2⟩ (fun hHeld => ?_)
    clear hK K
    try simp only [List.setIfInBounds_toArray, List.set_cons_zero, List.set_cons_succ]
    refine take_at 2 6 (.bool true) rfl rfl (by kernel_rfl) (by kernel_rfl) (by kernel_rfl) (fun _ _ _ h => h) (Or.inl ⟨by rfl, ?_⟩) hHeld ?_
    · intro w hSw; go_simp
    simp only [List.setIfInBounds_toArray, List.set_cons_zero, List.set_cons_succ]
    refine take_at 3 7 (.pointer (some ⟨g, 2, none⟩)) rfl rfl (by kernel_rfl) (by kernel_rfl) (by kernel_rfl) (fun _ _ _ h => h) (Or.inl ⟨by rfl, ?_⟩) hHeld ?_
    · intro w hSw; go_simp
    simp only [List.setIfInBounds_toArray, List.set_cons_zero, List.set_cons_succ]
    refine take_at 4 8 (.int .u8 (c : Int)) rfl rfl (by kernel_rfl) (by kernel_rfl) (by kernel_rfl) (fun _ _ _ h => h) (Or.inl ⟨by rfl, ?_⟩) hHeld ?_
    · intro w hSw; obtain ⟨-, c0, c1, c2, c3, c4⟩ := hSw; go_simp
    simp only [List.setIfInBounds_toArray, List.set_cons_zero, List.set_cons_succ]
    refine take_at 5 9 (.bool (decide ((c : Int) ≤ 1))) rfl rfl (by kernel_rfl) (by kernel_rfl) (by kernel_rfl) (fun _ _ _ h => h) (Or.inl ⟨by rfl, ?_⟩) hHeld ?_
    · intro w hSw; go_simp
    simp only [List.setIfInBounds_toArray, List.set_cons_zero, List.set_cons_succ]
    refine take_at 6 10 (.bool (decide ((c : Int) ≤ 1))) rfl rfl (by kernel_rfl) (by kernel_rfl) (by kernel_rfl) (fun _ _ _ h => h) (Or.inl ⟨by rfl, ?_⟩) hHeld ?_
    · intro w hSw; go_simp
    simp only [List.setIfInBounds_toArray, List.set_cons_zero, List.set_cons_succ]
    refine wpAnyH_ready (rs := [7]) (by kernel_rfl) (by simp) ?_
    refine AllReadyH.cons rfl (fun K hK => ?_) AllReadyH.nil
    go_simp
    refine hK.out _ _ hHeld (fun hHeld => ?_)
    clear hK K
    try simp only [List.setIfInBounds_toArray, List.set_cons_zero, List.set_cons_succ]
    refine wpAnyH_ready (rs := [8]) (by kernel_rfl) (by simp) ?_
    refine AllReadyH.cons rfl (fun K hK => ?_) AllReadyH.nil
    go_simp
    refine hK.out _ _ hHeld (fun hHeld => ?_)
    clear hK K
    try simp only [List.setIfInBounds_toArray, List.set_cons_zero, List.set_cons_succ]
    refine wpAnyH_done (by kernel_rfl) (NoPanic.normal ?_) _
    go_wp2_with fail
    go_ret2
    refine ⟨?_, hHeld.1⟩
    have : decide ((c : Int) ≤ 1) = decide (c ≤ 1) := decide_eq_decide.2 (by omega)
    rw [Bool.true_and, ← this]
    rfl
end
end Go.Proofs.Ythmiiddojccafaa
