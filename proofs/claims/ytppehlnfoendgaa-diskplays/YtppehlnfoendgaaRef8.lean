/-
  The document's answer for disk: zero, New.
-/
import Derived.Test.YtppehlnfoendgaaRef7
namespace Go.Proofs.Ytppehlnfoendgaa
open Go.RowKit
set_option linter.all false

theorem infoS : (Try.prog.info? 9).map (fun i => (i.zero, i.size, i.bytes)) = some (some (.string ⟨#[]⟩), 1, 16) := by kernel_rfl
set_option maxHeartbeats 400000 in
theorem rzero_c (w : World) : Calls Try.prog 16 #[] w fun e w' => e = .returned (.string (str (full 0))) ∧ Calm w w' := by
  have q1 := make512 w
  have q2 := conv_data (data_zero (Row.made w 5 zero512) (fun _ => True) trivial)
  go_enter Try.func16, Try.ntmps16
  go_wp2_with fail
  go_ret
  exact ⟨rfl, (Keep.refl _ w).alloc _⟩
set_option maxHeartbeats 400000 in
theorem rnew_arg (w : World) (n : Int) (hn : n < 1 ∨ 4096 < n) :
    Calls Try.prog 6 #[.int .i64 n] w fun e w' => e = .returned (.tuple #[.pointer none, .int .i64 1]) ∧ w = w' := by
  by_cases h0 : n < 1
  · go_enter Try.func6, Try.ntmps6
    go_wp2_with fail
    go_ret2
    exact ⟨rfl, rfl⟩
  · have h1 : 4096 < n := by omega
    go_enter Try.func6, Try.ntmps6
    go_wp2_with fail
    go_ret2
    exact ⟨rfl, rfl⟩
theorem rnew_pack {w wr w2 w3 : World} {A : Option Addr} {c j gg cg : Nat} {Z : ByteArray} {o : Obj} (hc : Calm w wr) (ht : Row wr w.heap.size 38 #[.slice A j c, .slice none 0 0, .bool false, .int .i64 0, .int .i64 (-1), .slice none 0 0])
    (hg : ∀ g, (Value.slice A j c).ownBlock = some g → w.heap.size ≤ g) (h2 : Calm wr.drew w2) (hgrow : (w2.alloc o).grownBy w3 (Value.slice A j c).ownBlock) (hfar : some w.heap.size ≠ (Value.slice A j c).ownBlock)
    (hown : w3.ownsRow 0 9 1 (.slice (some ⟨gg, 0, none⟩) (j + 1) cg) (j + 1) (List.replicate j (.string Z) ++ [.string Z])) (hat : (Value.slice A j c).ownBlock = some gg ∨ gg = w2.heap.size + 1) :
    Calm w (w3.setCell ⟨w.heap.size, 0, none⟩ (.slice (some ⟨gg, 0, none⟩) (j + 1) cg)) ∧ Row (w3.setCell ⟨w.heap.size, 0, none⟩ (.slice (some ⟨gg, 0, none⟩) (j + 1) cg)) w.heap.size 38 #[.slice (some ⟨gg, 0, none⟩) (j + 1) cg, .slice none 0 0, .bool false, .int .i64 0, .int .i64 (-1), .slice none 0 0] ∧
      (w3.setCell ⟨w.heap.size, 0, none⟩ (.slice (some ⟨gg, 0, none⟩) (j + 1) cg)).ownsRow 0 9 1 (.slice (some ⟨gg, 0, none⟩) (j + 1) cg) (j + 1) (List.replicate (j + 1) (.string Z)) ∧ ∀ g, (Value.slice (some ⟨gg, 0, none⟩) (j + 1) cg).ownBlock = some g → w.heap.size ≤ g := by
  have hrl := ht.lt
  have h2s : wr.heap.size ≤ w2.heap.size := h2.size
  have ht3 : Row w3 w.heap.size 38 #[.slice A j c, .slice none 0 0, .bool false, .int .i64 0, .int .i64 (-1), .slice none 0 0] := ((ht.drew.keep h2 (fun e => e)).alloc o).grown hgrow hfar
  have h2' : Calm wr w2 := ⟨h2.os, h2.tape, h2.output, h2.size, h2.block⟩
  have k : Keep (fun k => w.heap.size ≤ k) wr (w3.setCell ⟨w.heap.size, 0, none⟩ (.slice (some ⟨gg, 0, none⟩) (j + 1) cg)) :=
    (((h2'.keep _).alloc o).grown hgrow (fun k e _ => hg k e)).store (p := ⟨w.heap.size, 0, none⟩) (fun _ => Nat.le_refl _) _
  refine ⟨hc.then_ k (fun i hi e => by omega), by simpa using ht3.store 0 (.slice (some ⟨gg, 0, none⟩) (j + 1) cg), ?_, fun g e => ?_⟩
  · rw [List.replicate_succ']
    exact own_move hown (fun g cur _ b => Row.far b (p := ⟨w.heap.size, 0, none⟩) (Row.ne b ht3 (by decide)) _)
  · have : gg = g := by simpa [Value.ownBlock] using e
    subst this
    rcases hat with hat | hat
    · exact hg _ hat
    · omega
set_option maxHeartbeats 1600000 in
theorem rnew_ok (w : World) (n : Nat) (h1 : 1 ≤ n) (h2 : n ≤ 4096) :
    Calls Try.prog 6 #[.int .i64 n] w fun e w' => ∃ r, e = .returned (.tuple #[.pointer (some ⟨r, 0, none⟩), .int .i64 0]) ∧ IsRef w' (Grow (fun _ => False) w w') r ⟨List.replicate n (full 0), [], none, false, 0⟩ ∧ Calm w w' := by
  have e1 : ¬ (n : Int) < 1 := by omega
  have e2 : ¬ (4096 : Int) < n := by omega
  obtain ⟨i0, hi0, hz0, hz1, hz2⟩ := info_parts infoS
  obtain ⟨Z, hZ⟩ : ∃ Z, Z = str (full 0) := ⟨_, rfl⟩
  have HZ := Lib.hid (fun w => rzero_c w)
  rw [← hZ] at HZ
  have HZe := Lib.hid hZ
  clear hZ
  go_enter Try.func6, Try.ntmps6
  go_wp2_with fail
  go_loopw [5] (fun i wr => ∃ (j : Nat) (dv : Value), j ≤ n ∧ i = .int .i64 j ∧ Calm w wr ∧ Row wr w.heap.size 38 #[dv, .slice none 0 0, .bool false, .int .i64 0, .int .i64 (-1), .slice none 0 0] ∧ wr.ownsRow 0 9 1 dv j (List.replicate j (.string Z)) ∧ ∀ g, dv.ownBlock = some g → w.heap.size ≤ g) (fun i _ => n - (intOf i).toNat)
  case atStart => exact ⟨0, .slice none 0 0, by omega, rfl, (Keep.refl _ w).alloc _, Row.made w _ _, World.ownsRow_nil _ _ _ _, fun g e => by simp [Value.ownBlock] at e⟩
  case round =>
    obtain ⟨j, dv, hj, rfl, hc, ht, ho, hg⟩ := hrel
    obtain ⟨A, c, rfl⟩ := own_form ho
    have Hc := Lib.hid hc
    have Ht := Lib.hid ht
    have Ho := Lib.hid ho
    have Hg := Lib.hid hg
    have t0 := ht.cell 0
    have f0 := ht.soft 0
    simp at t0
    have hrl := ht.lt
    by_cases hlt : j < n
    · have i1 : (j : Int) < (n : Int) := by omega
      have hfar : some w.heap.size ≠ (Value.slice A j c).ownBlock := by
        intro e
        rcases ho.2 with ⟨h0, _⟩ | ⟨g', cap', cur', h0, _, h2, _⟩
        · rw [h0] at e; simp [Value.ownBlock] at e
        · rw [h0] at e
          have : w.heap.size = g' := by simpa [Value.ownBlock] using e
          exact (Row.ne ht (show Row wr g' 9 cur' from h2) (by decide)) this
      clear hc ht ho hg
      go_wp2_with fail
      refine wp_region_noPanic ?_
      refine wp_region_held_drew (S := fun _ => True) (by kernel_rfl) trivial (fun hHeld => ?_)
      refine take_at 0 19 (.pointer (some ⟨w.heap.size, 0, none⟩)) rfl rfl (by kernel_rfl) (by kernel_rfl) (by kernel_rfl) (fun _ _ _ h => h) (Or.inl ⟨by rfl, ?_⟩) hHeld ?_
      · intro w hSw; go_simp
      simp only [List.setIfInBounds_toArray, List.set_cons_zero, List.set_cons_succ]
      refine take_at 1 20 (.pointer (some ⟨w.heap.size, 0, none⟩)) rfl rfl (by kernel_rfl) (by kernel_rfl) (by kernel_rfl) (fun _ _ _ h => h) (Or.inl ⟨by rfl, ?_⟩) hHeld ?_
      · intro w hSw; go_simp
      simp only [List.setIfInBounds_toArray, List.set_cons_zero, List.set_cons_succ]
      refine take_at 2 21 (.pointer (some ⟨w.heap.size, 0, none⟩)) rfl rfl (by kernel_rfl) (by kernel_rfl) (by kernel_rfl) (fun _ _ _ h => h) (Or.inl ⟨by rfl, ?_⟩) hHeld ?_
      · intro w hSw; go_simp
      simp only [List.setIfInBounds_toArray, List.set_cons_zero, List.set_cons_succ]
      refine take_at 3 22 (.pointer (some ⟨w.heap.size, 0, none⟩)) rfl rfl (by kernel_rfl) (by kernel_rfl) (by kernel_rfl) (fun _ _ _ h => h) (Or.inl ⟨by rfl, ?_⟩) hHeld ?_
      · intro w hSw; go_simp
      simp only [List.setIfInBounds_toArray, List.set_cons_zero, List.set_cons_succ]
      refine wpAnyH_ready (rs := [4, 5]) (by kernel_rfl) (by simp) ?_
      refine AllReadyH.cons rfl (fun K hK => ?_) ?_
      · go_simp
        refine hK.out _ _ trivial (fun hHeld => ?_)
        clear hK K
        try simp only [List.setIfInBounds_toArray, List.set_cons_zero, List.set_cons_succ]
        refine wpAnyH_ready (rs := [5]) (by kernel_rfl) (by simp) ?_
        refine AllReadyH.cons rfl (fun K hK => ?_) AllReadyH.nil
        go_simp
        refine (HZ.out _).mono ?_
        rintro e w2 ⟨rfl, hc2⟩
        have c2 := (hc2.cell (p := ⟨w.heap.size, 0, none⟩) hrl (fun e => e)).trans t0
        have f2 := (hc2.soft (p := ⟨w.heap.size, 0, none⟩) hrl (fun e => e)).trans f0
        have hs2 : w.heap.size < w2.heap.size := Nat.lt_of_lt_of_le hrl hc2.size
        have ca : ∀ o : Obj, (w2.alloc o).cell? ⟨w.heap.size, 0, none⟩ = some (.slice A j c) := fun o => (World.cell?_alloc_lt _ _ _ hs2).trans c2
        have OW := fun (o : Obj) => own_move (w' := w2.alloc o) Ho.out (fun g cur _ b => (Row.keep (w := wr.drew) b hc2 (fun e => e)).alloc o)
        have C2 := Lib.hid hc2
        clear hc2
        refine hK.out _ _ trivial (fun hHeld => ?_)
        clear hK K
        try simp only [List.setIfInBounds_toArray, List.set_cons_zero, List.set_cons_succ]
        refine wpAnyH_ready (rs := [6]) (by kernel_rfl) (by simp) ?_
        refine AllReadyH.cons rfl (fun K hK => ?_) AllReadyH.nil
        go_simp
        refine hK.out _ _ trivial (fun hHeld => ?_)
        clear hK K
        try simp only [List.setIfInBounds_toArray, List.set_cons_zero, List.set_cons_succ]
        refine wpAnyH_ready (rs := [7]) (by kernel_rfl) (by simp) ?_
        refine AllReadyH.cons rfl (fun K hK => ?_) AllReadyH.nil
        refine step_append_lies _ (by rfl) _ _ _ (by rfl) 0 9 i0 _ 1 16 Try.underlying35 hi0 hz0 hz1 hz2 rfl (by omega) (.slice A j c) j (List.replicate j (.string Z)) (by rfl) (OW _) ⟨w2.heap.size, 0, none⟩ 1 1 [.string Z] (by rfl) (by rfl) (World.news_of_block (cs := #[.string Z]) (t := 9) (fr := (0, 0)) (heap_alloc_new w2 _)) (by simp [Value.oneCell']) (by omega) (by simp only [maxLen]; omega) (by omega) (Nat.zero_le _) (w2.heap.size + 1) (by simp) ?_
        intro gg cg w3 hown hgrow hat hlt3
        have c3 : w3.cell? ⟨w.heap.size, 0, none⟩ = some (.slice A j c) := (World.cell?_of_block (a := ⟨w.heap.size, 0, none⟩) (hgrow.block w.heap.size (by rw [World.size_alloc]; omega) hfar)).trans (ca _)
        have f3 : w3.frozen? ⟨w.heap.size, 0, none⟩ = false := (World.frozen?_of_block (a := ⟨w.heap.size, 0, none⟩) (hgrow.block w.heap.size (by rw [World.size_alloc]; omega) hfar)).trans ((World.frozen?_alloc_old _ _ _ (Nat.ne_of_lt hs2)).trans f2)
        have PK := Lib.hid (rnew_pack Hc.out Ht.out Hg.out C2.out hgrow hfar hown hat)
        clear hown hgrow hat OW
        rw [put_at _ _ _ 26 rfl]
        refine hK.out _ _ trivial (fun hHeld => ?_)
        clear hK K
        try simp only [List.setIfInBounds_toArray, List.set_cons_zero, List.set_cons_succ]
        refine take_at 8 27 (.pointer (some ⟨w.heap.size, 0, none⟩)) rfl rfl (by kernel_rfl) (by kernel_rfl) (by kernel_rfl) (fun _ _ _ h => h) (Or.inl ⟨by rfl, ?_⟩) hHeld ?_
        · intro w hSw; go_simp
        simp only [List.setIfInBounds_toArray, List.set_cons_zero, List.set_cons_succ]
        refine take_at 9 28 (.pointer (some ⟨w.heap.size, 0, none⟩)) rfl rfl (by kernel_rfl) (by kernel_rfl) (by kernel_rfl) (fun _ _ _ h => h) (Or.inl ⟨by rfl, ?_⟩) hHeld ?_
        · intro w hSw; go_simp
        simp only [List.setIfInBounds_toArray, List.set_cons_zero, List.set_cons_succ]
        refine wpAnyH_ready (rs := [10]) (by kernel_rfl) (by simp) ?_
        refine AllReadyH.cons rfl (fun K hK => ?_) AllReadyH.nil
        go_simp
        refine hK.out _ _ trivial (fun hHeld => ?_)
        clear hK K
        try simp only [List.setIfInBounds_toArray, List.set_cons_zero, List.set_cons_succ]
        refine wpAnyH_done (by kernel_rfl) (NoPanic.normal ?_) _
        go_wp2_with fail
        go_roundw
        case rel => exact ⟨j + 1, _, by omega, by go_num, PK.out⟩
        case measure => simp [intOf]; omega
      refine AllReadyH.cons rfl (fun K hK => ?_) ?_
      · go_simp
        refine (HZ.out _).mono ?_
        rintro e w2 ⟨rfl, hc2⟩
        have c2 := (hc2.cell (p := ⟨w.heap.size, 0, none⟩) hrl (fun e => e)).trans t0
        have f2 := (hc2.soft (p := ⟨w.heap.size, 0, none⟩) hrl (fun e => e)).trans f0
        have hs2 : w.heap.size < w2.heap.size := Nat.lt_of_lt_of_le hrl hc2.size
        have ca : ∀ o : Obj, (w2.alloc o).cell? ⟨w.heap.size, 0, none⟩ = some (.slice A j c) := fun o => (World.cell?_alloc_lt _ _ _ hs2).trans c2
        have OW := fun (o : Obj) => own_move (w' := w2.alloc o) Ho.out (fun g cur _ b => (Row.keep (w := wr.drew) b hc2 (fun e => e)).alloc o)
        have C2 := Lib.hid hc2
        clear hc2
        refine hK.out _ _ trivial (fun hHeld => ?_)
        clear hK K
        try simp only [List.setIfInBounds_toArray, List.set_cons_zero, List.set_cons_succ]
        refine wpAnyH_ready (rs := [4, 6]) (by kernel_rfl) (by simp) ?_
        refine AllReadyH.cons rfl (fun K hK => ?_) ?_
        · go_simp
          refine hK.out _ _ trivial (fun hHeld => ?_)
          clear hK K
          try simp only [List.setIfInBounds_toArray, List.set_cons_zero, List.set_cons_succ]
          refine wpAnyH_ready (rs := [6]) (by kernel_rfl) (by simp) ?_
          refine AllReadyH.cons rfl (fun K hK => ?_) AllReadyH.nil
          go_simp
          refine hK.out _ _ trivial (fun hHeld => ?_)
          clear hK K
          try simp only [List.setIfInBounds_toArray, List.set_cons_zero, List.set_cons_succ]
          refine wpAnyH_ready (rs := [7]) (by kernel_rfl) (by simp) ?_
          refine AllReadyH.cons rfl (fun K hK => ?_) AllReadyH.nil
          refine step_append_lies _ (by rfl) _ _ _ (by rfl) 0 9 i0 _ 1 16 Try.underlying35 hi0 hz0 hz1 hz2 rfl (by omega) (.slice A j c) j (List.replicate j (.string Z)) (by rfl) (OW _) ⟨w2.heap.size, 0, none⟩ 1 1 [.string Z] (by rfl) (by rfl) (World.news_of_block (cs := #[.string Z]) (t := 9) (fr := (0, 0)) (heap_alloc_new w2 _)) (by simp [Value.oneCell']) (by omega) (by simp only [maxLen]; omega) (by omega) (Nat.zero_le _) (w2.heap.size + 1) (by simp) ?_
          intro gg cg w3 hown hgrow hat hlt3
          have c3 : w3.cell? ⟨w.heap.size, 0, none⟩ = some (.slice A j c) := (World.cell?_of_block (a := ⟨w.heap.size, 0, none⟩) (hgrow.block w.heap.size (by rw [World.size_alloc]; omega) hfar)).trans (ca _)
          have f3 : w3.frozen? ⟨w.heap.size, 0, none⟩ = false := (World.frozen?_of_block (a := ⟨w.heap.size, 0, none⟩) (hgrow.block w.heap.size (by rw [World.size_alloc]; omega) hfar)).trans ((World.frozen?_alloc_old _ _ _ (Nat.ne_of_lt hs2)).trans f2)
          have PK := Lib.hid (rnew_pack Hc.out Ht.out Hg.out C2.out hgrow hfar hown hat)
          clear hown hgrow hat OW
          rw [put_at _ _ _ 26 rfl]
          refine hK.out _ _ trivial (fun hHeld => ?_)
          clear hK K
          try simp only [List.setIfInBounds_toArray, List.set_cons_zero, List.set_cons_succ]
          refine take_at 8 27 (.pointer (some ⟨w.heap.size, 0, none⟩)) rfl rfl (by kernel_rfl) (by kernel_rfl) (by kernel_rfl) (fun _ _ _ h => h) (Or.inl ⟨by rfl, ?_⟩) hHeld ?_
          · intro w hSw; go_simp
          simp only [List.setIfInBounds_toArray, List.set_cons_zero, List.set_cons_succ]
          refine take_at 9 28 (.pointer (some ⟨w.heap.size, 0, none⟩)) rfl rfl (by kernel_rfl) (by kernel_rfl) (by kernel_rfl) (fun _ _ _ h => h) (Or.inl ⟨by rfl, ?_⟩) hHeld ?_
          · intro w hSw; go_simp
          simp only [List.setIfInBounds_toArray, List.set_cons_zero, List.set_cons_succ]
          refine wpAnyH_ready (rs := [10]) (by kernel_rfl) (by simp) ?_
          refine AllReadyH.cons rfl (fun K hK => ?_) AllReadyH.nil
          go_simp
          refine hK.out _ _ trivial (fun hHeld => ?_)
          clear hK K
          try simp only [List.setIfInBounds_toArray, List.set_cons_zero, List.set_cons_succ]
          refine wpAnyH_done (by kernel_rfl) (NoPanic.normal ?_) _
          go_wp2_with fail
          go_roundw
          case rel => exact ⟨j + 1, _, by omega, by go_num, PK.out⟩
          case measure => simp [intOf]; omega
        refine AllReadyH.cons rfl (fun K hK => ?_) ?_
        · go_simp
          refine hK.out _ _ trivial (fun hHeld => ?_)
          clear hK K
          try simp only [List.setIfInBounds_toArray, List.set_cons_zero, List.set_cons_succ]
          refine wpAnyH_ready (rs := [4]) (by kernel_rfl) (by simp) ?_
          refine AllReadyH.cons rfl (fun K hK => ?_) AllReadyH.nil
          go_simp
          refine hK.out _ _ trivial (fun hHeld => ?_)
          clear hK K
          try simp only [List.setIfInBounds_toArray, List.set_cons_zero, List.set_cons_succ]
          refine wpAnyH_ready (rs := [7]) (by kernel_rfl) (by simp) ?_
          refine AllReadyH.cons rfl (fun K hK => ?_) AllReadyH.nil
          refine step_append_lies _ (by rfl) _ _ _ (by rfl) 0 9 i0 _ 1 16 Try.underlying35 hi0 hz0 hz1 hz2 rfl (by omega) (.slice A j c) j (List.replicate j (.string Z)) (by rfl) (OW _) ⟨w2.heap.size, 0, none⟩ 1 1 [.string Z] (by rfl) (by rfl) (World.news_of_block (cs := #[.string Z]) (t := 9) (fr := (0, 0)) (heap_alloc_new w2 _)) (by simp [Value.oneCell']) (by omega) (by simp only [maxLen]; omega) (by omega) (Nat.zero_le _) (w2.heap.size + 1) (by simp) ?_
          intro gg cg w3 hown hgrow hat hlt3
          have c3 : w3.cell? ⟨w.heap.size, 0, none⟩ = some (.slice A j c) := (World.cell?_of_block (a := ⟨w.heap.size, 0, none⟩) (hgrow.block w.heap.size (by rw [World.size_alloc]; omega) hfar)).trans (ca _)
          have f3 : w3.frozen? ⟨w.heap.size, 0, none⟩ = false := (World.frozen?_of_block (a := ⟨w.heap.size, 0, none⟩) (hgrow.block w.heap.size (by rw [World.size_alloc]; omega) hfar)).trans ((World.frozen?_alloc_old _ _ _ (Nat.ne_of_lt hs2)).trans f2)
          have PK := Lib.hid (rnew_pack Hc.out Ht.out Hg.out C2.out hgrow hfar hown hat)
          clear hown hgrow hat OW
          rw [put_at _ _ _ 26 rfl]
          refine hK.out _ _ trivial (fun hHeld => ?_)
          clear hK K
          try simp only [List.setIfInBounds_toArray, List.set_cons_zero, List.set_cons_succ]
          refine take_at 8 27 (.pointer (some ⟨w.heap.size, 0, none⟩)) rfl rfl (by kernel_rfl) (by kernel_rfl) (by kernel_rfl) (fun _ _ _ h => h) (Or.inl ⟨by rfl, ?_⟩) hHeld ?_
          · intro w hSw; go_simp
          simp only [List.setIfInBounds_toArray, List.set_cons_zero, List.set_cons_succ]
          refine take_at 9 28 (.pointer (some ⟨w.heap.size, 0, none⟩)) rfl rfl (by kernel_rfl) (by kernel_rfl) (by kernel_rfl) (fun _ _ _ h => h) (Or.inl ⟨by rfl, ?_⟩) hHeld ?_
          · intro w hSw; go_simp
          simp only [List.setIfInBounds_toArray, List.set_cons_zero, List.set_cons_succ]
          refine wpAnyH_ready (rs := [10]) (by kernel_rfl) (by simp) ?_
          refine AllReadyH.cons rfl (fun K hK => ?_) AllReadyH.nil
          go_simp
          refine hK.out _ _ trivial (fun hHeld => ?_)
          clear hK K
          try simp only [List.setIfInBounds_toArray, List.set_cons_zero, List.set_cons_succ]
          refine wpAnyH_done (by kernel_rfl) (NoPanic.normal ?_) _
          go_wp2_with fail
          go_roundw
          case rel => exact ⟨j + 1, _, by omega, by go_num, PK.out⟩
          case measure => simp [intOf]; omega
        exact AllReadyH.nil
      exact AllReadyH.nil
    · obtain rfl : j = n := by omega
      clear hc ht ho hg
      go_wp2_with fail
      go_ret2
      refine ⟨w.heap.size, rfl, ⟨.slice A j c, .slice none 0 0, .slice none 0 0, -1, [], Ht.out, ?_, World.ownsRow_nil _ _ _ _, World.ownsRow_nil _ _ _ _, rfl, .inr ⟨Nat.le_refl _, hrl⟩, fun g e => ?_, fun g e => by simp [Value.ownBlock] at e, fun g e => by simp [Value.ownBlock] at e, by simpa using h2, by simp; omega, fun x hx => by simp at hx⟩, Hc.out⟩
      · have := Ho.out
        rw [HZe.out] at this
        simpa [sv] using this
      · refine .inr ⟨Hg.out g e, ?_⟩
        rcases Ho.out.2 with ⟨h0, _⟩ | ⟨g', cap', cur', h0, _, h2, _⟩
        · rw [h0] at e; simp [Value.ownBlock] at e
        · rw [h0] at e
          have : g' = g := by simpa [Value.ownBlock] using e
          subst this
          exact (show Row wr g' 9 cur' from h2).lt
end Go.Proofs.Ytppehlnfoendgaa
