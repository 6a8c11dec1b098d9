/-
  Package disk: Barrier, Start, Arm, and slices.Clone.
-/
import Derived.Test.YtfigiofiakkbdaaDoorDisk2
namespace Go.Proofs.YtfigiofiakkbdaaDoor
open Go.RowKit
set_option linter.all false

theorem IsDisk.cells {w : World} {R : Nat → Prop} {d : Nat} {S : DS} (h : IsDisk w R d S) :
    R d ∧ d < w.heap.size ∧ (∃ sb, w.cell? ⟨d, 0, none⟩ = some (.slice (some ⟨sb, 0, none⟩) S.secs.length S.secs.length)) ∧ w.cell? ⟨d, 3, none⟩ = some (.bool S.down) ∧ w.cell? ⟨d, 4, none⟩ = some (.int .i64 S.ops) := by
  obtain ⟨sb, svs, wv, wvs, av, h⟩ := h
  have d0 := h.top.cell 0
  have d3 := h.top.cell 3
  have d4 := h.top.cell 4
  simp at d0 d3 d4
  rw [h.secs.1] at d0
  exact ⟨h.rd, h.top.lt, ⟨sb, d0⟩, d3, d4⟩

theorem isdown_c {w : World} {R : Nat → Prop} {d : Nat} {S : DS} (h : IsDisk w R d S) : Calls Tryd.prog 23 #[.pointer (some ⟨d, 0, none⟩)] w fun e w' => e = .returned (.bool S.down) ∧ w = w' := down_c d _ w h.cells.2.2.2.1

theorem issectors_c {w : World} {R : Nat → Prop} {d : Nat} {S : DS} (h : IsDisk w R d S) : Calls Tryd.prog 38 #[.pointer (some ⟨d, 0, none⟩)] w fun e w' => e = .returned (.int .i64 S.secs.length) ∧ w = w' := by
  obtain ⟨_, _, ⟨sb, h0⟩, _⟩ := h.cells
  exact sectors_c d _ _ _ w h0

/-- A store into the struct, at a field that is neither the sectors nor what waits nor what is armed. -/
theorem Lay.flag {w : World} {R : Nat → Prop} {d : Nat} {S : DS} {sb : Nat} {svs : List Value} {wv : Value} {wvs : List (Nat × Value)} {av : Value} (h : Lay w R d S sb svs wv wvs av) (b : Bool) :
    Lay (w.setCell ⟨d, 3, none⟩ (.bool b)) R d { S with down := b } sb svs wv wvs av := by
  have k : Keep (fun k => k = d ∨ k = sb) w (w.setCell ⟨d, 3, none⟩ (.bool b)) := (Keep.refl _ _).store (p := ⟨d, 3, none⟩) (fun _ => .inl rfl) _
  have hd : ∀ g cur, R g → Row w g 5 cur → Row (w.setCell ⟨d, 3, none⟩ (.bool b)) g 5 cur ∧ R g := fun g cur a b => ⟨h.others k (by decide) (by decide) b, a⟩
  exact ⟨by simpa using h.top.store 3 (.bool b), h.rows.far (p := ⟨d, 3, none⟩) (h.rows.ne h.top (by decide)) _, h.secs.move hd, own_move h.wrow (fun g cur _ b => h.others k (by decide) (by decide) b), h.wR, ⟨h.waits.1, h.waits.2.move hd⟩,
    h.arm.move (fun g t cur ht a b => ⟨h.others k (by rcases ht with rfl | rfl <;> decide) (by rcases ht with rfl | rfl <;> decide) b, a⟩), h.rd, h.rs, h.few, h.some_, h.at_⟩

theorem start_c {w : World} {R : Nat → Prop} {d : Nat} {S : DS} (h : IsDisk w R d S) :
    Calls Tryd.prog 24 #[.pointer (some ⟨d, 0, none⟩)] w fun e w' => e = .returned (.int .i64 (if S.down then 0 else 10)) ∧ IsDisk w' R d { S with down := false } ∧ Keep R w w' := by
  have H := h
  obtain ⟨sb, svs, wv, wvs, av, h⟩ := h
  have d3 := h.top.cell 3
  have f3 := h.top.soft 3
  simp at d3
  have hdn : S.down = true ∨ S.down = false := by cases S.down <;> simp
  rcases hdn with hdn | hdn
  · rw [hdn] at d3
    refine (start_up d w d3 f3).mono ?_
    rintro e w' ⟨rfl, rfl⟩
    exact ⟨by rw [hdn]; rfl, ⟨_, _, _, _, _, h.flag false⟩, (Keep.refl _ _).store (p := ⟨d, 3, none⟩) (fun _ => h.rd) _⟩
  · rw [hdn] at d3
    refine (start_no d w d3).mono ?_
    rintro e w' ⟨rfl, rfl⟩
    refine ⟨by rw [hdn]; rfl, ?_, Keep.refl _ _⟩
    have e : { S with down := false } = S := by cases S; simp at hdn; subst hdn; rfl
    rw [e]
    exact H

theorem DS.op_wait {S S1 : DS} {ok : Bool} (h : S.op = (ok, S1)) : S1.wait.length ≤ S.wait.length ∧ S1.ops ≤ S.ops + 1 ∧ S1.secs.length = S.secs.length := by
  unfold DS.op at h
  repeat' split at h
  all_goals (injection h with _ h; subst h; simp [DS.crash, putTo_len])
theorem operate_ok {w : World} {R : Nat → Prop} {d : Nat} {S S1 : DS} (h : IsDisk w R d S) (hwm : S.wait.length ≤ 1000000) (hops : S.ops ≤ 1000000000) (hop : S.op = (true, S1)) :
    Calls Tryd.prog 44 #[.pointer (some ⟨d, 0, none⟩)] w fun e w' => e = .returned (.int .i64 0) ∧ IsDisk w' R d S1 ∧ Keep R w w' := by
  have := operate_c h hwm hops
  rw [hop] at this
  exact this
theorem operate_no {w : World} {R : Nat → Prop} {d : Nat} {S S1 : DS} (h : IsDisk w R d S) (hwm : S.wait.length ≤ 1000000) (hops : S.ops ≤ 1000000000) (hop : S.op = (false, S1)) :
    Calls Tryd.prog 44 #[.pointer (some ⟨d, 0, none⟩)] w fun e w' => e = .returned (.int .i64 11) ∧ IsDisk w' R d S1 ∧ Keep R w w' := by
  have := operate_c h hwm hops
  rw [hop] at this
  exact this

set_option maxHeartbeats 800000 in
theorem barrier_no {w : World} {R : Nat → Prop} {d : Nat} {S S1 : DS} (h : IsDisk w R d S) (hwm : S.wait.length ≤ 1000000) (hops : S.ops ≤ 1000000000) (hop : S.op = (false, S1)) :
    Calls Tryd.prog 65 #[.pointer (some ⟨d, 0, none⟩)] w fun e w' => e = .returned (.int .i64 11) ∧ IsDisk w' R d S1 ∧ Keep R w w' := by
  have H := Lib.hid (operate_no h hwm hops hop)
  clear h hop
  go_enter Tryd.func65, Tryd.ntmps65
  go_wp2_with fail
  refine H.out.mono ?_
  rintro e w1 ⟨rfl, h1, k1⟩
  have H1 := Lib.hid h1
  have K1 := Lib.hid k1
  clear h1 k1 H
  go_wp2_with fail
  go_ret
  exact ⟨rfl, H1.out, K1.out⟩

set_option maxHeartbeats 800000 in
theorem barrier_ok {w : World} {R : Nat → Prop} {d : Nat} {S S1 : DS} (h : IsDisk w R d S) (hwm : S.wait.length ≤ 1000000) (hops : S.ops ≤ 1000000000) (hop : S.op = (true, S1)) :
    Calls Tryd.prog 65 #[.pointer (some ⟨d, 0, none⟩)] w fun e w' => e = .returned (.int .i64 0) ∧ IsDisk w' R d S1.settled ∧ Keep R w w' := by
  have H := Lib.hid (operate_ok h hwm hops hop)
  have hw2 := (DS.op_wait hop).1
  clear h hop
  go_enter Tryd.func65, Tryd.ntmps65
  go_wp2_with fail
  refine H.out.mono ?_
  rintro e w1 ⟨rfl, h1, k1⟩
  obtain ⟨sb, svs, wv, wvs, av, h⟩ := h1
  obtain ⟨WA, wc, hwv, hwc⟩ := h.wcells
  have hlw : wvs.length = S1.wait.length := by have := congrArg List.length h.waits.1; simpa using this
  have d0 := h.top.cell 0
  have d1 := h.top.cell 1
  have f1 := h.top.soft 1
  simp at d0 d1
  rw [hwv] at d1
  have hne : d ≠ sb := h.top.ne h.rows (by decide)
  have hfew : svs.length ≤ 4096 := by rw [h.secs.1]; exact h.few
  have HL := Lib.hid h
  have Hwc := Lib.hid hwc
  have Hlw := Lib.hid hlw
  have K1 := Lib.hid k1
  clear h hwc hlw hwv k1 H
  go_wp2_with fail
  refine (settle_c d sb 81 #[] (fun _ => true) svs WA wc wvs _ d0 d1 hne f1 HL.out.rows hfew (by rw [Hlw.out]; omega) ?_ enter35 ?_).mono ?_
  · intro j x hj
    obtain ⟨hx, g, gg, cc, hA, _, hg, _, c0, c1, hv⟩ := Hwc.out j x hj
    exact ⟨hx, g, gg, cc, hA, hg, c0, c1, hv⟩
  · intro j wx hj hkx
    exact kept_all j wx
  · rintro e w2 ⟨rfl, wx, hkx, hrx, rfl⟩
    have tx := HL.out.top.keep hkx hne
    have Tx := Lib.hid tx
    have Hkx := Lib.hid hkx
    have Hrx := Lib.hid hrx
    clear tx hkx hrx
    go_wp2_with fail
    go_ret
    have k2 : Keep (fun k => k = d ∨ k = sb) w1 (wx.setCell ⟨d, 1, none⟩ (.slice none 0 0)) := (Hkx.out.mono (fun i _ e => .inr e)).store (p := ⟨d, 1, none⟩) (fun _ => .inl rfl) _
    refine ⟨rfl, ⟨sb, putTo (fun _ => true) svs wvs wvs.length, .slice none 0 0, [], av, ?_⟩, K1.out.trans (k2.mono fun i _ e => by rcases e with rfl | rfl; exact HL.out.rd; exact HL.out.rs)⟩
    refine HL.out.cleared k2 (fun _ => true) wvs.length S1.settled (by rw [Hlw.out]; rfl) rfl ?_ ?_ ?_
    · simpa [DS.settled] using Tx.out.store 1 (.slice none 0 0)
    · exact Hrx.out.far (p := ⟨d, 1, none⟩) hne.symm _
    · exact HL.out.arm.move (fun g t cur ht a b => ⟨HL.out.others k2 (by rcases ht with rfl | rfl <;> decide) (by rcases ht with rfl | rfl <;> decide) b, a⟩)

/-! ### slices.Clone -/

theorem info5 : (Tryd.prog.info? 5).map (fun i => (i.zero, i.size, i.bytes)) = some (some (.int .u8 0), 1, 1) := by kernel_rfl
theorem info4 : (Tryd.prog.info? 4).map (fun i => (i.zero, i.size, i.bytes)) = some (some (.bool false), 1, 1) := by kernel_rfl

set_option maxHeartbeats 800000 in
theorem cloneB_some (ad : Addr) (n c : Nat) (xs : List Value) (w : World) (hl : xs.length = n) (hn : n ≤ 1000000000) (hc : ∀ (j : Nat) u, xs[j]? = some u → w.cell? (ad.add j) = some u) (h1 : ∀ u ∈ xs, u.oneCell' = true) :
    Calls Tryd.prog 34 #[.slice (some ad) n c] w fun e w' => ∃ v, e = .returned v ∧ w'.ownsRow w.heap.size 5 1 v n xs ∧ Calm w w' := by
  obtain ⟨i0, hi0, hz0, hz1, hz2⟩ := info_parts info5
  have q := fun (w : World) => Lib.run_eql_slice_nil (P := Tryd.prog) w 31 5 (some ad) n c 0 0 Tryd.underlying31
  have Hl := Lib.hid hl
  have Hc := Lib.hid hc
  have H1 := Lib.hid h1
  have Hc2 := Lib.hid (fun (j : Nat) u hj => (World.cell?_alloc_lt w (.cells #[] 5) (ad.add j) (World.block_lt_of_cell? _ _ (hc j u hj))).trans (hc j u hj))
  clear hl hc h1
  go_enter Tryd.func34, Tryd.ntmps34
  go_wp2_with (at_builtin; go_loud (refine wpList_append_own _ rfl (.tmp 5) (.tmp 6) 31 rfl w.heap.size 5 i0 _ 1 1 Tryd.underlying31 hi0 hz0 hz1 hz2 rfl (by decide) (.slice (some ⟨w.heap.size, 0, none⟩) 0 0) 0 [] rfl (World.ownsRow_made w #[] 0 (Nat.le_refl _) (Nat.zero_le _) rfl) ad n c xs rfl (by rw [Hl.out]; omega) Hc2.out H1.out (by simp only [maxLen]; omega) (by omega) (by simp) ?_); intro v' w1 hown hg hnil)
  go_ret
  refine ⟨v', rfl, by simpa using hown, ?_⟩
  exact ((Keep.refl _ w).alloc _).grown hg (fun k e hk => by simp [Value.ownBlock] at e; omega)

set_option maxHeartbeats 800000 in
theorem cloneK_some (ad : Addr) (n c : Nat) (xs : List Value) (w : World) (hl : xs.length = n) (hn : n ≤ 1000000000) (hc : ∀ (j : Nat) u, xs[j]? = some u → w.cell? (ad.add j) = some u) (h1 : ∀ u ∈ xs, u.oneCell' = true) :
    Calls Tryd.prog 40 #[.slice (some ad) n c] w fun e w' => ∃ v, e = .returned v ∧ w'.ownsRow w.heap.size 4 1 v n xs ∧ Calm w w' := by
  obtain ⟨i0, hi0, hz0, hz1, hz2⟩ := info_parts info4
  have q := fun (w : World) => Lib.run_eql_slice_nil (P := Tryd.prog) w 46 4 (some ad) n c 0 0 Tryd.underlying46
  have Hl := Lib.hid hl
  have Hc := Lib.hid hc
  have H1 := Lib.hid h1
  have Hc2 := Lib.hid (fun (j : Nat) u hj => (World.cell?_alloc_lt w (.cells #[] 4) (ad.add j) (World.block_lt_of_cell? _ _ (hc j u hj))).trans (hc j u hj))
  clear hl hc h1
  go_enter Tryd.func40, Tryd.ntmps40
  go_wp2_with (at_builtin; go_loud (refine wpList_append_own _ rfl (.tmp 5) (.tmp 6) 46 rfl w.heap.size 4 i0 _ 1 1 Tryd.underlying46 hi0 hz0 hz1 hz2 rfl (by decide) (.slice (some ⟨w.heap.size, 0, none⟩) 0 0) 0 [] rfl (World.ownsRow_made w #[] 0 (Nat.le_refl _) (Nat.zero_le _) rfl) ad n c xs rfl (by rw [Hl.out]; omega) Hc2.out H1.out (by simp only [maxLen]; omega) (by omega) (by simp) ?_); intro v' w1 hown hg hnil)
  go_ret
  refine ⟨v', rfl, by simpa using hown, ?_⟩
  exact ((Keep.refl _ w).alloc _).grown hg (fun k e hk => by simp [Value.ownBlock] at e; omega)

end Go.Proofs.YtfigiofiakkbdaaDoor
