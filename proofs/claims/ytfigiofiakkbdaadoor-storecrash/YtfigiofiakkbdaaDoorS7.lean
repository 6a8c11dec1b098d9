/-
  Package store: build, by whatever lays the halves.
-/
import Derived.Test.YtfigiofiakkbdaaDoorS6
namespace Go.Proofs.YtfigiofiakkbdaaDoor
open Go.RowKit
set_option linter.all false

/-- What the laying of a half answers. -/
def LayRes (w0 : World) (d : Nat) (Ok : Nat → DS → DS → JS → List (List UInt8) → Prop) (Bad : Nat → DS → DS → Int → Prop) (y : Nat) (wx : World) (Rx : Nat → Prop) (Sx : DS) (e : Ending) (w' : World) : Prop :=
  ∃ R' S1, Ext Rx R' wx ∧ Keep Rx wx w' ∧ Sd w0 w' R' d S1 ∧ ((∃ c : Int, Bad y Sx S1 c ∧ c ≠ 0 ∧ e = .returned (.tuple #[.pointer none, .slice none 0 0, .int .i64 c])) ∨
    ∃ jb J out v, Ok y Sx S1 J out ∧ e = .returned (.tuple #[.pointer (some ⟨jb, 0, none⟩), v, .int .i64 0]) ∧ Recs w' wx.heap.size v out ∧ wx.heap.size ≤ jb ∧ Jn w0 w' R' d jb S1 J ∧ (out = [] ∨ ∀ k, R' k → Rx k))
/-- What build answers. -/
def BuRes (w0 : World) (d h : Nat) (Ok : Nat → DS → DS → JS → List (List UInt8) → Prop) (Bad : Nat → DS → DS → Int → Prop) (w : World) (R : Nat → Prop) (S : DS) (e : Ending) (w' : World) : Prop :=
  ∃ R' S1, Ext R R' w ∧ Keep R w w' ∧ Sd w0 w' R' d S1 ∧ ((∃ c : Int, Bad 0 S S1 c ∧ e = .returned (.tuple #[.pointer none, .int .i64 c])) ∨
    (∃ Sa J out, ∃ c : Int, Ok 0 S Sa J out ∧ Bad 1 Sa S1 c ∧ e = .returned (.tuple #[.pointer none, .int .i64 c])) ∨
    ∃ Sa J0 out0 J1 out1 sb ja jb T, Ok 0 S Sa J0 out0 ∧ Ok 1 Sa S1 J1 out1 ∧ e = .returned (.tuple #[.pointer (some ⟨sb, 0, none⟩), .int .i64 0]) ∧ (∀ k, T k → w.heap.size ≤ k) ∧ Sto w0 w' R' T d sb S1 ⟨h, ja, jb, J0, J1, chooseO (thingO 0 out0) (thingO 1 out1)⟩)

/-- What is new, and not the disk's. -/
def New (w wr : World) (R : Nat → Prop) (k : Nat) : Prop := w.heap.size ≤ k ∧ k < wr.heap.size ∧ ¬ R k
theorem New.ext {w wr w' : World} {R R' : Nat → Prop} {k : Nat} (h : New w wr R k) (hx : Ext R R' wr) (hs : wr.heap.size ≤ w'.heap.size) : New w w' R' k := ⟨h.1, by have := h.2.1; omega, hx.not h.2.2 h.2.1⟩

set_option maxRecDepth 100000 in
set_option maxHeartbeats 16000000 in
theorem sbuild_c {w0 w : World} {R : Nat → Prop} {d h n fk db : Nat} {S : DS} {Ok : Nat → DS → DS → JS → List (List UInt8) → Prop} {Bad : Nat → DS → DS → Int → Prop} {Good : Nat → DS → Prop} (hsd : Sd w0 w R d S) (hn : S.secs.length = n) (hn4 : 4 ≤ n) (hh : h = n / 2)
    (hdb : w.cell? ⟨db, 0, none⟩ = some (.pointer (some ⟨d, 0, none⟩))) (hdR : ¬ R db) (hg0 : Good 0 S) (hg1 : ∀ S1 J out, Ok 0 S S1 J out → Good 1 S1)
    (hcf : ∀ args wx, Sem.run Tryd.prog (callFunc fk args) wx = .ok (.enter fk args) wx)
    (L : ∀ y wx Rx Sx, y ≤ 1 → Sd w0 wx Rx d Sx → wx.cell? ⟨db, 0, none⟩ = some (.pointer (some ⟨d, 0, none⟩)) → ¬ Rx db → Good y Sx → Calls Tryd.prog fk #[.int .i64 ((y * h : Nat) : Int), .int .i64 (h : Int), .pointer (some ⟨db, 0, none⟩)] wx (LayRes w0 d Ok Bad y wx Rx Sx)) :
    Calls Tryd.prog 28 #[.pointer (some ⟨d, 0, none⟩), .func (.func fk) #[] #[.pointer (some ⟨db, 0, none⟩)]] w (BuRes w0 d h Ok Bad w R S) := by
  have hfew := hsd.few
  have Q := issectors_c hsd.st.disk
  rw [hn] at Q
  have HQ := Lib.hid Q
  have i4 : decide ((n : Int) < 4) = false := decide_eq_false (by omega)
  have ih : (n : Int) / 2 = (h : Int) := by omega
  have in1 : (0 : Int) ≤ (n : Int) := by omega
  have in2 : (n : Int) ≤ 4096 := by omega
  have ih2 : (h : Int) ≤ 2048 := by omega
  have H := Lib.hid hsd
  have HL := Lib.hid L
  have HG := Lib.hid (And.intro hg0 hg1)
  have hdl : db < w.heap.size := World.block_lt_of_cell? _ _ hdb
  have HDB := Lib.hid (And.intro hdb (And.intro hdR hdl))
  unfold BuRes
  have BB0 : Hid (Row (w.alloc (.cells #[.pointer none, .pointer none, .int .i64 (h : Int), .pointer none, .bool false] 75)) w.heap.size 75 #[.pointer none, .pointer none, .int .i64 (h : Int), .pointer none, .bool false]) := Lib.hid (Row.made w _ _)
  have C0 : Hid (Calm w (w.alloc (.cells #[.pointer none, .pointer none, .int .i64 (h : Int), .pointer none, .bool false] 75))) := Lib.hid ((Keep.refl _ w).alloc _)
  clear Q hsd L hg0 hg1 hdb hdR hn hn4 hh hfew hdl
  go_enter Tryd.func28, Tryd.ntmps28
  go_wp2_with (go_at_call 38; refine HQ.out.mono ?_; rintro e w1 ⟨rfl, rfl⟩)
  generalize World.alloc w _ = w9 at BB0 C0 ⊢
  clear i4 ih in1 in2 HQ
  obtain ⟨sb, hsb⟩ : ∃ sb, sb = w.heap.size := ⟨_, rfl⟩
  rw [← hsb] at BB0 ⊢
  have hRsb : ¬ R sb := H.out.st.fresh (Nat.le_of_eq hsb.symm)
  have hsb9 : sb < w9.heap.size := Row.lt BB0.out
  have hw0s : w0.heap.size ≤ sb := by rw [hsb]; exact H.out.st.calm.size
  have SB := Lib.hid (And.intro hsb (And.intro hRsb (And.intro hsb9 hw0s)))
  have KK0 : Hid (Keep R w w9) := Lib.hid (Calm.keep C0.out R)
  have SD0 : Hid (Sd w0 w9 R d S) := Lib.hid (H.out.rest C0.out)
  have XX0 : Hid (Ext R R w9) := Lib.hid (Ext.refl _ _)
  have KP0 : Hid (KeptIs w9 (New w w9 R) (.pointer none) none) := Lib.hid rfl
  have ZZ0 : Hid (w9.heap.size ≤ w9.heap.size) := Lib.hid (Nat.le_refl _)
  clear C0 hsb hRsb hsb9 hw0s
  refine wp_loop_rounds 3 ?_
  rw [rounds_succ]
  go_wp2_with fail
  have sl0 : sb < w9.heap.size := Row.lt BB0.out
  have nR0 : ¬ R sb := XX0.out.not SB.out.2.1 SB.out.2.2.1
  have c2 : w9.cell? ⟨sb, 2, none⟩ = some (.int .i64 (h : Int)) := by rw [BB0.out.cell]; rfl
  have LL := HL.out 0 w9.drew R S (by omega) (SD0.out.rest (Keep.refl _ _).drew) ((KK0.out.cell (p := ⟨db, 0, none⟩) HDB.out.2.2 HDB.out.2.1).trans HDB.out.1) (XX0.out.not HDB.out.2.1 (Nat.lt_of_lt_of_le HDB.out.2.2 KK0.out.size)) HG.out.1
  have e0 : ((0 * h : Nat) : Int) = 0 := by omega
  rw [e0] at LL
  have HLL := Lib.hid LL
  have SLN0 := Lib.hid (And.intro sl0 nR0)
  clear LL e0 sl0 nR0
  refine wp_region_noPanic ?_
  refine wp_region_held_drew (S := fun wx => wx.cell? ⟨sb, 2, none⟩ = some (.int .i64 (h : Int))) (by kernel_rfl) c2 (fun hHeld => ?_)
  refine take_at 0 27 (.func (.func fk) #[] #[.pointer (some ⟨db, 0, none⟩)]) rfl rfl (by kernel_rfl) (by kernel_rfl) (by kernel_rfl) (fun _ _ _ h => h) (Or.inl ⟨by rfl, ?_⟩) hHeld ?_
  · intro w hSw; go_simp
  simp only [List.setIfInBounds_toArray, List.set_cons_zero, List.set_cons_succ]
  refine take_at 1 28 (.int .i64 0) rfl rfl (by kernel_rfl) (by kernel_rfl) (by kernel_rfl) (fun _ _ _ h => h) (Or.inl ⟨by rfl, ?_⟩) hHeld ?_
  · intro w hSw; go_simp
  simp only [List.setIfInBounds_toArray, List.set_cons_zero, List.set_cons_succ]
  refine take_at 2 29 (.pointer (some ⟨sb, 0, none⟩)) rfl rfl (by kernel_rfl) (by kernel_rfl) (by kernel_rfl) (fun _ _ _ h => h) (Or.inl ⟨by rfl, ?_⟩) hHeld ?_
  · intro w hSw; go_simp
  simp only [List.setIfInBounds_toArray, List.set_cons_zero, List.set_cons_succ]
  refine take_at 3 30 (.pointer (some ⟨sb, 0, none⟩)) rfl rfl (by kernel_rfl) (by kernel_rfl) (by kernel_rfl) (fun _ _ _ h => h) (Or.inl ⟨by rfl, ?_⟩) hHeld ?_
  · intro w hSw; go_simp
  simp only [List.setIfInBounds_toArray, List.set_cons_zero, List.set_cons_succ]
  refine take_at 4 31 (.pointer (some ⟨sb, 2, none⟩)) rfl rfl (by kernel_rfl) (by kernel_rfl) (by kernel_rfl) (fun _ _ _ h => h) (Or.inl ⟨by rfl, ?_⟩) hHeld ?_
  · intro w hSw; go_simp
  simp only [List.setIfInBounds_toArray, List.set_cons_zero, List.set_cons_succ]
  refine take_at 5 32 (.int .i64 (h : Int)) rfl rfl (by kernel_rfl) (by kernel_rfl) (by kernel_rfl) (fun _ _ _ h => h) (Or.inl ⟨by rfl, ?_⟩) hHeld ?_
  · intro w hSw; go_simp
  simp only [List.setIfInBounds_toArray, List.set_cons_zero, List.set_cons_succ]
  refine take_at 6 33 (.int .i64 0) rfl rfl (by kernel_rfl) (by kernel_rfl) (by kernel_rfl) (fun _ _ _ h => h) (Or.inl ⟨by rfl, ?_⟩) hHeld ?_
  · intro w hSw; go_simp; first | rfl | (rw [IntKind.wrap_i64]; omega)
  simp only [List.setIfInBounds_toArray, List.set_cons_zero, List.set_cons_succ]
  refine take_at 7 34 (.pointer (some ⟨sb, 0, none⟩)) rfl rfl (by kernel_rfl) (by kernel_rfl) (by kernel_rfl) (fun _ _ _ h => h) (Or.inl ⟨by rfl, ?_⟩) hHeld ?_
  · intro w hSw; go_simp
  simp only [List.setIfInBounds_toArray, List.set_cons_zero, List.set_cons_succ]
  refine take_at 8 35 (.pointer (some ⟨sb, 0, none⟩)) rfl rfl (by kernel_rfl) (by kernel_rfl) (by kernel_rfl) (fun _ _ _ h => h) (Or.inl ⟨by rfl, ?_⟩) hHeld ?_
  · intro w hSw; go_simp
  simp only [List.setIfInBounds_toArray, List.set_cons_zero, List.set_cons_succ]
  refine take_at 9 36 (.pointer (some ⟨sb, 2, none⟩)) rfl rfl (by kernel_rfl) (by kernel_rfl) (by kernel_rfl) (fun _ _ _ h => h) (Or.inl ⟨by rfl, ?_⟩) hHeld ?_
  · intro w hSw; go_simp
  simp only [List.setIfInBounds_toArray, List.set_cons_zero, List.set_cons_succ]
  refine take_at 10 37 (.int .i64 (h : Int)) rfl rfl (by kernel_rfl) (by kernel_rfl) (by kernel_rfl) (fun _ _ _ h => h) (Or.inl ⟨by rfl, ?_⟩) hHeld ?_
  · intro w hSw; go_simp
  simp only [List.setIfInBounds_toArray, List.set_cons_zero, List.set_cons_succ]
  refine wpAnyH_ready (rs := [11]) (by kernel_rfl) (by simp) ?_
  refine AllReadyH.cons rfl (fun K hK => ?_) AllReadyH.nil
  go_simp
  refine HLL.out.mono ?_
  rintro e w12 ⟨R10, S10, hx2, hk2, hs2, hcase⟩
  have e2 : w12.cell? ⟨sb, 2, none⟩ = some (.int .i64 (h : Int)) := (hk2.cell (p := ⟨sb, 2, none⟩) SLN0.out.1 SLN0.out.2).trans c2
  have b2 : Row w12 sb 75 #[.pointer none, .pointer none, .int .i64 (h : Int), .pointer none, .bool false] := (BB0.out.drew).keep hk2 SLN0.out.2
  have X2 : Hid (Ext R R10 w9) := Lib.hid hx2
  have K2 : Hid (Keep R w9 w12) := Lib.hid ((Keep.refl _ _).drew.trans hk2)
  have S2h := Lib.hid hs2
  have B2 := Lib.hid b2
  obtain ⟨pv, v, c, rfl, hcs⟩ : ∃ pv v, ∃ c : Int, e = .returned (.tuple #[pv, v, .int .i64 c]) ∧ ((Bad 0 S S10 c ∧ c ≠ 0) ∨ (c = 0 ∧ ∃ jx J out, Ok 0 S S10 J out ∧ pv = .pointer (some ⟨jx, 0, none⟩) ∧ Recs w12 w9.heap.size v out ∧ w9.heap.size ≤ jx ∧ Jn w0 w12 R10 d jx S10 J ∧ (out = [] ∨ ∀ k, R10 k → R k))) := by
    rcases hcase with ⟨c, a1, a2, rfl⟩ | ⟨jx, J, out, v, a1, rfl, a2, a3, a4, a5⟩
    · exact ⟨_, _, c, rfl, .inl ⟨a1, a2⟩⟩
    · exact ⟨_, v, 0, rfl, .inr ⟨rfl, jx, J, out, a1, rfl, a2, a3, a4, a5⟩⟩
  have HC := Lib.hid hcs
  clear hcs hcase hx2 hk2 hs2 b2 HLL c2
  refine hK.out _ _ e2 (fun hHeld => ?_)
  clear hK K
  try simp only [List.setIfInBounds_toArray, List.set_cons_zero, List.set_cons_succ]
  refine take_at 12 26 (.tuple #[pv, v, .int .i64 c]) rfl rfl (by kernel_rfl) (by kernel_rfl) (by kernel_rfl) (fun _ _ _ h => h) (Or.inl ⟨by rfl, ?_⟩) hHeld ?_
  · intro w hSw; go_simp
  simp only [List.setIfInBounds_toArray, List.set_cons_zero, List.set_cons_succ]
  refine take_at 13 39 (pv) rfl rfl (by kernel_rfl) (by kernel_rfl) (by kernel_rfl) (fun _ _ _ h => h) (Or.inl ⟨by rfl, ?_⟩) hHeld ?_
  · intro w hSw; go_simp
  simp only [List.setIfInBounds_toArray, List.set_cons_zero, List.set_cons_succ]
  refine take_at 14 40 (v) rfl rfl (by kernel_rfl) (by kernel_rfl) (by kernel_rfl) (fun _ _ _ h => h) (Or.inl ⟨by rfl, ?_⟩) hHeld ?_
  · intro w hSw; go_simp
  simp only [List.setIfInBounds_toArray, List.set_cons_zero, List.set_cons_succ]
  refine take_at 15 41 (.int .i64 c) rfl rfl (by kernel_rfl) (by kernel_rfl) (by kernel_rfl) (fun _ _ _ h => h) (Or.inl ⟨by rfl, ?_⟩) hHeld ?_
  · intro w hSw; go_simp
  simp only [List.setIfInBounds_toArray, List.set_cons_zero, List.set_cons_succ]
  refine take_at 16 8 (pv) rfl rfl (by kernel_rfl) (by kernel_rfl) (by kernel_rfl) (fun _ _ _ h => h) (Or.inl ⟨by rfl, ?_⟩) hHeld ?_
  · intro w hSw; go_simp
  simp only [List.setIfInBounds_toArray, List.set_cons_zero, List.set_cons_succ]
  refine take_at 17 9 (v) rfl rfl (by kernel_rfl) (by kernel_rfl) (by kernel_rfl) (fun _ _ _ h => h) (Or.inl ⟨by rfl, ?_⟩) hHeld ?_
  · intro w hSw; go_simp
  simp only [List.setIfInBounds_toArray, List.set_cons_zero, List.set_cons_succ]
  refine take_at 18 10 (.int .i64 c) rfl rfl (by kernel_rfl) (by kernel_rfl) (by kernel_rfl) (fun _ _ _ h => h) (Or.inl ⟨by rfl, ?_⟩) hHeld ?_
  · intro w hSw; go_simp
  simp only [List.setIfInBounds_toArray, List.set_cons_zero, List.set_cons_succ]
  refine wpAnyH_done (by kernel_rfl) (NoPanic.normal ?_) _
  clear hHeld
  have hC := HC.out
  rcases hC with ⟨hbad, hc0⟩ | ⟨hc0, j0, J0, out0, hok, hpv, hrc, hjs, hjn, hor⟩
  · have t : (c != 0) = true := by simp [hc0]
    have HB := Lib.hid hbad
    clear HC hbad hc0 e2
    go_wp2_with fail
    go_ret2
    exact ⟨R10, S10, (XX0.out.trans X2.out ZZ0.out).calm KK0.out.size, KK0.out.then_ K2.out (fun i hi e => (XX0.out i e).resolve_right (by have := KK0.out.size; omega)), S2h.out, .inl ⟨c, HB.out, rfl⟩⟩
  clear HC
  subst hc0
  subst hpv
  have OK0 := Lib.hid hok
  have hnR2 : ¬ R10 sb := X2.out.not SLN0.out.2 SLN0.out.1
  have f2 : w12.frozen? ⟨sb, 0, none⟩ = false := B2.out.soft 0
  have g2 : w12.cell? ⟨sb, 0, none⟩ = some (.pointer none) := by rw [B2.out.cell]; rfl
  obtain ⟨Av, cv, rfl⟩ := hrc.form
  have kA : Keep (· = sb) w12 (w12.setCell ⟨sb, 0, none⟩ (.pointer (some ⟨j0, 0, none⟩))) := (Keep.refl (· = sb) w12).store (p := ⟨sb, 0, none⟩) (fun _ => rfl) _
  have bA : Row (w12.setCell ⟨sb, 0, none⟩ (.pointer (some ⟨j0, 0, none⟩))) sb 75 #[.pointer (some ⟨j0, 0, none⟩), .pointer none, .int .i64 (h : Int), .pointer none, .bool false] := by simpa using B2.out.store 0 (.pointer (some ⟨j0, 0, none⟩))
  have rA : Recs (w12.setCell ⟨sb, 0, none⟩ (.pointer (some ⟨j0, 0, none⟩))) w9.heap.size (.slice Av out0.length cv) out0 := hrc.keep kA (fun g t cur _ hrow ht e => by subst e; exact (hrow.ne B2.out (by rcases ht with rfl | rfl <;> decide)) rfl)
  have hzA : w9.heap.size ≤ (w12.setCell ⟨sb, 0, none⟩ (.pointer (some ⟨j0, 0, none⟩))).heap.size := Nat.le_trans K2.out.size kA.size
  have TH : Calls Tryd.prog 47 #[.int .i64 0, .slice Av out0.length cv] (w12.setCell ⟨sb, 0, none⟩ (.pointer (some ⟨j0, 0, none⟩))) _ := sthingOf_c (y := 0) (A := 0) (n := 0) (c := 0) (by omega) rA hzA
  have HTH := Lib.hid TH
  have HOR := Lib.hid hor
  have HJN := Lib.hid hjn
  have HJS := Lib.hid hjs
  clear hok rA TH hor hjn hjs hrc e2
  go_wp2_with fail
  refine HTH.out.mono ?_
  generalize hwA : World.setCell w12 _ _ = wA at kA bA hzA ⊢
  clear hwA HTH
  rintro e w13 ⟨tv, rfl, hc3, hk3⟩
  have hN3 : KeptIs w13 (New w w13 R10) tv (thingO 0 out0) := by
    rcases HOR.out with e | e
    · subst e; exact hk3
    · exact hk3.mono (fun k hk => ⟨by have := KK0.out.size; omega, hk.2, fun er => absurd (SD0.out.st.lt k (e k er)) (by omega)⟩)
  have hO3 : KeptIs w13 (New w w13 R10) (.pointer none) none := by
    have h1 := KP0.out.keep K2.out (fun g hg => hg.2.2)
    have h2 := h1.keepT kA (fun g t cur _ ht hrow e => by subst e; exact (hrow.ne B2.out (by rcases ht with rfl | rfl <;> decide)) rfl)
    have h3 := h2.keep hc3 (fun _ _ e => e)
    exact h3.mono (fun k hk => hk.ext X2.out (by have := hc3.size; omega))
  have CH := Lib.hid (schoose_c (bA.keep hc3 (fun e => e)) hO3 hN3)
  clear hN3 hO3 hk3 f2 g2
  go_wp2_with fail
  refine CH.out.mono ?_
  rintro e w19 ⟨rfl, k4, kv0, r4, kp4⟩
  have kA : Keep (· = sb) w12 w13 := kA.trans (Calm.keep hc3 _)
  have hz4 := Nat.le_trans K2.out.size (Nat.le_trans kA.size k4.size)
  have kT : Keep (· = sb) w12 w19 := kA.trans k4
  have BB1 := Lib.hid r4
  have KP1 : Hid (KeptIs w19 (New w w19 R10) kv0 (chooseO none (thingO 0 out0))) := Lib.hid (kp4.mono (fun k hk => ⟨hk.1, by have := hk.2.1; have := k4.size; omega, hk.2.2⟩))
  have XX1 : Hid (Ext R R10 w9) := Lib.hid (XX0.out.trans X2.out ZZ0.out)
  have ZZ1 : Hid (w9.heap.size ≤ w19.heap.size) := Lib.hid (Nat.le_trans ZZ0.out hz4)
  have KK1 : Hid (Keep R w w19) := Lib.hid ((KK0.out.then_ K2.out (fun i hi e => (XX0.out i e).resolve_right (by have := KK0.out.size; omega))).then_ kT (fun i hi e => by have := SB.out.1; omega))
  have SD1 : Hid (Sd w0 w19 R10 d S10) := Lib.hid (S2h.out.apart kT (fun i e => by subst e; exact ⟨hnR2, SB.out.2.2.2⟩))
  have JJ0 : Hid (JRow w19 j0 d J0 ∧ New w w19 R10 j0) := Lib.hid (by
    have n0 : j0 ≠ sb := fun e => (Row.ne HJN.out.row B2.out (by decide)) e
    exact ⟨HJN.out.row.keep kT n0, by have := HJS.out; have := KK0.out.size; omega, Nat.lt_of_lt_of_le HJN.out.lt kT.size, HJN.out.out⟩)
  clear CH kA k4 r4 kp4 hz4 kT hc3 bA hzA B2 S2h K2 X2 HOR HJN
  go_wp2_with fail
  rw [rounds_succ]
  go_wp2_with fail
  have sl1 : sb < w19.heap.size := Row.lt BB1.out
  have nR1 : ¬ R10 sb := XX1.out.not SB.out.2.1 SB.out.2.2.1
  have c2 : w19.cell? ⟨sb, 2, none⟩ = some (.int .i64 (h : Int)) := by rw [BB1.out.cell]; rfl
  have LL := HL.out 1 w19.drew R10 S10 (by omega) (SD1.out.rest (Keep.refl _ _).drew) ((KK1.out.cell (p := ⟨db, 0, none⟩) HDB.out.2.2 HDB.out.2.1).trans HDB.out.1) (XX1.out.not HDB.out.2.1 (Nat.lt_of_lt_of_le HDB.out.2.2 KK0.out.size)) (HG.out.2 _ _ _ OK0.out)
  have e0 : ((1 * h : Nat) : Int) = (h : Int) := by omega
  rw [e0] at LL
  have HLL := Lib.hid LL
  have SLN1 := Lib.hid (And.intro sl1 nR1)
  clear LL e0 sl1 nR1
  refine wp_region_noPanic ?_
  refine wp_region_held_drew (S := fun wx => wx.cell? ⟨sb, 2, none⟩ = some (.int .i64 (h : Int))) (by kernel_rfl) c2 (fun hHeld => ?_)
  refine take_at 0 27 (.func (.func fk) #[] #[.pointer (some ⟨db, 0, none⟩)]) rfl rfl (by kernel_rfl) (by kernel_rfl) (by kernel_rfl) (fun _ _ _ h => h) (Or.inl ⟨by rfl, ?_⟩) hHeld ?_
  · intro w hSw; go_simp
  simp only [List.setIfInBounds_toArray, List.set_cons_zero, List.set_cons_succ]
  refine take_at 1 28 (.int .i64 1) rfl rfl (by kernel_rfl) (by kernel_rfl) (by kernel_rfl) (fun _ _ _ h => h) (Or.inl ⟨by rfl, ?_⟩) hHeld ?_
  · intro w hSw; go_simp
  simp only [List.setIfInBounds_toArray, List.set_cons_zero, List.set_cons_succ]
  refine take_at 2 29 (.pointer (some ⟨sb, 0, none⟩)) rfl rfl (by kernel_rfl) (by kernel_rfl) (by kernel_rfl) (fun _ _ _ h => h) (Or.inl ⟨by rfl, ?_⟩) hHeld ?_
  · intro w hSw; go_simp
  simp only [List.setIfInBounds_toArray, List.set_cons_zero, List.set_cons_succ]
  refine take_at 3 30 (.pointer (some ⟨sb, 0, none⟩)) rfl rfl (by kernel_rfl) (by kernel_rfl) (by kernel_rfl) (fun _ _ _ h => h) (Or.inl ⟨by rfl, ?_⟩) hHeld ?_
  · intro w hSw; go_simp
  simp only [List.setIfInBounds_toArray, List.set_cons_zero, List.set_cons_succ]
  refine take_at 4 31 (.pointer (some ⟨sb, 2, none⟩)) rfl rfl (by kernel_rfl) (by kernel_rfl) (by kernel_rfl) (fun _ _ _ h => h) (Or.inl ⟨by rfl, ?_⟩) hHeld ?_
  · intro w hSw; go_simp
  simp only [List.setIfInBounds_toArray, List.set_cons_zero, List.set_cons_succ]
  refine take_at 5 32 (.int .i64 (h : Int)) rfl rfl (by kernel_rfl) (by kernel_rfl) (by kernel_rfl) (fun _ _ _ h => h) (Or.inl ⟨by rfl, ?_⟩) hHeld ?_
  · intro w hSw; go_simp
  simp only [List.setIfInBounds_toArray, List.set_cons_zero, List.set_cons_succ]
  refine take_at 6 33 (.int .i64 (h : Int)) rfl rfl (by kernel_rfl) (by kernel_rfl) (by kernel_rfl) (fun _ _ _ h => h) (Or.inl ⟨by rfl, ?_⟩) hHeld ?_
  · intro w hSw; go_simp; first | rfl | (rw [IntKind.wrap_i64]; omega)
  simp only [List.setIfInBounds_toArray, List.set_cons_zero, List.set_cons_succ]
  refine take_at 7 34 (.pointer (some ⟨sb, 0, none⟩)) rfl rfl (by kernel_rfl) (by kernel_rfl) (by kernel_rfl) (fun _ _ _ h => h) (Or.inl ⟨by rfl, ?_⟩) hHeld ?_
  · intro w hSw; go_simp
  simp only [List.setIfInBounds_toArray, List.set_cons_zero, List.set_cons_succ]
  refine take_at 8 35 (.pointer (some ⟨sb, 0, none⟩)) rfl rfl (by kernel_rfl) (by kernel_rfl) (by kernel_rfl) (fun _ _ _ h => h) (Or.inl ⟨by rfl, ?_⟩) hHeld ?_
  · intro w hSw; go_simp
  simp only [List.setIfInBounds_toArray, List.set_cons_zero, List.set_cons_succ]
  refine take_at 9 36 (.pointer (some ⟨sb, 2, none⟩)) rfl rfl (by kernel_rfl) (by kernel_rfl) (by kernel_rfl) (fun _ _ _ h => h) (Or.inl ⟨by rfl, ?_⟩) hHeld ?_
  · intro w hSw; go_simp
  simp only [List.setIfInBounds_toArray, List.set_cons_zero, List.set_cons_succ]
  refine take_at 10 37 (.int .i64 (h : Int)) rfl rfl (by kernel_rfl) (by kernel_rfl) (by kernel_rfl) (fun _ _ _ h => h) (Or.inl ⟨by rfl, ?_⟩) hHeld ?_
  · intro w hSw; go_simp
  simp only [List.setIfInBounds_toArray, List.set_cons_zero, List.set_cons_succ]
  refine wpAnyH_ready (rs := [11]) (by kernel_rfl) (by simp) ?_
  refine AllReadyH.cons rfl (fun K hK => ?_) AllReadyH.nil
  go_simp
  refine HLL.out.mono ?_
  rintro e w22 ⟨R20, S20, hx2, hk2, hs2, hcase⟩
  have e2 : w22.cell? ⟨sb, 2, none⟩ = some (.int .i64 (h : Int)) := (hk2.cell (p := ⟨sb, 2, none⟩) SLN1.out.1 SLN1.out.2).trans c2
  have b2 : Row w22 sb 75 #[.pointer (some ⟨j0, 0, none⟩), .pointer none, .int .i64 (h : Int), kv0, .bool false] := (BB1.out.drew).keep hk2 SLN1.out.2
  have X2 : Hid (Ext R10 R20 w19) := Lib.hid hx2
  have K2 : Hid (Keep R10 w19 w22) := Lib.hid ((Keep.refl _ _).drew.trans hk2)
  have S2h := Lib.hid hs2
  have B2 := Lib.hid b2
  obtain ⟨pv, v, c, rfl, hcs⟩ : ∃ pv v, ∃ c : Int, e = .returned (.tuple #[pv, v, .int .i64 c]) ∧ ((Bad 1 S10 S20 c ∧ c ≠ 0) ∨ (c = 0 ∧ ∃ jx J out, Ok 1 S10 S20 J out ∧ pv = .pointer (some ⟨jx, 0, none⟩) ∧ Recs w22 w19.heap.size v out ∧ w19.heap.size ≤ jx ∧ Jn w0 w22 R20 d jx S20 J ∧ (out = [] ∨ ∀ k, R20 k → R10 k))) := by
    rcases hcase with ⟨c, a1, a2, rfl⟩ | ⟨jx, J, out, v, a1, rfl, a2, a3, a4, a5⟩
    · exact ⟨_, _, c, rfl, .inl ⟨a1, a2⟩⟩
    · exact ⟨_, v, 0, rfl, .inr ⟨rfl, jx, J, out, a1, rfl, a2, a3, a4, a5⟩⟩
  have HC := Lib.hid hcs
  clear hcs hcase hx2 hk2 hs2 b2 HLL c2
  refine hK.out _ _ e2 (fun hHeld => ?_)
  clear hK K
  try simp only [List.setIfInBounds_toArray, List.set_cons_zero, List.set_cons_succ]
  refine take_at 12 26 (.tuple #[pv, v, .int .i64 c]) rfl rfl (by kernel_rfl) (by kernel_rfl) (by kernel_rfl) (fun _ _ _ h => h) (Or.inl ⟨by rfl, ?_⟩) hHeld ?_
  · intro w hSw; go_simp
  simp only [List.setIfInBounds_toArray, List.set_cons_zero, List.set_cons_succ]
  refine take_at 13 39 (pv) rfl rfl (by kernel_rfl) (by kernel_rfl) (by kernel_rfl) (fun _ _ _ h => h) (Or.inl ⟨by rfl, ?_⟩) hHeld ?_
  · intro w hSw; go_simp
  simp only [List.setIfInBounds_toArray, List.set_cons_zero, List.set_cons_succ]
  refine take_at 14 40 (v) rfl rfl (by kernel_rfl) (by kernel_rfl) (by kernel_rfl) (fun _ _ _ h => h) (Or.inl ⟨by rfl, ?_⟩) hHeld ?_
  · intro w hSw; go_simp
  simp only [List.setIfInBounds_toArray, List.set_cons_zero, List.set_cons_succ]
  refine take_at 15 41 (.int .i64 c) rfl rfl (by kernel_rfl) (by kernel_rfl) (by kernel_rfl) (fun _ _ _ h => h) (Or.inl ⟨by rfl, ?_⟩) hHeld ?_
  · intro w hSw; go_simp
  simp only [List.setIfInBounds_toArray, List.set_cons_zero, List.set_cons_succ]
  refine take_at 16 8 (pv) rfl rfl (by kernel_rfl) (by kernel_rfl) (by kernel_rfl) (fun _ _ _ h => h) (Or.inl ⟨by rfl, ?_⟩) hHeld ?_
  · intro w hSw; go_simp
  simp only [List.setIfInBounds_toArray, List.set_cons_zero, List.set_cons_succ]
  refine take_at 17 9 (v) rfl rfl (by kernel_rfl) (by kernel_rfl) (by kernel_rfl) (fun _ _ _ h => h) (Or.inl ⟨by rfl, ?_⟩) hHeld ?_
  · intro w hSw; go_simp
  simp only [List.setIfInBounds_toArray, List.set_cons_zero, List.set_cons_succ]
  refine take_at 18 10 (.int .i64 c) rfl rfl (by kernel_rfl) (by kernel_rfl) (by kernel_rfl) (fun _ _ _ h => h) (Or.inl ⟨by rfl, ?_⟩) hHeld ?_
  · intro w hSw; go_simp
  simp only [List.setIfInBounds_toArray, List.set_cons_zero, List.set_cons_succ]
  refine wpAnyH_done (by kernel_rfl) (NoPanic.normal ?_) _
  clear hHeld
  have hC := HC.out
  rcases hC with ⟨hbad, hc0⟩ | ⟨hc0, j1, J1, out1, hok, hpv, hrc, hjs, hjn, hor⟩
  · have t : (c != 0) = true := by simp [hc0]
    have HB := Lib.hid hbad
    clear HC hbad hc0 e2
    go_wp2_with fail
    go_ret2
    exact ⟨R20, S20, (XX1.out.trans X2.out ZZ1.out).calm KK0.out.size, KK1.out.then_ K2.out (fun i hi e => (XX1.out i e).resolve_right (by have := KK0.out.size; omega)), S2h.out, .inr (.inl ⟨_, _, _, c, OK0.out, HB.out, rfl⟩)⟩
  clear HC
  subst hc0
  subst hpv
  have OK1 := Lib.hid hok
  have hnR2 : ¬ R20 sb := X2.out.not SLN1.out.2 SLN1.out.1
  have f2 : w22.frozen? ⟨sb, 1, none⟩ = false := B2.out.soft 1
  have g2 : w22.cell? ⟨sb, 1, none⟩ = some (.pointer none) := by rw [B2.out.cell]; rfl
  obtain ⟨Av, cv, rfl⟩ := hrc.form
  have kA : Keep (· = sb) w22 (w22.setCell ⟨sb, 1, none⟩ (.pointer (some ⟨j1, 0, none⟩))) := (Keep.refl (· = sb) w22).store (p := ⟨sb, 1, none⟩) (fun _ => rfl) _
  have bA : Row (w22.setCell ⟨sb, 1, none⟩ (.pointer (some ⟨j1, 0, none⟩))) sb 75 #[.pointer (some ⟨j0, 0, none⟩), .pointer (some ⟨j1, 0, none⟩), .int .i64 (h : Int), kv0, .bool false] := by simpa using B2.out.store 1 (.pointer (some ⟨j1, 0, none⟩))
  have rA : Recs (w22.setCell ⟨sb, 1, none⟩ (.pointer (some ⟨j1, 0, none⟩))) w19.heap.size (.slice Av out1.length cv) out1 := hrc.keep kA (fun g t cur _ hrow ht e => by subst e; exact (hrow.ne B2.out (by rcases ht with rfl | rfl <;> decide)) rfl)
  have hzA : w19.heap.size ≤ (w22.setCell ⟨sb, 1, none⟩ (.pointer (some ⟨j1, 0, none⟩))).heap.size := Nat.le_trans K2.out.size kA.size
  have TH : Calls Tryd.prog 47 #[.int .i64 1, .slice Av out1.length cv] (w22.setCell ⟨sb, 1, none⟩ (.pointer (some ⟨j1, 0, none⟩))) _ := sthingOf_c (y := 1) (A := 0) (n := 0) (c := 0) (by omega) rA hzA
  have HTH := Lib.hid TH
  have HOR := Lib.hid hor
  have HJN := Lib.hid hjn
  have HJS := Lib.hid hjs
  clear hok rA TH hor hjn hjs hrc e2
  go_wp2_with fail
  refine HTH.out.mono ?_
  generalize hwA : World.setCell w22 _ _ = wA at kA bA hzA ⊢
  clear hwA HTH
  rintro e w23 ⟨tv, rfl, hc3, hk3⟩
  have hN3 : KeptIs w23 (New w w23 R20) tv (thingO 1 out1) := by
    rcases HOR.out with e | e
    · subst e; exact hk3
    · exact hk3.mono (fun k hk => ⟨by have := KK1.out.size; omega, hk.2, fun er => absurd (SD1.out.st.lt k (e k er)) (by omega)⟩)
  have hO3 : KeptIs w23 (New w w23 R20) (kv0) (chooseO none (thingO 0 out0)) := by
    have h1 := KP1.out.keep K2.out (fun g hg => hg.2.2)
    have h2 := h1.keepT kA (fun g t cur _ ht hrow e => by subst e; exact (hrow.ne B2.out (by rcases ht with rfl | rfl <;> decide)) rfl)
    have h3 := h2.keep hc3 (fun _ _ e => e)
    exact h3.mono (fun k hk => hk.ext X2.out (by have := hc3.size; omega))
  have CH := Lib.hid (schoose_c (bA.keep hc3 (fun e => e)) hO3 hN3)
  clear hN3 hO3 hk3 f2 g2
  go_wp2_with fail
  refine CH.out.mono ?_
  rintro e w29 ⟨rfl, k4, kv1, r4, kp4⟩
  have kA : Keep (· = sb) w22 w23 := kA.trans (Calm.keep hc3 _)
  have hz4 := Nat.le_trans K2.out.size (Nat.le_trans kA.size k4.size)
  have kT : Keep (· = sb) w22 w29 := kA.trans k4
  have BB2 := Lib.hid r4
  have KP2 : Hid (KeptIs w29 (New w w29 R20) kv1 (chooseO (chooseO none (thingO 0 out0)) (thingO 1 out1))) := Lib.hid (kp4.mono (fun k hk => ⟨hk.1, by have := hk.2.1; have := k4.size; omega, hk.2.2⟩))
  have XX2 : Hid (Ext R R20 w9) := Lib.hid (XX1.out.trans X2.out ZZ1.out)
  have ZZ2 : Hid (w9.heap.size ≤ w29.heap.size) := Lib.hid (Nat.le_trans ZZ1.out hz4)
  have KK2 : Hid (Keep R w w29) := Lib.hid ((KK1.out.then_ K2.out (fun i hi e => (XX1.out i e).resolve_right (by have := KK0.out.size; omega))).then_ kT (fun i hi e => by have := SB.out.1; omega))
  have SD2 : Hid (Sd w0 w29 R20 d S20) := Lib.hid (S2h.out.apart kT (fun i e => by subst e; exact ⟨hnR2, SB.out.2.2.2⟩))
  have JJ1 : Hid (JRow w29 j1 d J1 ∧ New w w29 R20 j1) := Lib.hid (by
    have n0 : j1 ≠ sb := fun e => (Row.ne HJN.out.row B2.out (by decide)) e
    exact ⟨HJN.out.row.keep kT n0, by have := HJS.out; have := KK1.out.size; omega, Nat.lt_of_lt_of_le HJN.out.lt kT.size, HJN.out.out⟩)
  have J0x : Hid (JRow w29 j0 d J0 ∧ New w w29 R20 j0) := Lib.hid (by
    have n0 : j0 ≠ sb := fun e => (Row.ne JJ0.out.1 BB1.out (by decide)) e
    exact ⟨((JJ0.out.1.keep K2.out JJ0.out.2.2.2).keep kA n0).keep k4 n0, JJ0.out.2.ext X2.out (by have := K2.out.size; have := kA.size; have := k4.size; omega)⟩)
  clear CH kA k4 r4 kp4 hz4 kT hc3 bA hzA B2 S2h X2 K2 HOR HJN
  go_wp2_with fail
  rw [rounds_succ]
  go_wp2_with fail
  go_ret2
  have hT : ∀ k, New w w29 R20 k → w0.heap.size ≤ k := fun k hk => Nat.le_trans H.out.st.calm.size hk.1
  refine ⟨R20, S20, XX2.out.calm KK0.out.size, KK2.out, SD2.out, .inr (.inr ⟨S10, J0, out0, J1, out1, sb, j0, j1, New w w29 R20, OK0.out, OK1.out, rfl, fun k hk => hk.1, SD2.out, ⟨⟨kv1, BB2.out, ?_⟩, J0x.out.1, JJ1.out.1, ?_, J0x.out.2, JJ1.out.2, ?_, hT, fun k hk => hk.2.1⟩, fun k hk => hk.2.2⟩)⟩
  · have e : chooseO (chooseO none (thingO 0 out0)) (thingO 1 out1) = chooseO (thingO 0 out0) (thingO 1 out1) := by
      congr 1
      unfold chooseO
      split
      · rename_i h; rw [h]
      · rename_i h; rw [h]
    have := KP2.out
    rw [e] at this
    exact this
  · exact ⟨Nat.le_of_eq SB.out.1.symm, Row.lt BB2.out, XX2.out.not SB.out.2.1 SB.out.2.2.1⟩
  · have := HJS.out
    have := JJ0.out.2.2.1
    show j0 ≠ j1
    omega
end Go.Proofs.YtfigiofiakkbdaaDoor
