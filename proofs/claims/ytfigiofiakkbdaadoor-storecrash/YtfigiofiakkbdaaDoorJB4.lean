/-
  Package journal: begin, Commit, Reset, Append.
-/
import Derived.Test.YtfigiofiakkbdaaDoorJB3
namespace Go.Proofs.YtfigiofiakkbdaaDoor
open Go.RowKit
set_option linter.all false

theorem Sd.few {w0 w : World} {R : Nat → Prop} {d : Nat} {S : DS} (h : Sd w0 w R d S) : S.secs.length ≤ 4096 := by obtain ⟨_, _, _, _, _, hl⟩ := h.st.disk; exact hl.few
/-- A journal over a disk. -/
structure Jn (w0 w : World) (R : Nat → Prop) (d jb : Nat) (S : DS) (J : JS) : Prop where
  sd : Sd w0 w R d S
  row : JRow w jb d J
  out : ¬ R jb
  new : w0.heap.size ≤ jb
def RJ (R : Nat → Prop) (jb : Nat) (k : Nat) : Prop := R k ∨ k = jb
section
variable {w0 w w' : World} {R R' : Nat → Prop} {d jb : Nat} {S S1 : DS} {J J' : JS}
theorem Jn.lt (h : Jn w0 w R d jb S J) : jb < w.heap.size := Row.lt h.row
theorem Jn.calm (h : Jn w0 w R d jb S J) : Calm w0 w := h.sd.st.calm
theorem Jn.rest (h : Jn w0 w R d jb S J) (hc : Calm w w') : Jn w0 w' R d jb S J := ⟨h.sd.rest hc, h.row.calm hc, h.out, h.new⟩
theorem Jn.moved (h : Jn w0 w R d jb S J) (hs : Sd w0 w' R' d S1) (hx : Ext R R' w) (hk : Keep R w w') : Jn w0 w' R' d jb S1 J := ⟨hs, h.row.keep hk h.out, hx.not h.out h.lt, h.new⟩
theorem Jn.turned (h : Jn w0 w R d jb S J) (hr : JRow w' jb d J') (hk : Keep (· = jb) w w') : Jn w0 w' R d jb S J' :=
  ⟨h.sd.apart hk (fun i e => by subst e; exact ⟨h.out, h.new⟩), hr, h.out, h.new⟩
theorem Keep.rj (h : Keep R w w') : Keep (RJ R jb) w w' := h.mono (fun _ _ e => .inl e)
theorem Keep.rj2 (h : Keep (· = jb) w w') : Keep (RJ R jb) w w' := h.mono (fun _ _ e => .inr e)
end
theorem Ext.calm {R R' : Nat → Prop} {w w1 : World} (h : Ext R R' w1) (hs : w.heap.size ≤ w1.heap.size) : Ext R R' w := fun k hk => (h k hk).imp id (fun e => Nat.le_trans hs e)
theorem Keep.two {R R' : Nat → Prop} {jb : Nat} {w w1 w2 : World} (h : Keep (RJ R jb) w w1) (k : Keep (RJ R' jb) w1 w2) (hx : Ext R R' w) : Keep (RJ R jb) w w2 :=
  h.then_ k (fun i hi e => by
    rcases e with e | e
    · exact .inl ((hx i e).resolve_right (by omega))
    · exact .inr e)
theorem nil_rd (w : World) : Rd w (.slice none 0 0) [] := .inl ⟨rfl, rfl⟩
theorem BRow.calm {w w' : World} {g : Nat} {p : List UInt8} (h : BRow w g p) (k : Calm w w') : BRow w' g p := Row.keep h k (fun e => e)

/-- What begin answers. -/
def BegRes (w0 w : World) (R : Nat → Prop) (d jb n : Nat) (S : DS) (J : JS) (e : Ending) (w' : World) : Prop :=
  ∃ R' S1 J', ((S.wr J.from_ (begP n) = (true, S1) ∧ e = .returned (.int .i64 0) ∧ J' = { J with free := J.from_ + 1, last := n }) ∨ (S.wr J.from_ (begP n) = (false, S1) ∧ e = .returned (.int .i64 11) ∧ J' = { J with failed := true })) ∧
    Jn w0 w' R' d jb S1 J' ∧ Ext R R' w ∧ Keep (RJ R jb) w w'

set_option maxRecDepth 100000 in
set_option maxHeartbeats 1600000 in
theorem jbegin_c {w0 w : World} {R : Nat → Prop} {d jb : Nat} {S : DS} {J : JS} (hT : Tab w0) (h : Jn w0 w R d jb S J) (n : Nat) (hn : n < 18446744073709551616) (hfr : J.from_ < S.secs.length) (hf : S.fine 1) :
    Calls Tryd.prog 49 #[.pointer (some ⟨jb, 0, none⟩), .int .u64 (n : Int)] w (BegRes w0 w R d jb n S J) := by
  obtain ⟨from_, end_, free, last, failed⟩ := J
  simp only at hfr
  have hfew := h.sd.few
  obtain ⟨c0, c1, -, -, -, -⟩ := h.row.cells
  simp only at c0 c1
  have hjl := h.lt
  have H := Lib.hid h
  have i1 : (from_ : Int) ≤ 4096 := by omega
  have P1 := Lib.hid (jpicture_c n 4294967295 (.slice none 0 0) [] w.drew (hT.calm h.calm.drew) (nil_rd _) (by simp) hn (by decide))
  clear h
  go_enter Tryd.func49, Tryd.ntmps49
  go_upto_region 1 with fail
  refine wp_region_noPanic ?_
  refine wp_region_held_drew (S := fun wx => wx.cell? ⟨jb, 0, none⟩ = some (.pointer (some ⟨d, 0, none⟩)) ∧ wx.cell? ⟨jb, 1, none⟩ = some (.int .i64 (from_ : Int))) (by kernel_rfl) ⟨c0, c1⟩ (fun hHeld => ?_)
  refine take_at 0 6 (.pointer (some ⟨jb, 0, none⟩)) rfl rfl (by kernel_rfl) (by kernel_rfl) (by kernel_rfl) (fun _ _ _ h => h) (Or.inl ⟨by rfl, ?_⟩) hHeld ?_
  · intro w hSw; go_simp
  simp only [List.setIfInBounds_toArray, List.set_cons_zero, List.set_cons_succ]
  refine take_at 1 7 (.pointer (some ⟨jb, 0, none⟩)) rfl rfl (by kernel_rfl) (by kernel_rfl) (by kernel_rfl) (fun _ _ _ h => h) (Or.inl ⟨by rfl, ?_⟩) hHeld ?_
  · intro w hSw; go_simp
  simp only [List.setIfInBounds_toArray, List.set_cons_zero, List.set_cons_succ]
  refine take_at 2 8 (.pointer (some ⟨jb, 0, none⟩)) rfl rfl (by kernel_rfl) (by kernel_rfl) (by kernel_rfl) (fun _ _ _ h => h) (Or.inl ⟨by rfl, ?_⟩) hHeld ?_
  · intro w hSw; go_simp
  simp only [List.setIfInBounds_toArray, List.set_cons_zero, List.set_cons_succ]
  refine take_at 3 9 (.pointer (some ⟨d, 0, none⟩)) rfl rfl (by kernel_rfl) (by kernel_rfl) (by kernel_rfl) (fun _ _ _ h => h) (Or.inl ⟨by rfl, ?_⟩) hHeld ?_
  · intro w hSw; obtain ⟨s1, s2⟩ := hSw; go_simp
  simp only [List.setIfInBounds_toArray, List.set_cons_zero, List.set_cons_succ]
  refine take_at 4 10 (.pointer (some ⟨jb, 0, none⟩)) rfl rfl (by kernel_rfl) (by kernel_rfl) (by kernel_rfl) (fun _ _ _ h => h) (Or.inl ⟨by rfl, ?_⟩) hHeld ?_
  · intro w hSw; go_simp
  simp only [List.setIfInBounds_toArray, List.set_cons_zero, List.set_cons_succ]
  refine take_at 5 11 (.pointer (some ⟨jb, 0, none⟩)) rfl rfl (by kernel_rfl) (by kernel_rfl) (by kernel_rfl) (fun _ _ _ h => h) (Or.inl ⟨by rfl, ?_⟩) hHeld ?_
  · intro w hSw; go_simp
  simp only [List.setIfInBounds_toArray, List.set_cons_zero, List.set_cons_succ]
  refine take_at 6 12 (.pointer (some ⟨jb, 1, none⟩)) rfl rfl (by kernel_rfl) (by kernel_rfl) (by kernel_rfl) (fun _ _ _ h => h) (Or.inl ⟨by rfl, ?_⟩) hHeld ?_
  · intro w hSw; go_simp
  simp only [List.setIfInBounds_toArray, List.set_cons_zero, List.set_cons_succ]
  refine take_at 7 13 (.int .i64 (from_ : Int)) rfl rfl (by kernel_rfl) (by kernel_rfl) (by kernel_rfl) (fun _ _ _ h => h) (Or.inl ⟨by rfl, ?_⟩) hHeld ?_
  · intro w hSw; obtain ⟨s1, s2⟩ := hSw; go_simp
  simp only [List.setIfInBounds_toArray, List.set_cons_zero, List.set_cons_succ]
  refine take_at 8 14 (.int .u64 (n : Int)) rfl rfl (by kernel_rfl) (by kernel_rfl) (by kernel_rfl) (fun _ _ _ h => h) (Or.inl ⟨by rfl, ?_⟩) hHeld ?_
  · intro w hSw; go_simp
  simp only [List.setIfInBounds_toArray, List.set_cons_zero, List.set_cons_succ]
  refine wpAnyH_ready (rs := [9]) (by kernel_rfl) (by simp) ?_
  refine AllReadyH.cons rfl (fun K hK => ?_) AllReadyH.nil
  go_simp
  refine P1.out.mono ?_
  rintro e w2 ⟨g, rfl, hg1, hg2, hc2⟩
  have e0 : w2.cell? ⟨jb, 0, none⟩ = some (.pointer (some ⟨d, 0, none⟩)) := (hc2.cell (p := ⟨jb, 0, none⟩) hjl (fun e => e)).trans c0
  have e1 : w2.cell? ⟨jb, 1, none⟩ = some (.int .i64 (from_ : Int)) := (hc2.cell (p := ⟨jb, 1, none⟩) hjl (fun e => e)).trans c1
  have H2 := H.out.rest ((Keep.refl _ w).drew.trans hc2)
  have ng : ¬ R g := fun e => absurd (H.out.sd.st.lt g e) (by have : w.heap.size ≤ g := hg1; omega)
  have hb := BRow.bytes hg2 0 512 512 (Q := fun k => ¬ R k) ng (by rw [show pic n 4294967295 [] = begP n from rfl, begP_len]; decide)
  rw [show ((pic n 4294967295 []).drop 0).take 512 = begP n by rw [List.drop_zero, List.take_of_length_le (by rw [show pic n 4294967295 [] = begP n from rfl, begP_len]; decide)]; rfl] at hb
  have P2 := Lib.hid (sd_write H2.sd hf from_ hfr _ _ hb (begP_len n))
  have HH2 := Lib.hid H2
  have HC2 := Lib.hid hc2
  clear hg1 hg2 hc2 H2 hb ng P1
  simp only [secsOf, List.length_nil, Nat.zero_add, Nat.reduceAdd, Nat.reduceDiv, Nat.reduceMul]
  refine hK.out _ _ ⟨e0, e1⟩ (fun hHeld => ?_)
  clear hK K
  try simp only [List.setIfInBounds_toArray, List.set_cons_zero, List.set_cons_succ]
  refine wpAnyH_ready (rs := [10]) (by kernel_rfl) (by simp) ?_
  refine AllReadyH.cons rfl (fun K hK => ?_) AllReadyH.nil
  go_simp
  refine P2.out.mono ?_
  rintro e w3 ⟨R3, S3, hcase, hs3, hx3, hk3⟩
  have f0 : w3.cell? ⟨jb, 0, none⟩ = some (.pointer (some ⟨d, 0, none⟩)) := (hk3.cell (p := ⟨jb, 0, none⟩) HH2.out.lt HH2.out.out).trans e0
  have f1 : w3.cell? ⟨jb, 1, none⟩ = some (.int .i64 (from_ : Int)) := (hk3.cell (p := ⟨jb, 1, none⟩) HH2.out.lt HH2.out.out).trans e1
  have H3 := Lib.hid (HH2.out.moved hs3 hx3 hk3)
  have hx3' : Ext R R3 w := hx3.calm HC2.out.size
  have K3 : Hid (Keep (RJ R jb) w w3) := Lib.hid ((Calm.keep ((Keep.refl _ w).drew.trans HC2.out) R).trans hk3).rj
  have X3 := Lib.hid hx3'
  have fr3 := H3.out.row.soft 3
  have fr4 := H3.out.row.soft 4
  obtain ⟨-, -, -, g3, g4, -⟩ := H3.out.row.cells
  simp only at g3 g4
  obtain ⟨c9, rfl, h9⟩ : ∃ c : Int, e = .returned (.int .i64 c) ∧ ((S.wr from_ (begP n) = (true, S3) ∧ c = 0) ∨ (S.wr from_ (begP n) = (false, S3) ∧ c = 11)) := by
    rcases hcase with ⟨hw2, rfl⟩ | ⟨hw2, rfl⟩
    · exact ⟨0, rfl, .inl ⟨hw2, rfl⟩⟩
    · exact ⟨11, rfl, .inr ⟨hw2, rfl⟩⟩
  clear hs3 hx3 hk3 hx3' hcase e0 e1 P2
  refine hK.out _ _ ⟨f0, f1⟩ (fun hHeld => ?_)
  clear hK K
  try simp only [List.setIfInBounds_toArray, List.set_cons_zero, List.set_cons_succ]
  refine take_at 11 5 (.int .i64 c9) rfl rfl (by kernel_rfl) (by kernel_rfl) (by kernel_rfl) (fun _ _ _ h => h) (Or.inl ⟨by rfl, ?_⟩) hHeld ?_
  · intro w hSw; go_simp
  simp only [List.setIfInBounds_toArray, List.set_cons_zero, List.set_cons_succ]
  refine wpAnyH_done (by kernel_rfl) (NoPanic.normal ?_) _
  clear hHeld c0 c1
  rcases h9 with ⟨hw, rfl⟩ | ⟨hw, rfl⟩
  · have HW := Lib.hid hw
    clear hw
    go_wp2_with fail
    go_ret
    have r := Row.store (Row.store H3.out.row 3 (.int .i64 ((from_ + 1 : Nat) : Int))) 4 (.int .u64 (n : Int))
    have k : Keep (· = jb) w3 ((w3.setCell ⟨jb, 3, none⟩ (.int .i64 ((from_ + 1 : Nat) : Int))).setCell ⟨jb, 4, none⟩ (.int .u64 (n : Int))) := ((Keep.refl (· = jb) w3).store (p := ⟨jb, 3, none⟩) (fun _ => rfl) _).store (p := ⟨jb, 4, none⟩) (fun _ => rfl) _
    exact ⟨R3, S3, _, .inl ⟨HW.out, rfl, rfl⟩, H3.out.turned (by simpa [JRow] using r) k, X3.out, K3.out.trans k.rj2⟩
  · have HW := Lib.hid hw
    have F := Lib.hid (jfail_c H3.out.row 11)
    clear hw
    go_wp2_with fail
    refine F.out.mono ?_
    rintro e w4 ⟨rfl, r4, k4⟩
    have R4 := Lib.hid r4
    have K4 := Lib.hid k4
    clear r4 k4 F
    go_wp2_with fail
    go_ret
    exact ⟨R3, S3, _, .inr ⟨HW.out, rfl, rfl⟩, H3.out.turned R4.out K4.out, X3.out, K3.out.trans K4.out.rj2⟩

/-- What Commit answers, of one that is of use. -/
def ComRes (w0 w : World) (R : Nat → Prop) (d jb : Nat) (S : DS) (J : JS) (e : Ending) (w' : World) : Prop :=
  ∃ R' S1 J', ((S.bar = (true, S1) ∧ e = .returned (.int .i64 0) ∧ J' = J) ∨ (S.bar = (false, S1) ∧ e = .returned (.int .i64 11) ∧ J' = { J with failed := true })) ∧ Jn w0 w' R' d jb S1 J' ∧ Ext R R' w ∧ Keep (RJ R jb) w w'

set_option maxHeartbeats 1600000 in
theorem jcommit_no {w : World} {jb d : Nat} {J : JS} (h : JRow w jb d J) (hf : J.failed = true) :
    Calls Tryd.prog 50 #[.pointer (some ⟨jb, 0, none⟩)] w fun e w' => e = .returned (.int .i64 11) ∧ w = w' := by
  obtain ⟨-, -, -, -, -, c5⟩ := h.cells
  rw [hf] at c5
  clear h hf
  go_enter Tryd.func50, Tryd.ntmps50
  go_wp2_with fail
  go_ret
  exact ⟨rfl, rfl⟩
set_option maxHeartbeats 1600000 in
theorem jcommit_c {w0 w : World} {R : Nat → Prop} {d jb : Nat} {S : DS} {J : JS} (h : Jn w0 w R d jb S J) (hfa : J.failed = false) (hf : S.fine 1) :
    Calls Tryd.prog 50 #[.pointer (some ⟨jb, 0, none⟩)] w (ComRes w0 w R d jb S J) := by
  obtain ⟨c0, -, -, -, -, c5⟩ := h.row.cells
  rw [hfa] at c5
  have H := Lib.hid h
  have B := Lib.hid (sd_barrier h.sd hf)
  clear h hfa
  go_enter Tryd.func50, Tryd.ntmps50
  go_wp2_with fail
  refine B.out.mono ?_
  rintro e w1 ⟨R1, S1, ⟨hb, rfl⟩ | ⟨hb, rfl⟩, hs, hx, hk⟩
  · have HB := Lib.hid hb
    have H1 := Lib.hid (H.out.moved hs hx hk)
    have X := Lib.hid hx
    have K := Lib.hid hk
    clear hb hs hx hk B
    go_wp2_with fail
    go_ret
    exact ⟨R1, S1, _, .inl ⟨HB.out, rfl, rfl⟩, H1.out, X.out, K.out.rj⟩
  · have HB := Lib.hid hb
    have H1 := Lib.hid (H.out.moved hs hx hk)
    have X := Lib.hid hx
    have K := Lib.hid hk
    have F := Lib.hid (jfail_c H1.out.row 11)
    clear hb hs hx hk B
    go_wp2_with fail
    refine F.out.mono ?_
    rintro e w4 ⟨rfl, r4, k4⟩
    have R4 := Lib.hid r4
    have K4 := Lib.hid k4
    clear r4 k4 F
    go_wp2_with fail
    go_ret
    exact ⟨R1, S1, _, .inr ⟨HB.out, rfl, rfl⟩, H1.out.turned R4.out K4.out, X.out, K.out.rj.trans K4.out.rj2⟩

set_option maxHeartbeats 1600000 in
theorem jreset_no {w : World} {jb d : Nat} {J : JS} (h : JRow w jb d J) (hf : J.failed = true) :
    Calls Tryd.prog 56 #[.pointer (some ⟨jb, 0, none⟩)] w fun e w' => e = .returned (.int .i64 11) ∧ w = w' := by
  obtain ⟨-, -, -, -, -, c5⟩ := h.cells
  rw [hf] at c5
  clear h hf
  go_enter Tryd.func56, Tryd.ntmps56
  go_wp2_with fail
  go_ret
  exact ⟨rfl, rfl⟩
set_option maxHeartbeats 1600000 in
theorem jreset_full {w : World} {jb d : Nat} {J : JS} (h : JRow w jb d J) (hf : J.failed = false) (hl : 4611686018427387904 ≤ J.last) (hm : J.last ≤ 9000000000000000000) :
    Calls Tryd.prog 56 #[.pointer (some ⟨jb, 0, none⟩)] w fun e w' => e = .returned (.int .i64 5) ∧ w = w' := by
  obtain ⟨-, -, -, -, -, c5⟩ := h.cells
  rw [hf] at c5
  have N := Lib.hid (jnext_c h hm)
  have t : decide ((4611686018427387904 : Int) < ((J.last + 1 : Nat) : Int)) = true := decide_eq_true (by omega)
  generalize J.last + 1 = q at *
  clear h hf
  go_enter Tryd.func56, Tryd.ntmps56
  go_wp2_with (refine N.out.mono ?_; rintro e w1 ⟨rfl, rfl⟩)
  go_ret
  exact ⟨rfl, rfl⟩
set_option maxHeartbeats 1600000 in
theorem jreset_c {w0 w : World} {R : Nat → Prop} {d jb : Nat} {S : DS} {J : JS} (hT : Tab w0) (h : Jn w0 w R d jb S J) (hfa : J.failed = false) (hl : J.last < 4611686018427387904) (hfr : J.from_ < S.secs.length) (hf : S.fine 1) :
    Calls Tryd.prog 56 #[.pointer (some ⟨jb, 0, none⟩)] w (BegRes w0 w R d jb (J.last + 1) S J) := by
  obtain ⟨-, -, -, -, -, c5⟩ := h.row.cells
  rw [hfa] at c5
  have N := Lib.hid (jnext_c h.row (by omega))
  have B := Lib.hid (jbegin_c hT h (J.last + 1) (by omega) hfr hf)
  have t : decide ((4611686018427387904 : Int) < ((J.last + 1 : Nat) : Int)) = false := decide_eq_false (by omega)
  generalize J.last + 1 = q at *
  clear h hfa
  go_enter Tryd.func56, Tryd.ntmps56
  go_wp2_with (refine N.out.mono ?_; rintro e w1 ⟨rfl, rfl⟩)
  refine B.out.mono ?_
  rintro e w1 ⟨R1, S1, J1, hcase, hr⟩
  have HR := Lib.hid hr
  clear hr B
  rcases hcase with ⟨h1, rfl, h2⟩ | ⟨h1, rfl, h2⟩
  · have HH := Lib.hid (And.intro h1 h2)
    clear h1 h2
    go_wp2_with fail
    go_ret
    exact ⟨R1, S1, J1, .inl ⟨HH.out.1, rfl, HH.out.2⟩, HR.out⟩
  · have HH := Lib.hid (And.intro h1 h2)
    clear h1 h2
    go_wp2_with fail
    go_ret
    exact ⟨R1, S1, J1, .inr ⟨HH.out.1, rfl, HH.out.2⟩, HR.out⟩

/-- What Append answers, of one that is of use, where there is room. -/
def AppRes (w0 w : World) (R : Nat → Prop) (d jb : Nat) (b : List UInt8) (S : DS) (J : JS) (e : Ending) (w' : World) : Prop :=
  ∃ R' S1 J', ((S.put J.free (recP (J.last + 1) b) (secsOf b.length - 1) = (true, S1) ∧ e = .returned (.int .i64 0) ∧ J' = { J with free := J.free + secsOf b.length, last := J.last + 1 }) ∨
    (S.put J.free (recP (J.last + 1) b) (secsOf b.length - 1) = (false, S1) ∧ e = .returned (.int .i64 11) ∧ J' = { J with failed := true })) ∧ Jn w0 w' R' d jb S1 J' ∧ Ext R R' w ∧ Keep (RJ R jb) w w'

set_option maxHeartbeats 1600000 in
theorem jappend_no {w : World} {jb d : Nat} {J : JS} (h : JRow w jb d J) (hf : J.failed = true) (v : Value) :
    Calls Tryd.prog 54 #[.pointer (some ⟨jb, 0, none⟩), v] w fun e w' => e = .returned (.int .i64 11) ∧ w = w' := by
  obtain ⟨-, -, -, -, -, c5⟩ := h.cells
  rw [hf] at c5
  clear h hf
  go_enter Tryd.func54, Tryd.ntmps54
  go_wp2_with fail
  go_ret
  exact ⟨rfl, rfl⟩
set_option maxHeartbeats 1600000 in
theorem jappend_full {w : World} {jb d : Nat} {J : JS} (h : JRow w jb d J) (hf : J.failed = false) (hle : J.free ≤ J.end_) (hm : J.end_ ≤ 4096) (hlm : J.last ≤ 9000000000000000000) (A : Option Addr) (n c : Nat) (hfull : J.room < (n : Int) ∨ 4611686018427387904 ≤ J.last) :
    Calls Tryd.prog 54 #[.pointer (some ⟨jb, 0, none⟩), .slice A n c] w fun e w' => e = .returned (.int .i64 5) ∧ Calm w w' := by
  obtain ⟨-, -, -, -, -, c5⟩ := h.cells
  rw [hf] at c5
  have HR := Lib.hid (jroom_c h hle hm)
  by_cases hr : J.room < (n : Int)
  · have t : decide (J.room < (n : Int)) = true := decide_eq_true hr
    generalize J.room = rm at *
    clear h hf hfull
    go_enter Tryd.func54, Tryd.ntmps54
    go_wp2_with fail
    refine HR.out.mono ?_
    rintro e w1 ⟨rfl, hc⟩
    have HC := Lib.hid hc
    clear hc HR
    go_wp2_with fail
    go_ret
    exact ⟨rfl, HC.out⟩
  · have t : decide (J.room < (n : Int)) = false := decide_eq_false hr
    have t2 : decide ((4611686018427387904 : Int) < ((J.last + 1 : Nat) : Int)) = true := decide_eq_true (by omega)
    have N := fun w1 (hc : Calm w w1) => Lib.hid (jnext_c (h.calm hc) hlm)
    generalize J.room = rm at *
    generalize J.last + 1 = q at *
    clear h hf hfull
    go_enter Tryd.func54, Tryd.ntmps54
    go_wp2_with fail
    refine HR.out.mono ?_
    rintro e w1 ⟨rfl, hc⟩
    have HC := Lib.hid hc
    have N1 := N w1 hc
    clear hc HR N
    go_wp2_with (refine N1.out.mono ?_; rintro e w1 ⟨rfl, rfl⟩)
    go_ret
    exact ⟨rfl, HC.out⟩

set_option maxHeartbeats 3200000 in
theorem jappend_c {w0 w : World} {R : Nat → Prop} {d jb : Nat} {S : DS} {J : JS} (hT : Tab w0) (h : Jn w0 w R d jb S J) (hfa : J.failed = false) (hle : J.free ≤ J.end_) (hen : J.end_ ≤ S.secs.length) (v : Value) (b : List UInt8) (hv : Rd w v b)
    (hroom : (b.length : Int) ≤ J.room) (hl : J.last < 4611686018427387904) (hf : S.fine (secsOf b.length + 1)) :
    Calls Tryd.prog 54 #[.pointer (some ⟨jb, 0, none⟩), v] w (AppRes w0 w R d jb b S J) := by
  have hfew := h.sd.few
  have hlt : J.free < J.end_ := by
    rcases Nat.lt_or_ge J.free J.end_ with e | e
    · exact e
    · have : J.free = J.end_ := by omega
      rw [JS.room, if_pos this] at hroom
      omega
  have hrm : (b.length : Int) + 16 ≤ ((J.end_ : Int) - J.free) * 512 := by rw [JS.room, if_neg (by omega)] at hroom; omega
  obtain ⟨-, -, -, -, -, c5⟩ := h.row.cells
  rw [hfa] at c5
  obtain ⟨A, c, rfl, _, _⟩ := hv.form
  have hbl : b.length ≤ 2100000 := by omega
  have hm1 : 1 ≤ secsOf b.length ∧ J.free + secsOf b.length ≤ J.end_ := by unfold secsOf; omega
  have HR := Lib.hid (jroom_c h.row hle (by omega))
  have t : decide (J.room < (b.length : Int)) = false := decide_eq_false (by omega)
  have t2 : decide ((4611686018427387904 : Int) < ((J.last + 1 : Nat) : Int)) = false := decide_eq_false (by omega)
  have N := fun w1 (hc : Calm w w1) => Lib.hid (jnext_c (h.row.calm hc) (by omega))
  have P := fun w1 (hc : Calm w w1) => Lib.hid (jpicture_c (J.last + 1) b.length (.slice A b.length c) b w1 (hT.calm (h.calm.trans hc)) (hv.calm hc) (by omega) (by omega) (by omega))
  have H := Lib.hid h
  have HV := Lib.hid hv
  have hrl : (recP (J.last + 1) b).length = 512 * (secsOf b.length - 1 + 1) := by rw [rec_len]; congr 1; omega
  obtain ⟨ms, hms⟩ : ∃ ms, ms + 1 = secsOf b.length := ⟨secsOf b.length - 1, by omega⟩
  have hu : IntKind.u64.wrap (b.length : Int) = (b.length : Int) := by rw [IntKind.wrap_u64]; omega
  have HMS := Lib.hid hms
  have HB := Lib.hid (And.intro hlt (And.intro hrm (And.intro hm1 (And.intro hfew (And.intro hle (And.intro hen (And.intro hl hf)))))))
  have HRL := Lib.hid hrl
  have hbi : (b.length : Int) ≤ 2100000 := by omega
  clear h hfa hv hm1 hrl hms hlt hrm hle hen hroom hf
  generalize hrmm : J.room = rm at *
  obtain ⟨q, hq⟩ : ∃ q, q = J.last + 1 := ⟨_, rfl⟩
  rw [← hq] at t2 N P HRL
  have HQ := Lib.hid hq
  clear hq hrmm
  go_enter Tryd.func54, Tryd.ntmps54
  go_wp2_with fail
  refine HR.out.mono ?_
  rintro e w1 ⟨rfl, hc⟩
  have HC := Lib.hid hc
  have N1 := N w1 hc
  have P1 := P w1 hc
  clear hc HR N P
  go_wp2_with (refine N1.out.mono ?_; rintro e w1 ⟨rfl, rfl⟩)
  refine P1.out.mono ?_
  rintro e w2 ⟨g, rfl, hg1, hg2, hc2⟩
  have H2 := H.out.rest (HC.out.trans hc2)
  have ng : ¬ R g := fun e => absurd (H.out.sd.st.lt g e) (by have := HC.out.size; omega)
  have W := jwrite_c (m := ms) H2.sd H2.row H2.out hg2 ng (by show (recP q b).length = _; rw [HRL.out, ← HMS.out]; rfl) (by have := HB.out; have := HMS.out; omega) HB.out.2.2.2.1 (HB.out.2.2.2.2.2.2.2.mono (by have := HMS.out; omega))
  rw [show 512 * (ms + 1) = secsOf b.length * 512 by rw [HMS.out, Nat.mul_comm]] at W
  have HW := Lib.hid W
  have HH2 := Lib.hid H2
  have HC2 := Lib.hid (HC.out.trans hc2)
  clear W H2 hg1 hg2 hc2 ng P1 N1
  generalize hL : secsOf b.length * 512 = L at *
  clear hL
  go_wp2_with fail
  refine HW.out.mono ?_
  rintro e w3 ⟨R3, S3, c9, hcase, rfl, hs3, hx3, hk3⟩
  have H3 := Lib.hid (HH2.out.moved hs3 hx3 hk3)
  have X3 : Hid (Ext R R3 w) := Lib.hid (hx3.calm HC2.out.size)
  have K3 : Hid (Keep (RJ R jb) w w3) := Lib.hid ((Calm.keep HC2.out R).trans hk3).rj
  have hms' : ms = secsOf b.length - 1 := by have := HMS.out; omega
  rw [hms'] at hcase
  rcases hcase with ⟨hput, rfl⟩ | ⟨hput, rfl⟩
  · have HP := Lib.hid hput
    have AD := Lib.hid (jadvance_c H3.out.row b.length (by omega) (by have := HB.out; omega) (by have := HB.out; omega))
    clear hput hs3 hx3 hk3 hms'
    go_wp2_with fail
    refine AD.out.mono ?_
    rintro e w4 ⟨rfl, r4, k4⟩
    have R4 := Lib.hid r4
    have K4 := Lib.hid k4
    clear r4 k4 AD
    go_wp2_with fail
    go_ret
    exact ⟨R3, S3, _, .inl ⟨by rw [← HQ.out]; exact HP.out, rfl, rfl⟩, H3.out.turned R4.out K4.out, X3.out, K3.out.trans K4.out.rj2⟩
  · have HP := Lib.hid hput
    have F := Lib.hid (jfail_c H3.out.row 11)
    clear hput hs3 hx3 hk3 hms'
    go_wp2_with fail
    refine F.out.mono ?_
    rintro e w4 ⟨rfl, r4, k4⟩
    have R4 := Lib.hid r4
    have K4 := Lib.hid k4
    clear r4 k4 F
    go_wp2_with fail
    go_ret
    exact ⟨R3, S3, _, .inr ⟨by rw [← HQ.out]; exact HP.out, rfl, rfl⟩, H3.out.turned R4.out K4.out, X3.out, K3.out.trans K4.out.rj2⟩
end Go.Proofs.YtfigiofiakkbdaaDoor
