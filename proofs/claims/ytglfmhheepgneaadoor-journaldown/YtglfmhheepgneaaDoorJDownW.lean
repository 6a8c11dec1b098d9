/-
  JournalDown, walked.
-/
import Derived.Test.YtglfmhheepgneaaDoorJC5
namespace Go.Proofs.YtglfmhheepgneaaDoor
open Go.RowKit
set_option linter.all false

/-- Between two rounds: a journal of twenty sectors over a disk with an armed crash, or one that has crashed. -/
structure Dn (w0 w : World) (R : Nat → Prop) (d jb : Nat) (S : DS) (J : JS) (i : Nat) (dn : Bool) : Prop where
  jn : Jn w0 w R d jb S J
  fr : J.from_ = 0
  en : J.end_ = 20
  f1 : 1 ≤ J.free
  f2 : J.free ≤ 20
  la : J.last ≤ 1 + i
  fa : J.failed = dn
  sl : S.secs.length = 20
  at0 : S.AtS 0 (· = begP 1)
  fine : S.fine (1000 - 20 * i)
  live : dn = false → S.Live
  dead : dn = true → S.Dead
theorem Dn.rest {w0 w w' : World} {R : Nat → Prop} {d jb : Nat} {S : DS} {J : JS} {i : Nat} {dn : Bool} (h : Dn w0 w R d jb S J i dn) (hc : Calm w w') : Dn w0 w' R d jb S J i dn :=
  ⟨h.jn.rest hc, h.fr, h.en, h.f1, h.f2, h.la, h.fa, h.sl, h.at0, h.fine, h.live, h.dead⟩
/-- One round more, nothing done. -/
theorem Dn.next {w0 w : World} {R : Nat → Prop} {d jb : Nat} {S : DS} {J : JS} {i : Nat} {dn : Bool} (h : Dn w0 w R d jb S J i dn) : Dn w0 w R d jb S J (i + 1) dn :=
  ⟨h.jn, h.fr, h.en, h.f1, h.f2, by have := h.la; omega, h.fa, h.sl, h.at0, h.fine.mono (by omega), h.live, h.dead⟩

/-- What Append makes of such a one. -/
def DnApp (w0 w : World) (R : Nat → Prop) (d jb : Nat) (J : JS) (i q : Nat) (e : Ending) (w' : World) : Prop :=
  ∃ R' S' J' c, e = .returned (.int .i64 c) ∧ Jn w0 w' R' d jb S' J' ∧ J'.from_ = 0 ∧ J'.end_ = 20 ∧ 1 ≤ J'.free ∧ J'.free ≤ 20 ∧ J'.last ≤ 1 + (i + 1) ∧ S'.secs.length = 20 ∧ S'.AtS 0 (· = begP 1) ∧ S'.fine (1000 - 20 * i - 10) ∧
    ((c = 0 ∧ J'.failed = false ∧ S'.Live) ∨ (c = 5 ∧ J'.failed = false ∧ S'.Live ∧ J.room < (q : Int)) ∨ (c = 11 ∧ J'.failed = true ∧ S'.Dead))
theorem dn_append {w0 w : World} {R : Nat → Prop} {d jb : Nat} {S : DS} {J : JS} {i : Nat} (hT : Tab w0) (h : Dn w0 w R d jb S J i false) (hi : i ≤ 10) (A : Option Addr) (q c : Nat) (b : List UInt8) (hb : b.length = q) (hq : q ≤ 600) (hv : Rd w (.slice A q c) b) :
    Calls Tryd.prog 16 #[.pointer (some ⟨jb, 0, none⟩), .slice A q c] w (DnApp w0 w R d jb J i q) := by
  have hla := h.la
  have hq2 : secsOf b.length ≤ 2 := by unfold secsOf; omega
  have hq0 := secsOf_pos b.length
  by_cases hr : J.room < (q : Int)
  · refine (jappend_full h.jn.row h.fa (by rw [h.en]; exact h.f2) (by rw [h.en]; omega) (by omega) A q c (.inl hr)).mono ?_
    rintro e w' ⟨rfl, hc⟩
    exact ⟨R, S, J, 5, rfl, h.jn.rest hc, h.fr, h.en, h.f1, h.f2, by omega, h.sl, h.at0, h.fine.mono (by omega), .inr (.inl ⟨rfl, h.fa, h.live rfl, hr⟩)⟩
  · have hle : J.free ≤ J.end_ := by rw [h.en]; exact h.f2
    have hsec : J.free + secsOf b.length ≤ 20 := by
      have h2 := h.f2
      have h3 := h.en
      unfold JS.room at hr
      split at hr
      · omega
      · rw [hb]; unfold secsOf; omega
    refine (jappend_c hT h.jn h.fa hle (by rw [h.en, h.sl]; omega) _ b hv (by rw [hb]; omega) (by omega) (h.fine.mono (by omega))).mono ?_
    have h1 := h.f1
    rintro e w' ⟨R', S1, J', ⟨e1, rfl, rfl⟩ | ⟨e1, rfl, rfl⟩, hjn, hx, hk⟩
    · have hf := DS.put_fine (n := 1000 - 20 * i - 10) e1 (h.fine.mono (by omega))
      rcases (h.live rfl).put e1 with ⟨_, hl⟩ | ⟨hh, _⟩
      · exact ⟨R', S1, _, 0, rfl, hjn, h.fr, h.en, by simp only; omega, by simp only; omega, by simp only; omega, hf.2.trans h.sl, h.at0.put (.inl (by omega)) e1, hf.1, .inl ⟨rfl, h.fa, hl⟩⟩
      · cases hh
    · have hf := DS.put_fine (n := 1000 - 20 * i - 10) e1 (h.fine.mono (by omega))
      rcases (h.live rfl).put e1 with ⟨hh, _⟩ | ⟨_, hl⟩
      · cases hh
      · exact ⟨R', S1, _, 11, rfl, hjn, h.fr, h.en, h.f1, h.f2, by simp only; omega, hf.2.trans h.sl, h.at0.put (.inl (by omega)) e1, hf.1, .inr (.inr ⟨rfl, rfl, hl⟩)⟩
/-- What Commit makes of it. -/
def DnCom (w0 w : World) (d jb : Nat) (i : Nat) (fa : Bool) (e : Ending) (w' : World) : Prop :=
  ∃ R' S' J' dn, e = .returned (.int .i64 (if dn then 11 else 0)) ∧ Dn w0 w' R' d jb S' J' (i + 1) dn ∧ (fa = true → dn = true)
theorem dn_commit {w0 w : World} {R : Nat → Prop} {d jb : Nat} {S : DS} {J : JS} {i : Nat} (hi : i ≤ 10) (hj : Jn w0 w R d jb S J) (h1 : J.from_ = 0) (h2 : J.end_ = 20) (h3 : 1 ≤ J.free) (h4 : J.free ≤ 20) (h5 : J.last ≤ 1 + (i + 1)) (h6 : S.secs.length = 20) (h7 : S.AtS 0 (· = begP 1)) (h8 : S.fine (1000 - 20 * i - 10))
    (h9 : (J.failed = false ∧ S.Live) ∨ (J.failed = true ∧ S.Dead)) : Calls Tryd.prog 17 #[.pointer (some ⟨jb, 0, none⟩)] w (DnCom w0 w d jb i J.failed) := by
  rcases h9 with ⟨hf, hl⟩ | ⟨hf, hl⟩
  · refine (jcommit_c hj hf (h8.mono (by omega))).mono ?_
    rintro e w' ⟨R', S1, J', ⟨e1, rfl, rfl⟩ | ⟨e1, rfl, rfl⟩, hjn, hx, hk⟩
    · have hfi := DS.bar_fine (n := 1000 - 20 * (i + 1)) e1 (h8.mono (by omega))
      rcases hl.bar e1 with ⟨_, hl2⟩ | ⟨hh, _⟩
      · exact ⟨R', S1, _, false, rfl, ⟨hjn, h1, h2, h3, h4, h5, hf, hfi.2.trans h6, h7.bar e1, hfi.1, fun _ => hl2, fun e => by cases e⟩, fun e => by rw [hf] at e; cases e⟩
      · cases hh
    · have hfi := DS.bar_fine (n := 1000 - 20 * (i + 1)) e1 (h8.mono (by omega))
      rcases hl.bar e1 with ⟨hh, _⟩ | ⟨_, hl2⟩
      · cases hh
      · exact ⟨R', S1, _, true, rfl, ⟨hjn, h1, h2, h3, h4, h5, rfl, hfi.2.trans h6, h7.bar e1, hfi.1, (fun e => by cases e), fun _ => hl2⟩, fun _ => rfl⟩
  · refine (jcommit_no hj.row hf).mono ?_
    rintro e w' ⟨rfl, rfl⟩
    exact ⟨R, S, J, true, rfl, ⟨hj, h1, h2, h3, h4, h5, hf, h6, h7, h8.mono (by omega), (fun e => by cases e), fun _ => hl⟩, fun _ => rfl⟩

set_option maxRecDepth 100000 in
set_option maxHeartbeats 8000000 in
theorem down_law_c (w : World) (hT : Tab w) (a0 : Int) (v : Value) (ss : List (List UInt8)) (hv : Strv w v ss) :
    Calls Tryd.prog 5 #[.int .i64 a0, v] w fun e w' => e = .returned (.bool true) ∧ Calm w w' := by
  obtain ⟨r0, b0, m0⟩ := mask_nat a0 16 65535 (by omega) (by decide)
  obtain ⟨A, cap, rfl, hml⟩ := hv.form
  unfold maxLen at hml
  obtain ⟨n, hn, hn'⟩ : ∃ n : Nat, n ≤ 20 ∧ (r0 : Int) % 21 = (n : Int) := ⟨r0 % 21, by omega, by omega⟩
  have SH := Lib.hid (shown_c w hT)
  have HT := Lib.hid hT
  have HV := Lib.hid hv
  have b0' : (r0 : Int) < 65536 := by omega
  clear hT hv
  go_enter Tryd.func5, Tryd.ntmps5
  go_wp2_with fail
  refine SH.out.mono ?_
  rintro e w1 ⟨rfl, c1⟩
  have C1 := Lib.hid c1
  have T1 := Lib.hid (HT.out.calm c1)
  have N := Lib.hid (new_up w1 20 (by omega) (by omega))
  clear c1 SH
  go_wp2_with fail
  refine N.out.mono ?_
  rintro e w2 ⟨R2, d, S2, rfl, s2, u2, sh2, e2, o2, c2⟩
  have FM := Lib.hid (jformat_up (f := 0) (k := 20) T1.out s2 u2 sh2 (by omega) (by omega) (by unfold DS.fine; rw [e2, o2]; simp))
  have HO2 := Lib.hid o2
  clear s2 u2 sh2 e2 o2 N c2 m0 b0'
  go_wp2_with fail
  refine FM.out.mono ?_
  rintro e w3 ⟨R3, S3, jb, rfl, -, f3, -, -, e3, b3, o3⟩
  have AR := Lib.hid (sd_arm f3.jn.sd n (by unfold big; omega))
  have F3 := Lib.hid f3
  have HE3 := Lib.hid (And.intro e3 (And.intro b3 o3))
  clear f3 e3 o3 FM b3
  go_wp2_with fail
  try rw [hn']
  refine AR.out.mono ?_
  rintro e w4 ⟨R4, rfl, s4, x4, k4⟩
  have D4 : Hid (Dn w1 w4 R4 d jb { S3 with arm := some (n, []) } ⟨0, 20, 1, 1, false⟩ 0 false) := Lib.hid (by
    have hj := F3.out.jn.moved s4 x4 k4
    refine ⟨hj, rfl, rfl, by simp only; omega, by simp only; omega, by simp only; omega, rfl, F3.out.shows.1, ⟨?_, ?_⟩, ?_, fun _ => ⟨F3.out.up.1, n, [], rfl⟩, fun e => by cases e⟩
    · have := HE3.out.2.1 0 (by omega)
      simpa [upd] using this
    · intro y hy
      simp only at hy
      rw [HE3.out.1] at hy
      cases hy
    · unfold DS.fine
      simp only
      rw [HE3.out.1, HE3.out.2.2, HO2.out]
      simp)
  clear s4 x4 k4 AR hn' F3 HE3
  go_upto_block 0 with fail
  go_cut [10] (fun s10 wc => ∃ (i : Nat) (Rr : Nat → Prop) (Sr : DS) (J : JS) (dn : Bool), i ≤ 10 ∧ s10 = .bool dn ∧ Dn w1 wc Rr d jb Sr J i dn)
  case first =>
    go_wp2_with fail
    go_loopw [10, 11] (fun v10 v11 wr => ∃ (i : Nat) (Rr : Nat → Prop) (Sr : DS) (J : JS) (dn : Bool), i ≤ 10 ∧ i ≤ ss.length ∧ v11 = .int .i64 (i : Int) ∧ v10 = .bool dn ∧ Dn w1 wr Rr d jb Sr J i dn) (fun _ v11 _ => 10 - (intOf v11).toNat)
    case atStart => exact ⟨0, R4, _, _, false, by omega, by omega, rfl, rfl, D4.out⟩
    case round =>
      obtain ⟨i, Rr, Sr, J, dn, hi10, hil, rfl, rfl, hd⟩ := hrel
      have ii : (i : Int) ≤ 10 := by omega
      have HD := Lib.hid hd
      clear hd D4
      by_cases hgo : i < ss.length ∧ i < 10
      · obtain ⟨hlt, hlt10⟩ := hgo
        have i0 : (i : Int) < (ss.length : Int) := by omega
        have i1 : (i : Int) < 10 := by omega
        obtain ⟨ad, s, rfl, hsi, hsl, hadb, hcell⟩ := HV.out.at_ (C1.out.trans HD.out.jn.calm) i hlt
        obtain ⟨q, hq, hq1, hq2, hq3⟩ := cut_len s.length 600
        have hq' : (if (600 : Int) < (s.length : Int) then (600 : Int) else (s.length : Int)) = (q : Int) := hq
        have se : (str s).extract 0 q = str (s.take q) := by rw [str_extract]; simp
        have ssz := str_size s
        have htl : (s.take q).length = q := by simp; omega
        unfold maxLen at hsl
        have qi : (q : Int) ≤ 600 := by omega
        have qj : (q : Int) ≤ (s.length : Int) := by omega
        have HQ := Lib.hid (And.intro htl hq1)
        have D5 := Lib.hid (HD.out.rest ((Keep.refl _ wr).drew))
        clear hq hq3 hq2 hsi hadb htl
        go_upto_region 14 with fail
        refine wp_region_noPanic ?_
        refine wp_region_held_drew (S := fun wx => wx.cell? (ad.add i) = some (.string (str s))) (by kernel_rfl) hcell (fun hHeld => ?_)
        refine take_at 0 53 (.slice (some ad) ss.length cap) rfl rfl (by kernel_rfl) (by kernel_rfl) (by kernel_rfl) (fun _ _ _ h => h) (Or.inl ⟨by rfl, ?_⟩) hHeld ?_
        · intro w hSw; go_simp
        simp only [List.setIfInBounds_toArray, List.set_cons_zero, List.set_cons_succ]
        refine take_at 1 54 (.int .i64 (i : Int)) rfl rfl (by kernel_rfl) (by kernel_rfl) (by kernel_rfl) (fun _ _ _ h => h) (Or.inl ⟨by rfl, ?_⟩) hHeld ?_
        · intro w hSw; go_simp
        simp only [List.setIfInBounds_toArray, List.set_cons_zero, List.set_cons_succ]
        refine take_at 2 55 (.pointer (some (ad.add i))) rfl rfl (by kernel_rfl) (by kernel_rfl) (by kernel_rfl) (fun _ _ _ h => h) (Or.inl ⟨by rfl, ?_⟩) hHeld ?_
        · intro w hSw; go_simp
        simp only [List.setIfInBounds_toArray, List.set_cons_zero, List.set_cons_succ]
        refine take_at 3 56 (.string (str s)) rfl rfl (by kernel_rfl) (by kernel_rfl) (by kernel_rfl) (fun _ _ _ h => h) (Or.inl ⟨by rfl, ?_⟩) hHeld ?_
        · intro w hSw; go_simp
        simp only [List.setIfInBounds_toArray, List.set_cons_zero, List.set_cons_succ]
        refine take_at 4 57 (.slice (some ad) ss.length cap) rfl rfl (by kernel_rfl) (by kernel_rfl) (by kernel_rfl) (fun _ _ _ h => h) (Or.inl ⟨by rfl, ?_⟩) hHeld ?_
        · intro w hSw; go_simp
        simp only [List.setIfInBounds_toArray, List.set_cons_zero, List.set_cons_succ]
        refine take_at 5 58 (.int .i64 (i : Int)) rfl rfl (by kernel_rfl) (by kernel_rfl) (by kernel_rfl) (fun _ _ _ h => h) (Or.inl ⟨by rfl, ?_⟩) hHeld ?_
        · intro w hSw; go_simp
        simp only [List.setIfInBounds_toArray, List.set_cons_zero, List.set_cons_succ]
        refine take_at 6 59 (.pointer (some (ad.add i))) rfl rfl (by kernel_rfl) (by kernel_rfl) (by kernel_rfl) (fun _ _ _ h => h) (Or.inl ⟨by rfl, ?_⟩) hHeld ?_
        · intro w hSw; go_simp
        simp only [List.setIfInBounds_toArray, List.set_cons_zero, List.set_cons_succ]
        refine take_at 7 60 (.string (str s)) rfl rfl (by kernel_rfl) (by kernel_rfl) (by kernel_rfl) (fun _ _ _ h => h) (Or.inl ⟨by rfl, ?_⟩) hHeld ?_
        · intro w hSw; go_simp
        simp only [List.setIfInBounds_toArray, List.set_cons_zero, List.set_cons_succ]
        refine take_at 8 61 (.int .i64 (s.length : Int)) rfl rfl (by kernel_rfl) (by kernel_rfl) (by kernel_rfl) (fun _ _ _ h => h) (Or.inl ⟨by rfl, ?_⟩) hHeld ?_
        · intro w hSw; go_simp
        simp only [List.setIfInBounds_toArray, List.set_cons_zero, List.set_cons_succ]
        refine take_at 9 62 (.int .i64 (q : Int)) rfl rfl (by kernel_rfl) (by kernel_rfl) (by kernel_rfl) (fun _ _ _ h => h) (Or.inl ⟨by rfl, ?_⟩) hHeld ?_
        · intro w hSw; go_simp
        simp only [List.setIfInBounds_toArray, List.set_cons_zero, List.set_cons_succ]
        refine take_at 10 63 (.string (str (s.take q))) rfl rfl (by kernel_rfl) (by kernel_rfl) (by kernel_rfl) (fun _ _ _ h => h) (Or.inl ⟨by rfl, ?_⟩) hHeld ?_
        · intro w hSw; go_simp
        simp only [List.setIfInBounds_toArray, List.set_cons_zero, List.set_cons_succ]
        refine take_at 11 12 (.string (str (s.take q))) rfl rfl (by kernel_rfl) (by kernel_rfl) (by kernel_rfl) (fun _ _ _ h => h) (Or.inl ⟨by rfl, ?_⟩) hHeld ?_
        · intro w hSw; go_simp
        simp only [List.setIfInBounds_toArray, List.set_cons_zero, List.set_cons_succ]
        refine wpAnyH_done (by kernel_rfl) (NoPanic.normal ?_) _
        clear hHeld hcell se hq' ssz HD
        generalize wr.drew = w5 at *
        have RM := jroom_c D5.out.jn.row (by rw [D5.out.en]; exact D5.out.f2) (by rw [D5.out.en]; omega)
        obtain ⟨rm, hrm⟩ : ∃ rm, rm = J.room := ⟨_, rfl⟩
        rw [← hrm] at RM
        have HRM := Lib.hid RM
        have Hrm := Lib.hid hrm
        have rb : -1 ≤ rm ∧ rm ≤ 20000 := by
          have h1 := D5.out.en
          have h2 := D5.out.f2
          rw [hrm]
          unfold JS.room
          split <;> omega
        clear RM hrm
        have stl := str_size (s.take q)
        rw [HQ.out.1] at stl
        go_wp2_with fail
        refine HRM.out.mono ?_
        rintro e w6 ⟨rfl, c6⟩
        have D6 := Lib.hid (D5.out.rest c6)
        obtain ⟨cc, W7, qc, rd7, cm7, z7⟩ := conv_bytes w6 (s.take q) (by rw [HQ.out.1]; unfold maxLen; omega)
        rw [HQ.out.1] at qc rd7
        have D7 := Lib.hid (D6.out.rest cm7)
        have HRd := Lib.hid rd7
        clear c6 HRM cm7 rd7 D5 z7
        cases dn
        rotate_left
        · have AN := Lib.hid (jappend_no D7.out.jn.row D7.out.fa (.slice (some ⟨w6.heap.size, 0, none⟩) q cc))
          have CN := Lib.hid (jcommit_no D7.out.jn.row D7.out.fa)
          have DN := isdown_c D7.out.jn.sd.st.disk
          rw [(D7.out.dead rfl).1] at DN
          have HDN := Lib.hid DN
          clear DN
          go_wp2_with (first | (go_at_call 16; refine AN.out.mono ?_; rintro e w8 ⟨rfl, rfl⟩) | (go_at_call 17; refine CN.out.mono ?_; rintro e w8 ⟨rfl, rfl⟩) | (go_at_call 28; refine HDN.out.mono ?_; rintro e w8 ⟨rfl, rfl⟩))
          go_roundw
          case rel => exact ⟨i + 1, Rr, Sr, J, true, by omega, by omega, by go_num, rfl, D7.out.next⟩
          case measure => simp [intOf]; omega
        have AP := Lib.hid (dn_append T1.out D7.out hi10 _ q cc _ HQ.out.1 HQ.out.2 HRd.out)
        go_wp2_with fail
        refine AP.out.mono ?_
        rintro e w8 ⟨R8, S8, J8, c8, rfl, j8, a1, a2, a3, a4, a5, a6, a7, a8, a9⟩
        have CO := dn_commit hi10 j8 a1 a2 a3 a4 a5 a6 a7 a8 (by rcases a9 with ⟨_, x, y⟩ | ⟨_, x, y, _⟩ | ⟨_, x, y⟩; exact .inl ⟨x, y⟩; exact .inl ⟨x, y⟩; exact .inr ⟨x, y⟩)
        have HCO := Lib.hid CO
        rw [← Hrm.out] at a9
        have H9 : Hid ((c8 = 0 ∧ J8.failed = false) ∨ (c8 = 5 ∧ J8.failed = false ∧ rm < (q : Int)) ∨ (c8 = 11 ∧ J8.failed = true)) := Lib.hid (by rcases a9 with ⟨e, x, _⟩ | ⟨e, x, _, z⟩ | ⟨e, x, _⟩; exact .inl ⟨e, x⟩; exact .inr (.inl ⟨e, x, z⟩); exact .inr (.inr ⟨e, x⟩))
        clear CO AP j8 a1 a2 a3 a4 a5 a6 a7 a8 a9 D7 HRd qc D6
        go_wp2_with fail
        refine HCO.out.mono ?_
        rintro e w9 ⟨R9, S9, J9, dn9, rfl, d9, h9⟩
        have D9 := Lib.hid d9
        have DN := isdown_c d9.jn.sd.st.disk
        rw [show S9.down = dn9 by cases dn9; exact (d9.live rfl).1; exact (d9.dead rfl).1] at DN
        have HDN := Lib.hid DN
        have Hh := Lib.hid h9
        clear d9 DN h9 HCO
        rcases H9.out with ⟨rfl, hf8⟩ | ⟨rfl, hf8, hfull⟩ | ⟨rfl, hf8⟩
        · cases dn9
          all_goals
            clear hf8 H9 Hh
            go_wp2_with (go_at_call 28; refine HDN.out.mono ?_; rintro e w10 ⟨rfl, rfl⟩)
            go_roundw
            case rel => exact ⟨i + 1, R9, S9, J9, _, by omega, by omega, by go_num, rfl, D9.out⟩
            case measure => simp [intOf]; omega
        · have t1 : decide (rm < (q : Int)) = true := decide_eq_true hfull
          cases dn9
          all_goals
            clear hf8 H9 Hh
            go_wp2_with (go_at_call 28; refine HDN.out.mono ?_; rintro e w10 ⟨rfl, rfl⟩)
            go_roundw
            case rel => exact ⟨i + 1, R9, S9, J9, _, by omega, by omega, by go_num, rfl, D9.out⟩
            case measure => simp [intOf]; omega
        · have hdn := Hh.out hf8
          subst hdn
          clear hf8 H9 Hh
          go_wp2_with (go_at_call 28; refine HDN.out.mono ?_; rintro e w10 ⟨rfl, rfl⟩)
          go_roundw
          case rel => exact ⟨i + 1, R9, S9, J9, _, by omega, by omega, by go_num, rfl, D9.out⟩
          case measure => simp [intOf]; omega
      · have hcase : (¬ i < ss.length) ∨ (i < ss.length ∧ ¬ i < 10) := by omega
        clear hgo
        rcases hcase with hge | ⟨hlt, hge⟩
        all_goals
          go_wp2_with fail
          go_meet
          case rel => exact ⟨i, Rr, Sr, J, dn, hi10, rfl, HD.out⟩
  case rest =>
    obtain ⟨i, Rr, Sr, J, dn, hi10, rfl, hd⟩ := hcut
    have HD := Lib.hid hd
    clear hd D4
    cases dn
    · go_wp2_with fail
      go_ret
      exact ⟨rfl, C1.out.trans HD.out.jn.calm⟩
    have ST := Lib.hid (sd_start HD.out.jn.sd (HD.out.dead rfl).1)
    go_wp2_with fail
    refine ST.out.mono ?_
    rintro e w5 ⟨R5, rfl, s5, x5, k5⟩
    have OP := jopen_up (f := 0) (k := 20) (n := 20) (c := DS.now { Sr with down := false }) T1.out s5 ⟨rfl, (HD.out.dead rfl).2.1⟩ ⟨HD.out.sl, fun _ _ => rfl⟩ (by omega) (by omega) (by have := HD.out.fine; exact DS.fine.mono (S := { Sr with down := false }) this (by omega))
    have hfst : DS.now { Sr with down := false } 0 = begP 1 := by
      unfold DS.now
      simp only
      rw [(HD.out.dead rfl).2.2]
      exact HD.out.at0.1
    have hrep := replay_beg (s := areaC (DS.now { Sr with down := false }) 0 20) (k := 1) (by omega) (by omega) (by
      rw [show (20 : Nat) = 1 + 19 from rfl, areaC_add]
      simp only [areaC, List.nil_append, Nat.add_zero]
      rw [hfst, List.take_append_of_le_length (by rw [begP_len]; omega), List.take_of_length_le (by rw [begP_len]; omega)])
    obtain ⟨out0, n0, u0, hr0, hn0⟩ := hrep
    have HR0 := Lib.hid hr0
    have Hn0 := Lib.hid hn0
    have HO := Lib.hid OP
    have J5 := Lib.hid (HD.out.jn.less s5 x5 k5)
    clear OP hfst hr0 hn0 ST s5 x5 k5
    go_wp2_with fail
    refine HO.out.mono ?_
    rintro e w6 ⟨R6, q6, hq6, x6, k6, s6, ⟨hno, -⟩ | ⟨out, n', used, A', cc', kb, hs, rfl, -, hkb, J6, b1, b2, b3, b4, b5⟩⟩
    · rw [HR0.out] at hno; cases hno
    rw [HR0.out] at hs
    injection hs with hs
    injection hs with hs1 hs2
    injection hs2 with hs2 hs3
    subst hs1; subst hs2; subst hs3
    have RS := Lib.hid (jreset_no (J5.out.row.keep k6 J5.out.out) HD.out.fa)
    have RM := Lib.hid (jroom_c J6.jn.row (by simp only; omega) (by simp only; omega))
    have HJ6 := Lib.hid J6
    have hn0' := Hn0.out
    have HB := Lib.hid (And.intro b3 (And.intro b4 (And.intro b5 hn0')))
    have HF6 : Hid ((DS.more { Sr with down := false } q6).fine 100) := Lib.hid (by
      have h1 := HD.out.fine
      unfold DS.fine at h1 ⊢
      simp only [DS.more]
      omega)
    clear J6 b1 b2 b3 b4 b5 hn0' s6 x6 k6 HO hkb
    by_cases hfull : u0 = 20
    · have hrm : (JS.mk 0 (0 + 20) (0 + u0) (n0 - 1) false).room = -1 := by unfold JS.room; simp only; rw [if_pos (by omega)]
      rw [hrm] at RM
      clear hrm
      go_wp2_with (go_at_call 18; refine RS.out.mono ?_; rintro e w7 ⟨rfl, rfl⟩)
      refine RM.out.mono ?_
      rintro e w7 ⟨rfl, c7⟩
      have CM := Lib.hid (jcommit_up (HJ6.out.rest c7) rfl (HF6.out.mono (by omega)))
      clear c7 RM
      go_wp2_with fail
      refine CM.out.mono ?_
      rintro e w8 ⟨R8, S8, rfl, J8, -, -, -, -, -⟩
      have C8 := Lib.hid (C1.out.trans J8.jn.calm)
      clear J8 CM
      go_wp2_with fail
      go_ret
      exact ⟨rfl, C8.out⟩
    · have hrm : (JS.mk 0 (0 + 20) (0 + u0) (n0 - 1) false).room = ((20 - u0 : Nat) : Int) * 512 - 16 := by unfold JS.room; simp only; rw [if_neg (by omega)]; have := HB.out; omega
      rw [hrm] at RM
      obtain ⟨rr, hrr⟩ : ∃ rr : Nat, ((20 - u0 : Nat) : Int) * 512 - 16 = (rr : Int) := ⟨(20 - u0) * 512 - 16, by have := HB.out; omega⟩
      rw [hrr] at RM hrm
      have Hrm := Lib.hid hrm
      clear hrm hrr
      have tr : ¬ (rr : Int) < 0 := by omega
      go_wp2_with (go_at_call 18; refine RS.out.mono ?_; rintro e w7 ⟨rfl, rfl⟩)
      refine RM.out.mono ?_
      rintro e w7 ⟨rfl, c7⟩
      have AP := Lib.hid (jappend_up T1.out (HJ6.out.rest c7) rfl (by simp only; have := HB.out; omega) (by simp only; omega) (.slice none 0 0) [] (nil_rd _) (by rw [Hrm.out]; simp) (by simp only; have := HB.out; omega) (HF6.out.mono (by simp [secsOf])))
      clear c7 RM
      go_wp2_with fail
      refine AP.out.mono ?_
      rintro e w8 ⟨R8, S8, rfl, J8, -, -, o8, l8, -⟩
      have CM := Lib.hid (jcommit_up J8 rfl (by have := HF6.out; unfold DS.fine at this ⊢; have e0 : secsOf ([] : List UInt8).length = 1 := rfl; rw [e0] at o8 l8; omega))
      clear J8 AP o8 l8
      go_wp2_with fail
      refine CM.out.mono ?_
      rintro e w9 ⟨R9, S9, rfl, J9, -, -, -, -, -⟩
      have C9 := Lib.hid (C1.out.trans J9.jn.calm)
      clear J9 CM
      go_wp2_with fail
      go_ret
      exact ⟨rfl, C9.out⟩
end Go.Proofs.YtglfmhheepgneaaDoor
