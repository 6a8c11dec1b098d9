/-
  JournalApart, walked.
-/
import Derived.Test.YtglfmhheepgneaaDoorJC6
namespace Go.Proofs.YtglfmhheepgneaaDoor
open Go.RowKit
set_option linter.all false

/-- Both formatted. -/
def cfmt : Nat → List UInt8 := upd (upd (fun _ => full 0) 0 (begP 1)) 12 (begP 1)
theorem cfmt_a : Chain cfmt 0 12 1 [] (fun _ => full 0) := (Chain.beg (fun _ => full 0) 0 12 1 (by omega)).away (fun i _ h => by unfold cfmt; rw [show upd (upd (fun _ => full 0) 0 (begP 1)) 12 (begP 1) i = upd (fun _ => full 0) 0 (begP 1) i from if_neg (by omega)])
theorem cfmt_b : Chain cfmt 12 12 1 [] (fun _ => full 0) := by
  have h := Chain.beg (upd (fun _ => full 0) 0 (begP 1)) 12 12 1 (by omega)
  exact ⟨h.head, fun i h1 h2 => (h.rest i h1 h2).trans (by unfold upd; rw [if_neg (by simp [secsAll] at h1; omega)]), h.fits⟩

set_option maxRecDepth 100000 in
set_option maxHeartbeats 8000000 in
theorem apart_c (w : World) (hT : Tab w) (v : Value) (ss : List (List UInt8)) (hv : Strv w v ss) (turns : Int) (com : Bool) :
    Calls Tryd.prog 9 #[v, .int .i64 turns, .bool com] w fun e w' => e = .returned (.bool true) ∧ Calm w w' := by
  obtain ⟨A, cap, rfl, hml⟩ := hv.form
  unfold maxLen at hml
  have SH := Lib.hid (shown_c w hT)
  have HT := Lib.hid hT
  have HV := Lib.hid hv
  clear hT hv
  go_enter Tryd.func9, Tryd.ntmps9
  go_wp2_with fail
  refine SH.out.mono ?_
  rintro e w1 ⟨rfl, c1⟩
  have C1 := Lib.hid c1
  have T1 := Lib.hid (HT.out.calm c1)
  have N := Lib.hid (new_up w1 24 (by omega) (by omega))
  clear c1 SH
  go_wp2_with fail
  refine N.out.mono ?_
  rintro e w2 ⟨R2, d, S2, rfl, s2, u2, sh2, e2, o2, c2⟩
  have FM := Lib.hid (jformat_up (f := 0) (k := 12) T1.out s2 u2 sh2 (by omega) (by omega) (by unfold DS.fine; rw [e2, o2]; simp))
  have HO2 := Lib.hid o2
  clear s2 u2 sh2 e2 o2 N c2
  go_wp2_with fail
  refine FM.out.mono ?_
  rintro e w3 ⟨R3, S3, ja, rfl, -, f3, -, -, e3, -, o3⟩
  have FN := Lib.hid (jformat_up (f := 12) (k := 12) T1.out f3.jn.sd f3.up f3.shows (by omega) (by omega) (by unfold DS.fine; rw [e3, o3, HO2.out]; simp))
  have F3 := Lib.hid f3
  have HO3 : Hid (S3.ops = 2) := Lib.hid (by rw [o3, HO2.out])
  clear f3 e3 o3 FM HO2
  go_wp2_with fail
  refine FN.out.mono ?_
  rintro e w4 ⟨R4, S4, jb, rfl, hjb, f4, x4, k4, e4, b4, o4⟩
  have T4 : Hid (Two w1 (w4.alloc (.cells #[.slice none 0 0, .slice none 0 0] 60)) R4 d ja jb w4.heap.size S4 cfmt cfmt [] [] (.slice none 0 0) (.slice none 0 0) [] []) := Lib.hid (by
    have cc : Calm w4 (w4.alloc (.cells #[.slice none 0 0, .slice none 0 0] 60)) := (Keep.refl _ w4).alloc _
    have hja : ja < w3.heap.size := F3.out.jn.lt
    refine ⟨f4.jn.sd.rest cc, f4.up, f4.shows, (F3.out.jn.row.keep k4 F3.out.jn.out).calm cc, f4.jn.row.calm cc, x4.not F3.out.jn.out hja, f4.jn.out, f4.jn.sd.st.fresh (Nat.le_refl _), F3.out.jn.new, f4.jn.new, f4.jn.calm.size, by omega, Row.made w4 _ _, Strs.nil0 _ _, Strs.nil0 _ _, fun g e => by simp [Value.ownBlock] at e, fun g e => by simp [Value.ownBlock] at e, fun g e => by simp [Value.ownBlock] at e, cfmt_a, cfmt_b, b4, by simp, by simp⟩)
  have HE4 : Hid (S4.wait.length ≤ 0 ∧ S4.ops ≤ 4) := Lib.hid (by rw [e4, o4, HO3.out]; simp)
  clear f4 x4 k4 e4 b4 o4 FN hjb F3
  go_upto_block 0 with fail
  obtain ⟨ob, hob⟩ : ∃ ob, ob = w4.heap.size := ⟨_, rfl⟩
  rw [← hob] at T4 ⊢
  generalize w4.alloc (.cells #[.slice none 0 0, .slice none 0 0] 60) = w5 at *
  clear hob
  go_cut [] (fun wc => ∃ (i : Nat) (Rr : Nat → Prop) (Sr : DS) (c : Nat → List UInt8) (la lb : List (List UInt8)) (va vb : Value), i ≤ 10 ∧ Two w1 wc Rr d ja jb ob Sr c cfmt la lb va vb la lb ∧ la.length ≤ 10 ∧ lb.length ≤ 10 ∧ Sr.wait.length ≤ 10 ∧ Sr.ops ≤ 24)
  case first =>
    go_wp2_with fail
    go_loopw [15] (fun v15 wr => ∃ (i : Nat) (Rr : Nat → Prop) (Sr : DS) (c : Nat → List UInt8) (la lb : List (List UInt8)) (va vb : Value), i ≤ 10 ∧ i ≤ ss.length ∧ v15 = .int .i64 (i : Int) ∧ Two w1 wr Rr d ja jb ob Sr c cfmt la lb va vb la lb ∧ la.length ≤ i ∧ lb.length ≤ i ∧ Sr.wait.length ≤ i ∧ Sr.ops ≤ 4 + 2 * i) (fun v15 _ => 10 - (intOf v15).toNat)
    case atStart => exact ⟨0, R4, S4, cfmt, [], [], _, _, by omega, by omega, rfl, T4.out, by simp, by simp, by have := HE4.out; omega, by have := HE4.out; omega⟩
    case round =>
      obtain ⟨i, Rr, Sr, c, la, lb, va, vb, hi10, hil, rfl, htw, hla, hlb, hwl, hol⟩ := hrel
      have ii : (i : Int) ≤ 10 := by omega
      have HW := Lib.hid htw
      have HL := Lib.hid (And.intro hla (And.intro hlb (And.intro hwl hol)))
      clear htw T4 hla hlb hwl hol
      by_cases hgo : i < ss.length ∧ i < 10
      · obtain ⟨hlt, hlt10⟩ := hgo
        have i0 : (i : Int) < (ss.length : Int) := by omega
        have i1 : (i : Int) < 10 := by omega
        obtain ⟨ad, s, rfl, hsi, hsl, hadb, hcell⟩ := HV.out.at_ (C1.out.trans HW.out.sd.st.calm) i hlt
        obtain ⟨q, hq, hq1, hq2, hq3⟩ := cut_len s.length 300
        have hq' : (if (300 : Int) < (s.length : Int) then (300 : Int) else (s.length : Int)) = (q : Int) := hq
        have se : (str s).extract 0 q = str (s.take q) := by rw [str_extract]; simp
        have ssz := str_size s
        have htl : (s.take q).length = q := by simp; omega
        unfold maxLen at hsl
        have qi : (q : Int) ≤ 300 := by omega
        have qj : (q : Int) ≤ (s.length : Int) := by omega
        have HQ := Lib.hid (And.intro htl hq1)
        have D5 := Lib.hid (HW.out.rest ((Keep.refl _ wr).drew))
        clear hq hq3 hq2 hsi hadb htl
        go_upto_region 13 with fail
        refine wp_region_noPanic ?_
        refine wp_region_held_drew (S := fun wx => wx.cell? (ad.add i) = some (.string (str s))) (by kernel_rfl) hcell (fun hHeld => ?_)
        refine take_at 0 65 (.slice (some ad) ss.length cap) rfl rfl (by kernel_rfl) (by kernel_rfl) (by kernel_rfl) (fun _ _ _ h => h) (Or.inl ⟨by rfl, ?_⟩) hHeld ?_
        · intro w hSw; go_simp
        simp only [List.setIfInBounds_toArray, List.set_cons_zero, List.set_cons_succ]
        refine take_at 1 66 (.int .i64 (i : Int)) rfl rfl (by kernel_rfl) (by kernel_rfl) (by kernel_rfl) (fun _ _ _ h => h) (Or.inl ⟨by rfl, ?_⟩) hHeld ?_
        · intro w hSw; go_simp
        simp only [List.setIfInBounds_toArray, List.set_cons_zero, List.set_cons_succ]
        refine take_at 2 67 (.pointer (some (ad.add i))) rfl rfl (by kernel_rfl) (by kernel_rfl) (by kernel_rfl) (fun _ _ _ h => h) (Or.inl ⟨by rfl, ?_⟩) hHeld ?_
        · intro w hSw; go_simp
        simp only [List.setIfInBounds_toArray, List.set_cons_zero, List.set_cons_succ]
        refine take_at 3 68 (.string (str s)) rfl rfl (by kernel_rfl) (by kernel_rfl) (by kernel_rfl) (fun _ _ _ h => h) (Or.inl ⟨by rfl, ?_⟩) hHeld ?_
        · intro w hSw; go_simp
        simp only [List.setIfInBounds_toArray, List.set_cons_zero, List.set_cons_succ]
        refine take_at 4 69 (.slice (some ad) ss.length cap) rfl rfl (by kernel_rfl) (by kernel_rfl) (by kernel_rfl) (fun _ _ _ h => h) (Or.inl ⟨by rfl, ?_⟩) hHeld ?_
        · intro w hSw; go_simp
        simp only [List.setIfInBounds_toArray, List.set_cons_zero, List.set_cons_succ]
        refine take_at 5 70 (.int .i64 (i : Int)) rfl rfl (by kernel_rfl) (by kernel_rfl) (by kernel_rfl) (fun _ _ _ h => h) (Or.inl ⟨by rfl, ?_⟩) hHeld ?_
        · intro w hSw; go_simp
        simp only [List.setIfInBounds_toArray, List.set_cons_zero, List.set_cons_succ]
        refine take_at 6 71 (.pointer (some (ad.add i))) rfl rfl (by kernel_rfl) (by kernel_rfl) (by kernel_rfl) (fun _ _ _ h => h) (Or.inl ⟨by rfl, ?_⟩) hHeld ?_
        · intro w hSw; go_simp
        simp only [List.setIfInBounds_toArray, List.set_cons_zero, List.set_cons_succ]
        refine take_at 7 72 (.string (str s)) rfl rfl (by kernel_rfl) (by kernel_rfl) (by kernel_rfl) (fun _ _ _ h => h) (Or.inl ⟨by rfl, ?_⟩) hHeld ?_
        · intro w hSw; go_simp
        simp only [List.setIfInBounds_toArray, List.set_cons_zero, List.set_cons_succ]
        refine take_at 8 73 (.int .i64 (s.length : Int)) rfl rfl (by kernel_rfl) (by kernel_rfl) (by kernel_rfl) (fun _ _ _ h => h) (Or.inl ⟨by rfl, ?_⟩) hHeld ?_
        · intro w hSw; go_simp
        simp only [List.setIfInBounds_toArray, List.set_cons_zero, List.set_cons_succ]
        refine take_at 9 74 (.int .i64 (q : Int)) rfl rfl (by kernel_rfl) (by kernel_rfl) (by kernel_rfl) (fun _ _ _ h => h) (Or.inl ⟨by rfl, ?_⟩) hHeld ?_
        · intro w hSw; go_simp
        simp only [List.setIfInBounds_toArray, List.set_cons_zero, List.set_cons_succ]
        refine take_at 10 75 (.string (str (s.take q))) rfl rfl (by kernel_rfl) (by kernel_rfl) (by kernel_rfl) (fun _ _ _ h => h) (Or.inl ⟨by rfl, ?_⟩) hHeld ?_
        · intro w hSw; go_simp
        simp only [List.setIfInBounds_toArray, List.set_cons_zero, List.set_cons_succ]
        refine take_at 11 16 (.string (str (s.take q))) rfl rfl (by kernel_rfl) (by kernel_rfl) (by kernel_rfl) (fun _ _ _ h => h) (Or.inl ⟨by rfl, ?_⟩) hHeld ?_
        · intro w hSw; go_simp
        simp only [List.setIfInBounds_toArray, List.set_cons_zero, List.set_cons_succ]
        refine wpAnyH_done (by kernel_rfl) (NoPanic.normal ?_) _
        clear hHeld hcell se hq' ssz HW
        generalize wr.drew = w6 at *
        go_upto_region 15 with fail
        obtain ⟨r, hr, er⟩ := mask_nat (turns / 2 ^ i) 1 1 (by omega) (by decide)
        rw [er]
        clear er
        obtain ⟨cc, W7, qc, rd7, cm7, z7⟩ := conv_bytes w6 (s.take q) (by rw [HQ.out.1]; unfold maxLen; omega)
        rw [HQ.out.1] at qc rd7
        have D7 := Lib.hid (D5.out.rest cm7)
        have HRd := Lib.hid rd7
        clear cm7 rd7 D5 z7
        rcases (show r = 0 ∨ r = 1 by omega) with rfl | rfl
        · obtain ⟨VA, vc, rfl⟩ : ∃ VA vc, va = .slice VA la.length vc := D7.out.sa.form
          have AP := Lib.hid (D7.out.app_a T1.out _ (s.take q) HRd.out (by rw [HQ.out.1]; exact HQ.out.2) (by have := HL.out; omega) (by unfold DS.fine; have := HL.out; omega))
          go_wp2_with fail
          refine AP.out.mono ?_
          rintro e w8 ⟨R8, S8, c8, rfl, t8, o8, l8⟩
          have T8 := Lib.hid t8
          have r8 := t8.row.cell 0
          simp only [List.getElem?_toArray, List.getElem?_cons_zero, List.getElem?_cons_succ] at r8
          have hlen8 := t8.sa
          have hz8 : ob < w8.heap.size := Row.lt t8.row
          have X8 := Lib.hid (And.intro o8 l8)
          have hll : la.length ≤ 1000000 := by have := HL.out; omega
          have hbw : w1.heap.size ≤ w8.heap.size := t8.sd.st.calm.size
          clear t8 o8 l8 AP hlen8
          go_wp2_with (at_builtin; go_loud (refine append_strs0 rfl (.tmp 93) (.tmp 95) rfl w1.heap.size VA vc la (s.take q) rfl T8.out.sa rfl hll hbw ?_); rintro g2 c2 w9 ho2 hk2 hg2; have r9 : Row w9 ob 60 _ := T8.out.row.keep hk2 (fun e => by obtain ⟨_, cur, hr⟩ := T8.out.sa.row e; exact (hr.ne T8.out.row (by decide)) rfl); have f9 := r9.soft 0; have c9 := r9.cell 0; have P9 := Lib.hid (T8.out.push_a ho2 hk2 hg2); simp only [List.getElem?_toArray, List.getElem?_cons_zero, List.getElem?_cons_succ] at c9; clear ho2 hk2 hg2 r9 r8)
          go_roundw
          case rel =>
            have L := HL.out
            have X := X8.out
            exact ⟨i + 1, R8, S8, c8, la ++ [s.take q], lb, _, _, by omega, by omega, by go_num, P9.out, by simp; omega, by omega, by omega, by omega⟩
          case measure => simp [intOf]; omega
        · obtain ⟨VA, vc, rfl⟩ : ∃ VA vc, vb = .slice VA lb.length vc := D7.out.sb.form
          have AP := Lib.hid (D7.out.app_b T1.out _ (s.take q) HRd.out (by rw [HQ.out.1]; exact HQ.out.2) (by have := HL.out; omega) (by unfold DS.fine; have := HL.out; omega))
          go_wp2_with fail
          refine AP.out.mono ?_
          rintro e w8 ⟨R8, S8, c8, rfl, t8, o8, l8⟩
          have T8 := Lib.hid t8
          have r8 := t8.row.cell 1
          simp only [List.getElem?_toArray, List.getElem?_cons_zero, List.getElem?_cons_succ] at r8
          have hlen8 := t8.sb
          have hz8 : ob < w8.heap.size := Row.lt t8.row
          have X8 := Lib.hid (And.intro o8 l8)
          have hll : lb.length ≤ 1000000 := by have := HL.out; omega
          have hbw : w1.heap.size ≤ w8.heap.size := t8.sd.st.calm.size
          clear t8 o8 l8 AP hlen8
          go_wp2_with (at_builtin; go_loud (refine append_strs0 rfl (.tmp 93) (.tmp 95) rfl w1.heap.size VA vc lb (s.take q) rfl T8.out.sb rfl hll hbw ?_); rintro g2 c2 w9 ho2 hk2 hg2; have r9 : Row w9 ob 60 _ := T8.out.row.keep hk2 (fun e => by obtain ⟨_, cur, hr⟩ := T8.out.sb.row e; exact (hr.ne T8.out.row (by decide)) rfl); have f9 := r9.soft 1; have c9 := r9.cell 1; have P9 := Lib.hid (T8.out.push_b ho2 hk2 hg2); simp only [List.getElem?_toArray, List.getElem?_cons_zero, List.getElem?_cons_succ] at c9; clear ho2 hk2 hg2 r9 r8)
          go_roundw
          case rel =>
            have L := HL.out
            have X := X8.out
            exact ⟨i + 1, R8, S8, c8, la, lb ++ [s.take q], _, _, by omega, by omega, by go_num, P9.out, by omega, by simp; omega, by omega, by omega⟩
          case measure => simp [intOf]; omega
      · have hcase : (¬ i < ss.length) ∨ (i < ss.length ∧ ¬ i < 10) := by omega
        clear hgo
        rcases hcase with hge | ⟨hlt, hge⟩
        all_goals
          go_wp2_with fail
          go_meet
          case rel => exact ⟨i, Rr, Sr, c, la, lb, va, vb, hi10, HW.out, by have := HL.out; omega, by have := HL.out; omega, by have := HL.out; omega, by have := HL.out; omega⟩
  case rest =>
    obtain ⟨i, Rr, Sr, c, la, lb, va, vb, hi10, htw, hla, hlb, hwl, hol⟩ := hcut
    have HW := Lib.hid htw
    have HB := Lib.hid (And.intro hla (And.intro hlb (And.intro hwl hol)))
    clear htw T4 hla hlb hwl hol
    go_upto_if 98 with fail
    go_cut [] (fun wc => ∃ (Rr : Nat → Prop) (Sr : DS) (c : Nat → List UInt8) (la lb : List (List UInt8)) (va vb : Value), Sd w1 wc Rr d Sr ∧ Row wc ob 60 #[va, vb] ∧ ¬ Rr ob ∧ Strs wc w1.heap.size va la ∧ Strs wc w1.heap.size vb lb ∧ (∀ g, va.ownBlock = some g → ¬ Rr g) ∧ (∀ g, vb.ownBlock = some g → ¬ Rr g) ∧
      Sr.secs.length = 24 ∧ (∀ i, i < 24 → Sr.secs.getD i [] = c i) ∧ Sr.wait.length ≤ 20 ∧ Sr.ops ≤ 30 ∧ Chain c 0 12 1 la (fun _ => full 0) ∧ Chain c 12 12 1 lb (fun _ => full 0) ∧ la.length ≤ 10 ∧ lb.length ≤ 10 ∧ (∀ b ∈ la, b.length ≤ 300) ∧ (∀ b ∈ lb, b.length ≤ 300))
    case first =>
      cases com
      · have r0 := HW.out.row.cell 0
        have r1 := HW.out.row.cell 1
        have f0 := HW.out.row.soft 0
        have f1 := HW.out.row.soft 1
        simp only [List.getElem?_toArray, List.getElem?_cons_zero, List.getElem?_cons_succ] at r0 r1
        go_wp2_with fail
        go_meet
        case rel =>
          have hh := HW.out
          have row2 := (hh.row.store 0 (.slice none 0 0)).store 1 (.slice none 0 0)
          have kk : Keep (· = ob) wc ((wc.setCell ⟨ob, 0, none⟩ (.slice none 0 0)).setCell ⟨ob, 1, none⟩ (.slice none 0 0)) := ((Keep.refl (· = ob) wc).store (p := ⟨ob, 0, none⟩) (fun _ => rfl) _).store (p := ⟨ob, 1, none⟩) (fun _ => rfl) _
          exact ⟨Rr, Sr, cfmt, [], [], .slice none 0 0, .slice none 0 0, hh.sd.apart kk (fun i e => by subst e; exact ⟨hh.xob, hh.nob⟩), by simpa using row2, hh.xob, Strs.nil0 _ _, Strs.nil0 _ _, fun g e => by simp [Value.ownBlock] at e, fun g e => by simp [Value.ownBlock] at e, hh.sh.1, hh.secs, by have := HB.out; omega, by have := HB.out; omega, cfmt_a, cfmt_b, by simp, by simp, by simp, by simp⟩
      · have CM := Lib.hid (jcommit_up ⟨⟨HW.out.sd, HW.out.ra, HW.out.xja, HW.out.nja⟩, HW.out.up, HW.out.sh⟩ rfl (by unfold DS.fine; have := HB.out; omega))
        go_wp2_with fail
        refine CM.out.mono ?_
        rintro e w7 ⟨R7, S7, rfl, J7, x7, k7, e7, b7, o7⟩
        have H7 := Lib.hid (And.intro J7 (And.intro x7 (And.intro k7 (And.intro e7 (And.intro b7 o7)))))
        clear J7 x7 k7 e7 b7 o7 CM
        go_wp2_with fail
        go_meet
        case rel =>
          obtain ⟨J7, x7, k7, e7, b7, o7⟩ := H7.out
          have hh := HW.out
          have hlt := hh.lt
          have nRJ : ∀ k, ¬ Rr k → k ≠ ja → ¬ RJ Rr ja k := fun k h1 h2 e => e.elim h1 h2
          exact ⟨R7, S7, c, la, lb, va, vb, J7.jn.sd, hh.row.keep k7 (nRJ _ hh.xob (hh.row.ne hh.ra (by decide))), x7.not hh.xob hlt.2.2, hh.sa.keep k7 (fun g hg => nRJ _ (hh.xa g hg) (by obtain ⟨_, cur, hr⟩ := hh.sa.row hg; exact hr.ne hh.ra (by decide))), hh.sb.keep k7 (fun g hg => nRJ _ (hh.xb g hg) (by obtain ⟨_, cur, hr⟩ := hh.sb.row hg; exact hr.ne hh.ra (by decide))),
            fun g hg => x7.not (hh.xa g hg) (by obtain ⟨_, cur, hr⟩ := hh.sa.row hg; exact hr.lt), fun g hg => x7.not (hh.xb g hg) (by obtain ⟨_, cur, hr⟩ := hh.sb.row hg; exact hr.lt), J7.shows.1, b7, by rw [e7]; simp, by have := HB.out; omega, hh.ca, hh.cb, by have := HB.out; omega, by have := HB.out; omega, hh.ba, hh.bb⟩
    case rest =>
      clear HW HB
      obtain ⟨Rr, Sr, c, la, lb, va, vb, h1, h2, h3, h4, h5, h6, h7, h8, h9, h10, h11, h12, h13, h14, h15, h16, h17⟩ := hcut
      have HB := Lib.hid (And.intro h14 h15)
      have HRa := Lib.hid (filled_told h12 (by omega) (fun b hb => by have := h16 b hb; omega))
      have HRb := Lib.hid (filled_told h13 (by omega) (fun b hb => by have := h17 b hb; omega))
      have CR := Lib.hid (sd_crash0 h1 (by omega))
      have HP0 := Lib.hid (And.intro h2 (And.intro h3 (And.intro h4 (And.intro h5 (And.intro h6 h7)))))
      have SHW := Lib.hid (DS.Shows.lost h9 h8)
      have HO := Lib.hid h11
      clear h1 h2 h3 h4 h5 h6 h7 h8 h9 h10 h11 h12 h13 h14 h15 h16 h17
      go_wp2_with fail
      refine CR.out.mono ?_
      rintro e w7 ⟨R7, rfl, s7, x7, k7⟩
      have ST := Lib.hid (sd_start s7 rfl)
      have K7 := Lib.hid (And.intro x7 k7)
      clear s7 x7 k7 CR
      go_wp2_with fail
      refine ST.out.mono ?_
      rintro e w8 ⟨R8, rfl, s8, x8, k8⟩
      have HU : Hid (DS.Up { Sr.crash [] with down := false } ∧ DS.Shows { Sr.crash [] with down := false } 24 c) := Lib.hid ⟨⟨rfl, rfl⟩, SHW.out⟩
      have HF0 : Hid (({ Sr.crash [] with down := false } : DS).ops ≤ 30 ∧ ({ Sr.crash [] with down := false } : DS).wait.length ≤ 0) := Lib.hid ⟨HO.out, by simp [DS.crash]⟩
      have HP8 : Hid (Sd w1 w8 R8 d { Sr.crash [] with down := false } ∧ Row w8 ob 60 #[va, vb] ∧ ¬ R8 ob ∧ Strs w8 w1.heap.size va la ∧ Strs w8 w1.heap.size vb lb ∧ (∀ g, va.ownBlock = some g → ¬ R8 g) ∧ (∀ g, vb.ownBlock = some g → ¬ R8 g)) := Lib.hid (by
        obtain ⟨p2, p3, p4, p5, p6, p7⟩ := HP0.out
        obtain ⟨x7, k7⟩ := K7.out
        exact ⟨s8, (p2.keep k7 p3).keep k8 (fun e => p3 (x7 _ e)), fun e => p3 (x7 _ (x8 _ e)), (p4.keep k7 p6).keep k8 (fun g hg e => p6 g hg (x7 _ e)), (p5.keep k7 p7).keep k8 (fun g hg e => p7 g hg (x7 _ e)), fun g hg e => p6 g hg (x7 _ (x8 _ e)), fun g hg e => p7 g hg (x7 _ (x8 _ e))⟩)
      generalize ({ Sr.crash [] with down := false } : DS) = SF at *
      clear s8 x8 k8 ST K7 HP0 SHW HO
      go_wp2_with fail
      go_loopw [19] (fun v19 wr => ∃ (k : Nat) (Rk : Nat → Prop) (q : Nat), k ≤ 2 ∧ q ≤ 12 * k ∧ v19 = .int .i64 (k : Int) ∧ Sd w1 wr Rk d (SF.more q) ∧ Row wr ob 60 #[va, vb] ∧ ¬ Rk ob ∧ Strs wr w1.heap.size va la ∧ Strs wr w1.heap.size vb lb ∧ (∀ g, va.ownBlock = some g → ¬ Rk g) ∧ (∀ g, vb.ownBlock = some g → ¬ Rk g)) (fun v19 _ => 2 - (intOf v19).toNat)
      case atStart => exact ⟨0, R8, 0, by omega, by omega, rfl, HP8.out⟩
      case round =>
        obtain ⟨k, Rk, q, hk2, hq, rfl, hp⟩ := hrel
        have HP := Lib.hid hp
        have HF : Hid (q ≤ 12 * k ∧ SF.ops ≤ 30 ∧ SF.wait.length ≤ 0) := Lib.hid ⟨hq, HF0.out.1, HF0.out.2⟩
        clear hp HP8 hq
        rcases (show k = 0 ∨ k = 1 ∨ k = 2 by omega) with rfl | rfl | rfl
        · obtain ⟨VA, vc, rfl⟩ : ∃ VA vc, va = .slice VA la.length vc := HP.out.2.2.2.1.form
          have OP := jopen_up (f := 0) (k := 12) (n := 24) T1.out HP.out.1 HU.out.1 (HU.out.2.more q) (by omega) (by omega) (by unfold DS.fine; have := HF.out; simp only [DS.more]; omega)
          have HO := Lib.hid OP
          clear OP
          go_wp2_with fail
          refine HO.out.mono ?_
          rintro e w9 ⟨R9, q9, hq9, x9, k9, s9, ⟨hno, -⟩ | ⟨out, n', used, A', cc', kb, hs, rfl, hrc, hkb, J9, -, -, -, -, -⟩⟩
          · rw [HRa.out] at hno; cases hno
          rw [HRa.out] at hs
          injection hs with hs
          injection hs with hs1 hs2
          injection hs2 with hs2 hs3
          subst hs1; subst hs2; subst hs3
          have row9 := HP.out.2.1.keep k9 HP.out.2.2.1
          have sa9 := HP.out.2.2.2.1.keep k9 HP.out.2.2.2.2.2.1
          have sb9 := HP.out.2.2.2.2.1.keep k9 HP.out.2.2.2.2.2.2
          have oc9 := row9.cell 0
          simp only [List.getElem?_toArray, List.getElem?_cons_zero, List.getElem?_cons_succ] at oc9
          have HP9 : Hid (Sd w1 w9 R9 d ((SF.more q).more q9) ∧ Row w9 ob 60 _ ∧ ¬ R9 ob ∧ Strs w9 w1.heap.size _ la ∧ Strs w9 w1.heap.size _ lb ∧ (∀ g, _ → ¬ R9 g) ∧ (∀ g, _ → ¬ R9 g)) := Lib.hid ⟨s9, row9, fun e => HP.out.2.2.1 (x9 _ e), sa9, sb9, fun g e he => HP.out.2.2.2.2.2.1 g e (x9 _ he), fun g e he => HP.out.2.2.2.2.2.2 g e (x9 _ he)⟩
          have HRc := Lib.hid hrc
          have tl : ((la.length : Int) != (la.length : Int)) = false := by simp
          have llb : (la.length : Int) ≤ 10 := by have := HB.out; omega
          clear s9 row9 sa9 sb9 x9 k9 hrc J9 HO hkb
          go_wp2_with fail
          go_loopw [23] (fun v23 wr => ∃ a : Nat, a ≤ la.length ∧ v23 = .int .i64 (a : Int) ∧ Calm w9 wr) (fun v23 _ => la.length - (intOf v23).toNat)
          case atStart => exact ⟨0, by omega, rfl, Keep.refl _ _⟩
          case round =>
            obtain ⟨a, hal, rfl, hca⟩ := hrel
            have HCA := Lib.hid hca
            by_cases hla : a < la.length
            · have ia : (a : Int) < (la.length : Int) := by omega
              obtain ⟨b, hb⟩ : ∃ b, la[a]? = some b := ⟨_, List.getElem?_eq_getElem hla⟩
              obtain ⟨g, x, rfl, hgc, hx⟩ := (HRc.out.calm hca).at_ a b hb
              obtain ⟨xg, xo, xc, xcur, rfl, -⟩ := id hx
              have HX := Lib.hid hx.rd
              obtain ⟨og, rfl, hsc⟩ := Strs.at_ (HP9.out.2.2.2.1.keep hca (fun _ _ e => e)) a b hb
              have hoc : wr.cell? ⟨ob, 0, none⟩ = some (.slice (some ⟨og, 0, none⟩) la.length vc) := (hca.cell (p := ⟨ob, 0, none⟩) (Row.lt HP9.out.2.1) (fun e => e)).trans oc9
              have tne := str_bne_no (a := b) (b := b) rfl
              clear hca hb hx
              go_upto_region 35 with fail
              refine wp_region_noPanic ?_
              refine wp_region_held_drew (S := fun wx => wx.cell? ⟨g, a, none⟩ = some (.slice (some ⟨xg, xo, none⟩) b.length xc) ∧ Rd wx (.slice (some ⟨xg, xo, none⟩) b.length xc) b ∧ wx.cell? ⟨ob, 0, none⟩ = some (.slice (some ⟨og, 0, none⟩) la.length vc) ∧ wx.cell? ⟨og, a, none⟩ = some (.string (str b))) (by kernel_rfl) ⟨hgc, HX.out, hoc, hsc⟩ (fun hHeld => ?_)
              refine take_at 0 139 (.slice (some ⟨g, 0, none⟩) la.length cc') rfl rfl (by kernel_rfl) (by kernel_rfl) (by kernel_rfl) (fun _ _ _ h => h) (Or.inl ⟨by rfl, ?_⟩) hHeld ?_
              · intro w hSw; go_simp
              simp only [List.setIfInBounds_toArray, List.set_cons_zero, List.set_cons_succ]
              refine take_at 1 140 (.int .i64 (a : Int)) rfl rfl (by kernel_rfl) (by kernel_rfl) (by kernel_rfl) (fun _ _ _ h => h) (Or.inl ⟨by rfl, ?_⟩) hHeld ?_
              · intro w hSw; go_simp
              simp only [List.setIfInBounds_toArray, List.set_cons_zero, List.set_cons_succ]
              refine take_at 2 141 (.pointer (some ⟨g, a, none⟩)) rfl rfl (by kernel_rfl) (by kernel_rfl) (by kernel_rfl) (fun _ _ _ h => h) (Or.inl ⟨by rfl, ?_⟩) hHeld ?_
              · intro w hSw; go_simp
              simp only [List.setIfInBounds_toArray, List.set_cons_zero, List.set_cons_succ]
              refine take_at 3 142 (.slice (some ⟨xg, xo, none⟩) b.length xc) rfl rfl (by kernel_rfl) (by kernel_rfl) (by kernel_rfl) (fun _ _ _ h => h) (Or.inl ⟨by rfl, ?_⟩) hHeld ?_
              · intro w hSw; obtain ⟨s1, s2, s3, s4⟩ := hSw; go_simp
              simp only [List.setIfInBounds_toArray, List.set_cons_zero, List.set_cons_succ]
              refine take_at 4 143 (.string (str b)) rfl rfl (by kernel_rfl) (by kernel_rfl) (by kernel_rfl) (fun _ _ _ h => h) (Or.inl ⟨by rfl, ?_⟩) hHeld ?_
              · intro w hSw; obtain ⟨s1, s2, s3, s4⟩ := hSw; have qx := conv_rd s2; go_simp
              simp only [List.setIfInBounds_toArray, List.set_cons_zero, List.set_cons_succ]
              refine take_at 5 144 (.int .i64 0) rfl rfl (by kernel_rfl) (by kernel_rfl) (by kernel_rfl) (fun _ _ _ h => h) (Or.inl ⟨by rfl, ?_⟩) hHeld ?_
              · intro w hSw; go_simp
              simp only [List.setIfInBounds_toArray, List.set_cons_zero, List.set_cons_succ]
              refine take_at 6 145 (.pointer (some ⟨ob, 0, none⟩)) rfl rfl (by kernel_rfl) (by kernel_rfl) (by kernel_rfl) (fun _ _ _ h => h) (Or.inl ⟨by rfl, ?_⟩) hHeld ?_
              · intro w hSw; go_simp
              simp only [List.setIfInBounds_toArray, List.set_cons_zero, List.set_cons_succ]
              refine take_at 7 146 (.slice (some ⟨og, 0, none⟩) la.length vc) rfl rfl (by kernel_rfl) (by kernel_rfl) (by kernel_rfl) (fun _ _ _ h => h) (Or.inl ⟨by rfl, ?_⟩) hHeld ?_
              · intro w hSw; obtain ⟨s1, s2, s3, s4⟩ := hSw; go_simp
              simp only [List.setIfInBounds_toArray, List.set_cons_zero, List.set_cons_succ]
              refine take_at 8 147 (.int .i64 (a : Int)) rfl rfl (by kernel_rfl) (by kernel_rfl) (by kernel_rfl) (fun _ _ _ h => h) (Or.inl ⟨by rfl, ?_⟩) hHeld ?_
              · intro w hSw; go_simp
              simp only [List.setIfInBounds_toArray, List.set_cons_zero, List.set_cons_succ]
              refine take_at 9 148 (.pointer (some ⟨og, a, none⟩)) rfl rfl (by kernel_rfl) (by kernel_rfl) (by kernel_rfl) (fun _ _ _ h => h) (Or.inl ⟨by rfl, ?_⟩) hHeld ?_
              · intro w hSw; go_simp
              simp only [List.setIfInBounds_toArray, List.set_cons_zero, List.set_cons_succ]
              refine take_at 10 149 (.string (str b)) rfl rfl (by kernel_rfl) (by kernel_rfl) (by kernel_rfl) (fun _ _ _ h => h) (Or.inl ⟨by rfl, ?_⟩) hHeld ?_
              · intro w hSw; obtain ⟨s1, s2, s3, s4⟩ := hSw; go_simp
              simp only [List.setIfInBounds_toArray, List.set_cons_zero, List.set_cons_succ]
              refine take_at 11 150 (.bool false) rfl rfl (by kernel_rfl) (by kernel_rfl) (by kernel_rfl) (fun _ _ _ h => h) (Or.inl ⟨by rfl, ?_⟩) hHeld ?_
              · intro w hSw; go_simp
              simp only [List.setIfInBounds_toArray, List.set_cons_zero, List.set_cons_succ]
              refine wpAnyH_done (by kernel_rfl) (NoPanic.normal ?_) _
              clear hHeld hgc hoc hsc HX tne
              go_wp2_with fail
              go_roundw
              case rel => exact ⟨a + 1, by omega, by go_num, HCA.out.drew⟩
              case measure => simp [intOf]; omega
            · obtain rfl : a = la.length := by omega
              clear hca
              go_wp2_with fail
              go_roundw
              case rel =>
                obtain ⟨p1, p2, p3, p4, p5, p6, p7⟩ := HP9.out
                refine ⟨0 + 1, R9, q + q9, by omega, by have := HF.out; omega, by go_num, by rw [← DS.more_more]; exact p1.rest HCA.out, p2.keep HCA.out (fun e => e), p3, p4.keep HCA.out (fun _ _ e => e), p5.keep HCA.out (fun _ _ e => e), p6, p7⟩
              case measure => simp [intOf]
        · obtain ⟨VA, vc, rfl⟩ : ∃ VA vc, vb = .slice VA lb.length vc := HP.out.2.2.2.2.1.form
          have OP := jopen_up (f := 12) (k := 12) (n := 24) T1.out HP.out.1 HU.out.1 (HU.out.2.more q) (by omega) (by omega) (by unfold DS.fine; have := HF.out; simp only [DS.more]; omega)
          have HO := Lib.hid OP
          clear OP
          go_wp2_with fail
          refine HO.out.mono ?_
          rintro e w9 ⟨R9, q9, hq9, x9, k9, s9, ⟨hno, -⟩ | ⟨out, n', used, A', cc', kb, hs, rfl, hrc, hkb, J9, -, -, -, -, -⟩⟩
          · rw [HRb.out] at hno; cases hno
          rw [HRb.out] at hs
          injection hs with hs
          injection hs with hs1 hs2
          injection hs2 with hs2 hs3
          subst hs1; subst hs2; subst hs3
          have row9 := HP.out.2.1.keep k9 HP.out.2.2.1
          have sa9 := HP.out.2.2.2.1.keep k9 HP.out.2.2.2.2.2.1
          have sb9 := HP.out.2.2.2.2.1.keep k9 HP.out.2.2.2.2.2.2
          have oc9 := row9.cell 1
          simp only [List.getElem?_toArray, List.getElem?_cons_zero, List.getElem?_cons_succ] at oc9
          have HP9 : Hid (Sd w1 w9 R9 d ((SF.more q).more q9) ∧ Row w9 ob 60 _ ∧ ¬ R9 ob ∧ Strs w9 w1.heap.size _ la ∧ Strs w9 w1.heap.size _ lb ∧ (∀ g, _ → ¬ R9 g) ∧ (∀ g, _ → ¬ R9 g)) := Lib.hid ⟨s9, row9, fun e => HP.out.2.2.1 (x9 _ e), sa9, sb9, fun g e he => HP.out.2.2.2.2.2.1 g e (x9 _ he), fun g e he => HP.out.2.2.2.2.2.2 g e (x9 _ he)⟩
          have HRc := Lib.hid hrc
          have tl : ((lb.length : Int) != (lb.length : Int)) = false := by simp
          have llb : (lb.length : Int) ≤ 10 := by have := HB.out; omega
          clear s9 row9 sa9 sb9 x9 k9 hrc J9 HO hkb
          go_wp2_with fail
          go_loopw [23] (fun v23 wr => ∃ a : Nat, a ≤ lb.length ∧ v23 = .int .i64 (a : Int) ∧ Calm w9 wr) (fun v23 _ => lb.length - (intOf v23).toNat)
          case atStart => exact ⟨0, by omega, rfl, Keep.refl _ _⟩
          case round =>
            obtain ⟨a, hal, rfl, hca⟩ := hrel
            have HCA := Lib.hid hca
            by_cases hla : a < lb.length
            · have ia : (a : Int) < (lb.length : Int) := by omega
              obtain ⟨b, hb⟩ : ∃ b, lb[a]? = some b := ⟨_, List.getElem?_eq_getElem hla⟩
              obtain ⟨g, x, rfl, hgc, hx⟩ := (HRc.out.calm hca).at_ a b hb
              obtain ⟨xg, xo, xc, xcur, rfl, -⟩ := id hx
              have HX := Lib.hid hx.rd
              obtain ⟨og, rfl, hsc⟩ := Strs.at_ (HP9.out.2.2.2.2.1.keep hca (fun _ _ e => e)) a b hb
              have hoc : wr.cell? ⟨ob, 1, none⟩ = some (.slice (some ⟨og, 0, none⟩) lb.length vc) := (hca.cell (p := ⟨ob, 1, none⟩) (Row.lt HP9.out.2.1) (fun e => e)).trans oc9
              have tne := str_bne_no (a := b) (b := b) rfl
              clear hca hb hx
              go_upto_region 35 with fail
              refine wp_region_noPanic ?_
              refine wp_region_held_drew (S := fun wx => wx.cell? ⟨g, a, none⟩ = some (.slice (some ⟨xg, xo, none⟩) b.length xc) ∧ Rd wx (.slice (some ⟨xg, xo, none⟩) b.length xc) b ∧ wx.cell? ⟨ob, 1, none⟩ = some (.slice (some ⟨og, 0, none⟩) lb.length vc) ∧ wx.cell? ⟨og, a, none⟩ = some (.string (str b))) (by kernel_rfl) ⟨hgc, HX.out, hoc, hsc⟩ (fun hHeld => ?_)
              refine take_at 0 139 (.slice (some ⟨g, 0, none⟩) lb.length cc') rfl rfl (by kernel_rfl) (by kernel_rfl) (by kernel_rfl) (fun _ _ _ h => h) (Or.inl ⟨by rfl, ?_⟩) hHeld ?_
              · intro w hSw; go_simp
              simp only [List.setIfInBounds_toArray, List.set_cons_zero, List.set_cons_succ]
              refine take_at 1 140 (.int .i64 (a : Int)) rfl rfl (by kernel_rfl) (by kernel_rfl) (by kernel_rfl) (fun _ _ _ h => h) (Or.inl ⟨by rfl, ?_⟩) hHeld ?_
              · intro w hSw; go_simp
              simp only [List.setIfInBounds_toArray, List.set_cons_zero, List.set_cons_succ]
              refine take_at 2 141 (.pointer (some ⟨g, a, none⟩)) rfl rfl (by kernel_rfl) (by kernel_rfl) (by kernel_rfl) (fun _ _ _ h => h) (Or.inl ⟨by rfl, ?_⟩) hHeld ?_
              · intro w hSw; go_simp
              simp only [List.setIfInBounds_toArray, List.set_cons_zero, List.set_cons_succ]
              refine take_at 3 142 (.slice (some ⟨xg, xo, none⟩) b.length xc) rfl rfl (by kernel_rfl) (by kernel_rfl) (by kernel_rfl) (fun _ _ _ h => h) (Or.inl ⟨by rfl, ?_⟩) hHeld ?_
              · intro w hSw; obtain ⟨s1, s2, s3, s4⟩ := hSw; go_simp
              simp only [List.setIfInBounds_toArray, List.set_cons_zero, List.set_cons_succ]
              refine take_at 4 143 (.string (str b)) rfl rfl (by kernel_rfl) (by kernel_rfl) (by kernel_rfl) (fun _ _ _ h => h) (Or.inl ⟨by rfl, ?_⟩) hHeld ?_
              · intro w hSw; obtain ⟨s1, s2, s3, s4⟩ := hSw; have qx := conv_rd s2; go_simp
              simp only [List.setIfInBounds_toArray, List.set_cons_zero, List.set_cons_succ]
              refine take_at 5 144 (.int .i64 1) rfl rfl (by kernel_rfl) (by kernel_rfl) (by kernel_rfl) (fun _ _ _ h => h) (Or.inl ⟨by rfl, ?_⟩) hHeld ?_
              · intro w hSw; go_simp
              simp only [List.setIfInBounds_toArray, List.set_cons_zero, List.set_cons_succ]
              refine take_at 6 145 (.pointer (some ⟨ob, 1, none⟩)) rfl rfl (by kernel_rfl) (by kernel_rfl) (by kernel_rfl) (fun _ _ _ h => h) (Or.inl ⟨by rfl, ?_⟩) hHeld ?_
              · intro w hSw; go_simp
              simp only [List.setIfInBounds_toArray, List.set_cons_zero, List.set_cons_succ]
              refine take_at 7 146 (.slice (some ⟨og, 0, none⟩) lb.length vc) rfl rfl (by kernel_rfl) (by kernel_rfl) (by kernel_rfl) (fun _ _ _ h => h) (Or.inl ⟨by rfl, ?_⟩) hHeld ?_
              · intro w hSw; obtain ⟨s1, s2, s3, s4⟩ := hSw; go_simp
              simp only [List.setIfInBounds_toArray, List.set_cons_zero, List.set_cons_succ]
              refine take_at 8 147 (.int .i64 (a : Int)) rfl rfl (by kernel_rfl) (by kernel_rfl) (by kernel_rfl) (fun _ _ _ h => h) (Or.inl ⟨by rfl, ?_⟩) hHeld ?_
              · intro w hSw; go_simp
              simp only [List.setIfInBounds_toArray, List.set_cons_zero, List.set_cons_succ]
              refine take_at 9 148 (.pointer (some ⟨og, a, none⟩)) rfl rfl (by kernel_rfl) (by kernel_rfl) (by kernel_rfl) (fun _ _ _ h => h) (Or.inl ⟨by rfl, ?_⟩) hHeld ?_
              · intro w hSw; go_simp
              simp only [List.setIfInBounds_toArray, List.set_cons_zero, List.set_cons_succ]
              refine take_at 10 149 (.string (str b)) rfl rfl (by kernel_rfl) (by kernel_rfl) (by kernel_rfl) (fun _ _ _ h => h) (Or.inl ⟨by rfl, ?_⟩) hHeld ?_
              · intro w hSw; obtain ⟨s1, s2, s3, s4⟩ := hSw; go_simp
              simp only [List.setIfInBounds_toArray, List.set_cons_zero, List.set_cons_succ]
              refine take_at 11 150 (.bool false) rfl rfl (by kernel_rfl) (by kernel_rfl) (by kernel_rfl) (fun _ _ _ h => h) (Or.inl ⟨by rfl, ?_⟩) hHeld ?_
              · intro w hSw; go_simp
              simp only [List.setIfInBounds_toArray, List.set_cons_zero, List.set_cons_succ]
              refine wpAnyH_done (by kernel_rfl) (NoPanic.normal ?_) _
              clear hHeld hgc hoc hsc HX tne
              go_wp2_with fail
              go_roundw
              case rel => exact ⟨a + 1, by omega, by go_num, HCA.out.drew⟩
              case measure => simp [intOf]; omega
            · obtain rfl : a = lb.length := by omega
              clear hca
              go_wp2_with fail
              go_roundw
              case rel =>
                obtain ⟨p1, p2, p3, p4, p5, p6, p7⟩ := HP9.out
                refine ⟨1 + 1, R9, q + q9, by omega, by have := HF.out; omega, by go_num, by rw [← DS.more_more]; exact p1.rest HCA.out, p2.keep HCA.out (fun e => e), p3, p4.keep HCA.out (fun _ _ e => e), p5.keep HCA.out (fun _ _ e => e), p6, p7⟩
              case measure => simp [intOf]
        · clear HF0 HU
          go_wp2_with fail
          go_ret
          exact ⟨rfl, C1.out.trans HP.out.1.st.calm⟩
end Go.Proofs.YtglfmhheepgneaaDoor
