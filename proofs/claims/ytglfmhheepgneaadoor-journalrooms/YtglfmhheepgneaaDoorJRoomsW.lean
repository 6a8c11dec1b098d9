/-
  JournalRooms, walked.
-/
import Derived.Test.YtglfmhheepgneaaDoorJC4
namespace Go.Proofs.YtglfmhheepgneaaDoor
open Go.RowKit
set_option linter.all false

set_option maxRecDepth 100000 in
set_option maxHeartbeats 8000000 in
theorem rooms_c (w : World) (hT : Tab w) (a0 : Int) (v : Value) (ss : List (List UInt8)) (hv : Strv w v ss) :
    Calls Tryd.prog 7 #[.int .i64 a0, v] w fun e w' => e = .returned (.bool true) ∧ Calm w w' := by
  obtain ⟨r0, b0, m0⟩ := mask_nat a0 3 7 (by omega) (by decide)
  obtain ⟨A, cap, rfl, hml⟩ := hv.form
  unfold maxLen at hml
  have SH := Lib.hid (shown_c w hT)
  have HT := Lib.hid hT
  have HV := Lib.hid hv
  have b0' : (r0 : Int) < 8 := by omega
  obtain ⟨n, hn⟩ : ∃ n : Nat, n = 2 + r0 := ⟨_, rfl⟩
  have hn1 : 2 ≤ n ∧ n ≤ 9 := by omega
  have hn' : (2 : Int) + (r0 : Int) = (n : Int) := by omega
  have Hn := Lib.hid hn
  clear hT hn hv
  go_enter Tryd.func7, Tryd.ntmps7
  go_wp2_with fail
  refine SH.out.mono ?_
  rintro e w1 ⟨rfl, c1⟩
  have C1 := Lib.hid c1
  have T1 := Lib.hid (HT.out.calm c1)
  have N := Lib.hid (new_up w1 n (by omega) (by omega))
  clear c1 SH
  go_wp2_with fail
  try rw [hn']
  clear m0 b0' hn'
  refine N.out.mono ?_
  rintro e w2 ⟨R2, d, S2, rfl, s2, u2, sh2, e2, o2, c2⟩
  have FM := Lib.hid (filled_format (f := 0) (k := n) T1.out s2 u2 sh2 (by omega) (by omega) (by unfold DS.fine; rw [e2, o2]; simp))
  have HO2 := Lib.hid o2
  clear s2 u2 sh2 e2 o2 N c2
  go_wp2_with fail
  refine FM.out.mono ?_
  rintro e w3 ⟨R3, S3, jb, rfl, -, f3, -, -, e3, o3⟩
  have F3 := Lib.hid f3
  have HE3 : Hid (S3.wait.length ≤ 0 ∧ S3.ops ≤ 2) := Lib.hid (by rw [e3, o3, HO2.out]; simp)
  clear f3 e3 o3 FM
  go_wp2_with fail
  go_loopw [10, 11] (fun v10 v11 wr => ∃ (i : Nat) (Rr : Nat → Prop) (Sr : DS) (l : List (List UInt8)), i ≤ 5 ∧ i ≤ ss.length ∧ v11 = .int .i64 (i : Int) ∧ v10 = .int .i64 (l.length : Int) ∧ Filled w1 wr Rr d jb Sr 0 n l n ∧ l.length ≤ i ∧ (∀ b ∈ l, b.length ≤ 300) ∧ Sr.wait.length ≤ 2 * i ∧ Sr.ops ≤ 2 + 2 * i) (fun _ v11 _ => 5 - (intOf v11).toNat)
  case atStart => exact ⟨0, R3, S3, [], by omega, by omega, rfl, rfl, F3.out, by simp, by simp, by have := HE3.out; omega, by have := HE3.out; omega⟩
  case round =>
    obtain ⟨i, Rr, Sr, l, hi5, hil, rfl, rfl, hfl, hli, hlb, hwl, hol⟩ := hrel
    have ii5 : (i : Int) ≤ 5 := by omega
    by_cases hgo : i < ss.length ∧ i < 5
    · obtain ⟨hlt, hlt5⟩ := hgo
      have i0 : (i : Int) < (ss.length : Int) := by omega
      have i1 : (i : Int) < 5 := by omega
      obtain ⟨ad, s, rfl, hsi, hsl, hadb, hcell⟩ := HV.out.at_ (C1.out.trans hfl.jn.calm) i hlt
      obtain ⟨q, hq, hq1, hq2, hq3⟩ := cut_len s.length 300
      have hq' : (if (300 : Int) < (s.length : Int) then (300 : Int) else (s.length : Int)) = (q : Int) := hq
      have se : (str s).extract 0 q = str (s.take q) := by rw [str_extract]; simp
      have ssz := str_size s
      have htl : (s.take q).length = q := by simp; omega
      have hq1s : secsOf q = 1 := by unfold secsOf; omega
      unfold maxLen at hsl
      obtain ⟨cc, W4, qc, rd4, cm4, z4⟩ := conv_bytes wr.drew (s.take q) (by rw [htl]; unfold maxLen; omega)
      rw [htl] at qc rd4
      have hcW : W4.cell? (ad.add i) = some (.string (str s)) := (cm4.cell (p := ad.add i) (World.block_lt_of_cell? _ _ hcell) (fun e => e)).trans hcell
      have F4 := hfl.rest ((Keep.refl _ wr).drew.trans cm4)
      have HF4 := Lib.hid F4
      have HQ := Lib.hid (And.intro hq1 (And.intro hq2 (And.intro hq3 (And.intro htl hq1s))))
      have HL := Lib.hid (And.intro hli (And.intro hlb (And.intro hwl (And.intro hol hi5))))
      have qi : (q : Int) ≤ 300 := by omega
      have qj : (q : Int) ≤ (s.length : Int) := by omega
      have HC := Lib.hid cm4
      have HRd := Lib.hid rd4
      have Hsl := Lib.hid (And.intro hsl hadb)
      clear hfl rd4 cm4 F4 hq hq1 hq2 hq3 htl hq1s hli hlb hwl hol hi5 hsl hsi hil
      by_cases hroom : ((q : Nat) : Int) ≤ if 1 + secsAll l = n then -1 else ((n - (1 + secsAll l) : Nat) : Int) * 512 - 16
      · have AP := filled_append T1.out HF4.out (by omega) _ (s.take q) HRd.out (by rw [HQ.out.2.2.2.1]; exact hroom) (by have := HL.out; omega) (by rw [HQ.out.2.2.2.1, HQ.out.2.2.2.2]; unfold DS.fine; have := HL.out; omega)
        have HAP := Lib.hid AP
        clear AP hroom
        go_upto_region 13 with fail
        refine wp_region_noPanic ?_
        refine wp_region_held_drew (S := fun wx => wx.cell? (ad.add i) = some (.string (str s))) (by kernel_rfl) hcell (fun hHeld => ?_)
        refine take_at 0 53 (.pointer (some ⟨jb, 0, none⟩)) rfl rfl (by kernel_rfl) (by kernel_rfl) (by kernel_rfl) (fun _ _ _ h => h) (Or.inl ⟨by rfl, ?_⟩) hHeld ?_
        · intro w hSw; go_simp
        simp only [List.setIfInBounds_toArray, List.set_cons_zero, List.set_cons_succ]
        refine take_at 1 54 (.slice (some ad) ss.length cap) rfl rfl (by kernel_rfl) (by kernel_rfl) (by kernel_rfl) (fun _ _ _ h => h) (Or.inl ⟨by rfl, ?_⟩) hHeld ?_
        · intro w hSw; go_simp
        simp only [List.setIfInBounds_toArray, List.set_cons_zero, List.set_cons_succ]
        refine take_at 2 55 (.int .i64 (i : Int)) rfl rfl (by kernel_rfl) (by kernel_rfl) (by kernel_rfl) (fun _ _ _ h => h) (Or.inl ⟨by rfl, ?_⟩) hHeld ?_
        · intro w hSw; go_simp
        simp only [List.setIfInBounds_toArray, List.set_cons_zero, List.set_cons_succ]
        refine take_at 3 56 (.pointer (some (ad.add i))) rfl rfl (by kernel_rfl) (by kernel_rfl) (by kernel_rfl) (fun _ _ _ h => h) (Or.inl ⟨by rfl, ?_⟩) hHeld ?_
        · intro w hSw; go_simp
        simp only [List.setIfInBounds_toArray, List.set_cons_zero, List.set_cons_succ]
        refine take_at 4 57 (.string (str s)) rfl rfl (by kernel_rfl) (by kernel_rfl) (by kernel_rfl) (fun _ _ _ h => h) (Or.inl ⟨by rfl, ?_⟩) hHeld ?_
        · intro w hSw; go_simp
        simp only [List.setIfInBounds_toArray, List.set_cons_zero, List.set_cons_succ]
        refine take_at 5 58 (.slice (some ad) ss.length cap) rfl rfl (by kernel_rfl) (by kernel_rfl) (by kernel_rfl) (fun _ _ _ h => h) (Or.inl ⟨by rfl, ?_⟩) hHeld ?_
        · intro w hSw; go_simp
        simp only [List.setIfInBounds_toArray, List.set_cons_zero, List.set_cons_succ]
        refine take_at 6 59 (.int .i64 (i : Int)) rfl rfl (by kernel_rfl) (by kernel_rfl) (by kernel_rfl) (fun _ _ _ h => h) (Or.inl ⟨by rfl, ?_⟩) hHeld ?_
        · intro w hSw; go_simp
        simp only [List.setIfInBounds_toArray, List.set_cons_zero, List.set_cons_succ]
        refine take_at 7 60 (.pointer (some (ad.add i))) rfl rfl (by kernel_rfl) (by kernel_rfl) (by kernel_rfl) (fun _ _ _ h => h) (Or.inl ⟨by rfl, ?_⟩) hHeld ?_
        · intro w hSw; go_simp
        simp only [List.setIfInBounds_toArray, List.set_cons_zero, List.set_cons_succ]
        refine take_at 8 61 (.string (str s)) rfl rfl (by kernel_rfl) (by kernel_rfl) (by kernel_rfl) (fun _ _ _ h => h) (Or.inl ⟨by rfl, ?_⟩) hHeld ?_
        · intro w hSw; go_simp
        simp only [List.setIfInBounds_toArray, List.set_cons_zero, List.set_cons_succ]
        refine take_at 9 62 (.int .i64 (s.length : Int)) rfl rfl (by kernel_rfl) (by kernel_rfl) (by kernel_rfl) (fun _ _ _ h => h) (Or.inl ⟨by rfl, ?_⟩) hHeld ?_
        · intro w hSw; go_simp
        simp only [List.setIfInBounds_toArray, List.set_cons_zero, List.set_cons_succ]
        refine take_at 10 63 (.int .i64 (q : Int)) rfl rfl (by kernel_rfl) (by kernel_rfl) (by kernel_rfl) (fun _ _ _ h => h) (Or.inl ⟨by rfl, ?_⟩) hHeld ?_
        · intro w hSw; go_simp
        simp only [List.setIfInBounds_toArray, List.set_cons_zero, List.set_cons_succ]
        refine take_at 11 64 (.string (str (s.take q))) rfl rfl (by kernel_rfl) (by kernel_rfl) (by kernel_rfl) (fun _ _ _ h => h) (Or.inl ⟨by rfl, ?_⟩) hHeld ?_
        · intro w hSw; go_simp
        simp only [List.setIfInBounds_toArray, List.set_cons_zero, List.set_cons_succ]
        refine wpAnyH_ready (rs := [12]) (by kernel_rfl) (by simp) ?_
        refine AllReadyH.cons rfl (fun K hK => ?_) AllReadyH.nil
        go_simp
        refine hK.out _ _ hcW (fun hHeld => ?_)
        clear hK K
        try simp only [List.setIfInBounds_toArray, List.set_cons_zero, List.set_cons_succ]
        refine wpAnyH_ready (rs := [13]) (by kernel_rfl) (by simp) ?_
        refine AllReadyH.cons rfl (fun K hK => ?_) AllReadyH.nil
        go_simp
        refine HAP.out.mono ?_
        rintro e w9 ⟨R9, S9, rfl, f9, -, -, x9⟩
        have F9 := Lib.hid f9
        have X9 := Lib.hid x9
        have hc9 : w9.cell? (ad.add i) = some (.string (str s)) := by
          obtain ⟨ad', s', e1, e2, -, -, e4⟩ := HV.out.at_ (C1.out.trans f9.jn.calm) i hlt
          cases e1
          obtain ⟨ad'', s'', e1', e2', -, -, e4'⟩ := HV.out.at_ (C1.out.trans HF4.out.jn.calm) i hlt
          cases e1'
          rw [e2] at e2'
          cases e2'
          rw [e4, ← e4', hcW]
        clear f9 x9
        refine hK.out _ _ hc9 (fun hHeld => ?_)
        clear hK K
        try simp only [List.setIfInBounds_toArray, List.set_cons_zero, List.set_cons_succ]
        refine take_at 14 67 (.bool true) rfl rfl (by kernel_rfl) (by kernel_rfl) (by kernel_rfl) (fun _ _ _ h => h) (Or.inl ⟨by rfl, ?_⟩) hHeld ?_
        · intro w hSw; go_simp
        simp only [List.setIfInBounds_toArray, List.set_cons_zero, List.set_cons_succ]
        refine wpAnyH_done (by kernel_rfl) (NoPanic.normal ?_) _
        clear hHeld HAP qc hcell se hq' ssz hcW
        have il : (l.length : Int) ≤ 5 := by have := HL.out; omega
        go_wp2_with fail
        go_roundw
        case rel =>
          have L := HL.out
          have Q := HQ.out
          have X := X9.out
          rw [Q.2.2.2.1, Q.2.2.2.2] at X
          refine ⟨i + 1, R9, S9, l ++ [s.take q], by omega, by omega, by go_num, by simp, F9.out, by simp; omega, fun b hb => ?_, by omega, by omega⟩
          rcases List.mem_append.1 hb with hb | hb
          · exact L.2.1 b hb
          · simp at hb; subst hb; rw [Q.2.2.2.1]; omega
        case measure => simp [intOf]; omega
      · have AP := filled_full HF4.out (by omega) (some ⟨wr.drew.heap.size, 0, none⟩) q cc (by have := HL.out; omega) (by omega)
        have HAP := Lib.hid AP
        clear AP hroom
        go_upto_region 13 with fail
        refine wp_region_noPanic ?_
        refine wp_region_held_drew (S := fun wx => wx.cell? (ad.add i) = some (.string (str s))) (by kernel_rfl) hcell (fun hHeld => ?_)
        refine take_at 0 53 (.pointer (some ⟨jb, 0, none⟩)) rfl rfl (by kernel_rfl) (by kernel_rfl) (by kernel_rfl) (fun _ _ _ h => h) (Or.inl ⟨by rfl, ?_⟩) hHeld ?_
        · intro w hSw; go_simp
        simp only [List.setIfInBounds_toArray, List.set_cons_zero, List.set_cons_succ]
        refine take_at 1 54 (.slice (some ad) ss.length cap) rfl rfl (by kernel_rfl) (by kernel_rfl) (by kernel_rfl) (fun _ _ _ h => h) (Or.inl ⟨by rfl, ?_⟩) hHeld ?_
        · intro w hSw; go_simp
        simp only [List.setIfInBounds_toArray, List.set_cons_zero, List.set_cons_succ]
        refine take_at 2 55 (.int .i64 (i : Int)) rfl rfl (by kernel_rfl) (by kernel_rfl) (by kernel_rfl) (fun _ _ _ h => h) (Or.inl ⟨by rfl, ?_⟩) hHeld ?_
        · intro w hSw; go_simp
        simp only [List.setIfInBounds_toArray, List.set_cons_zero, List.set_cons_succ]
        refine take_at 3 56 (.pointer (some (ad.add i))) rfl rfl (by kernel_rfl) (by kernel_rfl) (by kernel_rfl) (fun _ _ _ h => h) (Or.inl ⟨by rfl, ?_⟩) hHeld ?_
        · intro w hSw; go_simp
        simp only [List.setIfInBounds_toArray, List.set_cons_zero, List.set_cons_succ]
        refine take_at 4 57 (.string (str s)) rfl rfl (by kernel_rfl) (by kernel_rfl) (by kernel_rfl) (fun _ _ _ h => h) (Or.inl ⟨by rfl, ?_⟩) hHeld ?_
        · intro w hSw; go_simp
        simp only [List.setIfInBounds_toArray, List.set_cons_zero, List.set_cons_succ]
        refine take_at 5 58 (.slice (some ad) ss.length cap) rfl rfl (by kernel_rfl) (by kernel_rfl) (by kernel_rfl) (fun _ _ _ h => h) (Or.inl ⟨by rfl, ?_⟩) hHeld ?_
        · intro w hSw; go_simp
        simp only [List.setIfInBounds_toArray, List.set_cons_zero, List.set_cons_succ]
        refine take_at 6 59 (.int .i64 (i : Int)) rfl rfl (by kernel_rfl) (by kernel_rfl) (by kernel_rfl) (fun _ _ _ h => h) (Or.inl ⟨by rfl, ?_⟩) hHeld ?_
        · intro w hSw; go_simp
        simp only [List.setIfInBounds_toArray, List.set_cons_zero, List.set_cons_succ]
        refine take_at 7 60 (.pointer (some (ad.add i))) rfl rfl (by kernel_rfl) (by kernel_rfl) (by kernel_rfl) (fun _ _ _ h => h) (Or.inl ⟨by rfl, ?_⟩) hHeld ?_
        · intro w hSw; go_simp
        simp only [List.setIfInBounds_toArray, List.set_cons_zero, List.set_cons_succ]
        refine take_at 8 61 (.string (str s)) rfl rfl (by kernel_rfl) (by kernel_rfl) (by kernel_rfl) (fun _ _ _ h => h) (Or.inl ⟨by rfl, ?_⟩) hHeld ?_
        · intro w hSw; go_simp
        simp only [List.setIfInBounds_toArray, List.set_cons_zero, List.set_cons_succ]
        refine take_at 9 62 (.int .i64 (s.length : Int)) rfl rfl (by kernel_rfl) (by kernel_rfl) (by kernel_rfl) (fun _ _ _ h => h) (Or.inl ⟨by rfl, ?_⟩) hHeld ?_
        · intro w hSw; go_simp
        simp only [List.setIfInBounds_toArray, List.set_cons_zero, List.set_cons_succ]
        refine take_at 10 63 (.int .i64 (q : Int)) rfl rfl (by kernel_rfl) (by kernel_rfl) (by kernel_rfl) (fun _ _ _ h => h) (Or.inl ⟨by rfl, ?_⟩) hHeld ?_
        · intro w hSw; go_simp
        simp only [List.setIfInBounds_toArray, List.set_cons_zero, List.set_cons_succ]
        refine take_at 11 64 (.string (str (s.take q))) rfl rfl (by kernel_rfl) (by kernel_rfl) (by kernel_rfl) (fun _ _ _ h => h) (Or.inl ⟨by rfl, ?_⟩) hHeld ?_
        · intro w hSw; go_simp
        simp only [List.setIfInBounds_toArray, List.set_cons_zero, List.set_cons_succ]
        refine wpAnyH_ready (rs := [12]) (by kernel_rfl) (by simp) ?_
        refine AllReadyH.cons rfl (fun K hK => ?_) AllReadyH.nil
        go_simp
        refine hK.out _ _ hcW (fun hHeld => ?_)
        clear hK K
        try simp only [List.setIfInBounds_toArray, List.set_cons_zero, List.set_cons_succ]
        refine wpAnyH_ready (rs := [13]) (by kernel_rfl) (by simp) ?_
        refine AllReadyH.cons rfl (fun K hK => ?_) AllReadyH.nil
        go_simp
        refine HAP.out.mono ?_
        rintro e w9 ⟨rfl, c9⟩
        have F9 := Lib.hid (HF4.out.rest c9)
        have hc9 : w9.cell? (ad.add i) = some (.string (str s)) := (c9.cell (p := ad.add i) (World.block_lt_of_cell? _ _ hcW) (fun e => e)).trans hcW
        clear c9
        refine hK.out _ _ hc9 (fun hHeld => ?_)
        clear hK K
        try simp only [List.setIfInBounds_toArray, List.set_cons_zero, List.set_cons_succ]
        refine take_at 14 67 (.bool false) rfl rfl (by kernel_rfl) (by kernel_rfl) (by kernel_rfl) (fun _ _ _ h => h) (Or.inl ⟨by rfl, ?_⟩) hHeld ?_
        · intro w hSw; go_simp
        simp only [List.setIfInBounds_toArray, List.set_cons_zero, List.set_cons_succ]
        refine wpAnyH_done (by kernel_rfl) (NoPanic.normal ?_) _
        clear hHeld HAP qc hcell se hq' ssz hcW
        go_wp2_with fail
        go_roundw
        case rel =>
          have L := HL.out
          exact ⟨i + 1, Rr, Sr, l, by omega, by omega, by go_num, rfl, F9.out, by omega, L.2.1, by omega, by omega⟩
        case measure => simp [intOf]; omega
    · have HL := Lib.hid (And.intro hli (And.intro hlb (And.intro hwl hol)))
      have F := Lib.hid hfl
      have hlen : (l.length : Int) ≤ 5 := by omega
      clear hli hlb hwl hol hfl
      obtain ⟨rm, hrm⟩ : ∃ rm : Int, rm = if 1 + secsAll l = n then -1 else ((n - (1 + secsAll l) : Nat) : Int) * 512 - 16 := ⟨_, rfl⟩
      have RM := filled_room F.out (by omega)
      rw [← hrm] at RM
      have HRM := Lib.hid RM
      have hfi := F.out.fits
      have Hrm := Lib.hid hrm
      have rb : -1 ≤ rm ∧ rm ≤ 5000 := by rw [hrm]; split <;> omega
      clear RM hrm
      have hcase : (¬ i < ss.length) ∨ (i < ss.length ∧ ¬ i < 5) := by omega
      have TAIL : True := trivial
      rcases hcase with hge | ⟨hlt, hge⟩
      all_goals
        go_wp2_with fail
        refine HRM.out.mono ?_
        rintro e w5 ⟨rfl, c5⟩
        have F5 := Lib.hid (F.out.rest c5)
        have NX := filled_next F5.out (by omega)
        have OPS := Lib.hid (isops_c F5.out.jn.sd.st.disk)
        obtain ⟨nx, hnx⟩ : ∃ nx, nx = 1 + l.length + 1 := ⟨_, rfl⟩
        rw [← hnx] at NX
        have HNX := Lib.hid NX
        have Hnx := Lib.hid hnx
        clear c5 HRM F TAIL NX hnx
        rcases (show rm < 0 ∨ 0 ≤ rm by omega) with hneg | hpos
        · obtain rfl : rm = -1 := by omega
          have qm : Sem.run Tryd.prog (Instr.makeSlice 33 (.int .i64 0) (.int .i64 0)) w5 = .ok (.slice (some ⟨w5.heap.size, 0, none⟩) 0 0) (w5.alloc (.cells (zeros8 0) 5)) := run_make8 w5 0 (by omega)
          have F6 := Lib.hid (F5.out.rest ((Keep.refl _ w5).alloc (.cells (zeros8 0) 5)))
          have FU := Lib.hid (filled_full F6.out (by omega) (some ⟨w5.heap.size, 0, none⟩) 0 0 (by omega) (by rw [← Hrm.out]; omega))
          clear hneg
          go_wp2_with (first | (go_at_call 24; refine HNX.out.mono ?_; rintro e w6 ⟨rfl, rfl⟩) | (go_at_call 30; refine OPS.out.mono ?_; rintro e w6 ⟨rfl, rfl⟩))
          refine FU.out.mono ?_
          rintro e w7 ⟨rfl, c7⟩
          have F7 := Lib.hid (F6.out.rest c7)
          have OPS7 := Lib.hid (isops_c F7.out.jn.sd.st.disk)
          have NX7 := filled_next F7.out (by omega)
          rw [← Hnx.out] at NX7
          have HNX7 := Lib.hid NX7
          have RM7 := filled_room F7.out (by omega)
          rw [← Hrm.out] at RM7
          have HRM7 := Lib.hid RM7
          clear c7 FU NX7 RM7 qm HNX OPS
          go_wp2_with (first | (go_at_call 24; refine HNX7.out.mono ?_; rintro e w6 ⟨rfl, rfl⟩) | (go_at_call 30; refine OPS7.out.mono ?_; rintro e w6 ⟨rfl, rfl⟩))
          refine HRM7.out.mono ?_
          rintro e w8 ⟨rfl, c8⟩
          have C8 := Lib.hid (C1.out.trans (F7.out.rest c8).jn.calm)
          clear c8 HRM7
          go_wp2_with fail
          go_ret
          exact ⟨rfl, C8.out⟩
        · obtain ⟨r, rfl⟩ : ∃ r : Nat, rm = (r : Int) := ⟨rm.toNat, by omega⟩
          have qm := run_make8 w5 (r + 1) (by omega)
          rw [show ((r + 1 : Nat) : Int) = (r : Int) + 1 by omega] at qm
          have hmx : ¬ (r : Int) + 1 < 0 := by omega
          have hmx2 : (0 : Int) < (r : Int) + 1 := by omega
          have F6 := Lib.hid (F5.out.rest ((Keep.refl _ w5).alloc (.cells (zeros8 (r + 1)) 5)))
          have FU := Lib.hid (filled_full F6.out (by omega) (some ⟨w5.heap.size, 0, none⟩) (r + 1) (r + 1) (by omega) (by rw [← Hrm.out]; omega))
          go_wp2_with (first | (go_at_call 24; refine HNX.out.mono ?_; rintro e w6 ⟨rfl, rfl⟩) | (go_at_call 30; refine OPS.out.mono ?_; rintro e w6 ⟨rfl, rfl⟩))
          refine FU.out.mono ?_
          rintro e w7 ⟨rfl, c7⟩
          have F7 := Lib.hid (F6.out.rest c7)
          have OPS7 := Lib.hid (isops_c F7.out.jn.sd.st.disk)
          have NX7 := filled_next F7.out (by omega)
          rw [← Hnx.out] at NX7
          have HNX7 := Lib.hid NX7
          have RM7 := filled_room F7.out (by omega)
          rw [← Hrm.out] at RM7
          have HRM7 := Lib.hid RM7
          clear c7 FU NX7 RM7 qm HNX OPS
          go_wp2_with (first | (go_at_call 24; refine HNX7.out.mono ?_; rintro e w6 ⟨rfl, rfl⟩) | (go_at_call 30; refine OPS7.out.mono ?_; rintro e w6 ⟨rfl, rfl⟩))
          refine HRM7.out.mono ?_
          rintro e w8 ⟨rfl, c8⟩
          have F8 := F7.out.rest c8
          have qm8 := run_make8 w8 r (by omega)
          have F9 := Lib.hid (F8.rest ((Keep.refl _ w8).alloc (.cells (zeros8 r) 5)))
          have rd9 := (Own.zeros w8 r (by omega)).rd ⟨_, _, _, rfl⟩
          have hlr : (List.replicate r (0 : UInt8)).length = r := List.length_replicate
          have hsr : 1 + secsAll l + secsOf r ≤ n ∧ n ≤ 1 + secsAll l + secsOf r := by
            have := Hrm.out
            split at this
            · omega
            · unfold secsOf; omega
          have AP := filled_append T1.out F9.out (by omega) _ (List.replicate r 0) rd9 (by rw [hlr]; exact Int.le_of_eq Hrm.out) (by omega) (by rw [hlr]; unfold DS.fine; have := HL.out; omega)
          rw [hlr] at AP
          have HAP := Lib.hid AP
          have HSR := Lib.hid hsr
          clear c8 HRM7 F8 rd9 AP hlr hsr OPS7 HNX7
          go_wp2_with fail
          refine HAP.out.mono ?_
          rintro e w10 ⟨R10, S10, rfl, f10, -, -, x10, y10, -⟩
          have F10 := Lib.hid f10
          obtain ⟨c, hju, hch⟩ := f10.ju
          have hlen2 : (l ++ [List.replicate r (0 : UInt8)]).length = l.length + 1 := by simp
          have hll : ∀ b ∈ l ++ [List.replicate r (0 : UInt8)], b.length < 4294967296 := by
            intro b hb
            rcases List.mem_append.1 hb with hb | hb
            · have := HL.out.2.1 b hb; omega
            · simp only [List.mem_singleton] at hb; subst hb; rw [List.length_replicate]; omega
          have hrep := Lib.hid (filled_told hch (by rw [hlen2]; omega) hll)
          have OP := Lib.hid (jopen_up (f := 0) (k := n) T1.out hju.jn.sd hju.up hju.shows (by omega) (by omega) (by unfold DS.fine; have := HL.out; have := HSR.out; omega))
          clear f10 hju hch hll x10 y10 HAP qm8
          go_wp2_with fail
          refine OP.out.mono ?_
          rintro e w11 ⟨R11, q11, hq11, x11, k11, s11, ⟨hno, -⟩ | ⟨out, n', used, A', cc', jb9, hs, rfl, hrc, -, J11, -, -, -, -, -⟩⟩
          · rw [hrep.out] at hno; cases hno
          rw [hrep.out] at hs
          injection hs with hs
          injection hs with hs1 hs2
          injection hs2 with hs2 hs3
          subst hs1; subst hs2; subst hs3
          obtain ⟨g, x, rfl, hcell, hx⟩ := hrc.at_ l.length (List.replicate r 0) (by simp)
          obtain ⟨xg, xo, xc, xcur, rfl, -⟩ := id hx
          rw [List.length_replicate] at hcell
          have RM := jroom_c (F10.out.jn.row.keep k11 F10.out.jn.out) (by simp only; have := F10.out.fits; omega) (by simp only; omega)
          rw [show (JS.mk 0 (0 + n) (0 + (1 + secsAll (l ++ [List.replicate r 0]))) (1 + (l ++ [List.replicate r (0 : UInt8)]).length) false).room = -1 by
            unfold JS.room
            simp only
            rw [if_pos (by rw [secsAll_snoc, List.length_replicate]; have := HSR.out; omega)]] at RM
          have HRM11 := Lib.hid RM
          have C11 := Lib.hid (C1.out.trans s11.st.calm)
          rw [hlen2]
          have hgi : (0 : Int) ≤ (l.length : Int) := by omega
          have hgl : (l.length : Int) < ((l.length + 1 : Nat) : Int) := by omega
          have hlt9 : l.length < l.length + 1 := by omega
          clear RM hrc hx k11 x11 s11 J11 OP hlen2
          go_wp2_with fail
          refine HRM11.out.mono ?_
          rintro e w12 ⟨rfl, c12⟩
          have hcell2 : w12.cell? ⟨g, l.length, none⟩ = some (.slice (some ⟨xg, xo, none⟩) r xc) := (c12.cell (p := ⟨g, l.length, none⟩) (World.block_lt_of_cell? _ _ hcell) (fun e => e)).trans hcell
          have C12 := Lib.hid (C11.out.trans c12)
          clear c12 HRM11 hcell
          go_wp2_with fail
          go_ret
          exact ⟨rfl, C12.out⟩
end Go.Proofs.YtglfmhheepgneaaDoor
