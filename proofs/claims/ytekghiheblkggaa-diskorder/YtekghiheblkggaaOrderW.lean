/-
  DiskOrder: the walk.
-/
import Derived.Test.YtekghiheblkggaaLaw1b
import Derived.Test.YtekghiheblkggaaFrames
import Derived.Deep.DeepCutAuto
import Derived.Deep.CutBlock
import Derived.Test.YtekghiheblkggaaRegion
namespace Go.Proofs.Ytekghiheblkggaa
open Go.RowKit
set_option linter.all false

/-- The last byte kept of the first j, or what was. -/
def wantTo (ks : List Bool) (was : UInt8) (fs : List UInt8) : Nat → UInt8
  | 0 => was
  | j + 1 => if keptOf ks j then fs.getD j 0 else wantTo ks was fs j
def waitsTo (fs : List UInt8) (j : Nat) : List (Nat × List UInt8) := (fs.take j).map fun b => (0, full b)
theorem waitsTo_succ (fs : List UInt8) (j : Nat) (h : j < fs.length) : waitsTo fs (j + 1) = waitsTo fs j ++ [(0, full fs[j])] := by
  unfold waitsTo
  rw [List.take_succ_eq_append_getElem h, List.map_append]
  rfl
theorem waitsTo_len (fs : List UInt8) (j : Nat) (h : j ≤ fs.length) : (waitsTo fs j).length = j := by simp [waitsTo]; omega
theorem put_want (ks ks' : List Bool) (was : UInt8) (fs : List UInt8) (j : Nat) (hj : j ≤ fs.length) (hk : ∀ i, i < j → keptOf ks' i = keptOf ks i) (k : Nat) (h : k ≤ j) :
    putTo (keptOf ks') [full was] (waitsTo fs j) k = [full (wantTo ks was fs k)] := by
  induction k with
  | zero => rfl
  | succ k ih =>
    have hl : k < fs.length := by omega
    have e : (waitsTo fs j)[k]? = some (0, full fs[k]) := by simp [waitsTo, List.getElem?_take, show k < j by omega, hl]
    rw [putTo_succ _ _ _ _ _ e, ih (by omega), hk k (by omega)]
    simp only [wantTo]
    split
    · simp [hl]
    · rfl
theorem keptOf_take (ks : List Bool) (n i : Nat) (h : i < n) : keptOf (ks.take n) i = keptOf ks i := by simp [keptOf, List.getElem?_take, h]

set_option maxRecDepth 100000 in
set_option maxHeartbeats 6400000 in
theorem diskOrder_c (v0 v1 : Value) (fs : List UInt8) (ks : List Bool) (was : UInt8) (w : World) (h0 : Bytes w (fun _ => True) v0 fs) (h1 : Bools w (fun _ => True) v1 ks) (c0 : Fits v0) (c1 : Fits v1) :
    Calls Try.prog 7 #[v0, v1, .int .u8 (was.toNat : Int)] w fun e w' => e = .returned (.bool true) ∧ Calm w w' := by
  obtain ⟨A0, p0, rfl⟩ := h0.form
  obtain ⟨A1, p1, rfl⟩ := h1.form
  have m0 := Nat.le_trans (c0 _ _ _ rfl).1 (c0 _ _ _ rfl).2
  have m1 := Nat.le_trans (c1 _ _ _ rfl).1 (c1 _ _ _ rfl).2
  have l1 := (c1 _ _ _ rfl).1
  have H0 := Lib.hid h0
  have H1 := Lib.hid h1
  unfold maxLen at m0 m1
  clear h0 h1 c0 c1
  go_enter Try.func7, Try.ntmps7
  go_wp2_with fail
  refine (shown_c w).mono ?_
  rintro e w1 ⟨rfl, hc⟩
  have C1 := Lib.hid hc
  clear hc
  go_wp2_with fail
  refine (new_ok w1 1 (by omega) (by omega)).mono ?_
  rintro e w2 ⟨d, rfl, hd, hc⟩
  have s2 := Lib.hid (St.made hd hc)
  clear hd hc
  generalize Grow (fun _ => False) w1 w2 = R2 at s2
  go_wp2_with fail
  refine (sector_c was w2).mono ?_
  rintro e w3 ⟨g3, q3, rfl, hd, hc⟩
  have s3 := Lib.hid (s2.out.rest hc)
  have D3 := Lib.hid hd
  have Q3 := Lib.hid (fun k (hk : k = g3 ∧ w2.heap.size ≤ k) => s2.out.fresh hk.2)
  clear hd hc s2
  go_wp2_with fail
  refine (st_write s3.out (by simp) (by simp) rfl 0 (by simp) g3 q3 (full was) D3.out Q3.out).mono ?_
  rintro e w4 ⟨rfl, h, k⟩
  have s4 := Lib.hid h
  clear h k s3 D3 Q3
  generalize Grow R2 w3 w4 = R4 at s4
  go_wp2_with fail
  refine (st_barrier s4.out (by simp) (by simp) rfl).mono ?_
  rintro e w5 ⟨rfl, h, k⟩
  have s5 : Hid (St w1 w5 R4 d ⟨[full was], [], none, false, 2⟩) := Lib.hid h
  clear h k s4
  go_upto_block 0 with fail
  go_cut [10] (fun s10 wc => ∃ (j : Nat) (R : Nat → Prop), j ≤ 20 ∧ j ≤ fs.length ∧ s10 = .int .u8 ((wantTo ks was fs j).toNat : Int) ∧ St w1 wc R d ⟨[full was], waitsTo fs j, none, false, 2 + j⟩)
  case first =>
    go_wp2_with fail
    go_loopw [10, 11] (fun s10 i wr => ∃ (j : Nat) (R : Nat → Prop), j ≤ 20 ∧ j ≤ fs.length ∧ i = .int .i64 j ∧ s10 = .int .u8 ((wantTo ks was fs j).toNat : Int) ∧ St w1 wr R d ⟨[full was], waitsTo fs j, none, false, 2 + j⟩) (fun _ i _ => 20 - (intOf i).toNat)
    case atStart => exact ⟨0, R4, by omega, by omega, rfl, rfl, s5.out⟩
    case round =>
      obtain ⟨j, R, hj, hjl, rfl, rfl, hst⟩ := hrel
      have Hs := Lib.hid hst
      clear hst s5
      by_cases hlt : j < fs.length ∧ j < 20
      · obtain ⟨i1, i2⟩ := hlt
        obtain ⟨ad, rfl, cf⟩ := H0.out.at_ (C1.out.trans Hs.out.calm) j i1
        go_wp2_with fail
        refine (sector_c fs[j] wr).mono ?_
        rintro e w6 ⟨g6, q6, rfl, hd, hc⟩
        have s6 := Lib.hid (Hs.out.rest hc)
        have D6 := Lib.hid hd
        have Q6 := Lib.hid (fun k (hk : k = g6 ∧ wr.heap.size ≤ k) => Hs.out.fresh hk.2)
        clear hd hc
        go_wp2_with fail
        refine (st_write s6.out (by simp [waitsTo_len fs j hjl]; omega) (by simp; omega) rfl 0 (by simp) g6 q6 (full fs[j]) D6.out Q6.out).mono ?_
        rintro e w7 ⟨rfl, h, k⟩
        have s7 := Lib.hid h
        have c7 := (C1.out.trans s7.out.calm)
        obtain ⟨ad', e', cf'⟩ := H0.out.at_ c7 j i1
        injection e' with e'
        subst e'
        have Hq := Lib.hid (waitsTo_succ fs j i1)
        have S7 : Hid (St w1 w7 (Grow R w6 w7) d ⟨[full was], waitsTo fs (j + 1), none, false, 2 + (j + 1)⟩) := by rw [Hq.out]; exact h
        clear h k s7 cf
        by_cases hk : j < ks.length
        · obtain ⟨ad1, rfl, ck⟩ := H1.out.at_ c7 j hk
          clear c7
          cases hb : ks[j]
          · rw [hb] at ck
            have Hw : Hid (wantTo ks was fs (j + 1) = wantTo ks was fs j) := by simp [Hid, wantTo, keptOf_lt ks j hk, hb]
            clear hb
            go_wp2_with fail
            go_roundw
            case rel => exact ⟨j + 1, _, by omega, by omega, by go_num, by rw [Hw.out], S7.out⟩
            case measure => simp [intOf]; omega
          · rw [hb] at ck
            have Hw : Hid (wantTo ks was fs (j + 1) = fs[j]) := by simp [Hid, wantTo, keptOf_lt ks j hk, hb, i1]
            clear hb
            go_wp2_with fail
            go_roundw
            case rel => exact ⟨j + 1, _, by omega, by omega, by go_num, by rw [Hw.out], S7.out⟩
            case measure => simp [intOf]; omega
        · clear c7
          have Hw : Hid (wantTo ks was fs (j + 1) = wantTo ks was fs j) := by simp [Hid, wantTo, keptOf_ge ks j hk]
          go_wp2_with fail
          go_roundw
          case rel => exact ⟨j + 1, _, by omega, by omega, by go_num, by rw [Hw.out], S7.out⟩
          case measure => simp [intOf]; omega
      · by_cases i1 : j < fs.length
        · have i2 : ¬ j < 20 := fun e => hlt ⟨i1, e⟩
          clear hlt
          go_wp2_with fail
          go_meet
          case rel => exact ⟨j, R, hj, hjl, rfl, Hs.out⟩
        · clear hlt
          go_wp2_with fail
          go_meet
          case rel => exact ⟨j, R, hj, hjl, rfl, Hs.out⟩
  case rest =>
    obtain ⟨j, R, hj, hjl, rfl, hst⟩ := hcut
    obtain ⟨w6, rfl⟩ : ∃ x : World, x = wc := ⟨_, rfl⟩
    have s6 := Lib.hid hst
    have Hwl := Lib.hid (waitsTo_len fs j hjl)
    clear hst s5
    go_upto_region 14 with fail
    go_cut [] (fun wc => St w1 wc R d ⟨[full (wantTo ks was fs j)], [], none, true, 2 + j⟩)
    case first =>
      have B := Lib.hid ((H1.out.cut 60).calm (C1.out.trans s6.out.calm) (R := R) (fun k hk e => absurd (s6.out.new k e) (by have := C1.out.size; omega)))
      have Hp : Hid ((⟨[full was], waitsTo fs j, none, false, 2 + j⟩ : DS).crash (ks.take 60) = ⟨[full (wantTo ks was fs j)], [], none, true, 2 + j⟩) := by
        simp only [Hid, DS.crash, Hwl.out]
        rw [put_want ks (ks.take 60) was fs j hjl (fun i hi => keptOf_take ks 60 i (by omega)) j (Nat.le_refl _)]
      by_cases h60 : ks.length ≤ 60
      · rw [Nat.min_eq_left h60] at B
        go_wp2_with fail
        refine (st_crash s6.out (by rw [Hwl.out]; omega) _ _ B.out (by simp [maxLen]; omega)).mono ?_
        rintro e w7 ⟨rfl, h, k⟩
        rw [Hp.out] at h
        have s7 := Lib.hid h
        clear h k
        go_wp2_with fail
        go_meet
        case rel => exact s7.out
      · rw [Nat.min_eq_right (by omega)] at B
        go_wp2_with fail
        refine (st_crash s6.out (by rw [Hwl.out]; omega) _ _ B.out (by simp [maxLen]; omega)).mono ?_
        rintro e w7 ⟨rfl, h, k⟩
        rw [Hp.out] at h
        have s7 := Lib.hid h
        clear h k
        go_wp2_with fail
        go_meet
        case rel => exact s7.out
    case rest =>
      obtain ⟨w7, rfl⟩ : ∃ x : World, x = wc := ⟨_, rfl⟩
      have s7 := Lib.hid hcut
      clear hcut s6
      go_wp2_with fail
      refine (st_up s7.out).mono ?_
      rintro e w8 ⟨rfl, h, k⟩
      have s8 := Lib.hid h
      clear h k s7
      go_wp2_with fail
      refine (st_read s8.out (by simp) (by simp; omega) rfl 0 (by simp)).mono ?_
      rintro e w9 ⟨g, p, rfl, hd, h, k⟩
      have s9 := Lib.hid h
      have Q9 := Lib.hid (fun k (hk : k = g ∧ w8.heap.size ≤ k) => s8.out.fresh hk.2)
      have D9 : Hid (Data w9 (fun k => k = g ∧ w8.heap.size ≤ k) (.slice (some ⟨g, 0, none⟩) 512 p) (full (wantTo ks was fs j))) := Lib.hid hd
      have q' := conv_data (w := w9.drew) D9.out
      clear hd h k s8
      generalize wantTo ks was fs j = X at *
      go_wp2_with fail
      refine wp_region_noPanic ?_
      refine wp_region_held_drew (S := fun w' => Sem.run Try.prog (convert 45 9 (.slice (some ⟨g, 0, none⟩) 512 p)) w' = .ok (.string (str (full X))) w') (by kernel_rfl) q' (fun hHeld => ?_)
      refine take_at 0 78 (.bool true) rfl rfl (by kernel_rfl) (by kernel_rfl) (by kernel_rfl) (fun _ _ _ h => h) (Or.inl ⟨by rfl, ?_⟩) hHeld ?_
      · intro w hSw; go_simp
      simp only [List.setIfInBounds_toArray, List.set_cons_zero, List.set_cons_succ]
      refine take_at 1 79 (.bool true) rfl rfl (by kernel_rfl) (by kernel_rfl) (by kernel_rfl) (fun _ _ _ h => h) (Or.inl ⟨by rfl, ?_⟩) hHeld ?_
      · intro w hSw; go_simp
      simp only [List.setIfInBounds_toArray, List.set_cons_zero, List.set_cons_succ]
      refine take_at 2 80 (.int .i64 0) rfl rfl (by kernel_rfl) (by kernel_rfl) (by kernel_rfl) (fun _ _ _ h => h) (Or.inl ⟨by rfl, ?_⟩) hHeld ?_
      · intro w hSw; go_simp
      simp only [List.setIfInBounds_toArray, List.set_cons_zero, List.set_cons_succ]
      refine take_at 3 81 (.bool true) rfl rfl (by kernel_rfl) (by kernel_rfl) (by kernel_rfl) (fun _ _ _ h => h) (Or.inl ⟨by rfl, ?_⟩) hHeld ?_
      · intro w hSw; go_simp
      simp only [List.setIfInBounds_toArray, List.set_cons_zero, List.set_cons_succ]
      refine take_at 4 82 (.bool true) rfl rfl (by kernel_rfl) (by kernel_rfl) (by kernel_rfl) (fun _ _ _ h => h) (Or.inl ⟨by rfl, ?_⟩) hHeld ?_
      · intro w hSw; go_simp
      simp only [List.setIfInBounds_toArray, List.set_cons_zero, List.set_cons_succ]
      refine take_at 5 83 (.bool true) rfl rfl (by kernel_rfl) (by kernel_rfl) (by kernel_rfl) (fun _ _ _ h => h) (Or.inl ⟨by rfl, ?_⟩) hHeld ?_
      · intro w hSw; go_simp
      simp only [List.setIfInBounds_toArray, List.set_cons_zero, List.set_cons_succ]
      refine take_at 6 84 (.int .i64 0) rfl rfl (by kernel_rfl) (by kernel_rfl) (by kernel_rfl) (fun _ _ _ h => h) (Or.inl ⟨by rfl, ?_⟩) hHeld ?_
      · intro w hSw; go_simp
      simp only [List.setIfInBounds_toArray, List.set_cons_zero, List.set_cons_succ]
      refine take_at 7 85 (.bool true) rfl rfl (by kernel_rfl) (by kernel_rfl) (by kernel_rfl) (fun _ _ _ h => h) (Or.inl ⟨by rfl, ?_⟩) hHeld ?_
      · intro w hSw; go_simp
      simp only [List.setIfInBounds_toArray, List.set_cons_zero, List.set_cons_succ]
      refine take_at 8 86 (.bool true) rfl rfl (by kernel_rfl) (by kernel_rfl) (by kernel_rfl) (fun _ _ _ h => h) (Or.inl ⟨by rfl, ?_⟩) hHeld ?_
      · intro w hSw; go_simp
      simp only [List.setIfInBounds_toArray, List.set_cons_zero, List.set_cons_succ]
      refine take_at 9 87 (.bool true) rfl rfl (by kernel_rfl) (by kernel_rfl) (by kernel_rfl) (fun _ _ _ h => h) (Or.inl ⟨by rfl, ?_⟩) hHeld ?_
      · intro w hSw; go_simp
      simp only [List.setIfInBounds_toArray, List.set_cons_zero, List.set_cons_succ]
      refine take_at 10 88 (.slice (some ⟨g, 0, none⟩) 512 p) rfl rfl (by kernel_rfl) (by kernel_rfl) (by kernel_rfl) (fun _ _ _ h => h) (Or.inl ⟨by rfl, ?_⟩) hHeld ?_
      · intro w hSw; go_simp
      simp only [List.setIfInBounds_toArray, List.set_cons_zero, List.set_cons_succ]
      refine take_at 11 89 (.string (str (full X))) rfl rfl (by kernel_rfl) (by kernel_rfl) (by kernel_rfl) (fun _ _ _ h => h) (Or.inl ⟨by rfl, ?_⟩) hHeld ?_
      · intro w hSw; go_simp
      simp only [List.setIfInBounds_toArray, List.set_cons_zero, List.set_cons_succ]
      refine take_at 12 90 (.int .u8 (X.toNat : Int)) rfl rfl (by kernel_rfl) (by kernel_rfl) (by kernel_rfl) (fun _ _ _ h => h) (Or.inl ⟨by rfl, ?_⟩) hHeld ?_
      · intro w hSw; go_simp
      simp only [List.setIfInBounds_toArray, List.set_cons_zero, List.set_cons_succ]
      refine wpAnyH_ready (rs := [13]) (by kernel_rfl) (by simp) ?_
      refine AllReadyH.cons rfl (fun K hK => ?_) AllReadyH.nil
      go_simp
      refine (sector_c X _).mono ?_
      rintro e w10 ⟨g10, p10, rfl, hd, hc⟩
      have q10 := conv_data hd
      have q11 := conv_data (Data.keep (w := w9.drew) D9.out hc (fun _ _ e => e))
      have C10 := Lib.hid hc
      clear hd hc
      refine hK.out _ _ q11 (fun hHeld => ?_)
      clear hK K
      try simp only [List.setIfInBounds_toArray, List.set_cons_zero, List.set_cons_succ]
      refine wpAnyH_ready (rs := [14]) (by kernel_rfl) (by simp) ?_
      refine AllReadyH.cons rfl (fun K hK => ?_) AllReadyH.nil
      go_simp
      refine hK.out _ _ q11 (fun hHeld => ?_)
      clear hK K
      try simp only [List.setIfInBounds_toArray, List.set_cons_zero, List.set_cons_succ]
      refine wpAnyH_ready (rs := [15]) (by kernel_rfl) (by simp) ?_
      refine AllReadyH.cons rfl (fun K hK => ?_) AllReadyH.nil
      go_simp
      refine hK.out _ _ q11 (fun hHeld => ?_)
      clear hK K
      try simp only [List.setIfInBounds_toArray, List.set_cons_zero, List.set_cons_succ]
      refine wpAnyH_ready (rs := [16]) (by kernel_rfl) (by simp) ?_
      refine AllReadyH.cons rfl (fun K hK => ?_) AllReadyH.nil
      go_simp
      refine hK.out _ _ q11 (fun hHeld => ?_)
      clear hK K
      try simp only [List.setIfInBounds_toArray, List.set_cons_zero, List.set_cons_succ]
      refine wpAnyH_ready (rs := [17]) (by kernel_rfl) (by simp) ?_
      refine AllReadyH.cons rfl (fun K hK => ?_) AllReadyH.nil
      go_simp
      refine hK.out _ _ q11 (fun hHeld => ?_)
      clear hK K
      try simp only [List.setIfInBounds_toArray, List.set_cons_zero, List.set_cons_succ]
      refine wpAnyH_done (by kernel_rfl) (NoPanic.normal ?_) _
      go_wp2_with fail
      go_ret
      exact ⟨rfl, C1.out.trans (s9.out.calm.drew.trans C10.out)⟩
theorem diskOrder_u (v0 v1 : Value) (fs : List UInt8) (ks : List Bool) (was : Int) (w : World) (hw : (Lit.int .u8 was).wf = true) (h0 : Bytes w (fun _ => True) v0 fs) (h1 : Bools w (fun _ => True) v1 ks) (c0 : Fits v0) (c1 : Fits v1) :
    Calls Try.prog 7 #[v0, v1, .int .u8 was] w fun e w' => e = .returned (.bool true) ∧ Calm w w' := by
  have := diskOrder_c v0 v1 fs ks (UInt8.ofNat was.toNat) w h0 h1 c0 c1
  rw [u8_back was hw] at this
  exact this
end Go.Proofs.Ytekghiheblkggaa
