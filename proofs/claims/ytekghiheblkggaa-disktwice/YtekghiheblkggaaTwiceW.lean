/-
  DiskTwice: the walk.
-/
import Derived.Test.YtekghiheblkggaaLaw1b
import Derived.Test.YtekghiheblkggaaFrames
import Derived.Deep.DeepCutAuto
import Derived.Deep.CutBlock
namespace Go.Proofs.Ytekghiheblkggaa
open Go.RowKit
set_option linter.all false

set_option maxRecDepth 100000 in
set_option maxHeartbeats 6400000 in
theorem diskTwice_c (v0 v1 v2 : Value) (fs : List UInt8) (k1 k2 : List Bool) (a3 : Int) (w : World) (h0 : Bytes w (fun _ => True) v0 fs) (h1 : Bools w (fun _ => True) v1 k1) (h2 : Bools w (fun _ => True) v2 k2) (c0 : Fits v0) (c1 : Fits v1) (c2 : Fits v2) :
    Calls Try.prog 8 #[v0, v1, v2, .int .i64 a3] w fun e w' => e = .returned (.bool true) ∧ Calm w w' := by
  obtain ⟨A0, p0, rfl⟩ := h0.form
  obtain ⟨A1, p1, rfl⟩ := h1.form
  obtain ⟨A2, p2, rfl⟩ := h2.form
  have m0 := Nat.le_trans (c0 _ _ _ rfl).1 (c0 _ _ _ rfl).2
  have m1 := Nat.le_trans (c1 _ _ _ rfl).1 (c1 _ _ _ rfl).2
  have m2 := Nat.le_trans (c2 _ _ _ rfl).1 (c2 _ _ _ rfl).2
  have l1 := (c1 _ _ _ rfl).1
  have l2 := (c2 _ _ _ rfl).1
  obtain ⟨n, hn, en⟩ := mask_nat a3 6 63 (by omega) (by decide)
  have H0 := Lib.hid h0
  have H1 := Lib.hid h1
  have H2 := Lib.hid h2
  unfold maxLen at m0 m1 m2
  clear h0 h1 h2 c0 c1 c2
  go_enter Try.func8, Try.ntmps8
  go_wp2_with fail
  refine (shown_c w).mono ?_
  rintro e w1 ⟨rfl, hc⟩
  have C1 := Lib.hid hc
  clear hc
  go_wp2_with fail
  refine (new_ok w1 2 (by omega) (by omega)).mono ?_
  rintro e w2 ⟨d, rfl, hd, hc⟩
  have s2 := Lib.hid (St.made hd hc)
  clear hd hc
  generalize Grow (fun _ => False) w1 w2 = R2 at s2
  go_upto_block 0 with fail
  go_cut [] (fun wc => ∃ (j : Nat) (R : Nat → Prop) (ws : List (Nat × List UInt8)), j ≤ 20 ∧ ws.length = j ∧ St w1 wc R d ⟨List.replicate 2 (full 0), ws, none, false, j⟩)
  case first =>
    go_wp2_with fail
    go_loopw [12] (fun i wr => ∃ (j : Nat) (R : Nat → Prop) (ws : List (Nat × List UInt8)), j ≤ 20 ∧ j ≤ fs.length ∧ i = .int .i64 j ∧ ws.length = j ∧ St w1 wr R d ⟨List.replicate 2 (full 0), ws, none, false, j⟩) (fun i _ => 20 - (intOf i).toNat)
    case atStart => exact ⟨0, R2, [], by omega, by omega, rfl, rfl, s2.out⟩
    case round =>
      obtain ⟨j, R, ws, hj, hjl, rfl, hwl, hst⟩ := hrel
      have Hw := Lib.hid hwl
      have Hs := Lib.hid hst
      clear hwl hst s2
      by_cases hlt : j < fs.length ∧ j < 20
      · obtain ⟨i1, i2⟩ := hlt
        obtain ⟨ad, rfl, cf⟩ := H0.out.at_ (C1.out.trans Hs.out.calm) j i1
        obtain ⟨b, hb, eb⟩ := mask_nat j 1 1 (by omega) (by decide)
        go_wp2_with fail
        refine (sector_c fs[j] wr).mono ?_
        rintro e w3 ⟨g3, q3, rfl, hd, hc⟩
        have s3 := Lib.hid (Hs.out.rest hc)
        have D3 := Lib.hid hd
        have Q3 := Lib.hid (fun k (hk : k = g3 ∧ wr.heap.size ≤ k) => Hs.out.fresh hk.2)
        clear hd hc eb en
        go_wp2_with fail
        refine (st_write s3.out (by rw [Hw.out]; omega) (by simp; omega) rfl b (by simp; omega) g3 q3 (full fs[j]) D3.out Q3.out).mono ?_
        rintro e w4 ⟨rfl, h, k⟩
        have s4 := Lib.hid h
        clear h k
        go_wp2_with fail
        go_roundw
        case rel => exact ⟨j + 1, _, ws ++ [(b, full fs[j])], by omega, by omega, by go_num, by simp [Hw.out], s4.out⟩
        case measure => simp [intOf]; omega
      · have hlt' : ¬ (j < fs.length) ∨ ¬ (j < 20) := by omega
        clear hlt
        rcases hlt' with i1 | i1
        · go_wp2_with fail
          go_meet
          case rel => exact ⟨j, R, ws, hj, Hw.out, Hs.out⟩
        · by_cases i2 : j < fs.length
          · go_wp2_with fail
            go_meet
            case rel => exact ⟨j, R, ws, hj, Hw.out, Hs.out⟩
          · go_wp2_with fail
            go_meet
            case rel => exact ⟨j, R, ws, hj, Hw.out, Hs.out⟩
  case rest =>
    obtain ⟨j, R, ws, hj, hwl, hst⟩ := hcut
    have Hw := Lib.hid hwl
    have Hs := Lib.hid hst
    clear hwl hst s2
    go_wp2_with fail
    refine (st_arm Hs.out ((n : Int) + 1) (by omega) (by simp [big]; omega) (.slice none 0 0) [] (Bools.none_ _ _) (by simp)).mono ?_
    rintro e w3 ⟨rfl, h, k⟩
    have s3 := Lib.hid h
    clear h k Hs en
    generalize Grow R _ w3 = R3 at s3
    go_upto_region 10 with fail
    go_cut [] (fun wc => ∃ secs, St w1 wc R3 d ⟨secs, [], none, true, j⟩ ∧ secs.length = 2)
    case first =>
      have B := Lib.hid ((H1.out.cut 60).calm (C1.out.trans s3.out.calm) (R := R3) (fun k hk e => absurd (s3.out.new k e) (by have := C1.out.size; omega)))
      by_cases h60 : k1.length ≤ 60
      · rw [Nat.min_eq_left h60] at B
        go_wp2_with fail
        refine (st_crash s3.out (by rw [Hw.out]; omega) _ _ B.out (by simp [maxLen]; omega)).mono ?_
        rintro e w4 ⟨rfl, h, k⟩
        have s4 := Lib.hid h
        clear h k
        go_wp2_with fail
        go_meet
        case rel => exact ⟨_, s4.out, by simp [putTo_len]⟩
      · rw [Nat.min_eq_right (by omega)] at B
        go_wp2_with fail
        refine (st_crash s3.out (by rw [Hw.out]; omega) _ _ B.out (by simp [maxLen]; omega)).mono ?_
        rintro e w4 ⟨rfl, h, k⟩
        have s4 := Lib.hid h
        clear h k
        go_wp2_with fail
        go_meet
        case rel => exact ⟨_, s4.out, by simp [putTo_len]⟩
    case rest =>
      obtain ⟨secs, hst, hsl⟩ := hcut
      have Hl := Lib.hid hsl
      have s4 := Lib.hid hst
      clear hst hsl s3
      go_wp2_with fail
      refine (st_up s4.out).mono ?_
      rintro e w5 ⟨rfl, h, k⟩
      have s5 := Lib.hid h
      clear h k s4
      go_wp2_with fail
      refine (st_read s5.out (by simp) (by simp; omega) rfl 0 (by simp [Hl.out])).mono ?_
      rintro e w6 ⟨ga, pa, rfl, hd, h, k⟩
      have s6 := Lib.hid h
      have Qa := Lib.hid (fun k (hk : k = ga ∧ w5.heap.size ≤ k) => s5.out.fresh hk.2)
      have Da6 := Lib.hid hd
      clear hd h k s5
      go_wp2_with fail
      refine (st_read s6.out (by simp) (by simp; omega) rfl 1 (by simp [Hl.out])).mono ?_
      rintro e w7 ⟨gb, pb, rfl, hd, h, k⟩
      have s7 := Lib.hid h
      have Qb := Lib.hid (fun k (hk : k = gb ∧ w6.heap.size ≤ k) => s6.out.fresh hk.2)
      have Db7 := Lib.hid hd
      have Da7 := Lib.hid (Da6.out.keep k Qa.out)
      clear hd h k s6 Da6
      go_upto_region 14 with fail
      go_cut [] (fun wc => St w1 wc R3 d ⟨secs, [], none, true, j + 1 + 1⟩ ∧ Keep R3 w7 wc)
      case first =>
        have B := Lib.hid ((H2.out.cut 60).calm (C1.out.trans s7.out.calm) (R := R3) (fun k hk e => absurd (s7.out.new k e) (by have := C1.out.size; omega)))
        by_cases h60 : k2.length ≤ 60
        · rw [Nat.min_eq_left h60] at B
          go_wp2_with fail
          refine (st_crash s7.out (by simp) _ _ B.out (by simp [maxLen]; omega)).mono ?_
          rintro e w8 ⟨rfl, h, k⟩
          have s8 := Lib.hid h
          have K8 := Lib.hid k
          clear h k
          go_wp2_with fail
          go_meet
          case rel => exact ⟨s8.out, K8.out⟩
        · rw [Nat.min_eq_right (by omega)] at B
          go_wp2_with fail
          refine (st_crash s7.out (by simp) _ _ B.out (by simp [maxLen]; omega)).mono ?_
          rintro e w8 ⟨rfl, h, k⟩
          have s8 := Lib.hid h
          have K8 := Lib.hid k
          clear h k
          go_wp2_with fail
          go_meet
          case rel => exact ⟨s8.out, K8.out⟩
      case rest =>
        obtain ⟨w8, rfl⟩ : ∃ x : World, x = wc := ⟨_, rfl⟩
        obtain ⟨h, k⟩ := hcut
        have s8 := Lib.hid h
        have Da8 := Lib.hid (Da7.out.keep k Qa.out)
        have Db8 := Lib.hid (Db7.out.keep k Qb.out)
        clear h k s7 Da7 Db7
        go_upto_region 15 with fail
        go_cut [] (fun wc => St w1 wc R3 d ⟨secs, [], none, true, j + 1 + 1⟩ ∧ Keep R3 w8 wc)
        case first =>
          have B := Lib.hid ((H2.out.cut 60).calm (C1.out.trans s8.out.calm) (R := R3) (fun k hk e => absurd (s8.out.new k e) (by have := C1.out.size; omega)))
          by_cases h60 : k2.length ≤ 60
          · rw [Nat.min_eq_left h60] at B
            go_wp2_with fail
            refine (st_crash s8.out (by simp) _ _ B.out (by simp [maxLen]; omega)).mono ?_
            rintro e w9 ⟨rfl, h, k⟩
            have s9 := Lib.hid h
            have K9 := Lib.hid k
            clear h k
            go_wp2_with fail
            go_meet
            case rel => exact ⟨s9.out, K9.out⟩
          · rw [Nat.min_eq_right (by omega)] at B
            go_wp2_with fail
            refine (st_crash s8.out (by simp) _ _ B.out (by simp [maxLen]; omega)).mono ?_
            rintro e w9 ⟨rfl, h, k⟩
            have s9 := Lib.hid h
            have K9 := Lib.hid k
            clear h k
            go_wp2_with fail
            go_meet
            case rel => exact ⟨s9.out, K9.out⟩
        case rest =>
          obtain ⟨w9, rfl⟩ : ∃ x : World, x = wc := ⟨_, rfl⟩
          obtain ⟨h, k⟩ := hcut
          have s9 := Lib.hid h
          have Da9 := Lib.hid (Da8.out.keep k Qa.out)
          have Db9 := Lib.hid (Db8.out.keep k Qb.out)
          clear h k s8 Da8 Db8
          go_wp2_with fail
          refine (st_up s9.out).mono ?_
          rintro e w10 ⟨rfl, h, k⟩
          have s10 := Lib.hid h
          have Da10 := Lib.hid (Da9.out.keep k Qa.out)
          have Db10 := Lib.hid (Db9.out.keep k Qb.out)
          clear h k s9 Da9 Db9
          go_wp2_with fail
          go_loopw [18] (fun i wr => ∃ t : Nat, t ≤ 70 ∧ i = .int .i64 t ∧ St w1 wr R3 d ⟨secs, [], none, false, j + 1 + 1 + t⟩ ∧ Keep R3 w10 wr) (fun i _ => 70 - (intOf i).toNat)
          case atStart => exact ⟨0, by omega, rfl, s10.out, Keep.refl _ _⟩
          case round =>
            obtain ⟨t, ht, rfl, h, k⟩ := hrel
            have s11 := Lib.hid h
            have K11 := Lib.hid k
            clear h k s10
            by_cases hlt : t < 70
            · go_wp2_with fail
              refine (st_barrier s11.out (by simp) (by simp; omega) rfl).mono ?_
              rintro e w12 ⟨rfl, h, k⟩
              have s12 := Lib.hid h
              have K12 := Lib.hid k
              clear h k
              go_wp2_with fail
              go_roundw
              case rel => exact ⟨t + 1, by omega, by go_num, s12.out, K11.out.trans K12.out⟩
              case measure => simp [intOf]; omega
            · go_wp2_with fail
              refine (st_read s11.out (by simp) (by simp; omega) rfl 0 (by simp [Hl.out])).mono ?_
              rintro e w12 ⟨gx, px, rfl, hd, h, k⟩
              have s12 := Lib.hid h
              have Qx := Lib.hid (fun k (hk : k = gx ∧ wr.heap.size ≤ k) => s11.out.fresh hk.2)
              have Dx12 := Lib.hid hd
              have Da12 := Lib.hid ((Da10.out.keep K11.out Qa.out).keep k Qa.out)
              have Db12 := Lib.hid ((Db10.out.keep K11.out Qb.out).keep k Qb.out)
              clear hd h k s11 Da10 Db10
              go_wp2_with fail
              refine (st_read s12.out (by simp) (by simp; omega) rfl 1 (by simp [Hl.out])).mono ?_
              rintro e w13 ⟨gy, py, rfl, hd, h, k⟩
              have s13 := Lib.hid h
              have q1 := conv_data (Dx12.out.keep k Qx.out)
              have q2 := conv_data (Da12.out.keep k Qa.out)
              have q3 := conv_data hd
              have q4 := conv_data (Db12.out.keep k Qb.out)
              clear hd h k s12 Da12 Db12
              simp only [DS.now, nowOf, List.foldl_nil] at q1 q2 q3 q4
              go_wp2_with fail
              go_ret
              exact ⟨rfl, C1.out.trans s13.out.calm⟩
end Go.Proofs.Ytekghiheblkggaa
