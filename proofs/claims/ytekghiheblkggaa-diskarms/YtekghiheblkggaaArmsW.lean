/-
  DiskArms: the walk.
-/
import Derived.Test.YtekghiheblkggaaLaw1c
import Derived.Deep.DeepCutAuto
import Derived.Deep.CutBlock
namespace Go.Proofs.Ytekghiheblkggaa
open Go.RowKit
set_option linter.all false

/-- A disk of two sectors behind j operations, with a crash armed behind N of them. -/
structure Armed (N j : Nat) (S : DS) : Prop where
  secs : S.secs.length = 2
  wait : S.wait.length ≤ j
  up : j ≤ N → S.down = false ∧ S.arm = some (N - j, []) ∧ S.ops = j
  off : N < j → S.down = true ∧ S.arm = none ∧ S.ops = N
theorem Armed.go {N j : Nat} {S : DS} (h : Armed N j S) (hj : j < N) : ∃ S1, S.op = (true, S1) ∧ S1.secs.length = 2 ∧ S1.wait.length ≤ j ∧ S1.down = false ∧ S1.arm = some (N - (j + 1), []) ∧ S1.ops = j + 1 := by
  obtain ⟨h1, h2, h3⟩ := h.up (by omega)
  obtain ⟨secs, wait, arm, down, ops⟩ := S
  simp only at h1 h2 h3
  subst h1; subst h2; subst h3
  have e : N - ops = (N - (ops + 1)) + 1 := by omega
  refine ⟨⟨secs, wait, some (N - (ops + 1), []), false, ops + 1⟩, ?_, h.secs, h.wait, rfl, rfl, rfl⟩
  simp only [DS.op]
  rw [e]
  rfl
theorem Armed.stop {N j : Nat} {S : DS} (h : Armed N j S) (hj : ¬ j < N) : ∃ S1, S.op = (false, S1) ∧ Armed N (j + 1) S1 := by
  by_cases e : j = N
  · obtain ⟨h1, h2, h3⟩ := h.up (by omega)
    refine ⟨S.crash [], ?_, ?_⟩
    · simp only [DS.op, h1, h2, e, Nat.sub_self]
      rfl
    · exact ⟨by simp [DS.crash, putTo_len, h.secs], by simp [DS.crash], fun e => by omega, fun _ => ⟨rfl, rfl, by simp [DS.crash, h3, e]⟩⟩
  · obtain ⟨h1, h2, h3⟩ := h.off (by omega)
    refine ⟨S, by simp [DS.op, h1], ⟨h.secs, by have := h.wait; omega, fun e => by omega, fun _ => ⟨h1, h2, h3⟩⟩⟩
theorem Armed.bounds {N j : Nat} {S : DS} (h : Armed N j S) (hj : j ≤ 80) (hN : N ≤ 60) : S.wait.length ≤ 1000000 ∧ S.ops ≤ 1000000000 := by
  have := h.wait
  refine ⟨by omega, ?_⟩
  by_cases e : j ≤ N
  · have := (h.up e).2.2; omega
  · have := (h.off (by omega)).2.2; omega
theorem Armed.down_eq {N j : Nat} {S : DS} (h : Armed N (j + 1) S) (hj : ¬ j < N) : S.down = true ∧ S.ops = N := ⟨(h.off (by omega)).1, (h.off (by omega)).2.2⟩

set_option maxRecDepth 100000 in
set_option maxHeartbeats 6400000 in
theorem diskArms_c (a0 : Int) (v1 : Value) (zs : List Int) (w : World) (h1 : Nums .i64 w v1 zs) (c1 : Fits v1) :
    Calls Try.prog 5 #[.int .i64 a0, v1] w fun e w' => e = .returned (.bool true) ∧ Calm w w' := by
  obtain ⟨A1, p1, rfl⟩ := h1.form
  have m1 := Nat.le_trans (c1 _ _ _ rfl).1 (c1 _ _ _ rfl).2
  obtain ⟨n, hn, en⟩ := mask_nat a0 16 65535 (by omega) (by decide)
  obtain ⟨N, hN⟩ : ∃ N : Nat, N = n % 61 := ⟨_, rfl⟩
  have eN : (n : Int) % 61 = (N : Int) := by omega
  have N1 : N ≤ 60 := by omega
  have H1 := Lib.hid h1
  unfold maxLen at m1
  clear h1 c1 hN
  go_enter Try.func5, Try.ntmps5
  go_wp2_with fail
  refine (shown_c w).mono ?_
  rintro e w1 ⟨rfl, hc⟩
  have C1 := Lib.hid hc
  clear hc
  go_wp2_with fail
  refine (new_ok w1 2 (by omega) (by omega)).mono ?_
  rintro e w2 ⟨d, rfl, hd, hc⟩
  have s2 := Lib.hid (St.made hd hc)
  clear hd hc en
  generalize Grow (fun _ => False) w1 w2 = R2 at s2
  go_wp2_with fail
  clear eN
  refine (st_arm s2.out (N : Int) (by omega) (by simp [big]; omega) (.slice none 0 0) [] (Bools.none_ _ _) (by simp)).mono ?_
  rintro e w3 ⟨rfl, h, k⟩
  have s3 := Lib.hid h
  clear h k s2
  generalize Grow R2 w2 w3 = R3 at s3
  go_upto_block 0 with fail
  go_cut [] (fun wc => ∃ (j : Nat) (R : Nat → Prop) (S : DS), j ≤ 80 ∧ St w1 wc R d S ∧ Armed N j S)
  case first =>
    go_wp2_with fail
    go_loopw [8] (fun i wr => ∃ (j : Nat) (R : Nat → Prop) (S : DS), j ≤ 80 ∧ j ≤ zs.length ∧ i = .int .i64 j ∧ St w1 wr R d S ∧ Armed N j S) (fun i _ => 80 - (intOf i).toNat)
    case atStart => exact ⟨0, R3, _, by omega, by omega, rfl, s3.out, ⟨by simp, by simp, fun _ => ⟨rfl, by simp, rfl⟩, fun e => by omega⟩⟩
    case round =>
      obtain ⟨j, R, S, hj, hjl, rfl, hst, hA⟩ := hrel
      have Hs := Lib.hid hst
      have HA := Lib.hid hA
      obtain ⟨b1, b2⟩ := hA.bounds hj N1
      have hse := hA.secs
      clear hst hA s3
      by_cases hlt : j < zs.length ∧ j < 80
      · obtain ⟨i1, i2⟩ := hlt
        obtain ⟨ad, rfl, cf⟩ := H1.out.at_ (C1.out.trans Hs.out.calm) j i1
        obtain ⟨r, hr, er⟩ := mask_nat zs[j] 2 3 (by omega) (by decide)
        have hr4 : r < 4 := hr
        clear hr
        by_cases hjN : j < N
        · obtain ⟨S1, o1, o2, o3, o4, o5, o6⟩ := HA.out.go hjN
          have mn : min ((j : Int) + 1) (N : Int) = (j : Int) + 1 := by omega
          have dj : ¬ (N : Int) ≤ (j : Int) := by omega
          rcases (show r = 0 ∨ r = 1 ∨ (2 ≤ r ∧ r ≤ 3) from by omega) with rfl | rfl | hr2
          · go_wp2_with fail
            refine (st_read Hs.out b1 b2 o1 0 (by omega)).mono ?_
            rintro e w5 ⟨g5, q5, rfl, _, h, k⟩
            have s5 := Lib.hid h
            clear h k Hs
            have hdn : (S1).down = false := o4
            have hop : (S1).ops = j + 1 := o6
            go_wp2_with fail
            refine (isdown_c s5.out.disk).mono ?_
            rintro e w9 ⟨rfl, rfl⟩
            rw [hdn]
            go_wp2_with fail
            refine (isops_c s5.out.disk).mono ?_
            rintro e w9 ⟨rfl, rfl⟩
            rw [hop]
            go_wp2_with fail
            go_roundw
            case rel => exact ⟨j + 1, R, _, by omega, by omega, by go_num, s5.out, Armed.mk o2 (by omega) (fun _ => ⟨o4, o5, o6⟩) (fun e => by omega)⟩
            case measure => simp [intOf]; omega
          · obtain ⟨c, hc⟩ : ∃ c : UInt8, IntKind.u8.wrap (j : Int) = (c.toNat : Int) := ⟨UInt8.ofNat j, by rw [IntWalk.u8_in _ (by omega), UInt8.toNat_ofNat']; omega⟩
            go_wp2_with fail
            try rw [hc]
            refine (sector_c c _).mono ?_
            rintro e w4 ⟨g4, q4, rfl, hd, hcc⟩
            have s4 := Lib.hid (Hs.out.rest hcc)
            have D4 := Lib.hid hd
            have Q4 := Lib.hid (fun k (hk : k = g4 ∧ wr.heap.size ≤ k) => Hs.out.fresh hk.2)
            clear hd hcc Hs hc
            go_wp2_with fail
            refine (st_write s4.out b1 b2 o1 1 (by omega) g4 q4 (full c) D4.out Q4.out).mono ?_
            rintro e w5 ⟨rfl, h, k⟩
            have s5 := Lib.hid h
            clear h k s4 D4 Q4
            have hdn : (({ S1 with wait := S1.wait ++ [(1, full c)] } : DS)).down = false := o4
            have hop : (({ S1 with wait := S1.wait ++ [(1, full c)] } : DS)).ops = j + 1 := o6
            go_wp2_with fail
            refine (isdown_c s5.out.disk).mono ?_
            rintro e w9 ⟨rfl, rfl⟩
            rw [hdn]
            go_wp2_with fail
            refine (isops_c s5.out.disk).mono ?_
            rintro e w9 ⟨rfl, rfl⟩
            rw [hop]
            go_wp2_with fail
            go_roundw
            case rel => exact ⟨j + 1, _, _, by omega, by omega, by go_num, s5.out, Armed.mk o2 (by simp; omega) (fun _ => ⟨o4, o5, o6⟩) (fun e => by omega)⟩
            case measure => simp [intOf]; omega
          · have r0 : ((r : Int) == 0) = false := beq_eq_false_iff_ne.2 (by omega)
            have r1 : ((r : Int) == 1) = false := beq_eq_false_iff_ne.2 (by omega)
            go_wp2_with fail
            refine (st_barrier Hs.out b1 b2 o1).mono ?_
            rintro e w5 ⟨rfl, h, k⟩
            have s5 := Lib.hid h
            clear h k Hs
            have hdn : (S1.settled).down = false := o4
            have hop : (S1.settled).ops = j + 1 := o6
            go_wp2_with fail
            refine (isdown_c s5.out.disk).mono ?_
            rintro e w9 ⟨rfl, rfl⟩
            rw [hdn]
            go_wp2_with fail
            refine (isops_c s5.out.disk).mono ?_
            rintro e w9 ⟨rfl, rfl⟩
            rw [hop]
            go_wp2_with fail
            go_roundw
            case rel => exact ⟨j + 1, R, _, by omega, by omega, by go_num, s5.out, Armed.mk (by simp [DS.settled, putTo_len, o2]) (by simp [DS.settled]) (fun _ => ⟨o4, o5, o6⟩) (fun e => by omega)⟩
            case measure => simp [intOf]; omega
        · obtain ⟨S1, o1, ha1⟩ := HA.out.stop hjN
          have dj : (N : Int) ≤ (j : Int) := by omega
          rcases (show r = 0 ∨ r = 1 ∨ (2 ≤ r ∧ r ≤ 3) from by omega) with rfl | rfl | hr2
          · go_wp2_with fail
            refine (st_read_no Hs.out b1 b2 o1 0 (by omega)).mono ?_
            rintro e w5 ⟨rfl, h, k⟩
            have s5 := Lib.hid h
            clear h k Hs
            obtain ⟨hdn, hop⟩ := ha1.down_eq hjN
            go_wp2_with fail
            refine (isdown_c s5.out.disk).mono ?_
            rintro e w9 ⟨rfl, rfl⟩
            rw [hdn]
            go_wp2_with fail
            refine (isops_c s5.out.disk).mono ?_
            rintro e w9 ⟨rfl, rfl⟩
            rw [hop]
            go_wp2_with fail
            go_roundw
            case rel => exact ⟨j + 1, R, _, by omega, by omega, by go_num, s5.out, ha1⟩
            case measure => simp [intOf]; omega
          · obtain ⟨c, hc⟩ : ∃ c : UInt8, IntKind.u8.wrap (j : Int) = (c.toNat : Int) := ⟨UInt8.ofNat j, by rw [IntWalk.u8_in _ (by omega), UInt8.toNat_ofNat']; omega⟩
            go_wp2_with fail
            try rw [hc]
            refine (sector_c c _).mono ?_
            rintro e w4 ⟨g4, q4, rfl, hd, hcc⟩
            have s4 := Lib.hid (Hs.out.rest hcc)
            have D4 := Lib.hid hd
            have Q4 := Lib.hid (fun k (hk : k = g4 ∧ wr.heap.size ≤ k) => Hs.out.fresh hk.2)
            clear hd hcc Hs hc
            go_wp2_with fail
            refine (st_write_no s4.out b1 b2 o1 1 (by omega) _ q4).mono ?_
            rintro e w5 ⟨rfl, h, k⟩
            have s5 := Lib.hid h
            clear h k s4 D4 Q4
            obtain ⟨hdn, hop⟩ := ha1.down_eq hjN
            go_wp2_with fail
            refine (isdown_c s5.out.disk).mono ?_
            rintro e w9 ⟨rfl, rfl⟩
            rw [hdn]
            go_wp2_with fail
            refine (isops_c s5.out.disk).mono ?_
            rintro e w9 ⟨rfl, rfl⟩
            rw [hop]
            go_wp2_with fail
            go_roundw
            case rel => exact ⟨j + 1, R, _, by omega, by omega, by go_num, s5.out, ha1⟩
            case measure => simp [intOf]; omega
          · have r0 : ((r : Int) == 0) = false := beq_eq_false_iff_ne.2 (by omega)
            have r1 : ((r : Int) == 1) = false := beq_eq_false_iff_ne.2 (by omega)
            go_wp2_with fail
            refine (st_barrier_no Hs.out b1 b2 o1).mono ?_
            rintro e w5 ⟨rfl, h, k⟩
            have s5 := Lib.hid h
            clear h k Hs
            obtain ⟨hdn, hop⟩ := ha1.down_eq hjN
            go_wp2_with fail
            refine (isdown_c s5.out.disk).mono ?_
            rintro e w9 ⟨rfl, rfl⟩
            rw [hdn]
            go_wp2_with fail
            refine (isops_c s5.out.disk).mono ?_
            rintro e w9 ⟨rfl, rfl⟩
            rw [hop]
            go_wp2_with fail
            go_roundw
            case rel => exact ⟨j + 1, R, _, by omega, by omega, by go_num, s5.out, ha1⟩
            case measure => simp [intOf]; omega
      · by_cases i1 : j < zs.length
        · have i2 : ¬ j < 80 := fun e => hlt ⟨i1, e⟩
          clear hlt
          go_wp2_with fail
          go_meet
          case rel => exact ⟨j, R, S, hj, Hs.out, HA.out⟩
        · clear hlt
          go_wp2_with fail
          go_meet
          case rel => exact ⟨j, R, S, hj, Hs.out, HA.out⟩
  case rest =>
    obtain ⟨j, R, S, hj, hst, hA⟩ := hcut
    have Hs := Lib.hid hst
    clear hst s3
    by_cases hjN : j ≤ N
    · obtain ⟨u1, u2, u3⟩ := hA.up hjN
      clear u2 u3
      go_wp2_with fail
      refine (isdown_c Hs.out.disk).mono ?_
      rintro e w9 ⟨rfl, rfl⟩
      rw [u1]
      go_wp2_with fail
      refine (start_c Hs.out.disk).mono ?_
      rintro e w10 ⟨rfl, h, k⟩
      rw [u1]
      have K := Lib.hid k
      clear h k
      go_wp2_with fail
      go_ret
      exact ⟨rfl, C1.out.trans (Hs.out.on K.out)⟩
    · obtain ⟨u1, u2, u3⟩ := hA.off (by omega)
      obtain ⟨secs, wait, arm, down, ops⟩ := S
      simp only at u1 u2 u3
      subst u1; subst u2; subst u3
      obtain ⟨b1, b2⟩ := hA.bounds hj N1
      go_wp2_with fail
      refine (isdown_c Hs.out.disk).mono ?_
      rintro e w9 ⟨rfl, rfl⟩
      go_wp2_with fail
      refine (st_up Hs.out).mono ?_
      rintro e w10 ⟨rfl, h, k⟩
      have s10 := Lib.hid h
      clear h k
      go_wp2_with fail
      refine (st_barrier s10.out b1 b2 rfl).mono ?_
      rintro e w11 ⟨rfl, h, k⟩
      have s11 := Lib.hid h
      clear h k
      go_wp2_with fail
      refine (st_not s11.out).mono ?_
      rintro e w12 ⟨rfl, h, k⟩
      have s12 := Lib.hid h
      clear h k
      go_wp2_with fail
      go_ret
      exact ⟨rfl, C1.out.trans s12.out.calm⟩
end Go.Proofs.Ytekghiheblkggaa
