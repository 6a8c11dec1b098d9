/-
  StoreCrash, walked.
-/
import Derived.Test.YtfigiofiakkbdaaDoorS21
import Derived.Deep.DeepCutAuto
import Derived.Deep.CutBlock
import Derived.BigQuiet
namespace Go.Proofs.YtfigiofiakkbdaaDoor
open Go.RowKit
set_option linter.all false

theorem Md.new {P : DS → Prop} {w0 w : World} {R T : Nat → Prop} {d sb n B F : Nat} {cur : List UInt8} (h : Md P w0 w R T d sb n B F cur) : ∀ k, R k → w0.heap.size ≤ k := by
  obtain ⟨S, σ, c, ka, oa, kb, ob, h1, h2⟩ := h
  exact h1.sd.st.new
theorem Rw.less {P : DS → Prop} {w0 w : World} {R : Nat → Prop} {d n B F F' : Nat} {cur : List UInt8} (h : Rw P w0 w R d n B F cur) (hF : F' ≤ F) : Rw P w0 w R d n B F' cur := by
  obtain ⟨S, c, κ, h1, h2, h3, h4, h5, h6, h7⟩ := h
  exact ⟨S, c, κ, h1, h2, h3, h4, h5, h6.mono hF, h7⟩
theorem TryAt4.lt {w : World} {a : Addr} (h : TryAt4 w a) : a.block < w.heap.size := by
  obtain ⟨n, t, A, ks, c, h1, h2⟩ := h
  exact World.block_lt_of_cell? _ _ h1

set_option maxRecDepth 100000 in
set_option maxHeartbeats 16000000 in
theorem scrash_w (w : World) (hT : Tab w) (a0 : Int) (v : Value) (m : Nat) (hv : TrysAt4 w v m) (a2 : Int) :
    Calls Tryd.prog 4 #[.int .i64 a0, v, .int .i64 a2] w fun e w' => e = .returned (.bool true) ∧ Calm w w' := by
  obtain ⟨r0, b0, m0⟩ := mask_nat a0 3 7 (by omega) (by decide)
  obtain ⟨A, cap, rfl, hcap, hmax, hel⟩ := hv
  unfold maxLen at hmax
  have HE := Lib.hid hel
  have HM := Lib.hid (And.intro hcap hmax)
  have SH := Lib.hid (shown4_c w hT)
  have HT := Lib.hid hT
  obtain ⟨n, hn, hn'⟩ : ∃ n : Nat, (6 ≤ n ∧ n ≤ 13) ∧ 6 + (r0 : Int) = (n : Int) := ⟨6 + r0, by omega, by omega⟩
  have HN := Lib.hid hn
  have ni : (n : Int) ≤ 13 := by omega
  clear hel hcap hmax hT b0 hn
  go_enter Tryd.func4, Tryd.ntmps4
  go_wp2_with fail
  refine SH.out.mono ?_
  rintro e w1 ⟨rfl, c1⟩
  have C1 := Lib.hid c1
  have T1 := Lib.hid (HT.out.calm c1)
  have N := Lib.hid (new_up w1 n (by have := HN.out; omega) (by have := HN.out; omega))
  clear c1 SH HT
  go_wp2_with fail
  try rw [hn']
  clear m0 hn'
  refine N.out.mono ?_
  rintro e w2 ⟨R2, d, S2, rfl, h2, u2, s2, e2, o2, c2⟩
  have FM := Lib.hid (su_format T1.out h2 u2 s2 e2 (by omega) (by have := HN.out; omega))
  have O2 := Lib.hid o2
  clear h2 u2 s2 e2 o2 c2 N
  go_wp2_with fail
  refine FM.out.mono ?_
  rintro e w3 ⟨R3, T3, S3, sb, σ3, rfl, x3, k3, t3, h3, o3, l1, l2, kn3⟩
  have I0 : Hid (Md DS.Up w1 w3 R3 T3 d sb n 1 2100 []) := Lib.hid ⟨S3, σ3, _, 1, none, 1, none, h3.sto, h3.up, h3.sh, h3.wait, by unfold DS.fine; rw [h3.wait, o3, O2.out]; simp, h3.cs, by omega, by omega, by rw [count0 kn3]; omega, by rw [kn3]; exact rfl⟩
  have M0 : Hid (My w1 (w3.alloc (.cells #[.string ⟨#[]⟩] 9)) R3 T3 w3.heap.size 1 [[]]) := Lib.hid (My.made w1 w3 [] I0.out.calm.size I0.out.lt.1 I0.out.lt.2)
  have I1 : Hid (Md DS.Up w1 (w3.alloc (.cells #[.string ⟨#[]⟩] 9)) R3 T3 d sb n 1 2100 []) := Lib.hid (I0.out.rest ((Keep.refl _ w3).alloc _))
  clear x3 k3 t3 h3 o3 l1 l2 kn3 FM O2
  go_upto_block 0 with fail
  generalize World.alloc w3 _ = w4 at M0 I1 ⊢
  go_wp2_with fail
  go_loopw [10, 12, 13] (fun v10 v12 v13 wr => ∃ (i sbq mb cp : Nat) (R T : Nat → Prop) (cur : List UInt8), i ≤ 20 ∧ i ≤ m ∧ v10 = .pointer (some ⟨sbq, 0, none⟩) ∧ v12 = .slice (some ⟨mb, 0, none⟩) 1 cp ∧ v13 = .int .i64 (i : Int) ∧ cur.length ≤ 600 ∧ Md DS.Up w1 wr R T d sbq n (1 + 20 * i) (100 * (20 - i) + 100) cur ∧ My w1 wr R T mb cp [cur]) (fun _ _ v13 _ => 20 - (intOf v13).toNat)
  case atStart => exact ⟨0, sb, w3.heap.size, 1, R3, T3, [], by omega, by omega, rfl, rfl, rfl, by simp, I1.out, M0.out⟩
  case round =>
    obtain ⟨i, sbq, mb, cp, R, T, cur, hi20, him, rfl, rfl, rfl, hcl, hmd, hmy⟩ := hrel
    have ii : (i : Int) ≤ 20 := by omega
    clear I0 I1 M0
    by_cases hgo : i < m ∧ i < 20
    rotate_left
    · have HC := Lib.hid hmd.calm
      have hcase : (¬ i < m) ∨ (i < m ∧ ¬ i < 20) := by omega
      clear hmd hmy hgo
      rcases hcase with hge | ⟨hlt, hge⟩
      all_goals
        go_wp2_with fail
        go_ret
        exact ⟨rfl, C1.out.trans HC.out⟩
    obtain ⟨hlt, hlt20⟩ := hgo
    have i0 : (i : Int) < (m : Int) := by omega
    have i1 : (i : Int) < 20 := by omega
    obtain ⟨ad, rfl, htr⟩ := HE.out i hlt
    obtain ⟨nn, t, KA, ks, kc, l0, l1, l2, k1, k2, k3, hbo⟩ := htr.calm (C1.out.trans hmd.calm)
    have HLW := Lib.hid htr.lt
    have HBO := Lib.hid hbo
    have HKC := Lib.hid (And.intro k1 (And.intro k2 k3))
    have HLT := Lib.hid (And.intro (World.block_lt_of_cell? _ _ l0) (And.intro (World.block_lt_of_cell? _ _ l1) (World.block_lt_of_cell? _ _ l2)))
    have HCE : Hid (∀ wx, Calm wr wx → wx.cell? (ad.add (i * 3)) = some (.int .i64 nn) ∧ wx.cell? ⟨(ad.add (i * 3)).block, (ad.add (i * 3)).off + 1, none⟩ = some (.int .i64 t) ∧ wx.cell? ⟨(ad.add (i * 3)).block, (ad.add (i * 3)).off + 2, none⟩ = some (.slice KA ks.length kc)) :=
      Lib.hid (fun wx hc => ⟨(hc.cell HLT.out.1 (fun e => e)).trans l0, (hc.cell (p := ⟨(ad.add (i * 3)).block, (ad.add (i * 3)).off + 1, none⟩) HLT.out.2.1 (fun e => e)).trans l1, (hc.cell (p := ⟨(ad.add (i * 3)).block, (ad.add (i * 3)).off + 2, none⟩) HLT.out.2.2 (fun e => e)).trans l2⟩)
    obtain ⟨r, hr1, hr⟩ := mask_nat nn 16 65535 (by omega) (by decide)
    obtain ⟨q, hq, hq'⟩ : ∃ q : Nat, q ≤ 599 ∧ (r : Int) % 600 = (q : Int) := ⟨r % 600, by omega, by omega⟩
    obtain ⟨cc, hcc⟩ : ∃ cc : UInt8, (cc.toNat : Int) = (i : Int) := ⟨UInt8.ofNat i, by rw [UInt8.toNat_ofNat']; omega⟩
    obtain ⟨c9, hc9⟩ : ∃ c9 : UInt8, (c9.toNat : Int) = 97 + (i : Int) := ⟨UInt8.ofNat (97 + i), by rw [UInt8.toNat_ofNat']; omega⟩
    have TX : Hid (∀ wx, Calls Tryd.prog 14 #[.int .i64 (q : Int), .int .u8 (i : Int)] wx fun e w' => e = .returned (.string (str (List.replicate q cc))) ∧ Calm wx w') := Lib.hid (fun wx => by rw [← hcc]; exact text4_c q cc wx (by omega))
    obtain ⟨X, hX⟩ : ∃ X, X = [c9] ++ List.replicate q cc := ⟨_, rfl⟩
    have HX : Hid (X ≠ [] ∧ X.length ≤ 600) := Lib.hid ⟨by rw [hX]; simp, by rw [hX]; simp; omega⟩
    have HXE := Lib.hid hX
    have MD := Lib.hid hmd
    have MY := Lib.hid hmy
    have HCL := Lib.hid hcl
    clear l0 l1 l2 k1 k2 k3 hbo htr hmd hmy hcl hcc hX
    go_upto_region 13 with fail
    go_cut [14] from 45 to 190 (fun v14 wc => v14 = .string (str X) ∧ Calm wr wc)
    case first =>
      refine wp_region_noPanic ?_
      refine wp_region_held_drew (S := fun wx => Calm wr wx) (by kernel_rfl) (Keep.refl _ wr).drew (fun hHeld => ?_)
      refine take_at 0 55 (.int .i64 (i : Int)) rfl rfl (by kernel_rfl) (by kernel_rfl) (by kernel_rfl) (fun _ _ _ h => h) (Or.inl ⟨by rfl, ?_⟩) hHeld ?_
      · intro w hSw; go_simp
      simp only [List.setIfInBounds_toArray, List.set_cons_zero, List.set_cons_succ]
      refine take_at 1 56 (.int .i64 (97 + (i : Int))) rfl rfl (by kernel_rfl) (by kernel_rfl) (by kernel_rfl) (fun _ _ _ h => h) (Or.inl ⟨by rfl, ?_⟩) hHeld ?_
      · intro w hSw; go_simp; try (rw [IntKind.wrap_i64]; omega)
      simp only [List.setIfInBounds_toArray, List.set_cons_zero, List.set_cons_succ]
      refine take_at 2 57 (.int .u8 (97 + (i : Int))) rfl rfl (by kernel_rfl) (by kernel_rfl) (by kernel_rfl) (fun _ _ _ h => h) (Or.inl ⟨by rfl, ?_⟩) hHeld ?_
      · intro w hSw; go_simp; try (rw [IntKind.wrap_u8]; omega)
      simp only [List.setIfInBounds_toArray, List.set_cons_zero, List.set_cons_succ]
      refine take_at 5 60 (.slice (some ad) m cap) rfl rfl (by kernel_rfl) (by kernel_rfl) (by kernel_rfl) (fun _ _ _ h => h) (Or.inl ⟨by rfl, ?_⟩) hHeld ?_
      · intro w hSw; go_simp
      simp only [List.setIfInBounds_toArray, List.set_cons_zero, List.set_cons_succ]
      refine take_at 6 61 (.int .i64 (i : Int)) rfl rfl (by kernel_rfl) (by kernel_rfl) (by kernel_rfl) (fun _ _ _ h => h) (Or.inl ⟨by rfl, ?_⟩) hHeld ?_
      · intro w hSw; go_simp
      simp only [List.setIfInBounds_toArray, List.set_cons_zero, List.set_cons_succ]
      refine take_at 7 62 (.pointer (some (ad.add (i * 3)))) rfl rfl (by kernel_rfl) (by kernel_rfl) (by kernel_rfl) (fun _ _ _ h => h) (Or.inl ⟨by rfl, ?_⟩) hHeld ?_
      · intro w hSw; go_simp
      simp only [List.setIfInBounds_toArray, List.set_cons_zero, List.set_cons_succ]
      refine take_at 8 63 (.pointer (some (ad.add (i * 3)))) rfl rfl (by kernel_rfl) (by kernel_rfl) (by kernel_rfl) (fun _ _ _ h => h) (Or.inl ⟨by rfl, ?_⟩) hHeld ?_
      · intro w hSw; go_simp
      simp only [List.setIfInBounds_toArray, List.set_cons_zero, List.set_cons_succ]
      refine take_at 9 64 (.int .i64 nn) rfl rfl (by kernel_rfl) (by kernel_rfl) (by kernel_rfl) (fun _ _ _ h => h) (Or.inl ⟨by rfl, ?_⟩) hHeld ?_
      · intro w hSw; have hce := (HCE.out w hSw).1; go_simp
      simp only [List.setIfInBounds_toArray, List.set_cons_zero, List.set_cons_succ]
      refine take_at 10 65 (.int .i64 (r : Int)) rfl rfl (by kernel_rfl) (by kernel_rfl) (by kernel_rfl) (fun _ _ _ h => h) (Or.inl ⟨by rfl, ?_⟩) hHeld ?_
      · intro w hSw; go_simp
      simp only [List.setIfInBounds_toArray, List.set_cons_zero, List.set_cons_succ]
      refine take_at 11 66 (.int .i64 (q : Int)) rfl rfl (by kernel_rfl) (by kernel_rfl) (by kernel_rfl) (fun _ _ _ h => h) (Or.inl ⟨by rfl, ?_⟩) hHeld ?_
      · intro w hSw; go_simp; rw [Int.tmod_eq_emod_of_nonneg (by omega), hq']
      simp only [List.setIfInBounds_toArray, List.set_cons_zero, List.set_cons_succ]
      refine take_at 12 67 (.int .i64 (i : Int)) rfl rfl (by kernel_rfl) (by kernel_rfl) (by kernel_rfl) (fun _ _ _ h => h) (Or.inl ⟨by rfl, ?_⟩) hHeld ?_
      · intro w hSw; go_simp
      simp only [List.setIfInBounds_toArray, List.set_cons_zero, List.set_cons_succ]
      refine take_at 13 68 (.int .u8 (i : Int)) rfl rfl (by kernel_rfl) (by kernel_rfl) (by kernel_rfl) (fun _ _ _ h => h) (Or.inl ⟨by rfl, ?_⟩) hHeld ?_
      · intro w hSw; go_simp; try (rw [IntKind.wrap_u8]; omega)
      simp only [List.setIfInBounds_toArray, List.set_cons_zero, List.set_cons_succ]
      have CA : Hid (Calm wr (World.alloc wr (.cells #[.int .u8 (97 + (i : Int))] 5)).drew) := Lib.hid (((Keep.refl _ _).alloc _).drew)
      have RA := Lib.hid (Rd.made wr [c9] 1 #[.int .u8 (97 + (i : Int))] rfl (by simp [bv, hc9]) (by omega))
      have q9 := conv_rd RA.out.drew
      refine wpAnyH_ready (rs := [3, 14]) (by kernel_rfl) (by simp) ?_
      refine AllReadyH.cons rfl (fun K hK => ?_) ?_
      · go_simp
        refine hK.out _ _ CA.out (fun hHeld => ?_)
        clear hK K
        try simp only [List.setIfInBounds_toArray, List.set_cons_zero, List.set_cons_succ]
        refine wpAnyH_ready (rs := [4, 14]) (by kernel_rfl) (by simp) ?_
        refine AllReadyH.cons rfl (fun K hK => ?_) ?_
        · go_simp
          refine hK.out _ _ CA.out (fun hHeld => ?_)
          clear hK K
          try simp only [List.setIfInBounds_toArray, List.set_cons_zero, List.set_cons_succ]
          refine wpAnyH_ready (rs := [14]) (by kernel_rfl) (by simp) ?_
          refine AllReadyH.cons rfl (fun K hK => ?_) AllReadyH.nil
          go_simp
          refine (TX.out _).mono ?_
          rintro e wB ⟨rfl, cc_wB⟩
          have CwB := Lib.hid (CA.out.trans cc_wB)
          have KwB := Lib.hid cc_wB
          clear cc_wB
          refine hK.out _ _ CwB.out (fun hHeld => ?_)
          clear hK K
          try simp only [List.setIfInBounds_toArray, List.set_cons_zero, List.set_cons_succ]
          refine take_at 15 70 (.string (str (c9 :: List.replicate q cc))) rfl rfl (by kernel_rfl) (by kernel_rfl) (by kernel_rfl) (fun _ _ _ h => h) (Or.inl ⟨by rfl, ?_⟩) hHeld ?_
          · intro w hSw; go_simp; rw [if_neg (by rw [str_size, str_size]; simp; omega), str_app]; rfl
          simp only [List.setIfInBounds_toArray, List.set_cons_zero, List.set_cons_succ]
          refine take_at 16 14 (.string (str (c9 :: List.replicate q cc))) rfl rfl (by kernel_rfl) (by kernel_rfl) (by kernel_rfl) (fun _ _ _ h => h) (Or.inl ⟨by rfl, ?_⟩) hHeld ?_
          · intro w hSw; go_simp
          simp only [List.setIfInBounds_toArray, List.set_cons_zero, List.set_cons_succ]
          refine wpAnyH_done (by kernel_rfl) (NoPanic.normal ?_) _
          go_wp2_with fail
          go_meet
          case rel => exact ⟨by rw [HXE.out]; rfl, CwB.out⟩
        refine AllReadyH.cons rfl (fun K hK => ?_) ?_
        · go_simp
          refine (TX.out _).mono ?_
          rintro e wB ⟨rfl, cc_wB⟩
          have CwB := Lib.hid (CA.out.trans cc_wB)
          have KwB := Lib.hid cc_wB
          clear cc_wB
          have q8 := conv_rd (RA.out.drew.calm KwB.out)
          refine hK.out _ _ CwB.out (fun hHeld => ?_)
          clear hK K
          try simp only [List.setIfInBounds_toArray, List.set_cons_zero, List.set_cons_succ]
          refine wpAnyH_ready (rs := [4]) (by kernel_rfl) (by simp) ?_
          refine AllReadyH.cons rfl (fun K hK => ?_) AllReadyH.nil
          go_simp
          refine hK.out _ _ CwB.out (fun hHeld => ?_)
          clear hK K
          try simp only [List.setIfInBounds_toArray, List.set_cons_zero, List.set_cons_succ]
          refine take_at 15 70 (.string (str (c9 :: List.replicate q cc))) rfl rfl (by kernel_rfl) (by kernel_rfl) (by kernel_rfl) (fun _ _ _ h => h) (Or.inl ⟨by rfl, ?_⟩) hHeld ?_
          · intro w hSw; go_simp; rw [if_neg (by rw [str_size, str_size]; simp; omega), str_app]; rfl
          simp only [List.setIfInBounds_toArray, List.set_cons_zero, List.set_cons_succ]
          refine take_at 16 14 (.string (str (c9 :: List.replicate q cc))) rfl rfl (by kernel_rfl) (by kernel_rfl) (by kernel_rfl) (fun _ _ _ h => h) (Or.inl ⟨by rfl, ?_⟩) hHeld ?_
          · intro w hSw; go_simp
          simp only [List.setIfInBounds_toArray, List.set_cons_zero, List.set_cons_succ]
          refine wpAnyH_done (by kernel_rfl) (NoPanic.normal ?_) _
          go_wp2_with fail
          go_meet
          case rel => exact ⟨by rw [HXE.out]; rfl, CwB.out⟩
        exact AllReadyH.nil
      refine AllReadyH.cons rfl (fun K hK => ?_) ?_
      · go_simp
        refine (TX.out _).mono ?_
        rintro e wB ⟨rfl, cc_wB⟩
        have CwB := Lib.hid ((Keep.refl _ wr).drew.trans cc_wB)
        have KwB := Lib.hid cc_wB
        clear cc_wB
        clear q9 RA CA
        have CA : Hid (Calm wB (World.alloc wB (.cells #[.int .u8 (97 + (i : Int))] 5))) := Lib.hid (((Keep.refl _ _).alloc _))
        have RA := Lib.hid (Rd.made wB [c9] 1 #[.int .u8 (97 + (i : Int))] rfl (by simp [bv, hc9]) (by omega))
        have q9 := conv_rd RA.out
        refine hK.out _ _ CwB.out (fun hHeld => ?_)
        clear hK K
        try simp only [List.setIfInBounds_toArray, List.set_cons_zero, List.set_cons_succ]
        refine wpAnyH_ready (rs := [3]) (by kernel_rfl) (by simp) ?_
        refine AllReadyH.cons rfl (fun K hK => ?_) AllReadyH.nil
        go_simp
        refine hK.out _ _ (CwB.out.trans CA.out) (fun hHeld => ?_)
        clear hK K
        try simp only [List.setIfInBounds_toArray, List.set_cons_zero, List.set_cons_succ]
        refine wpAnyH_ready (rs := [4]) (by kernel_rfl) (by simp) ?_
        refine AllReadyH.cons rfl (fun K hK => ?_) AllReadyH.nil
        go_simp
        refine hK.out _ _ (CwB.out.trans CA.out) (fun hHeld => ?_)
        clear hK K
        try simp only [List.setIfInBounds_toArray, List.set_cons_zero, List.set_cons_succ]
        refine take_at 15 70 (.string (str (c9 :: List.replicate q cc))) rfl rfl (by kernel_rfl) (by kernel_rfl) (by kernel_rfl) (fun _ _ _ h => h) (Or.inl ⟨by rfl, ?_⟩) hHeld ?_
        · intro w hSw; go_simp; rw [if_neg (by rw [str_size, str_size]; simp; omega), str_app]; rfl
        simp only [List.setIfInBounds_toArray, List.set_cons_zero, List.set_cons_succ]
        refine take_at 16 14 (.string (str (c9 :: List.replicate q cc))) rfl rfl (by kernel_rfl) (by kernel_rfl) (by kernel_rfl) (fun _ _ _ h => h) (Or.inl ⟨by rfl, ?_⟩) hHeld ?_
        · intro w hSw; go_simp
        simp only [List.setIfInBounds_toArray, List.set_cons_zero, List.set_cons_succ]
        refine wpAnyH_done (by kernel_rfl) (NoPanic.normal ?_) _
        go_wp2_with fail
        go_meet
        case rel => exact ⟨by rw [HXE.out]; rfl, (CwB.out.trans CA.out)⟩
      exact AllReadyH.nil
    case rest =>
      obtain ⟨rfl, hcw⟩ := hcut
      clear TX hr hr1 hq hq' hc9 HXE
      have MDc := Lib.hid (MD.out.rest hcw)
      have MYc := Lib.hid (MY.out.rest hcw)
      have CF := Lib.hid (HCE.out wc hcw).2
      have f1 := CF.out.1
      clear hcw MD MY
      go_upto_if 76 with fail
      go_cut [] from 45 to 190 (fun wx => ∃ R5 : Nat → Prop, Md DS.Alive w1 wx R5 T d sbq n (1 + 20 * i) (100 * (20 - i) + 100) cur ∧ My w1 wx R5 T mb cp [cur])
      case first =>
        by_cases ht : 0 ≤ t
        rotate_left
        · go_wp2_with fail
          go_meet
          case rel => exact ⟨R, MDc.out.alive, MYc.out⟩
        have f2 := CF.out.2
        obtain ⟨r5, hr5, er5⟩ := mask_nat t 4 15 (by omega) (by decide)
        obtain ⟨q5, hq5, hq6, hq7, hq8⟩ := cut_len ks.length 30
        have hq5' : (if (30 : Int) < (ks.length : Int) then (30 : Int) else (ks.length : Int)) = (q5 : Int) := hq5
        have AR : Hid (Calls Tryd.prog 22 #[.pointer (some ⟨d, 0, none⟩), .int .i64 (r5 : Int), .slice KA q5 kc] wc.drew fun e w' => ∃ R', e = .returned (.tuple #[]) ∧ Md DS.Alive w1 w' R' T d sbq n (1 + 20 * i) (100 * (20 - i) + 100) cur ∧ Ext R R' wc.drew ∧ Keep R wc.drew w') := Lib.hid (md_arm (MDc.out.rest (Keep.refl _ wc).drew) r5 (by omega) (by omega) (.slice KA q5 kc) (ks.take 30) (by rw [hq8]; exact (HBO.out.cut 30).calm ((C1.out.trans MDc.out.calm).trans (Keep.refl _ wc).drew) (fun x hx e => absurd (MDc.out.new x e) (by have := C1.out.size; omega))) (by simp; omega))
        have qi : (q5 : Int) ≤ (kc : Int) := by have := HKC.out.1; omega
        have qj : (q5 : Int) ≤ (ks.length : Int) := by omega
        clear hq5 hq6 hq7 hq8
        go_upto_region 15 with fail
        refine wp_region_noPanic ?_
        refine wp_region_held_drew (S := fun wx => wx.cell? ⟨(ad.add (i * 3)).block, (ad.add (i * 3)).off + 1, none⟩ = some (.int .i64 t) ∧ wx.cell? ⟨(ad.add (i * 3)).block, (ad.add (i * 3)).off + 2, none⟩ = some (.slice KA ks.length kc)) (by kernel_rfl) ⟨f1, f2⟩ (fun hHeld => ?_)
        refine take_at 0 77 (.pointer (some ⟨d, 0, none⟩)) rfl rfl (by kernel_rfl) (by kernel_rfl) (by kernel_rfl) (fun _ _ _ h => h) (Or.inl ⟨by rfl, ?_⟩) hHeld ?_
        · intro w hSw; go_simp
        simp only [List.setIfInBounds_toArray, List.set_cons_zero, List.set_cons_succ]
        refine take_at 1 78 (.slice (some ad) m cap) rfl rfl (by kernel_rfl) (by kernel_rfl) (by kernel_rfl) (fun _ _ _ h => h) (Or.inl ⟨by rfl, ?_⟩) hHeld ?_
        · intro w hSw; go_simp
        simp only [List.setIfInBounds_toArray, List.set_cons_zero, List.set_cons_succ]
        refine take_at 2 79 (.int .i64 (i : Int)) rfl rfl (by kernel_rfl) (by kernel_rfl) (by kernel_rfl) (fun _ _ _ h => h) (Or.inl ⟨by rfl, ?_⟩) hHeld ?_
        · intro w hSw; go_simp
        simp only [List.setIfInBounds_toArray, List.set_cons_zero, List.set_cons_succ]
        refine take_at 3 80 (.pointer (some (ad.add (i * 3)))) rfl rfl (by kernel_rfl) (by kernel_rfl) (by kernel_rfl) (fun _ _ _ h => h) (Or.inl ⟨by rfl, ?_⟩) hHeld ?_
        · intro w hSw; go_simp
        simp only [List.setIfInBounds_toArray, List.set_cons_zero, List.set_cons_succ]
        refine take_at 4 81 (.pointer (some ⟨(ad.add (i * 3)).block, (ad.add (i * 3)).off + 1, none⟩)) rfl rfl (by kernel_rfl) (by kernel_rfl) (by kernel_rfl) (fun _ _ _ h => h) (Or.inl ⟨by rfl, ?_⟩) hHeld ?_
        · intro w hSw; go_simp
        simp only [List.setIfInBounds_toArray, List.set_cons_zero, List.set_cons_succ]
        refine take_at 5 82 (.int .i64 t) rfl rfl (by kernel_rfl) (by kernel_rfl) (by kernel_rfl) (fun _ _ _ h => h) (Or.inl ⟨by rfl, ?_⟩) hHeld ?_
        · intro w hSw; have h1 := hSw.1; have h2 := hSw.2; go_simp
        simp only [List.setIfInBounds_toArray, List.set_cons_zero, List.set_cons_succ]
        refine take_at 6 83 (.int .i64 (r5 : Int)) rfl rfl (by kernel_rfl) (by kernel_rfl) (by kernel_rfl) (fun _ _ _ h => h) (Or.inl ⟨by rfl, ?_⟩) hHeld ?_
        · intro w hSw; go_simp
        simp only [List.setIfInBounds_toArray, List.set_cons_zero, List.set_cons_succ]
        refine take_at 7 84 (.slice (some ad) m cap) rfl rfl (by kernel_rfl) (by kernel_rfl) (by kernel_rfl) (fun _ _ _ h => h) (Or.inl ⟨by rfl, ?_⟩) hHeld ?_
        · intro w hSw; go_simp
        simp only [List.setIfInBounds_toArray, List.set_cons_zero, List.set_cons_succ]
        refine take_at 8 85 (.int .i64 (i : Int)) rfl rfl (by kernel_rfl) (by kernel_rfl) (by kernel_rfl) (fun _ _ _ h => h) (Or.inl ⟨by rfl, ?_⟩) hHeld ?_
        · intro w hSw; go_simp
        simp only [List.setIfInBounds_toArray, List.set_cons_zero, List.set_cons_succ]
        refine take_at 9 86 (.pointer (some (ad.add (i * 3)))) rfl rfl (by kernel_rfl) (by kernel_rfl) (by kernel_rfl) (fun _ _ _ h => h) (Or.inl ⟨by rfl, ?_⟩) hHeld ?_
        · intro w hSw; go_simp
        simp only [List.setIfInBounds_toArray, List.set_cons_zero, List.set_cons_succ]
        refine take_at 10 87 (.pointer (some ⟨(ad.add (i * 3)).block, (ad.add (i * 3)).off + 2, none⟩)) rfl rfl (by kernel_rfl) (by kernel_rfl) (by kernel_rfl) (fun _ _ _ h => h) (Or.inl ⟨by rfl, ?_⟩) hHeld ?_
        · intro w hSw; go_simp
        simp only [List.setIfInBounds_toArray, List.set_cons_zero, List.set_cons_succ]
        refine take_at 11 88 (.slice KA ks.length kc) rfl rfl (by kernel_rfl) (by kernel_rfl) (by kernel_rfl) (fun _ _ _ h => h) (Or.inl ⟨by rfl, ?_⟩) hHeld ?_
        · intro w hSw; have h1 := hSw.1; have h2 := hSw.2; go_simp
        simp only [List.setIfInBounds_toArray, List.set_cons_zero, List.set_cons_succ]
        refine take_at 12 89 (.slice (some ad) m cap) rfl rfl (by kernel_rfl) (by kernel_rfl) (by kernel_rfl) (fun _ _ _ h => h) (Or.inl ⟨by rfl, ?_⟩) hHeld ?_
        · intro w hSw; go_simp
        simp only [List.setIfInBounds_toArray, List.set_cons_zero, List.set_cons_succ]
        refine take_at 13 90 (.int .i64 (i : Int)) rfl rfl (by kernel_rfl) (by kernel_rfl) (by kernel_rfl) (fun _ _ _ h => h) (Or.inl ⟨by rfl, ?_⟩) hHeld ?_
        · intro w hSw; go_simp
        simp only [List.setIfInBounds_toArray, List.set_cons_zero, List.set_cons_succ]
        refine take_at 14 91 (.pointer (some (ad.add (i * 3)))) rfl rfl (by kernel_rfl) (by kernel_rfl) (by kernel_rfl) (fun _ _ _ h => h) (Or.inl ⟨by rfl, ?_⟩) hHeld ?_
        · intro w hSw; go_simp
        simp only [List.setIfInBounds_toArray, List.set_cons_zero, List.set_cons_succ]
        refine take_at 15 92 (.pointer (some ⟨(ad.add (i * 3)).block, (ad.add (i * 3)).off + 2, none⟩)) rfl rfl (by kernel_rfl) (by kernel_rfl) (by kernel_rfl) (fun _ _ _ h => h) (Or.inl ⟨by rfl, ?_⟩) hHeld ?_
        · intro w hSw; go_simp
        simp only [List.setIfInBounds_toArray, List.set_cons_zero, List.set_cons_succ]
        refine take_at 16 93 (.slice KA ks.length kc) rfl rfl (by kernel_rfl) (by kernel_rfl) (by kernel_rfl) (fun _ _ _ h => h) (Or.inl ⟨by rfl, ?_⟩) hHeld ?_
        · intro w hSw; have h1 := hSw.1; have h2 := hSw.2; go_simp
        simp only [List.setIfInBounds_toArray, List.set_cons_zero, List.set_cons_succ]
        refine take_at 17 94 (.int .i64 (ks.length : Int)) rfl rfl (by kernel_rfl) (by kernel_rfl) (by kernel_rfl) (fun _ _ _ h => h) (Or.inl ⟨by rfl, ?_⟩) hHeld ?_
        · intro w hSw; go_simp
        simp only [List.setIfInBounds_toArray, List.set_cons_zero, List.set_cons_succ]
        refine take_at 18 95 (.int .i64 (q5 : Int)) rfl rfl (by kernel_rfl) (by kernel_rfl) (by kernel_rfl) (fun _ _ _ h => h) (Or.inl ⟨by rfl, ?_⟩) hHeld ?_
        · intro w hSw; go_simp
        simp only [List.setIfInBounds_toArray, List.set_cons_zero, List.set_cons_succ]
        refine take_at 19 96 (.slice KA q5 kc) rfl rfl (by kernel_rfl) (by kernel_rfl) (by kernel_rfl) (fun _ _ _ h => h) (Or.inl ⟨by rfl, ?_⟩) hHeld ?_
        · intro w hSw; go_simp
        simp only [List.setIfInBounds_toArray, List.set_cons_zero, List.set_cons_succ]
        refine wpAnyH_ready (rs := [20]) (by kernel_rfl) (by simp) ?_
        refine AllReadyH.cons rfl (fun K hK => ?_) AllReadyH.nil
        go_simp
        refine AR.out.mono ?_
        rintro e wd ⟨R5, rfl, h5, x5, k5⟩
        have H5 := Lib.hid (And.intro h5 (MYc.out.rest (Keep.refl _ wc).drew |>.step k5 (fun _ h => .inl h) x5 (Ext.refl _ _)))
        have nR : ¬ R (ad.add (i * 3)).block := fun e => absurd (MDc.out.new _ e) (by have := HLW.out; have := C1.out.size; omega)
        have lR : (ad.add (i * 3)).block < wc.drew.heap.size := World.block_lt_of_cell? wc ⟨(ad.add (i * 3)).block, (ad.add (i * 3)).off + 1, none⟩ f1
        have g1 := (k5.cell (p := ⟨(ad.add (i * 3)).block, (ad.add (i * 3)).off + 1, none⟩) lR nR).trans f1
        have g2 := (k5.cell (p := ⟨(ad.add (i * 3)).block, (ad.add (i * 3)).off + 2, none⟩) lR nR).trans f2
        clear h5 x5 k5
        refine hK.out _ _ ⟨g1, g2⟩ (fun hHeld => ?_)
        clear hK K
        try simp only [List.setIfInBounds_toArray, List.set_cons_zero, List.set_cons_succ]
        refine wpAnyH_done (by kernel_rfl) (NoPanic.normal ?_) _
        go_wp2_with fail
        go_meet
        case rel => exact ⟨R5, H5.out.1, H5.out.2⟩
      case rest =>
      obtain ⟨R5, h5, y5⟩ := hcut
      clear f1 CF MDc MYc HCE HBO HKC HLT HLW
      obtain ⟨c6, w6, q6, r6, k6, z6⟩ := conv_bytes wc X (by have := HX.out.2; unfold maxLen; omega)
      have SV := Lib.hid (sv_save (F := 100 * (20 - i) + 90) T1.out (h5.rest k6) HN.out.1 (by have := HN.out; omega) (by omega) _ r6 HX.out.1 HX.out.2)
      have Y6 := Lib.hid (y5.rest k6)
      clear h5 y5 r6 k6 z6
      go_wp2_with fail
      refine SV.out.mono ?_
      rintro e w7 ⟨R7, T7, er, rfl, s7, x7, t7, k7⟩
      have SO := Lib.hid (sv_off s7 (.slice none 0 0))
      have Y7 := Lib.hid (Y6.out.step k7 (fun _ h => h) x7 t7)
      clear s7 x7 t7 k7 SV Y6 q6
      go_wp2_with fail
      refine SO.out.mono ?_
      rintro e w8 ⟨R8, rfl, s8, x8, k8⟩
      have S8 := Lib.hid s8
      have Y8 := Lib.hid (Y7.out.step k8 (fun _ h => .inl h) x8 (Ext.refl _ _))
      clear s8 x8 k8 SO Y7
      go_upto_block 2 with fail
      go_cut [10, 12] from 45 to 190 (fun v10 v12 wx => ∃ (sb2 mb2 cp2 : Nat) (R9 T9 : Nat → Prop) (ms : List (List UInt8)) (cur2 : List UInt8), v10 = .pointer (some ⟨sb2, 0, none⟩) ∧ v12 = .slice (some ⟨mb2, 0, none⟩) ms.length cp2 ∧ cur2 ∈ ms ∧ ms.length ≤ 2 ∧ cur2.length ≤ 600 ∧ Md DS.Up w1 wx R9 T9 d sb2 n (1 + 20 * (i + 1)) (100 * (20 - (i + 1)) + 100) cur2 ∧ My w1 wx R9 T9 mb2 cp2 ms)
      case first =>
        rcases S8.out with ⟨rfl, h8⟩ | ⟨rfl, cur2, hc2, h8⟩
        · have M9 : Hid (My w1 (w8.alloc (.cells #[.string (str X)] 9)) R8 T7 w8.heap.size 1 [X]) := Lib.hid (My.made w1 w8 X h8.calm.size h8.lt.1 h8.lt.2)
          have H9 : Hid (Md DS.Up w1 (w8.alloc (.cells #[.string (str X)] 9)) R8 T7 d sbq n (1 + 20 * (i + 1)) (100 * (20 - (i + 1)) + 100) X) := Lib.hid ((h8.rest ((Keep.refl _ w8).alloc _)).more (by omega) (by omega))
          clear h8 S8 Y8
          go_wp2_with fail
          go_meet
          case rel => exact ⟨sbq, w8.heap.size, 1, R8, T7, [X], X, rfl, rfl, by simp, by simp, HX.out.2, H9.out, M9.out⟩
        · have H8 := Lib.hid h8
          have HC2 := Lib.hid hc2
          have hw8 : w1.heap.size ≤ w8.heap.size := h8.calm.size
          clear h8 hc2 S8
          have hll : [cur].length ≤ 1000000 := by simp
          go_upto_region 25 with (at_builtin; go_loud (refine append_strs0 rfl (.tmp 113) (.tmp 115) rfl w1.heap.size (some ⟨mb, 0, none⟩) cp [cur] X rfl Y8.out.1 rfl hll hw8 ?_); rintro g2 c2 w9 ho2 hk2 hg2; have O9 := Lib.hid (And.intro ho2 (And.intro hk2 hg2)); clear ho2 hk2 hg2)
          have M9 : Hid (Rw DS.Dead w1 w9 R8 d n (1 + 20 * i + 2) (100 * (20 - i) + 90) cur2 ∧ My w1 w9 R8 (fun _ => False) g2 c2 [cur, X]) := Lib.hid (by
            obtain ⟨ho2, hk2, hg2⟩ := O9.out
            obtain ⟨y1, y2, y3, y4⟩ := Y8.out
            obtain ⟨hb, cur9, hr9⟩ := ho2.row (g := g2) rfl
            have hbm : w1.heap.size ≤ mb := (y1.row (g := mb) rfl).1
            refine ⟨H8.out.apart hk2 (fun k hk => ?_), ho2, Row.lt hr9, fun e => ?_, fun e => e⟩
            · have : mb = k := by simpa [Value.ownBlock] using hk
              subst this
              exact ⟨y3, hbm⟩
            · rcases hg2 with h | h
              · have : mb = g2 := by simpa [Value.ownBlock] using h
                subst this
                exact y3 e
              · exact absurd (H8.out.lt.1 _ e) (by omega))
          have DN := Lib.hid (rw_down M9.out.1)
          clear O9 Y8 H8
          go_wp2_with fail
          refine DN.out.mono ?_
          rintro e w10 ⟨rfl, rfl⟩
          have ST := Lib.hid (rw_start M9.out.1)
          clear DN
          go_wp2_with fail
          refine ST.out.mono ?_
          rintro e w10 ⟨R10, rfl, h10, x10, k10⟩
          have M10 := Lib.hid (And.intro h10 (M9.out.2.step k10 (fun _ h => .inl h) x10 (Ext.refl _ _)))
          clear ST M9 h10 x10 k10
          obtain ⟨r9, hr9, er9⟩ := mask_nat a2 1 1 (by omega) (by decide)
          go_upto_if 124 with fail
          go_cut [] from 45 to 190 (fun wx => ∃ R11 : Nat → Prop, Rw DS.Up w1 wx R11 d n (1 + 20 * i + 2) (100 * (20 - i) + 90 - 2 * (n / 2)) cur2 ∧ My w1 wx R11 (fun _ => False) g2 c2 [cur, X])
          case first =>
            rcases (show r9 = 0 ∨ r9 = 1 by omega) with h9 | h9
            · have t9 : ((r9 : Int) == 1) = false := by rw [h9]; rfl
              clear h9 hr9
              go_wp2_with fail
              go_meet
              case rel => exact ⟨R10, M10.out.1.less (by omega), M10.out.2⟩
            · have t9 : ((r9 : Int) == 1) = true := by rw [h9]; rfl
              clear h9 hr9
              have RA := Lib.hid (fun k h0 h1 => rw_arm M10.out.1 k h0 h1)
              obtain ⟨r7, hr7, er7⟩ := mask_nat (a2 / 2 ^ 1) 3 7 (by omega) (by decide)
              have er8 : bits .and .i64 (a2 / 2) 7 = (r7 : Int) := by simpa using er7
              go_wp2_with fail
              refine (RA.out (r7 : Int) (by omega) (by omega)).mono ?_
              rintro e w11 ⟨R11, rfl, h11, x11, k11⟩
              have OP := Lib.hid (rw_open (F := 100 * (20 - i) + 90 - 2 * (n / 2)) T1.out (h11.less (by have := HN.out; omega)) (by have := HN.out; omega))
              have Y11 := Lib.hid (M10.out.2.step k11 (fun _ h => .inl h) x11 (Ext.refl _ _))
              clear RA er7 er8 hr7 h11 x11 k11 M10 er9
              go_wp2_with fail
              refine OP.out.mono ?_
              rintro e w12 ⟨R12, ov, oc, rfl, h12, x12, k12⟩
              have CR := Lib.hid (rw_crash h12)
              have Y12 := Lib.hid (Y11.out.step k12 (fun _ h => .inl h) x12 (Ext.refl _ _))
              clear OP h12 x12 k12 Y11
              go_wp2_with fail
              refine CR.out.mono ?_
              rintro e w13 ⟨R13, rfl, h13, x13, k13⟩
              have ST := Lib.hid (rw_start h13)
              have Y13 := Lib.hid (Y12.out.step k13 (fun _ h => .inl h) x13 (Ext.refl _ _))
              clear CR h13 x13 k13 Y12
              go_wp2_with fail
              refine ST.out.mono ?_
              rintro e w14 ⟨R14, rfl, h14, x14, k14⟩
              have Y14 := Lib.hid (And.intro h14 (Y13.out.step k14 (fun _ h => .inl h) x14 (Ext.refl _ _)))
              clear ST h14 x14 k14 Y13
              go_wp2_with fail
              go_meet
              case rel => exact ⟨R14, Y14.out.1, Y14.out.2⟩
          case rest =>
            obtain ⟨R11, h11, y11⟩ := hcut
            have OP := Lib.hid (rw_up (F := 100 * (20 - (i + 1)) + 100) T1.out (h11.less (by have := HN.out; omega)) (by have := HN.out; omega) (by have := HN.out; omega) (by omega))
            have Y11 := Lib.hid y11
            clear h11 y11 M10 er9
            go_wp2_with fail
            refine OP.out.mono ?_
            rintro e w15 ⟨R15, T15, sb3, rfl, h15, t15, x15, k15⟩
            have H15 := Lib.hid (And.intro (h15.more (B' := 1 + 20 * (i + 1)) (by have := HN.out; omega) (Nat.le_refl _)) (Y11.out.step k15 (fun _ h => .inl h) x15 (fun k hk => .inr (t15 k hk))))
            clear OP h15 t15 x15 k15 Y11
            go_wp2_with fail
            go_meet
            case rel => exact ⟨sb3, g2, c2, R15, T15, [cur, X], cur2, rfl, rfl, by rcases HC2.out with e | e <;> simp [e], by simp, by rcases HC2.out with e | e <;> rw [e]; exact HCL.out; exact HX.out.2, H15.out.1, H15.out.2⟩
      case rest =>
        obtain ⟨sb2, mb2, cp2, R9, T9, ms, cur2, rfl, rfl, hmem, hml, hcl2, h9, y9⟩ := hcut
        clear S8 Y8
        have LD := Lib.hid (md_load h9 (by omega))
        have H9 := Lib.hid h9
        have Y9 := Lib.hid y9
        have HMS := Lib.hid (And.intro hmem hml)
        have HC9 := Lib.hid hcl2
        have mli : (ms.length : Int) ≤ 2 := by omega
        clear h9 y9 hmem hcl2
        go_wp2_with fail
        refine LD.out.mono ?_
        rintro e w10 ⟨lv, el, rfl, hrd, hel, c10⟩
        obtain ⟨LA, lc, rfl, -, -⟩ := hrd.form
        have RD := Lib.hid hrd
        have C10 := Lib.hid c10
        clear LD hrd c10
        rcases hel with ⟨rfl, hne⟩ | ⟨rfl, hem⟩
        · have HE9 := Lib.hid hne
          clear hne
          go_wp2_with fail
          go_loopw [20, 21] (fun v20 v21 wl => ∃ j : Nat, j ≤ ms.length ∧ v21 = .int .i64 (j : Int) ∧ v20 = .bool (decide (cur2 ∈ ms.take j)) ∧ Calm w10 wl) (fun _ v21 _ => ms.length - (intOf v21).toNat)
          case atStart => exact ⟨0, by omega, rfl, by simp, Keep.refl _ _⟩
          case round =>
            obtain ⟨j, hj, rfl, rfl, hcl⟩ := hrel
            by_cases hjl : j < ms.length
            · have j0 : (j : Int) < (ms.length : Int) := by omega
              obtain ⟨x, hx⟩ : ∃ x, ms[j]? = some x := ⟨_, List.getElem?_eq_getElem hjl⟩
              obtain ⟨g9, e9, hc9⟩ := Strs.at_ (Y9.out.1.calm (C10.out.trans hcl)) j x hx
              injection e9 with e9
              injection e9 with e9 _ _
              subst e9
              have htk : ms.take (j + 1) = ms.take j ++ [x] := by rw [List.take_succ, hx]; rfl
              have qc : ∀ k, Sem.run Tryd.prog (convert 31 9 (.slice LA cur2.length lc)) (World.drewN wr k) = .ok (.string (str cur2)) (World.drewN wr k) := fun k => conv_rd ((RD.out.calm hcl).calm ((Keep.refl _ _).drewN k))
              have HCL9 := Lib.hid hcl
              have HTK := Lib.hid htk
              have HX9 := Lib.hid hx
              clear hcl htk hx
              by_cases hf : cur2 ∈ ms.take j
              · have hd : decide (cur2 ∈ ms.take j) = true := decide_eq_true hf
                rw [hd]
                clear hd
                go_upto_region 44 with fail
                go_quiet (fail)
                go_wp2_with fail
                go_roundw
                case rel => exact ⟨j + 1, by omega, by go_num, by rw [HTK.out]; simp [hf], HCL9.out.trans ((Keep.refl _ _).drewN _)⟩
                case measure => simp [intOf]; omega
              · have hd : decide (cur2 ∈ ms.take j) = false := decide_eq_false hf
                rw [hd]
                clear hd
                by_cases hxe : x = cur2
                · have tb := str_beq_yes hxe
                  have tl : (str cur2).toList = cur2 := by rw [ByteArray.toList_eq, str_list]
                  have t1 : ((str cur2).toList != (ByteArray.mk #[]).toList) = true := str_bne_yes (b := []) HE9.out
                  have t2 : ((str cur2).toList != []) = true := by rw [tl]; exact bne_iff_ne.2 HE9.out
                  have t3 : ((str cur2).toList == []) = false := by rw [tl]; exact beq_eq_false_iff_ne.2 HE9.out
                  have t4 : (cur2 != []) = true := bne_iff_ne.2 HE9.out
                  clear tl
                  go_upto_region 44 with fail
                  go_quiet (fail)
                  go_wp2_with fail
                  go_roundw
                  case rel => exact ⟨j + 1, by omega, by go_num, by rw [HTK.out]; simp [hxe], HCL9.out.trans ((Keep.refl _ _).drewN _)⟩
                  case measure => simp [intOf]; omega
                · have tb := str_beq_no hxe
                  go_upto_region 44 with fail
                  go_quiet (fail)
                  go_wp2_with fail
                  go_roundw
                  case rel => exact ⟨j + 1, by omega, by go_num, by rw [HTK.out]; simp [hf, Ne.symm hxe], HCL9.out.trans ((Keep.refl _ _).drewN _)⟩
                  case measure => simp [intOf]; omega
            · obtain rfl : j = ms.length := by omega
              have hd : decide (cur2 ∈ ms.take ms.length) = true := decide_eq_true (by rw [List.take_length]; exact HMS.out.1)
              rw [hd]
              have qc := conv_rd (RD.out.calm hcl)
              have M9 : Hid (My w1 (wr.alloc (.cells #[.string (str cur2)] 9)) R9 T9 wr.heap.size 1 [cur2]) := Lib.hid (by
                have h := H9.out.rest (C10.out.trans hcl)
                exact My.made w1 wr cur2 h.calm.size h.lt.1 h.lt.2)
              have K9 : Hid (Md DS.Up w1 (wr.alloc (.cells #[.string (str cur2)] 9)) R9 T9 d sb2 n (1 + 20 * (i + 1)) (100 * (20 - (i + 1)) + 100) cur2) := Lib.hid (H9.out.rest ((C10.out.trans hcl).alloc _))
              clear hcl hd
              go_wp2_with fail
              go_roundw
              case rel => exact ⟨i + 1, sb2, _, 1, R9, T9, cur2, by omega, by omega, rfl, rfl, by go_num, HC9.out, K9.out, M9.out⟩
              case measure => simp [intOf]; omega
        · have HE9 := Lib.hid hem
          clear hem
          go_wp2_with fail
          go_loopw [20, 21] (fun v20 v21 wl => ∃ j : Nat, j ≤ ms.length ∧ v21 = .int .i64 (j : Int) ∧ v20 = .bool (decide (cur2 ∈ ms.take j)) ∧ Calm w10 wl) (fun _ v21 _ => ms.length - (intOf v21).toNat)
          case atStart => exact ⟨0, by omega, rfl, by simp, Keep.refl _ _⟩
          case round =>
            obtain ⟨j, hj, rfl, rfl, hcl⟩ := hrel
            by_cases hjl : j < ms.length
            · have j0 : (j : Int) < (ms.length : Int) := by omega
              obtain ⟨x, hx⟩ : ∃ x, ms[j]? = some x := ⟨_, List.getElem?_eq_getElem hjl⟩
              obtain ⟨g9, e9, hc9⟩ := Strs.at_ (Y9.out.1.calm (C10.out.trans hcl)) j x hx
              injection e9 with e9
              injection e9 with e9 _ _
              subst e9
              have htk : ms.take (j + 1) = ms.take j ++ [x] := by rw [List.take_succ, hx]; rfl
              have qc : ∀ k, Sem.run Tryd.prog (convert 31 9 (.slice LA cur2.length lc)) (World.drewN wr k) = .ok (.string (str cur2)) (World.drewN wr k) := fun k => conv_rd ((RD.out.calm hcl).calm ((Keep.refl _ _).drewN k))
              have HCL9 := Lib.hid hcl
              have HTK := Lib.hid htk
              have HX9 := Lib.hid hx
              clear hcl htk hx
              by_cases hf : cur2 ∈ ms.take j
              · have hd : decide (cur2 ∈ ms.take j) = true := decide_eq_true hf
                rw [hd]
                clear hd
                go_upto_region 44 with fail
                go_quiet (fail)
                go_wp2_with fail
                go_roundw
                case rel => exact ⟨j + 1, by omega, by go_num, by rw [HTK.out]; simp [hf], HCL9.out.trans ((Keep.refl _ _).drewN _)⟩
                case measure => simp [intOf]; omega
              · have hd : decide (cur2 ∈ ms.take j) = false := decide_eq_false hf
                rw [hd]
                clear hd
                by_cases hxe : x = cur2
                · have tb := str_beq_yes hxe
                  have tl : (str cur2).toList = cur2 := by rw [ByteArray.toList_eq, str_list]
                  have t1 : ((str cur2).toList != (ByteArray.mk #[]).toList) = false := str_bne_no (b := []) HE9.out
                  have t2 : ((str cur2).toList != []) = false := by rw [tl, HE9.out]; rfl
                  have t3 : ((str cur2).toList == []) = true := by rw [tl, HE9.out]; rfl
                  have t4 : (cur2 != []) = false := by rw [HE9.out]; rfl
                  clear tl
                  go_upto_region 44 with fail
                  go_quiet (fail)
                  go_wp2_with fail
                  go_roundw
                  case rel => exact ⟨j + 1, by omega, by go_num, by rw [HTK.out]; simp [hxe], HCL9.out.trans ((Keep.refl _ _).drewN _)⟩
                  case measure => simp [intOf]; omega
                · have tb := str_beq_no hxe
                  go_upto_region 44 with fail
                  go_quiet (fail)
                  go_wp2_with fail
                  go_roundw
                  case rel => exact ⟨j + 1, by omega, by go_num, by rw [HTK.out]; simp [hf, Ne.symm hxe], HCL9.out.trans ((Keep.refl _ _).drewN _)⟩
                  case measure => simp [intOf]; omega
            · obtain rfl : j = ms.length := by omega
              have hd : decide (cur2 ∈ ms.take ms.length) = true := decide_eq_true (by rw [List.take_length]; exact HMS.out.1)
              rw [hd]
              have qc := conv_rd (RD.out.calm hcl)
              have M9 : Hid (My w1 (wr.alloc (.cells #[.string (str cur2)] 9)) R9 T9 wr.heap.size 1 [cur2]) := Lib.hid (by
                have h := H9.out.rest (C10.out.trans hcl)
                exact My.made w1 wr cur2 h.calm.size h.lt.1 h.lt.2)
              have K9 : Hid (Md DS.Up w1 (wr.alloc (.cells #[.string (str cur2)] 9)) R9 T9 d sb2 n (1 + 20 * (i + 1)) (100 * (20 - (i + 1)) + 100) cur2) := Lib.hid (H9.out.rest ((C10.out.trans hcl).alloc _))
              clear hcl hd
              go_wp2_with fail
              go_roundw
              case rel => exact ⟨i + 1, sb2, _, 1, R9, T9, cur2, by omega, by omega, rfl, rfl, by go_num, HC9.out, K9.out, M9.out⟩
              case measure => simp [intOf]; omega
end Go.Proofs.YtfigiofiakkbdaaDoor
