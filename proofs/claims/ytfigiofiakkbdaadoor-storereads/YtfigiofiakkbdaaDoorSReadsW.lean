/-
  StoreReads, walked.
-/
import Derived.Test.YtfigiofiakkbdaaDoorS17
import Derived.Test.YtfigiofiakkbdaaDoorLBuf
import Derived.Test.YtfigiofiakkbdaaDoorJC4
import Derived.Deep.DeepCutAuto
import Derived.Deep.CutBlock
namespace Go.Proofs.YtfigiofiakkbdaaDoor
open Go.RowKit
set_option linter.all false

theorem u8_xor (a b : UInt8) : ∃ x : UInt8, bits .xor .u8 (a.toNat : Int) (b.toNat : Int) = (x.toNat : Int) := by
  have ha := u8_lt a
  have hb := u8_lt b
  refine ⟨UInt8.ofNat (a.toNat ^^^ b.toNat), ?_⟩
  have hx : a.toNat ^^^ b.toNat < 256 := Nat.xor_lt_two_pow (n := 8) ha hb
  rw [UInt8.toNat_ofNat', Nat.mod_eq_of_lt hx]
  exact Go.u8_xor_nat _ _ ha hb
/-- j sectors of B written. -/
def wrote (B : List UInt8) (j i : Nat) : List UInt8 := if i < j then secAt B i else full 0
theorem wrote_upd (B : List UInt8) (j i : Nat) : upd (wrote B j) j (secAt B j) i = wrote B (j + 1) i := by
  unfold upd wrote
  by_cases h : j = i
  · subst h; rw [if_pos rfl, if_pos (by omega)]
  · rw [if_neg h]
    by_cases h2 : i < j
    · rw [if_pos h2, if_pos (by omega)]
    · rw [if_neg h2, if_neg (by omega)]
theorem Cs.bytes {w : World} {g : Nat} {bs : List UInt8} {Q : Nat → Prop} (h : Cs w g bs) (hQ : Q g) (hg : g < w.heap.size) (o n cap : Nat) (ho : o + n ≤ bs.length) : Bytes w Q (.slice (some ⟨g, o, none⟩) n cap) ((bs.drop o).take n) := by
  have hl : ((bs.drop o).take n).length = n := by simp; omega
  refine ⟨_, cap, by rw [hl], fun i b hi => ⟨_, rfl, hQ, hg, ?_⟩⟩
  rw [addr_mid]
  rw [List.getElem?_take, List.getElem?_drop] at hi
  split at hi
  · exact (h _ b hi).1
  · simp at hi

set_option maxRecDepth 100000 in
set_option maxHeartbeats 32000000 in
theorem sreads_w (w : World) (hT : Tab w) (va vb : Value) (sa sb : List (List UInt8)) (hva : Strv w va sa) (hvb : Strv w vb sb) (n2 : Nat) (hn2 : n2 < 18446744073709551616) (n3 : Nat) (hn3 : n3 < 18446744073709551616) (a4 : Int) (tn : Nat) (htn : tn < 256) :
    Calls Tryd.prog 5 #[va, vb, .int .u64 (n2 : Int), .int .u64 (n3 : Int), .int .i64 a4, .int .u8 (tn : Int)] w fun e w' => e = .returned (.bool true) ∧ Calm w w' := by
  obtain ⟨Aa, capa, rfl, hma⟩ := hva.form
  obtain ⟨Ab, capb, rfl, hmb⟩ := hvb.form
  unfold maxLen at hma hmb
  have SH := Lib.hid (shown4_c w hT)
  have HT := Lib.hid hT
  have HVa := Lib.hid hva
  have HVb := Lib.hid hvb
  obtain ⟨TN, hTN⟩ : ∃ TN : UInt8, (TN.toNat : Int) = (tn : Int) := ⟨UInt8.ofNat tn, by rw [UInt8.toNat_ofNat']; omega⟩
  rw [← hTN]
  obtain ⟨r1, hr1, m1⟩ := mask_nat a4 1 1 (by omega) (by decide)
  obtain ⟨r2, hr2, m2⟩ := mask_nat a4 24 16777215 (by omega) (by decide)
  obtain ⟨pp, hpp, hpp'⟩ : ∃ pp : Nat, (7 ≤ pp ∧ pp ≤ 8) ∧ (8 : Int) - (r1 : Int) = (pp : Int) := ⟨8 - r1, by omega, by omega⟩
  have ipp : (pp : Int) ≤ 8 := by omega
  have M2 := Lib.hid (And.intro hr2 m2)
  clear hT hva hvb hTN htn m2 hr2
  go_enter Tryd.func5, Tryd.ntmps5
  go_wp2_with fail
  refine SH.out.mono ?_
  rintro e w1 ⟨rfl, c1⟩
  have C1 := Lib.hid c1
  have T1 := Lib.hid (HT.out.calm c1)
  have BG := Lib.hid (begin_c 3 w1 (by omega))
  clear c1 SH
  go_wp2_with fail
  refine BG.out.mono ?_
  rintro e w2 ⟨rfl, c2⟩
  have C2 := Lib.hid c2
  clear c2 BG
  go_upto_block 0 with fail
  go_cut [14] (fun s wc => ∃ X : List UInt8, s = .string (str X) ∧ 512 ≤ X.length ∧ X.length ≤ 1536 ∧ Calm w1 wc)
  case first =>
    go_wp2_with fail
    go_loopw [14, 15] (fun vx vi wr => ∃ (i : Nat) (X : List UInt8), i ≤ 2 ∧ i ≤ sa.length ∧ vi = .int .i64 (i : Int) ∧ vx = .string (str X) ∧ X.length = 512 + 512 * i ∧ Calm w1 wr) (fun _ vi _ => 2 - (intOf vi).toNat)
    case atStart => exact ⟨0, begP 3, by omega, by omega, rfl, rfl, by rw [begP_len], C2.out⟩
    case round =>
      obtain ⟨i, X, hi2, hil, rfl, rfl, hXl, hcw⟩ := hrel
      have ii : (i : Int) ≤ 2 := by omega
      have HC := Lib.hid hcw
      clear hcw
      by_cases hgo : i < sa.length ∧ i < 2
      · obtain ⟨hlt, hlt2⟩ := hgo
        have i0 : (i : Int) < (sa.length : Int) := by omega
        have i1 : (i : Int) < 2 := by omega
        obtain ⟨ad, s, rfl, hsi, hsl, hadb, hcell⟩ := HVa.out.at_ (C1.out.trans HC.out) i hlt
        obtain ⟨q, hq, hq1, hq2, hq3⟩ := cut_len s.length 400
        have hq' : (if (400 : Int) < (s.length : Int) then (400 : Int) else (s.length : Int)) = (q : Int) := hq
        have se : (str s).extract 0 q = str (s.take q) := by rw [str_extract]; simp
        have ssz := str_size s
        have htl : (s.take q).length = q := by simp; omega
        unfold maxLen at hsl
        have qj : (q : Int) ≤ (s.length : Int) := by omega
        have qi : (q : Int) ≤ 400 := by omega
        obtain ⟨B8, hB8⟩ : ∃ B8, B8 = le 8 n2 := ⟨_, rfl⟩
        have l8 : B8.length = 8 := by rw [hB8, le_len]
        have BY := fun wx => r4bytes_c n2 wx (by omega)
        obtain ⟨PR, hPR⟩ : ∃ PR, PR = recP (4 + i) (B8.take pp ++ s.take q) := ⟨_, rfl⟩
        have hlr : (B8.take pp ++ s.take q).length ≤ 408 := by rw [List.length_append, htl, List.length_take, l8]; omega
        have hPl : PR.length = 512 := by rw [hPR, rec_len]; unfold secsOf; omega
        have RC := fun wx => record_c (4 + i) (B8.take pp ++ s.take q) wx (by omega) (by omega)
        simp only [← hB8] at BY
        simp only [← hPR, show ((4 + i : Nat) : Int) = 4 + (i : Int) by omega] at RC
        have BY := fun wx => Lib.hid (BY wx)
        have RC := fun wx => Lib.hid (RC wx)
        have se8 : (str B8).extract 0 pp = str (B8.take pp) := by rw [str_extract]; simp
        have ss8 := str_size B8
        rw [l8] at ss8
        have ltp : (B8.take pp).length = pp := by rw [List.length_take, l8]; omega
        have sa' := str_app
        have ss' := str_size
        clear hq hq3 hadb hsi hB8 hPR
        go_wp2_with fail
        refine wp_region_noPanic ?_
        refine wp_region_held_drew (S := fun wx => wx.cell? (ad.add i) = some (.string (str s))) (by kernel_rfl) hcell (fun hHeld => ?_)
        refine take_at 0 43 (.string (str X)) rfl rfl (by kernel_rfl) (by kernel_rfl) (by kernel_rfl) (fun _ _ _ h => h) (Or.inl ⟨by rfl, ?_⟩) hHeld ?_
        · intro w hSw; go_simp
        simp only [List.setIfInBounds_toArray, List.set_cons_zero, List.set_cons_succ]
        refine take_at 1 44 (.int .i64 (i : Int)) rfl rfl (by kernel_rfl) (by kernel_rfl) (by kernel_rfl) (fun _ _ _ h => h) (Or.inl ⟨by rfl, ?_⟩) hHeld ?_
        · intro w hSw; go_simp
        simp only [List.setIfInBounds_toArray, List.set_cons_zero, List.set_cons_succ]
        refine take_at 2 45 (.int .i64 (4 + (i : Int))) rfl rfl (by kernel_rfl) (by kernel_rfl) (by kernel_rfl) (fun _ _ _ h => h) (Or.inl ⟨by rfl, ?_⟩) hHeld ?_
        · intro w hSw; go_simp; first | done | rfl | (rw [IntKind.wrap_i64]; omega)
        simp only [List.setIfInBounds_toArray, List.set_cons_zero, List.set_cons_succ]
        refine take_at 3 46 (.int .u64 (4 + (i : Int))) rfl rfl (by kernel_rfl) (by kernel_rfl) (by kernel_rfl) (fun _ _ _ h => h) (Or.inl ⟨by rfl, ?_⟩) hHeld ?_
        · intro w hSw; go_simp; first | done | rfl | (rw [IntKind.wrap_u64]; omega)
        simp only [List.setIfInBounds_toArray, List.set_cons_zero, List.set_cons_succ]
        refine take_at 4 47 (.int .u64 (n2 : Int)) rfl rfl (by kernel_rfl) (by kernel_rfl) (by kernel_rfl) (fun _ _ _ h => h) (Or.inl ⟨by rfl, ?_⟩) hHeld ?_
        · intro w hSw; go_simp
        simp only [List.setIfInBounds_toArray, List.set_cons_zero, List.set_cons_succ]
        refine take_at 6 49 (.int .i64 a4) rfl rfl (by kernel_rfl) (by kernel_rfl) (by kernel_rfl) (fun _ _ _ h => h) (Or.inl ⟨by rfl, ?_⟩) hHeld ?_
        · intro w hSw; go_simp
        simp only [List.setIfInBounds_toArray, List.set_cons_zero, List.set_cons_succ]
        refine take_at 7 50 (.int .i64 (r1 : Int)) rfl rfl (by kernel_rfl) (by kernel_rfl) (by kernel_rfl) (fun _ _ _ h => h) (Or.inl ⟨by rfl, ?_⟩) hHeld ?_
        · intro w hSw; go_simp
        simp only [List.setIfInBounds_toArray, List.set_cons_zero, List.set_cons_succ]
        refine take_at 8 51 (.int .i64 (pp : Int)) rfl rfl (by kernel_rfl) (by kernel_rfl) (by kernel_rfl) (fun _ _ _ h => h) (Or.inl ⟨by rfl, ?_⟩) hHeld ?_
        · intro w hSw; go_simp; first | done | rfl | (rw [IntKind.wrap_i64]; omega)
        simp only [List.setIfInBounds_toArray, List.set_cons_zero, List.set_cons_succ]
        refine take_at 10 53 (.slice (some ad) sa.length capa) rfl rfl (by kernel_rfl) (by kernel_rfl) (by kernel_rfl) (fun _ _ _ h => h) (Or.inl ⟨by rfl, ?_⟩) hHeld ?_
        · intro w hSw; go_simp
        simp only [List.setIfInBounds_toArray, List.set_cons_zero, List.set_cons_succ]
        refine take_at 11 54 (.int .i64 (i : Int)) rfl rfl (by kernel_rfl) (by kernel_rfl) (by kernel_rfl) (fun _ _ _ h => h) (Or.inl ⟨by rfl, ?_⟩) hHeld ?_
        · intro w hSw; go_simp
        simp only [List.setIfInBounds_toArray, List.set_cons_zero, List.set_cons_succ]
        refine take_at 12 55 (.pointer (some (ad.add i))) rfl rfl (by kernel_rfl) (by kernel_rfl) (by kernel_rfl) (fun _ _ _ h => h) (Or.inl ⟨by rfl, ?_⟩) hHeld ?_
        · intro w hSw; go_simp
        simp only [List.setIfInBounds_toArray, List.set_cons_zero, List.set_cons_succ]
        refine take_at 13 56 (.string (str s)) rfl rfl (by kernel_rfl) (by kernel_rfl) (by kernel_rfl) (fun _ _ _ h => h) (Or.inl ⟨by rfl, ?_⟩) hHeld ?_
        · intro w hSw; go_simp
        simp only [List.setIfInBounds_toArray, List.set_cons_zero, List.set_cons_succ]
        refine take_at 14 57 (.slice (some ad) sa.length capa) rfl rfl (by kernel_rfl) (by kernel_rfl) (by kernel_rfl) (fun _ _ _ h => h) (Or.inl ⟨by rfl, ?_⟩) hHeld ?_
        · intro w hSw; go_simp
        simp only [List.setIfInBounds_toArray, List.set_cons_zero, List.set_cons_succ]
        refine take_at 15 58 (.int .i64 (i : Int)) rfl rfl (by kernel_rfl) (by kernel_rfl) (by kernel_rfl) (fun _ _ _ h => h) (Or.inl ⟨by rfl, ?_⟩) hHeld ?_
        · intro w hSw; go_simp
        simp only [List.setIfInBounds_toArray, List.set_cons_zero, List.set_cons_succ]
        refine take_at 16 59 (.pointer (some (ad.add i))) rfl rfl (by kernel_rfl) (by kernel_rfl) (by kernel_rfl) (fun _ _ _ h => h) (Or.inl ⟨by rfl, ?_⟩) hHeld ?_
        · intro w hSw; go_simp
        simp only [List.setIfInBounds_toArray, List.set_cons_zero, List.set_cons_succ]
        refine take_at 17 60 (.string (str s)) rfl rfl (by kernel_rfl) (by kernel_rfl) (by kernel_rfl) (fun _ _ _ h => h) (Or.inl ⟨by rfl, ?_⟩) hHeld ?_
        · intro w hSw; go_simp
        simp only [List.setIfInBounds_toArray, List.set_cons_zero, List.set_cons_succ]
        refine take_at 18 61 (.int .i64 (s.length : Int)) rfl rfl (by kernel_rfl) (by kernel_rfl) (by kernel_rfl) (fun _ _ _ h => h) (Or.inl ⟨by rfl, ?_⟩) hHeld ?_
        · intro w hSw; go_simp
        simp only [List.setIfInBounds_toArray, List.set_cons_zero, List.set_cons_succ]
        refine take_at 19 62 (.int .i64 (q : Int)) rfl rfl (by kernel_rfl) (by kernel_rfl) (by kernel_rfl) (fun _ _ _ h => h) (Or.inl ⟨by rfl, ?_⟩) hHeld ?_
        · intro w hSw; go_simp
        simp only [List.setIfInBounds_toArray, List.set_cons_zero, List.set_cons_succ]
        refine take_at 20 63 (.string (str (s.take q))) rfl rfl (by kernel_rfl) (by kernel_rfl) (by kernel_rfl) (fun _ _ _ h => h) (Or.inl ⟨by rfl, ?_⟩) hHeld ?_
        · intro w hSw; go_simp
        simp only [List.setIfInBounds_toArray, List.set_cons_zero, List.set_cons_succ]
        refine wpAnyH_ready (rs := [5]) (by kernel_rfl) (by simp) ?_
        refine AllReadyH.cons rfl (fun K hK => ?_) AllReadyH.nil
        go_simp
        refine (BY _).out.mono ?_
        rintro e wA ⟨rfl, cc⟩
        have gwA : wA.cell? (ad.add i) = some (.string (str s)) := (cc.cell (p := ad.add i) (World.block_lt_of_cell? _ _ hcell) (fun e => e)).trans hcell
        have CwA := Lib.hid ((Keep.refl _ wr).drew.trans cc)
        clear cc
        refine hK.out _ _ gwA (fun hHeld => ?_)
        clear hK K
        try simp only [List.setIfInBounds_toArray, List.set_cons_zero, List.set_cons_succ]
        refine take_at 9 52 (.string (str (B8.take pp))) rfl rfl (by kernel_rfl) (by kernel_rfl) (by kernel_rfl) (fun _ _ _ h => h) (Or.inl ⟨by rfl, ?_⟩) hHeld ?_
        · intro w hSw; go_simp
        simp only [List.setIfInBounds_toArray, List.set_cons_zero, List.set_cons_succ]
        refine take_at 21 64 (.string (str (B8.take pp ++ s.take q))) rfl rfl (by kernel_rfl) (by kernel_rfl) (by kernel_rfl) (fun _ _ _ h => h) (Or.inl ⟨by rfl, ?_⟩) hHeld ?_
        · intro w hSw; go_simp; omega
        simp only [List.setIfInBounds_toArray, List.set_cons_zero, List.set_cons_succ]
        refine wpAnyH_ready (rs := [22]) (by kernel_rfl) (by simp) ?_
        refine AllReadyH.cons rfl (fun K hK => ?_) AllReadyH.nil
        go_simp
        refine (RC _).out.mono ?_
        rintro e wB ⟨rfl, cc⟩
        have gwB : wB.cell? (ad.add i) = some (.string (str s)) := (cc.cell (p := ad.add i) (World.block_lt_of_cell? _ _ gwA) (fun e => e)).trans gwA
        have CwB := Lib.hid (CwA.out.trans cc)
        clear cc
        refine hK.out _ _ gwB (fun hHeld => ?_)
        clear hK K
        try simp only [List.setIfInBounds_toArray, List.set_cons_zero, List.set_cons_succ]
        refine take_at 23 66 (.string (str (X ++ PR))) rfl rfl (by kernel_rfl) (by kernel_rfl) (by kernel_rfl) (fun _ _ _ h => h) (Or.inl ⟨by rfl, ?_⟩) hHeld ?_
        · intro w hSw; go_simp; omega
        simp only [List.setIfInBounds_toArray, List.set_cons_zero, List.set_cons_succ]
        refine take_at 24 14 (.string (str (X ++ PR))) rfl rfl (by kernel_rfl) (by kernel_rfl) (by kernel_rfl) (fun _ _ _ h => h) (Or.inl ⟨by rfl, ?_⟩) hHeld ?_
        · intro w hSw; go_simp
        simp only [List.setIfInBounds_toArray, List.set_cons_zero, List.set_cons_succ]
        refine wpAnyH_done (by kernel_rfl) (NoPanic.normal ?_) _
        clear hHeld hcell hq' se ssz BY RC sa' ss'
        go_wp2_with fail
        go_roundw
        case rel => exact ⟨i + 1, X ++ PR, by omega, by omega, by go_num, rfl, by rw [List.length_append, hXl, hPl]; omega, HC.out.trans CwB.out⟩
        case measure => simp [intOf]; omega
      · have hcase : (¬ i < sa.length) ∨ (i < sa.length ∧ ¬ i < 2) := by omega
        clear hgo
        rcases hcase with hge | ⟨hlt, hge⟩
        all_goals
          go_wp2_with fail
          go_meet
          case rel => exact ⟨X, rfl, by omega, by omega, HC.out⟩
  case rest =>
    obtain ⟨X, rfl, hX1, hX2, hc3⟩ := hcut
    rename World => w3
    have C3 := Lib.hid hc3
    clear hc3 m1 hpp' 
    have BG := Lib.hid (begin_c 9 w3 (by omega))
    go_wp2_with fail
    refine BG.out.mono ?_
    rintro e w4 ⟨rfl, c4⟩
    have C4 := Lib.hid (C3.out.trans c4)
    clear c4 BG
    go_upto_block 2 with fail
    go_cut [16] (fun s wc => ∃ X : List UInt8, s = .string (str X) ∧ 512 ≤ X.length ∧ X.length ≤ 1536 ∧ Calm w1 wc)
    case first =>
      go_wp2_with fail
      go_loopw [16, 17] (fun vx vi wr => ∃ (i : Nat) (X : List UInt8), i ≤ 2 ∧ i ≤ sb.length ∧ vi = .int .i64 (i : Int) ∧ vx = .string (str X) ∧ X.length = 512 + 512 * i ∧ Calm w1 wr) (fun _ vi _ => 2 - (intOf vi).toNat)
      case atStart => exact ⟨0, begP 9, by omega, by omega, rfl, rfl, by rw [begP_len], C4.out⟩
      case round =>
        obtain ⟨i, X, hi2, hil, rfl, rfl, hXl, hcw⟩ := hrel
        have ii : (i : Int) ≤ 2 := by omega
        have HC := Lib.hid hcw
        clear hcw
        by_cases hgo : i < sb.length ∧ i < 2
        · obtain ⟨hlt, hlt2⟩ := hgo
          have i0 : (i : Int) < (sb.length : Int) := by omega
          have i1 : (i : Int) < 2 := by omega
          obtain ⟨ad, s, rfl, hsi, hsl, hadb, hcell⟩ := HVb.out.at_ (C1.out.trans HC.out) i hlt
          obtain ⟨q, hq, hq1, hq2, hq3⟩ := cut_len s.length 400
          have hq' : (if (400 : Int) < (s.length : Int) then (400 : Int) else (s.length : Int)) = (q : Int) := hq
          have se : (str s).extract 0 q = str (s.take q) := by rw [str_extract]; simp
          have ssz := str_size s
          have htl : (s.take q).length = q := by simp; omega
          unfold maxLen at hsl
          have qj : (q : Int) ≤ (s.length : Int) := by omega
          have qi : (q : Int) ≤ 400 := by omega
          obtain ⟨B8, hB8⟩ : ∃ B8, B8 = le 8 n3 := ⟨_, rfl⟩
          have l8 : B8.length = 8 := by rw [hB8, le_len]
          have BY := fun wx => r4bytes_c n3 wx (by omega)
          obtain ⟨PR, hPR⟩ : ∃ PR, PR = recP (10 + i) (B8 ++ s.take q) := ⟨_, rfl⟩
          have hlr : (B8 ++ s.take q).length ≤ 408 := by rw [List.length_append, htl, l8]; omega
          have hPl : PR.length = 512 := by rw [hPR, rec_len]; unfold secsOf; omega
          have RC := fun wx => record_c (10 + i) (B8 ++ s.take q) wx (by omega) (by omega)
          simp only [← hB8] at BY
          simp only [← hPR, show ((10 + i : Nat) : Int) = 10 + (i : Int) by omega] at RC
          have BY := fun wx => Lib.hid (BY wx)
          have RC := fun wx => Lib.hid (RC wx)
          have sa' := str_app
          have ss' := str_size
          clear hq hq3 hadb hsi hB8 hPR
          go_wp2_with fail
          refine wp_region_noPanic ?_
          refine wp_region_held_drew (S := fun wx => wx.cell? (ad.add i) = some (.string (str s))) (by kernel_rfl) hcell (fun hHeld => ?_)
          refine take_at 0 78 (.string (str X)) rfl rfl (by kernel_rfl) (by kernel_rfl) (by kernel_rfl) (fun _ _ _ h => h) (Or.inl ⟨by rfl, ?_⟩) hHeld ?_
          · intro w hSw; go_simp
          simp only [List.setIfInBounds_toArray, List.set_cons_zero, List.set_cons_succ]
          refine take_at 1 79 (.int .i64 (i : Int)) rfl rfl (by kernel_rfl) (by kernel_rfl) (by kernel_rfl) (fun _ _ _ h => h) (Or.inl ⟨by rfl, ?_⟩) hHeld ?_
          · intro w hSw; go_simp
          simp only [List.setIfInBounds_toArray, List.set_cons_zero, List.set_cons_succ]
          refine take_at 2 80 (.int .i64 (10 + (i : Int))) rfl rfl (by kernel_rfl) (by kernel_rfl) (by kernel_rfl) (fun _ _ _ h => h) (Or.inl ⟨by rfl, ?_⟩) hHeld ?_
          · intro w hSw; go_simp; first | done | rfl | (rw [IntKind.wrap_i64]; omega)
          simp only [List.setIfInBounds_toArray, List.set_cons_zero, List.set_cons_succ]
          refine take_at 3 81 (.int .u64 (10 + (i : Int))) rfl rfl (by kernel_rfl) (by kernel_rfl) (by kernel_rfl) (fun _ _ _ h => h) (Or.inl ⟨by rfl, ?_⟩) hHeld ?_
          · intro w hSw; go_simp; first | done | rfl | (rw [IntKind.wrap_u64]; omega)
          simp only [List.setIfInBounds_toArray, List.set_cons_zero, List.set_cons_succ]
          refine take_at 4 82 (.int .u64 (n3 : Int)) rfl rfl (by kernel_rfl) (by kernel_rfl) (by kernel_rfl) (fun _ _ _ h => h) (Or.inl ⟨by rfl, ?_⟩) hHeld ?_
          · intro w hSw; go_simp
          simp only [List.setIfInBounds_toArray, List.set_cons_zero, List.set_cons_succ]
          refine take_at 6 84 (.slice (some ad) sb.length capb) rfl rfl (by kernel_rfl) (by kernel_rfl) (by kernel_rfl) (fun _ _ _ h => h) (Or.inl ⟨by rfl, ?_⟩) hHeld ?_
          · intro w hSw; go_simp
          simp only [List.setIfInBounds_toArray, List.set_cons_zero, List.set_cons_succ]
          refine take_at 7 85 (.int .i64 (i : Int)) rfl rfl (by kernel_rfl) (by kernel_rfl) (by kernel_rfl) (fun _ _ _ h => h) (Or.inl ⟨by rfl, ?_⟩) hHeld ?_
          · intro w hSw; go_simp
          simp only [List.setIfInBounds_toArray, List.set_cons_zero, List.set_cons_succ]
          refine take_at 8 86 (.pointer (some (ad.add i))) rfl rfl (by kernel_rfl) (by kernel_rfl) (by kernel_rfl) (fun _ _ _ h => h) (Or.inl ⟨by rfl, ?_⟩) hHeld ?_
          · intro w hSw; go_simp
          simp only [List.setIfInBounds_toArray, List.set_cons_zero, List.set_cons_succ]
          refine take_at 9 87 (.string (str s)) rfl rfl (by kernel_rfl) (by kernel_rfl) (by kernel_rfl) (fun _ _ _ h => h) (Or.inl ⟨by rfl, ?_⟩) hHeld ?_
          · intro w hSw; go_simp
          simp only [List.setIfInBounds_toArray, List.set_cons_zero, List.set_cons_succ]
          refine take_at 10 88 (.slice (some ad) sb.length capb) rfl rfl (by kernel_rfl) (by kernel_rfl) (by kernel_rfl) (fun _ _ _ h => h) (Or.inl ⟨by rfl, ?_⟩) hHeld ?_
          · intro w hSw; go_simp
          simp only [List.setIfInBounds_toArray, List.set_cons_zero, List.set_cons_succ]
          refine take_at 11 89 (.int .i64 (i : Int)) rfl rfl (by kernel_rfl) (by kernel_rfl) (by kernel_rfl) (fun _ _ _ h => h) (Or.inl ⟨by rfl, ?_⟩) hHeld ?_
          · intro w hSw; go_simp
          simp only [List.setIfInBounds_toArray, List.set_cons_zero, List.set_cons_succ]
          refine take_at 12 90 (.pointer (some (ad.add i))) rfl rfl (by kernel_rfl) (by kernel_rfl) (by kernel_rfl) (fun _ _ _ h => h) (Or.inl ⟨by rfl, ?_⟩) hHeld ?_
          · intro w hSw; go_simp
          simp only [List.setIfInBounds_toArray, List.set_cons_zero, List.set_cons_succ]
          refine take_at 13 91 (.string (str s)) rfl rfl (by kernel_rfl) (by kernel_rfl) (by kernel_rfl) (fun _ _ _ h => h) (Or.inl ⟨by rfl, ?_⟩) hHeld ?_
          · intro w hSw; go_simp
          simp only [List.setIfInBounds_toArray, List.set_cons_zero, List.set_cons_succ]
          refine take_at 14 92 (.int .i64 (s.length : Int)) rfl rfl (by kernel_rfl) (by kernel_rfl) (by kernel_rfl) (fun _ _ _ h => h) (Or.inl ⟨by rfl, ?_⟩) hHeld ?_
          · intro w hSw; go_simp
          simp only [List.setIfInBounds_toArray, List.set_cons_zero, List.set_cons_succ]
          refine take_at 15 93 (.int .i64 (q : Int)) rfl rfl (by kernel_rfl) (by kernel_rfl) (by kernel_rfl) (fun _ _ _ h => h) (Or.inl ⟨by rfl, ?_⟩) hHeld ?_
          · intro w hSw; go_simp
          simp only [List.setIfInBounds_toArray, List.set_cons_zero, List.set_cons_succ]
          refine take_at 16 94 (.string (str (s.take q))) rfl rfl (by kernel_rfl) (by kernel_rfl) (by kernel_rfl) (fun _ _ _ h => h) (Or.inl ⟨by rfl, ?_⟩) hHeld ?_
          · intro w hSw; go_simp
          simp only [List.setIfInBounds_toArray, List.set_cons_zero, List.set_cons_succ]
          refine wpAnyH_ready (rs := [5]) (by kernel_rfl) (by simp) ?_
          refine AllReadyH.cons rfl (fun K hK => ?_) AllReadyH.nil
          go_simp
          refine (BY _).out.mono ?_
          rintro e wA ⟨rfl, cc⟩
          have gwA : wA.cell? (ad.add i) = some (.string (str s)) := (cc.cell (p := ad.add i) (World.block_lt_of_cell? _ _ hcell) (fun e => e)).trans hcell
          have CwA := Lib.hid ((Keep.refl _ wr).drew.trans cc)
          clear cc
          refine hK.out _ _ gwA (fun hHeld => ?_)
          clear hK K
          try simp only [List.setIfInBounds_toArray, List.set_cons_zero, List.set_cons_succ]
          refine take_at 17 95 (.string (str (B8 ++ s.take q))) rfl rfl (by kernel_rfl) (by kernel_rfl) (by kernel_rfl) (fun _ _ _ h => h) (Or.inl ⟨by rfl, ?_⟩) hHeld ?_
          · intro w hSw; go_simp; omega
          simp only [List.setIfInBounds_toArray, List.set_cons_zero, List.set_cons_succ]
          refine wpAnyH_ready (rs := [18]) (by kernel_rfl) (by simp) ?_
          refine AllReadyH.cons rfl (fun K hK => ?_) AllReadyH.nil
          go_simp
          refine (RC _).out.mono ?_
          rintro e wB ⟨rfl, cc⟩
          have gwB : wB.cell? (ad.add i) = some (.string (str s)) := (cc.cell (p := ad.add i) (World.block_lt_of_cell? _ _ gwA) (fun e => e)).trans gwA
          have CwB := Lib.hid (CwA.out.trans cc)
          clear cc
          refine hK.out _ _ gwB (fun hHeld => ?_)
          clear hK K
          try simp only [List.setIfInBounds_toArray, List.set_cons_zero, List.set_cons_succ]
          refine take_at 19 97 (.string (str (X ++ PR))) rfl rfl (by kernel_rfl) (by kernel_rfl) (by kernel_rfl) (fun _ _ _ h => h) (Or.inl ⟨by rfl, ?_⟩) hHeld ?_
          · intro w hSw; go_simp; omega
          simp only [List.setIfInBounds_toArray, List.set_cons_zero, List.set_cons_succ]
          refine take_at 20 16 (.string (str (X ++ PR))) rfl rfl (by kernel_rfl) (by kernel_rfl) (by kernel_rfl) (fun _ _ _ h => h) (Or.inl ⟨by rfl, ?_⟩) hHeld ?_
          · intro w hSw; go_simp
          simp only [List.setIfInBounds_toArray, List.set_cons_zero, List.set_cons_succ]
          refine wpAnyH_done (by kernel_rfl) (NoPanic.normal ?_) _
          clear hHeld hcell hq' se ssz BY RC sa' ss'
          go_wp2_with fail
          go_roundw
          case rel => exact ⟨i + 1, X ++ PR, by omega, by omega, by go_num, rfl, by rw [List.length_append, hXl, hPl]; omega, HC.out.trans CwB.out⟩
          case measure => simp [intOf]; omega
        · have hcase : (¬ i < sb.length) ∨ (i < sb.length ∧ ¬ i < 2) := by omega
          clear hgo
          rcases hcase with hge | ⟨hlt, hge⟩
          all_goals
            go_wp2_with fail
            go_meet
            case rel => exact ⟨X, rfl, by omega, by omega, HC.out⟩
    case rest =>
      obtain ⟨Y, rfl, hY1, hY2, hc5⟩ := hcut
      rename World => w5
      have C5 := Lib.hid hc5
      clear hc5
      obtain ⟨cx, W1, qc1, b1, k1⟩ := buf_conv w5 X (by omega)
      obtain ⟨nz, hnz⟩ : ∃ nz : Nat, nz = 2048 - X.length := ⟨_, rfl⟩
      have hnz' : (2048 : Int) - (X.length : Int) = (nz : Int) := by omega
      obtain ⟨g2, cap2, W2, qa1, b2, k2, o2⟩ := buf_zeros b1 31 nz (by omega) (by omega) (by omega)
      have l2 : (X ++ List.replicate nz (0 : UInt8)).length = 2048 := by rw [List.length_append, List.length_replicate]; omega
      rw [show X.length + nz = 2048 by omega] at qa1
      have ssX := str_size X
      have hg2 : w5.heap.size ≤ g2 := by have := k1.size; omega
      have D2 : Hid (Calm w5 W2) := Lib.hid (k1.then_ k2 (fun k hk e => by omega))
      have B2 := Lib.hid b2
      have HL2 := Lib.hid l2
      have inz : (nz : Int) ≤ 2048 := by omega
      clear b1 k1 b2 k2 o2 hnz
      go_upto_region 13 with (at_builtin; go_loud (refine Lib.wpList_append_run _ rfl (.tmp 99) (.tmp 102) 31 3 rfl _ _ rfl rfl _ _ qa1 ?_))
      clear qc1 qa1 hnz' ssX inz
      generalize X ++ List.replicate nz (0 : UInt8) = X2 at B2 HL2
      obtain ⟨cy, W3, qc3, b3, k3⟩ := buf_conv W2 Y (by omega)
      obtain ⟨g4, cap4, W4, qa3, b4, k4, o4⟩ := buf_append (B2.out.keep k3 (fun e => e)) 31 W2.heap.size cy b3.cs (by omega) (by rw [HL2.out]; omega)
      rw [HL2.out] at qa3
      have hg4 : w5.heap.size ≤ g4 := by have := D2.out.size; have := k3.size; omega
      have D4 : Hid (Calm w5 W4) := Lib.hid ((D2.out.trans k3).then_ k4 (fun k hk e => by omega))
      have l4 : (X2 ++ Y).length = 2048 + Y.length := by rw [List.length_append, HL2.out]
      have B4 := Lib.hid b4
      have HL4 := Lib.hid l4
      clear b3 k3 b4 k4 o4 l4
      go_upto_region 14 with (at_builtin; go_loud (refine Lib.wpList_append_run _ rfl (.tmp 104) (.tmp 106) 31 31 rfl _ _ rfl rfl _ _ qa3 ?_))
      clear qc3 qa3
      generalize X2 ++ Y = X4 at B4 HL4
      obtain ⟨nz2, hnz2⟩ : ∃ nz2 : Nat, nz2 = 2048 - Y.length := ⟨_, rfl⟩
      obtain ⟨yl, hyl⟩ : ∃ yl : Nat, yl = 2048 + Y.length := ⟨_, rfl⟩
      rw [← hyl] at HL4 ⊢
      have hnz2' : (4096 : Int) - (yl : Int) = (nz2 : Int) := by omega
      obtain ⟨g5, cap5, W5, qa5, b5, k5, o5⟩ := buf_zeros B4.out 31 nz2 (by omega) (by omega) (by rw [HL4.out]; omega)
      rw [HL4.out, show yl + nz2 = 4096 by omega] at qa5
      have hg5 : w5.heap.size ≤ g5 := by have := D4.out.size; omega
      have D5 : Hid (Calm w5 W5) := Lib.hid (D4.out.then_ k5 (fun k hk e => by omega))
      have l5 : (X4 ++ List.replicate nz2 (0 : UInt8)).length = 4096 := by rw [List.length_append, List.length_replicate, HL4.out]; omega
      have b5l := b5.lt
      have b5c := b5.le
      have b5m := b5.mx
      rw [l5] at b5c
      unfold maxLen at b5m
      have hcs := b5.cs
      generalize hBd : X4 ++ List.replicate nz2 (0 : UInt8) = B0 at *
      have iyl : (yl : Int) ≤ 4096 := by omega
      have inz2 : (nz2 : Int) ≤ 2048 := by omega
      have HYL := Lib.hid hyl
      clear b5 k5 o5 hBd hnz2 hyl
      go_upto_region 15 with (at_builtin; go_loud (refine Lib.wpList_append_run _ rfl (.tmp 108) (.tmp 111) 31 3 rfl _ _ rfl rfl _ _ qa5 ?_))
      clear qa5 hnz2' iyl inz2 B2 B4 D2 D4 HL2 HL4 hg2 hg4
      obtain ⟨hr2, m2⟩ := M2.out
      obtain ⟨k, hk, hk'⟩ : ∃ k : Nat, k < 4096 ∧ (r2 : Int) % 4096 = (k : Int) := ⟨r2 % 4096, by omega, by omega⟩
      obtain ⟨x, hx⟩ := u8_xor (B0[k]'(by omega)) TN
      have hck := hcs k (B0[k]'(by omega)) (List.getElem?_eq_getElem (by omega))
      have hcell := hck.1
      have hfroz := hck.2
      unfold bv at hcell
      obtain ⟨w6, hw6⟩ : ∃ w6 : World, w6 = W5.setCell ⟨g5, k, none⟩ (.int .u8 (x.toNat : Int)) := ⟨_, rfl⟩
      have HB1 : Hid (Cs w6 g5 (B0.set k x)) := Lib.hid (by rw [hw6]; exact hcs.set k (by omega) x)
      have hlB : (B0.set k x).length = 4096 := by simp [l5]
      have HC6 : Hid (Calm w1 w6) := Lib.hid (by rw [hw6]; exact (C5.out.trans D5.out).store (p := ⟨g5, k, none⟩) (fun e => absurd e (by show ¬ g5 < _; have := C5.out.size; omega)) _)
      have hg3 : Hid (g5 < w6.heap.size) := Lib.hid (by rw [hw6]; simpa using b5l)
      have HCM := Lib.hid b5m
      generalize B0[k]'(by omega) = bk at *
      have icap : (4096 : Int) ≤ (cap5 : Int) := by omega
      have ik : (k : Int) < 4096 := by omega
      have ir2 : (r2 : Int) < 16777216 := by omega
      clear hcs hck b5m
      go_upto_region 17 with fail
      rw [← hw6]
      clear hw6 hcell hfroz hx m2 ik hk' ir2
      have HK := Lib.hid hlB
      generalize B0.set k x = B at *
      have T6 := Lib.hid (T1.out.calm HC6.out)
      have N := Lib.hid (new_up w6 8 (by omega) (by omega))
      clear hlB HT HVa HVb C5 D5 T1 C3 C4 C2
      go_wp2_with fail
      refine N.out.mono ?_
      rintro e w7 ⟨R7, d, S7, rfl, s7, u7, sh7, e7, o7, c7⟩
      have H7 := Lib.hid (And.intro s7 (And.intro u7 (And.intro sh7 (And.intro o7 e7))))
      clear s7 u7 sh7 o7 e7 c7 N
      go_upto_block 4 with fail
      go_cut [] (fun wc => ∃ (Rr : Nat → Prop) (Sr : DS), Sd w6 wc Rr d Sr ∧ Sr.Up ∧ Sr.Shows 8 (wrote B 8) ∧ Sr.ops = 8 ∧ Sr.wait.length = 8)
      case first =>
        go_wp2_with fail
        go_loopw [22] (fun v22 wr => ∃ (j : Nat) (Rr : Nat → Prop) (Sr : DS), j ≤ 8 ∧ v22 = .int .i64 (j : Int) ∧ Sd w6 wr Rr d Sr ∧ Sr.Up ∧ Sr.Shows 8 (wrote B j) ∧ Sr.ops = j ∧ Sr.wait.length = j) (fun v22 _ => 8 - (intOf v22).toNat)
        case atStart => exact ⟨0, R7, S7, by omega, rfl, H7.out.1, H7.out.2.1, H7.out.2.2.1.congr (fun i _ => by simp [wrote]), H7.out.2.2.2.1, by rw [H7.out.2.2.2.2]; rfl⟩
        case round =>
          obtain ⟨j, Rr, Sr, hj, rfl, hs, hu, hsh, ho, hwl⟩ := hrel
          by_cases hlt : j < 8
          · have i0 : (j : Int) < 8 := by omega
            have CB : Hid (∀ cc, Bytes wr (fun k => ¬ Rr k) (.slice (some ⟨g5, 512 * j, none⟩) 512 cc) (secAt B j)) := Lib.hid (fun cc => (HB1.out.keep hs.st.calm (fun e => e) hg3.out).bytes (fun e => absurd (hs.st.new g5 e) (by have := hg3.out; omega)) (Nat.lt_of_lt_of_le hg3.out hs.st.calm.size) (512 * j) 512 cc (by have := HK.out; omega))
            have HW := Lib.hid (fun v hb => write_up hs hu hsh (by unfold DS.fine; omega) j hlt v (secAt B j) hb (secAt_len B j (by have := HK.out; omega)))
            have HO := Lib.hid (And.intro ho hwl)
            clear hs hu hsh ho hwl
            go_wp2_with fail
            refine (HW.out _ (CB.out _)).mono ?_
            rintro e w5 ⟨R5, S5, rfl, s5, u5, sh5, o5, l5, x5, k5⟩
            have H5 := Lib.hid (And.intro s5 (And.intro u5 (And.intro sh5 (And.intro o5 l5))))
            clear s5 u5 sh5 o5 l5 x5 k5 HW CB
            go_wp2_with fail
            go_roundw
            case rel =>
              obtain ⟨s5, u5, sh5, o5, l5⟩ := H5.out
              exact ⟨j + 1, R5, S5, by omega, by go_num, s5, u5, sh5.congr (fun i _ => wrote_upd B j i), by have := HO.out; omega, by have := HO.out; omega⟩
            case measure => simp [intOf]; omega
          · obtain rfl : j = 8 := by omega
            have HS := Lib.hid (And.intro hs (And.intro hu hsh))
            clear hs hu hsh
            go_wp2_with fail
            go_meet
            case rel => exact ⟨Rr, Sr, HS.out.1, HS.out.2.1, HS.out.2.2, ho, hwl⟩
      case rest =>
        obtain ⟨Rr, Sr, hs, hu, hsh, ho, hwl⟩ := hcut
        have har : areaC (wrote B 8) 0 8 = B := by rw [areaC_congr (c' := fun i => secAt B (i - 0)) (fun i _ h => by unfold wrote; rw [if_pos (by omega)]; rfl)]; exact areaC_secs B 0 8 (by rw [HK.out])
        have hlw : ∀ i, i < 8 → (wrote B 8 i).length = 512 := fun i hi => by unfold wrote; rw [if_pos hi]; exact secAt_len B i (by have := HK.out; omega)
        have e04 : areaC (wrote B 8) 0 4 ++ areaC (wrote B 8) 4 4 = B := (areaC_add (wrote B 8) 0 4 4).symm.trans har
        have l04 : (areaC (wrote B 8) 0 4).length = 2048 := areaC_len (fun i _ h2 => hlw i (by omega))
        have hA : Hid (areaC (wrote B 8) 0 4 = B.take 2048) := Lib.hid ((List.take_left' l04).symm.trans (congrArg (List.take 2048) e04))
        have hB : Hid (areaC (wrote B 8) 4 4 = B.drop 2048) := Lib.hid ((List.drop_left' l04).symm.trans (congrArg (List.drop 2048) e04))
        have OP := Lib.hid (sopen_c (h := 4) T6.out hs hsh.1 (by omega) rfl (by unfold DS.fine; omega))
        have HU := Lib.hid (And.intro hu hsh)
        clear hs hu hsh ho hwl har e04 l04 hlw
        go_wp2_with fail
        refine OP.out.mono ?_
        rintro e w8 ⟨R8, S8, x8, k8, s8, hcase⟩
        have qv : Sem.run Tryd.prog (convert 31 9 (.slice (some ⟨g5, 0, none⟩) 4096 cap5)) w8 = .ok (.string (str B)) w8 := by
          have h8 := (HB1.out.keep s8.st.calm (fun e => e) hg3.out).rd 0 4096 cap5 (by rw [HK.out]; omega) (by omega) (by unfold maxLen; exact HCM.out)
          rw [List.drop_zero, List.take_of_length_le (by rw [HK.out]; omega)] at h8
          exact conv_rd h8
        have KP := Lib.hid (r4kept_c B w8 HK.out)
        have C8 := Lib.hid s8.st.calm
        have hA0 : areaB Sr (0 * 4) 4 = B.take 2048 := by rw [Nat.zero_mul, HU.out.2.area 0 4 (by omega)]; exact hA.out
        have hB0 : ∀ q, areaB (Sr.more q) (1 * 4) 4 = B.drop 2048 := fun q => by rw [areaB_more', Nat.one_mul, HU.out.2.area 4 4 (by omega)]; exact hB.out
        have hcs : (((replay (B.take 2048) = none ∨ replay (B.drop 2048) = none) ∧ e = .returned (.tuple #[.pointer none, .int .i64 2]))) ∨ ∃ o1 n1 u1 o2 n2 u2 sb2 ja jb T2 J0 J1, replay (B.take 2048) = some (o1, n1, u1) ∧ replay (B.drop 2048) = some (o2, n2, u2) ∧ e = .returned (.tuple #[.pointer (some ⟨sb2, 0, none⟩), .int .i64 0]) ∧ Sto w6 w8 R8 T2 d sb2 S8 ⟨4, ja, jb, J0, J1, chooseO (thingO 0 o1) (thingO 1 o2)⟩ := by
          have hu := HU.out.1
          rcases hcase with ⟨cc, ⟨k, hk2, ⟨a1, _⟩ | ⟨a1, a2, rfl⟩⟩, rfl⟩ | ⟨Sa, J, out, cc, ⟨k, n', used, b1, b2, b3, b4, b5⟩, ⟨k2, hk2, ⟨a1, _⟩ | ⟨a1, a2, rfl⟩⟩, rfl⟩ | ⟨Sa, J0, out0, J1, out1, sb2, ja, jb, T2, ⟨k0, n0', used0, b1, b2, b3, -⟩, ⟨k1, n1', used1, c1, c2, c3, -⟩, rfl, ht, hst⟩
          · rw [hu.rds] at a1; cases a1
          · rw [hA0] at a2; exact .inl ⟨.inl a2, rfl⟩
          · rw [hu.rds] at b2
            injection b2 with _ b2
            subst b2
            rw [(hu.more k).rds] at a1; cases a1
          · rw [hu.rds] at b2
            injection b2 with _ b2
            subst b2
            rw [hB0] at a2; exact .inl ⟨.inr a2, rfl⟩
          · rw [hu.rds] at b2
            injection b2 with _ b2
            subst b2
            rw [hA0] at b3
            rw [hB0] at c3
            exact .inr ⟨out0, n0', used0, out1, n1', used1, sb2, ja, jb, T2, J0, J1, b3, c3, rfl, hst⟩
        clear OP x8 k8 s8 hcase hA0 hB0 hA hB
        rcases hcs with ⟨hno, rfl⟩ | ⟨o1, n1, u1, o2, n2', u2, sb2, ja, jb, T2, J0, J1, y1, y2, rfl, hst⟩
        · have HNO := Lib.hid hno
          clear hno
          go_wp2_with fail
          refine KP.out.mono ?_
          rintro e w9 ⟨⟨-, rfl⟩ | ⟨o1, n1, u1, o2, n2', u2, z1, z2, -⟩, c9⟩
          rotate_left
          · rcases HNO.out with h | h
            · rw [h] at z1; cases z1
            · rw [h] at z2; cases z2
          have C9 := Lib.hid c9
          clear KP c9 qv
          go_wp2_with fail
          go_ret
          exact ⟨rfl, C1.out.trans (HC6.out.trans (C8.out.trans C9.out))⟩
        · have HY := Lib.hid (And.intro y1 y2)
          have HST := Lib.hid hst
          clear y1 y2 hst
          go_wp2_with fail
          refine KP.out.mono ?_
          rintro e w9 ⟨⟨hno, -⟩ | ⟨o1', n1'', u1', o2', n2'', u2', z1, z2, hk⟩, c9⟩
          · rcases hno with h | h
            · rw [HY.out.1] at h; cases h
            · rw [HY.out.2] at h; cases h
          rw [HY.out.1] at z1
          rw [HY.out.2] at z2
          injection z1 with z1
          injection z1 with z1 _
          injection z2 with z2
          injection z2 with z2 _
          subst z1; subst z2
          have HS9 := Lib.hid (HST.out.rest c9)
          have C9 := Lib.hid c9
          clear KP c9 qv
          rcases hk with ⟨hk, rfl⟩ | ⟨y, kk, dd, hy, hk, rfl⟩
          · have LD := Lib.hid (sload_none HS9.out.sm hk)
            clear hk
            go_wp2_with fail
            refine LD.out.mono ?_
            rintro e w10 ⟨rfl, rfl⟩
            clear LD
            go_wp2_with fail
            go_ret
            exact ⟨rfl, C1.out.trans (HC6.out.trans (C8.out.trans C9.out))⟩
          · have hdl : dd.length ≤ 1000000000 := by
              have hb1 : ∀ b l, o1 = b :: l → b.length ≤ 4096 := fun b l e => by
                have := HY.out.1
                rw [e] at this
                have := first_len this
                rw [List.length_take] at this
                omega
              have hb2 : ∀ b l, o2 = b :: l → b.length ≤ 4096 := fun b l e => by
                have := HY.out.2
                rw [e] at this
                have := first_len this
                rw [List.length_drop, HK.out] at this
                omega
              have ht : ∀ (o : List (List UInt8)) (z kz : Nat) (dz : List UInt8) (yz : Nat), (∀ b l, o = b :: l → b.length ≤ 4096) → thingO yz o = some (z, kz, dz) → dz.length ≤ 4096 := fun o z kz dz yz hb h => by
                unfold thingO at h
                split at h
                · cases h
                · rename_i b l
                  split at h
                  · cases h
                  · split at h
                    · cases h
                    · injection h with h
                      injection h with _ h
                      injection h with _ h
                      subst h
                      have := hb b l rfl
                      rw [List.length_drop]
                      omega
              have hch : thingO 0 o1 = some (y, kk, dd) ∨ thingO 1 o2 = some (y, kk, dd) := by
                unfold chooseO at hk
                split at hk
                · exact .inl hk
                · rename_i e2
                  split at hk
                  · right; rw [e2]; exact hk
                  · rename_i e1
                    split at hk
                    · right; rw [e2]; exact hk
                    · left; rw [e1]; exact hk
              rcases hch with h | h
              · have := ht o1 _ _ _ _ hb1 h; omega
              · have := ht o2 _ _ _ _ hb2 h; omega
            have LD := Lib.hid (sload_some HS9.out.sm hk hdl)
            have iy : ¬ (y : Int) < 0 := by omega
            have iy2 : decide ((y : Int) < 0) = false := decide_eq_false iy
            clear hk hdl
            go_wp2_with fail
            refine LD.out.mono ?_
            rintro e w10 ⟨A10, c10, rfl, o10, k10⟩
            have q10 := conv_rd (o10.any).choose_spec.choose_spec.2
            have C10 := Lib.hid k10
            clear LD o10 k10
            go_wp2_with fail
            go_ret
            exact ⟨rfl, C1.out.trans (HC6.out.trans (C8.out.trans (C9.out.trans C10.out)))⟩
end Go.Proofs.YtfigiofiakkbdaaDoor
