/-
  JournalReads, walked.
-/
import Derived.Test.YtglfmhheepgneaaDoorJC4
import Derived.Test.YtglfmhheepgneaaDoorLApp
import Derived.Test.YtglfmhheepgneaaDoorJRef5
namespace Go.Proofs.YtglfmhheepgneaaDoor
open Go.RowKit
set_option linter.all false

theorem u8_xor (a b : UInt8) : ∃ x : UInt8, bits .xor .u8 (a.toNat : Int) (b.toNat : Int) = (x.toNat : Int) := by
  have ha := u8_lt a
  have hb := u8_lt b
  refine ⟨UInt8.ofNat (a.toNat ^^^ b.toNat), ?_⟩
  have hx : a.toNat ^^^ b.toNat < 256 := Nat.xor_lt_two_pow (n := 8) ha hb
  rw [UInt8.toNat_ofNat', Nat.mod_eq_of_lt hx]
  exact Go.u8_xor_nat _ _ ha hb
/-- A bound of the first number. -/
def bigF : Nat := 4611686018427387920
/-- So many sectors are written. -/
def wrote (B : List UInt8) (j i : Nat) : List UInt8 := if i < j then secAt B i else full 0
theorem wrote_upd (B : List UInt8) (j i : Nat) : upd (wrote B j) j (secAt B j) i = wrote B (j + 1) i := by
  unfold upd wrote
  by_cases h : j = i
  · subst h; rw [if_pos rfl, if_pos (by omega)]
  · rw [if_neg h]
    by_cases h2 : i < j
    · rw [if_pos h2, if_pos (by omega)]
    · rw [if_neg h2, if_neg (by omega)]
theorem rec_len_le (n : Nat) (b : List UInt8) (h : b.length ≤ 600) : (recP n b).length ≤ 1024 := by rw [rec_len]; unfold secsOf; omega
theorem Strs.at_ {w : World} {base : Nat} {A : Option Addr} {n c : Nat} {out : List (List UInt8)} (h : Strs w base (.slice A n c) out) (i : Nat) (b : List UInt8) (hi : out[i]? = some b) : ∃ g, A = some ⟨g, 0, none⟩ ∧ w.cell? ⟨g, i, none⟩ = some (.string (str b)) := by
  have hlt : i < out.length := (List.getElem?_eq_some_iff.1 hi).1
  rcases h.2 with ⟨e, h0⟩ | ⟨g, cap, cur, e, _⟩
  · omega
  · injection e with e1 _ _
    refine ⟨g, e1, ?_⟩
    have := World.ownsRow.cells h (g := g) (by rw [e1]; rfl) i (sv b) (by simp [hi])
    rwa [addr_mid, Nat.zero_add] at this

theorem w64_small (r : Nat) (h : r < 8) : wrap64 (1 + (r : Int)) = 1 + (r : Int) := by unfold wrap64; omega
theorem Cs.bytes {w : World} {g : Nat} {bs : List UInt8} {Q : Nat → Prop} (h : Cs w g bs) (hQ : Q g) (hg : g < w.heap.size) (o n cap : Nat) (ho : o + n ≤ bs.length) : Bytes w Q (.slice (some ⟨g, o, none⟩) n cap) ((bs.drop o).take n) := by
  have hl : ((bs.drop o).take n).length = n := by simp; omega
  refine ⟨_, cap, by rw [hl], fun i b hi => ⟨_, rfl, hQ, hg, ?_⟩⟩
  rw [addr_mid]
  rw [List.getElem?_take, List.getElem?_drop] at hi
  split at hi
  · exact (h _ b hi).1
  · simp at hi

set_option maxRecDepth 100000 in
set_option maxHeartbeats 8000000 in
theorem reads_c (w : World) (hT : Tab w) (v0 : Value) (raw : List UInt8) (h0 : Rd w v0 raw) (v1 : Value) (ss : List (List UInt8)) (hv : Strv w v1 ss) (a2 : Int) (tn : Nat) (htn : tn < 256) :
    Calls Tryd.prog 4 #[v0, v1, .int .i64 a2, .int .u8 (tn : Int)] w fun e w' => e = .returned (.bool true) ∧ Calm w w' := by
  obtain ⟨r0, b0, m0⟩ := mask_nat a2 3 7 (by omega) (by decide)
  obtain ⟨r1, b1, m1⟩ := mask_nat a2 24 16777215 (by omega) (by decide)
  obtain ⟨A, cap, rfl, hml⟩ := hv.form
  obtain ⟨A0, cap0, rfl, hc0, hm0⟩ := h0.form
  unfold maxLen at hml hm0
  have SH := Lib.hid (shown_c w hT)
  have HT := Lib.hid hT
  have HV := Lib.hid hv
  have H0 := Lib.hid h0
  have b0' : (r0 : Int) < 8 := by omega
  have b1' : (r1 : Int) < 16777216 := by omega
  have M1 := Lib.hid m1
  have HTN := Lib.hid htn
  clear htn
  have b0n : r0 < 8 := by omega
  have b1n : r1 < 16777216 := by omega
  have B0N := Lib.hid b0n
  have B1N := Lib.hid b1n
  have HML := Lib.hid hml
  have HC0 := Lib.hid hc0
  have HM0 := Lib.hid hm0
  clear hT hv h0 m1 b0 b1 b0n b1n hml hc0 hm0 b0' b1'
  go_enter Tryd.func4, Tryd.ntmps4
  go_wp2_with fail
  refine SH.out.mono ?_
  rintro e w1 ⟨rfl, c1⟩
  have C1 := Lib.hid c1
  have T1 := Lib.hid (HT.out.calm c1)
  clear c1 SH
  go_upto_if 32 with fail
  go_cut [10] (fun s10 wc => ∃ F : Nat, s10 = .int .u64 (F : Int) ∧ F ≤ bigF ∧ w1 = wc)
  case first =>
    by_cases ht : (tn : Int) = 255
    · have t1 : ((tn : Int) == 255) = true := by rw [beq_iff_eq]; exact ht
      clear ht
      have xw := w64_small r0 B0N.out
      have x1 : IntKind.u64.wrap (1 + (r0 : Int)) = 1 + (r0 : Int) := by have := B0N.out; rw [IntKind.wrap_u64]; omega
      obtain ⟨G, hG, x2⟩ : ∃ G : Nat, G = 1 + r0 + 4611686018427387904 ∧ IntKind.u64.wrap (1 + (r0 : Int) + 4611686018427387904) = (G : Int) := ⟨_, rfl, by have := B0N.out; rw [IntKind.wrap_u64]; omega⟩
      obtain ⟨G2, hG2, x3⟩ : ∃ G2 : Nat, G2 + 6 = 1 + r0 + 4611686018427387904 ∧ IntKind.u64.wrap ((G : Int) - 6) = (G2 : Int) := ⟨1 + r0 + 4611686018427387904 - 6, by omega, by have := B0N.out; rw [IntKind.wrap_u64]; omega⟩
      have HG2 := Lib.hid hG2
      have XX := Lib.hid (And.intro xw (And.intro x1 (And.intro x2 x3)))
      clear hG hG2 xw x1 x2 x3
      go_wp2_with fail
      go_meet
      case rel => exact ⟨G2, by rw [XX.out.1, XX.out.2.1, XX.out.2.2.1, XX.out.2.2.2], by have := HG2.out; have := B0N.out; unfold bigF; omega, rfl⟩
    · have t1 : ((tn : Int) == 255) = false := by rw [beq_eq_false_iff_ne]; exact ht
      clear ht
      go_wp2_with fail
      go_meet
      case rel => exact ⟨1 + r0, by rw [w64_small r0 B0N.out, IntKind.wrap_u64]; have := B0N.out; congr 1; omega, by have := B0N.out; unfold bigF; omega, rfl⟩
  case rest =>
    obtain ⟨F, rfl, hF, rfl⟩ := hcut
    clear m0
    have HF := Lib.hid hF
    clear hF
    have BG := Lib.hid (begin_c F w1 (by have := HF.out; unfold bigF at this; omega))
    go_wp2_with fail
    refine BG.out.mono ?_
    rintro e w2 ⟨rfl, c2⟩
    have C2 := Lib.hid c2
    clear c2 BG
    go_upto_block 0 with fail
    go_cut [11] (fun s11 wc => ∃ X : List UInt8, s11 = .string (str X) ∧ X.length ≤ 5000 ∧ Calm w1 wc)
    case first =>
      go_wp2_with fail
      go_loopw [11, 12] (fun v11 v12 wr => ∃ (i : Nat) (X : List UInt8), i ≤ 4 ∧ i ≤ ss.length ∧ v12 = .int .i64 (i : Int) ∧ v11 = .string (str X) ∧ X.length ≤ 512 + 1024 * i ∧ Calm w1 wr) (fun _ v12 _ => 4 - (intOf v12).toNat)
      case atStart => exact ⟨0, begP F, by omega, by omega, rfl, rfl, by rw [begP_len]; omega, C2.out⟩
      case round =>
        obtain ⟨i, X, hi4, hil, rfl, rfl, hXl, hcw⟩ := hrel
        have ii : (i : Int) ≤ 4 := by omega
        have HC := Lib.hid hcw
        clear hcw
        by_cases hgo : i < ss.length ∧ i < 4
        · obtain ⟨hlt, hlt4⟩ := hgo
          have i0 : (i : Int) < (ss.length : Int) := by omega
          have i1 : (i : Int) < 4 := by omega
          obtain ⟨ad, s, rfl, hsi, hsl, hadb, hcell⟩ := HV.out.at_ (C1.out.trans HC.out) i hlt
          obtain ⟨q, hq, hq1, hq2, hq3⟩ := cut_len s.length 600
          have hq' : (if (600 : Int) < (s.length : Int) then (600 : Int) else (s.length : Int)) = (q : Int) := hq
          have se : (str s).extract 0 q = str (s.take q) := by rw [str_extract]; simp
          have ssz := str_size s
          have htl : (s.take q).length = q := by simp; omega
          unfold maxLen at hsl
          have qi : (q : Int) ≤ 600 := by omega
          have qj : (q : Int) ≤ (s.length : Int) := by omega
          have RC := record_c (F + 1 + i) (s.take q) wr.drew (by have := HF.out; unfold bigF at this; omega) (by omega)
          rw [show ((F + 1 + i : Nat) : Int) = (F : Int) + 1 + (i : Int) by omega] at RC
          have HRC := Lib.hid RC
          have HRl := Lib.hid (rec_len_le (F + 1 + i) (s.take q) (by omega))
          have wf1 : IntKind.u64.wrap ((F : Int) + 1) = (F : Int) + 1 := by have := HF.out; unfold bigF at this; rw [IntKind.wrap_u64]; omega
          have wf2 : IntKind.u64.wrap ((F : Int) + 1 + (i : Int)) = (F : Int) + 1 + (i : Int) := by have := HF.out; unfold bigF at this; rw [IntKind.wrap_u64]; omega
          have wf3 : IntKind.u64.wrap (i : Int) = (i : Int) := by rw [IntKind.wrap_u64]; omega
          have sa := str_app X (recP (F + 1 + i) (s.take q))
          generalize recP (F + 1 + i) (s.take q) = Pc at *
          have D5 : Hid (Calm w1 wr.drew) := Lib.hid HC.out.drew
          clear hq hq3 hq2 hsi hadb htl RC
          go_upto_region 9 with fail
          refine wp_region_noPanic ?_
          refine wp_region_held_drew (S := fun wx => wx.cell? (ad.add i) = some (.string (str s))) (by kernel_rfl) hcell (fun hHeld => ?_)
          refine take_at 0 48 (.string (str X)) rfl rfl (by kernel_rfl) (by kernel_rfl) (by kernel_rfl) (fun _ _ _ h => h) (Or.inl ⟨by rfl, ?_⟩) hHeld ?_
          · intro w hSw; go_simp
          simp only [List.setIfInBounds_toArray, List.set_cons_zero, List.set_cons_succ]
          refine take_at 1 49 (.int .u64 (F : Int)) rfl rfl (by kernel_rfl) (by kernel_rfl) (by kernel_rfl) (fun _ _ _ h => h) (Or.inl ⟨by rfl, ?_⟩) hHeld ?_
          · intro w hSw; go_simp
          simp only [List.setIfInBounds_toArray, List.set_cons_zero, List.set_cons_succ]
          refine take_at 2 50 (.int .u64 ((F : Int) + 1)) rfl rfl (by kernel_rfl) (by kernel_rfl) (by kernel_rfl) (fun _ _ _ h => h) (Or.inl ⟨by rfl, ?_⟩) hHeld ?_
          · intro w hSw; go_simp
          simp only [List.setIfInBounds_toArray, List.set_cons_zero, List.set_cons_succ]
          refine take_at 3 51 (.int .i64 (i : Int)) rfl rfl (by kernel_rfl) (by kernel_rfl) (by kernel_rfl) (fun _ _ _ h => h) (Or.inl ⟨by rfl, ?_⟩) hHeld ?_
          · intro w hSw; go_simp
          simp only [List.setIfInBounds_toArray, List.set_cons_zero, List.set_cons_succ]
          refine take_at 4 52 (.int .u64 (i : Int)) rfl rfl (by kernel_rfl) (by kernel_rfl) (by kernel_rfl) (fun _ _ _ h => h) (Or.inl ⟨by rfl, ?_⟩) hHeld ?_
          · intro w hSw; go_simp
          simp only [List.setIfInBounds_toArray, List.set_cons_zero, List.set_cons_succ]
          refine take_at 5 53 (.int .u64 ((F : Int) + 1 + (i : Int))) rfl rfl (by kernel_rfl) (by kernel_rfl) (by kernel_rfl) (fun _ _ _ h => h) (Or.inl ⟨by rfl, ?_⟩) hHeld ?_
          · intro w hSw; go_simp
          simp only [List.setIfInBounds_toArray, List.set_cons_zero, List.set_cons_succ]
          refine take_at 6 54 (.slice (some ad) ss.length cap) rfl rfl (by kernel_rfl) (by kernel_rfl) (by kernel_rfl) (fun _ _ _ h => h) (Or.inl ⟨by rfl, ?_⟩) hHeld ?_
          · intro w hSw; go_simp
          simp only [List.setIfInBounds_toArray, List.set_cons_zero, List.set_cons_succ]
          refine take_at 7 55 (.int .i64 (i : Int)) rfl rfl (by kernel_rfl) (by kernel_rfl) (by kernel_rfl) (fun _ _ _ h => h) (Or.inl ⟨by rfl, ?_⟩) hHeld ?_
          · intro w hSw; go_simp
          simp only [List.setIfInBounds_toArray, List.set_cons_zero, List.set_cons_succ]
          refine take_at 8 56 (.pointer (some (ad.add i))) rfl rfl (by kernel_rfl) (by kernel_rfl) (by kernel_rfl) (fun _ _ _ h => h) (Or.inl ⟨by rfl, ?_⟩) hHeld ?_
          · intro w hSw; go_simp
          simp only [List.setIfInBounds_toArray, List.set_cons_zero, List.set_cons_succ]
          refine take_at 9 57 (.string (str s)) rfl rfl (by kernel_rfl) (by kernel_rfl) (by kernel_rfl) (fun _ _ _ h => h) (Or.inl ⟨by rfl, ?_⟩) hHeld ?_
          · intro w hSw; go_simp
          simp only [List.setIfInBounds_toArray, List.set_cons_zero, List.set_cons_succ]
          refine take_at 10 58 (.slice (some ad) ss.length cap) rfl rfl (by kernel_rfl) (by kernel_rfl) (by kernel_rfl) (fun _ _ _ h => h) (Or.inl ⟨by rfl, ?_⟩) hHeld ?_
          · intro w hSw; go_simp
          simp only [List.setIfInBounds_toArray, List.set_cons_zero, List.set_cons_succ]
          refine take_at 11 59 (.int .i64 (i : Int)) rfl rfl (by kernel_rfl) (by kernel_rfl) (by kernel_rfl) (fun _ _ _ h => h) (Or.inl ⟨by rfl, ?_⟩) hHeld ?_
          · intro w hSw; go_simp
          simp only [List.setIfInBounds_toArray, List.set_cons_zero, List.set_cons_succ]
          refine take_at 12 60 (.pointer (some (ad.add i))) rfl rfl (by kernel_rfl) (by kernel_rfl) (by kernel_rfl) (fun _ _ _ h => h) (Or.inl ⟨by rfl, ?_⟩) hHeld ?_
          · intro w hSw; go_simp
          simp only [List.setIfInBounds_toArray, List.set_cons_zero, List.set_cons_succ]
          refine take_at 13 61 (.string (str s)) rfl rfl (by kernel_rfl) (by kernel_rfl) (by kernel_rfl) (fun _ _ _ h => h) (Or.inl ⟨by rfl, ?_⟩) hHeld ?_
          · intro w hSw; go_simp
          simp only [List.setIfInBounds_toArray, List.set_cons_zero, List.set_cons_succ]
          refine take_at 14 62 (.int .i64 (s.length : Int)) rfl rfl (by kernel_rfl) (by kernel_rfl) (by kernel_rfl) (fun _ _ _ h => h) (Or.inl ⟨by rfl, ?_⟩) hHeld ?_
          · intro w hSw; go_simp
          simp only [List.setIfInBounds_toArray, List.set_cons_zero, List.set_cons_succ]
          refine take_at 15 63 (.int .i64 (q : Int)) rfl rfl (by kernel_rfl) (by kernel_rfl) (by kernel_rfl) (fun _ _ _ h => h) (Or.inl ⟨by rfl, ?_⟩) hHeld ?_
          · intro w hSw; go_simp
          simp only [List.setIfInBounds_toArray, List.set_cons_zero, List.set_cons_succ]
          refine take_at 16 64 (.string (str (s.take q))) rfl rfl (by kernel_rfl) (by kernel_rfl) (by kernel_rfl) (fun _ _ _ h => h) (Or.inl ⟨by rfl, ?_⟩) hHeld ?_
          · intro w hSw; go_simp
          simp only [List.setIfInBounds_toArray, List.set_cons_zero, List.set_cons_succ]
          refine wpAnyH_ready (rs := [17]) (by kernel_rfl) (by simp) ?_
          refine AllReadyH.cons rfl (fun K hK => ?_) AllReadyH.nil
          go_simp
          refine HRC.out.mono ?_
          rintro e w9 ⟨rfl, c9⟩
          have hc9 : w9.cell? (ad.add i) = some (.string (str s)) := (c9.cell (p := ad.add i) (World.block_lt_of_cell? _ _ hcell) (fun e => e)).trans hcell
          have C9 := Lib.hid (D5.out.trans c9)
          clear c9
          refine hK.out _ _ hc9 (fun hHeld => ?_)
          clear hK K
          try simp only [List.setIfInBounds_toArray, List.set_cons_zero, List.set_cons_succ]
          refine take_at 18 66 (.string (str (X ++ Pc))) rfl rfl (by kernel_rfl) (by kernel_rfl) (by kernel_rfl) (fun _ _ _ h => h) (Or.inl ⟨by rfl, ?_⟩) hHeld ?_
          · intro w hSw; go_simp; simp only [str_size]; have := HRl.out; omega
          simp only [List.setIfInBounds_toArray, List.set_cons_zero, List.set_cons_succ]
          refine take_at 19 11 (.string (str (X ++ Pc))) rfl rfl (by kernel_rfl) (by kernel_rfl) (by kernel_rfl) (fun _ _ _ h => h) (Or.inl ⟨by rfl, ?_⟩) hHeld ?_
          · intro w hSw; go_simp
          simp only [List.setIfInBounds_toArray, List.set_cons_zero, List.set_cons_succ]
          refine wpAnyH_done (by kernel_rfl) (NoPanic.normal ?_) _
          clear hHeld hcell se hq' ssz wf1 wf2 wf3 sa HRC
          go_wp2_with fail
          go_roundw
          case rel => exact ⟨i + 1, X ++ Pc, by omega, by omega, by go_num, rfl, by rw [List.length_append]; have := HRl.out; omega, C9.out⟩
          case measure => simp [intOf]; omega
        · have hcase : (¬ i < ss.length) ∨ (i < ss.length ∧ ¬ i < 4) := by omega
          clear hgo
          rcases hcase with hge | ⟨hlt, hge⟩
          all_goals
            go_wp2_with fail
            go_meet
            case rel => exact ⟨X, rfl, by omega, HC.out⟩
    case rest =>
      obtain ⟨X, rfl, hXl, hcw⟩ := hcut
      have HC3 := Lib.hid hcw
      clear hcw C2
      obtain ⟨w3, rfl⟩ : ∃ x : World, x = wc := ⟨_, rfl⟩
      go_upto_if 68 with fail
      go_cut [3] (fun s3 wc => ∃ T : UInt8, s3 = .int .u8 (T.toNat : Int) ∧ w3 = wc)
      case first =>
        by_cases ht : (tn : Int) = 255
        · have t1 : ((tn : Int) == 255) = true := by rw [beq_iff_eq]; exact ht
          clear ht
          go_wp2_with fail
          go_meet
          case rel => exact ⟨0, rfl, rfl⟩
        · have t1 : ((tn : Int) == 255) = false := by rw [beq_eq_false_iff_ne]; exact ht
          clear ht
          go_wp2_with fail
          go_meet
          case rel => exact ⟨UInt8.ofNat tn, by rw [UInt8.toNat_ofNat', Nat.mod_eq_of_lt HTN.out], rfl⟩
      case rest =>
        obtain ⟨T, rfl, rfl⟩ := hcut
        go_upto_if 71 with fail
        go_cut [11] (fun s11 wc => ∃ Y : List UInt8, s11 = .string (str Y) ∧ Y.length ≤ 5000 ∧ w3 = wc)
        case first =>
          by_cases hr : 0 < raw.length
          · obtain ⟨q, hq, hq1, hq2, hq3⟩ := cut_len raw.length 2000
            have hq' : (if (2000 : Int) < (raw.length : Int) then (2000 : Int) else (raw.length : Int)) = (q : Int) := hq
            have hrc := (H0.out.calm (C1.out.trans HC3.out)).cut q hq2
            have qv := conv_rd hrc
            have hrl : (raw.take q).length ≤ 5000 := by simp; omega
            have qj : (q : Int) ≤ (raw.length : Int) := by omega
            have qk : (q : Int) ≤ (cap0 : Int) := by have := HC0.out; omega
            have t1 : decide ((0 : Int) < (raw.length : Int)) = true := decide_eq_true (by omega)
            clear hq hq3 hrc
            go_wp2_with fail
            go_meet
            case rel => exact ⟨raw.take q, rfl, hrl, rfl⟩
          · have t1 : decide ((0 : Int) < (raw.length : Int)) = false := decide_eq_false (by omega)
            go_wp2_with fail
            go_meet
            case rel => exact ⟨X, rfl, hXl, rfl⟩
        case rest =>
          obtain ⟨Y, rfl, hYl, rfl⟩ := hcut
          obtain ⟨c4, W4, g, cap5, W5, qc, qa, hcs, hcal, hg1, hg2, hcap, hcm⟩ := append_zeros w3 33 Y 4096 (by omega) (by omega) (by omega)
          unfold maxLen at hcm
          have hcs2 := hcs.take 4096
          have hl4 : ((Y ++ List.replicate 4096 (0 : UInt8)).take 4096).length = 4096 := by simp
          generalize hBd : (Y ++ List.replicate 4096 (0 : UInt8)).take 4096 = B0 at *
          obtain ⟨k, hk, hk'⟩ : ∃ k : Nat, k < 4096 ∧ (r1 : Int) % 4096 = (k : Int) := ⟨r1 % 4096, by omega, by omega⟩
          obtain ⟨x, hx⟩ := u8_xor (B0[k]'(by omega)) T
          have hck := hcs2 k (B0[k]'(by omega)) (List.getElem?_eq_getElem (by omega))
          have hcell := hck.1
          have hfroz := hck.2
          unfold bv at hcell
          obtain ⟨w6, hw6⟩ : ∃ w6 : World, w6 = W5.setCell ⟨g, k, none⟩ (.int .u8 (x.toNat : Int)) := ⟨_, rfl⟩
          have HB1 : Hid (Cs w6 g (B0.set k x)) := Lib.hid (by rw [hw6]; exact hcs2.set k (by omega) x)
          have hlB : (B0.set k x).length = 4096 := by simp [hl4]
          have HC6 : Hid (Calm w1 w6) := Lib.hid (by rw [hw6]; exact (HC3.out.trans hcal).store (p := ⟨g, k, none⟩) (fun e => absurd e (by show ¬ g < _; have := HC3.out.size; omega)) _)
          have hg3 : Hid (g < w6.heap.size) := Lib.hid (by rw [hw6]; simpa using hg2)
          have HCM := Lib.hid hcm
          generalize B0[k]'(by omega) = bk at *
          have m1 := M1.out
          have icap : (4096 : Int) ≤ (cap5 : Int) := by omega
          have ik : (k : Int) < 4096 := by omega
          clear hcs hcs2 hck hBd hl4 hcal M1 hcm
          go_upto_region 18 with (at_builtin; go_loud (refine Lib.wpList_append_run _ rfl (.tmp 79) (.const (.int .i64 4096)) 33 3 rfl _ _ rfl rfl _ _ qa ?_))
          rw [← hw6]
          clear hw6 qc qa hcell hfroz hx m1 ik hk'
          have HK := Lib.hid hlB
          generalize B0.set k x = B at *
          have T6 := Lib.hid (T1.out.calm HC6.out)
          have N := Lib.hid (new_up w6 8 (by omega) (by omega))
          clear hlB HT H0 HV B0N B1N HML HC0 HM0 HTN HC3 T1 HF hg1 hg2
          go_wp2_with fail
          refine N.out.mono ?_
          rintro e w7 ⟨R7, d, S7, rfl, s7, u7, sh7, e7, o7, c7⟩
          have H7 := Lib.hid (And.intro s7 (And.intro u7 (And.intro sh7 (And.intro o7 e7))))
          clear s7 u7 sh7 o7 e7 c7 N
          go_upto_block 2 with fail
          go_cut [] (fun wc => ∃ (Rr : Nat → Prop) (Sr : DS), Sd w6 wc Rr d Sr ∧ Sr.Up ∧ Sr.Shows 8 (wrote B 8) ∧ Sr.ops = 8 ∧ Sr.wait.length = 8)
          case first =>
            go_wp2_with fail
            go_loopw [17] (fun v17 wr => ∃ (j : Nat) (Rr : Nat → Prop) (Sr : DS), j ≤ 8 ∧ v17 = .int .i64 (j : Int) ∧ Sd w6 wr Rr d Sr ∧ Sr.Up ∧ Sr.Shows 8 (wrote B j) ∧ Sr.ops = j ∧ Sr.wait.length = j) (fun v17 _ => 8 - (intOf v17).toNat)
            case atStart => exact ⟨0, R7, S7, by omega, rfl, H7.out.1, H7.out.2.1, H7.out.2.2.1.congr (fun i _ => by simp [wrote]), H7.out.2.2.2.1, by rw [H7.out.2.2.2.2]; rfl⟩
            case round =>
              obtain ⟨j, Rr, Sr, hj, rfl, hs, hu, hsh, ho, hwl⟩ := hrel
              by_cases hlt : j < 8
              · have i0 : (j : Int) < 8 := by omega
                have CB : Hid (∀ cc, Bytes wr (fun k => ¬ Rr k) (.slice (some ⟨g, 512 * j, none⟩) 512 cc) (secAt B j)) := Lib.hid (fun cc => (HB1.out.keep hs.st.calm (fun e => e) hg3.out).bytes (fun e => absurd (hs.st.new g e) (by have := hg3.out; omega)) (by have := hs.st.calm.size; have := hg3.out; omega) (512 * j) 512 cc (by have := HK.out; omega))
                have HW := Lib.hid (fun v hb => write_up hs hu hsh (by unfold DS.fine; omega) j hlt v (secAt B j) hb (secAt_len B j (by have := HK.out; omega)))
                have HO := Lib.hid (And.intro ho hwl)
                clear hs hu hsh ho hwl
                go_wp2_with fail
                refine (HW.out _ (CB.out _)).mono ?_
                rintro e w5 ⟨R5, S5, rfl, s5, u5, sh5, o5, l5, x5, k5⟩
                have H5 := Lib.hid (And.intro s5 (And.intro u5 (And.intro sh5 (And.intro o5 l5))))
                clear s5 u5 sh5 o5 l5 x5 k5 HW CB
                go_wp2_with fail
                go_roundw
                case rel =>
                  obtain ⟨s5, u5, sh5, o5, l5⟩ := H5.out
                  exact ⟨j + 1, R5, S5, by omega, by go_num, s5, u5, sh5.congr (fun i _ => wrote_upd B j i), by have := HO.out; omega, by have := HO.out; omega⟩
                case measure => simp [intOf]; omega
              · obtain rfl : j = 8 := by omega
                have HS := Lib.hid (And.intro hs (And.intro hu hsh))
                clear hs hu hsh
                go_wp2_with fail
                go_meet
                case rel => exact ⟨Rr, Sr, HS.out.1, HS.out.2.1, HS.out.2.2, ho, hwl⟩
          case rest =>
            obtain ⟨Rr, Sr, hs, hu, hsh, ho, hwl⟩ := hcut
            have har : Hid (areaC (wrote B 8) 0 8 = B) := Lib.hid (by rw [areaC_congr (c' := fun i => secAt B (i - 0)) (fun i _ h => by unfold wrote; rw [if_pos (by omega)]; rfl)]; exact areaC_secs B 0 8 (by rw [HK.out]))
            have OP := Lib.hid (jopen_up (f := 0) (k := 8) (n := 8) T6.out hs hu hsh (by omega) (by omega) (by unfold DS.fine; omega))
            clear hs hu hsh ho hwl
            go_wp2_with fail
            refine OP.out.mono ?_
            rintro e w8 ⟨R8, q8, hq8, x8, k8, s8, hcase⟩
            rw [har.out] at hcase
            have S8 := Lib.hid s8
            have qv : Sem.run Tryd.prog (convert 33 9 (.slice (some ⟨g, 0, none⟩) 4096 cap5)) w8 = .ok (.string (str B)) w8 := by
              have h8 := (HB1.out.keep s8.st.calm (fun e => e) hg3.out).rd 0 4096 cap5 (by rw [HK.out]; omega) (by omega) (by unfold maxLen; exact HCM.out)
              rw [List.drop_zero, List.take_of_length_le (by rw [HK.out]; omega)] at h8
              exact conv_rd h8
            have RP := Lib.hid (replay_c B w8 (by rw [HK.out]; omega) (by rw [HK.out]; omega) (by rw [HK.out]))
            clear OP x8 k8 s8
            rcases hcase with ⟨hno, rfl⟩ | ⟨out, n', used, A', cc', jb, hyes, rfl, hrc, hjb, J8, hn2, hnb, hu1, hu8, hol⟩
            · have HNO := Lib.hid hno
              clear hno
              go_wp2_with fail
              refine RP.out.mono ?_
              rintro e w9 ⟨⟨-, rfl⟩ | ⟨out, n', used, g9, c9, hyes, -⟩, c9⟩
              rotate_left
              · rw [HNO.out] at hyes; cases hyes
              have C9 := Lib.hid c9
              clear RP c9 qv
              go_wp2_with fail
              go_ret
              exact ⟨rfl, C1.out.trans (HC6.out.trans (S8.out.st.calm.trans C9.out))⟩
            · have HY := Lib.hid hyes
              have HRc := Lib.hid hrc
              have HJ := Lib.hid J8
              have HN := Lib.hid (And.intro hn2 hnb)
              clear hyes hrc J8 hn2 hnb hjb
              go_wp2_with fail
              refine RP.out.mono ?_
              rintro e w9 ⟨⟨hno, -⟩ | ⟨out', n'', used', rg, rc, hyes, rfl, hstr, -, -, -⟩, c9⟩
              · rw [HY.out] at hno; cases hno
              rw [HY.out] at hyes
              injection hyes with hyes
              injection hyes with e1 hyes
              injection hyes with e2 e3
              subst e1; subst e2; subst e3
              have C9 := Lib.hid c9
              have HSt := Lib.hid hstr
              have J9 := HJ.out.jn.row.calm c9
              have NX := jnext_c J9 (by have := HN.out; show n' - 1 ≤ _; omega)
              rw [show ((JS.mk 0 (0 + 8) (0 + used) (n' - 1) false).last + 1 : Nat) = n' by show n' - 1 + 1 = n'; have := HN.out; omega] at NX
              have HNX := Lib.hid NX
              have hRM := jroom_c J9 (by show 0 + used ≤ 0 + 8; omega) (by show 0 + 8 ≤ 4096; omega)
              have tl : ((out.length : Int) != (out.length : Int)) = false := by simp
              have tnn : ((n' : Int) != (n' : Int)) = false := by simp
              obtain ⟨rm, hrm, hrm2⟩ : ∃ rm : Int, (JS.mk 0 (0 + 8) (0 + used) (n' - 1) false).room = rm ∧ (if (-1 : Int) < 512 * (8 - (used : Int)) - 16 then 512 * (8 - (used : Int)) - 16 else -1) = rm := ⟨_, rfl, by
                unfold JS.room
                show _ = if 0 + used = 0 + 8 then (-1 : Int) else (((0 + 8 : Nat) : Int) - ((0 + used : Nat) : Int)) * 512 - 16
                by_cases h8 : used = 8
                · subst h8; rfl
                · rw [if_pos (by omega), if_neg (by omega)]; omega⟩
              rw [hrm] at hRM
              have HRM := Lib.hid hRM
              have trr : (rm != rm) = false := by simp
              have u1 : (1 : Int) ≤ (used : Int) := by omega
              have u8 : (used : Int) ≤ 8 := by omega
              have ol : (out.length : Int) ≤ 8 := by omega
              clear RP c9 qv hstr J9 NX hRM hrm
              go_wp2_with (go_at_call 24; refine HNX.out.mono ?_; rintro e w10 ⟨rfl, rfl⟩)
              refine HRM.out.mono ?_
              rintro e w10 ⟨rfl, c10⟩
              have C10 := Lib.hid c10
              clear c10 HRM HNX
              go_wp2_with fail
              clear tl tnn trr hrm2 u1 u8
              go_loopw [25] (fun v25 wr => ∃ a : Nat, a ≤ out.length ∧ v25 = .int .i64 (a : Int) ∧ Calm w10 wr) (fun v25 _ => out.length - (intOf v25).toNat)
              case atStart => exact ⟨0, by omega, rfl, Keep.refl _ _⟩
              case round =>
                obtain ⟨a, hal, rfl, hca⟩ := hrel
                have HCA := Lib.hid hca
                by_cases hla : a < out.length
                · have ia : (a : Int) < (out.length : Int) := by omega
                  obtain ⟨b, hb⟩ : ∃ b, out[a]? = some b := ⟨_, List.getElem?_eq_getElem hla⟩
                  obtain ⟨gg, xx, rfl, hgc, hxx⟩ := (HRc.out.calm (C9.out.trans (C10.out.trans hca))).at_ a b hb
                  obtain ⟨xg, xo, xc, xcur, rfl, -⟩ := id hxx
                  have HX := Lib.hid hxx.rd
                  obtain ⟨og, hog, hsc⟩ := Strs.at_ (HSt.out.calm (C10.out.trans hca)) a b hb
                  injection hog with hog
                  injection hog with hog _ _
                  subst hog
                  have tne := str_bne_no (a := b) (b := b) rfl
                  clear hca hb hxx
                  go_upto_region 34 with fail
                  refine wp_region_noPanic ?_
                  refine wp_region_held_drew (S := fun wx => wx.cell? ⟨gg, a, none⟩ = some (.slice (some ⟨xg, xo, none⟩) b.length xc) ∧ Rd wx (.slice (some ⟨xg, xo, none⟩) b.length xc) b ∧ wx.cell? ⟨rg, a, none⟩ = some (.string (str b))) (by kernel_rfl) ⟨hgc, HX.out, hsc⟩ (fun hHeld => ?_)
                  refine take_at 0 180 (.slice (some ⟨gg, 0, none⟩) out.length cc') rfl rfl (by kernel_rfl) (by kernel_rfl) (by kernel_rfl) (fun _ _ _ h => h) (Or.inl ⟨by rfl, ?_⟩) hHeld ?_
                  · intro w hSw; go_simp
                  simp only [List.setIfInBounds_toArray, List.set_cons_zero, List.set_cons_succ]
                  refine take_at 1 181 (.int .i64 (a : Int)) rfl rfl (by kernel_rfl) (by kernel_rfl) (by kernel_rfl) (fun _ _ _ h => h) (Or.inl ⟨by rfl, ?_⟩) hHeld ?_
                  · intro w hSw; go_simp
                  simp only [List.setIfInBounds_toArray, List.set_cons_zero, List.set_cons_succ]
                  refine take_at 2 182 (.pointer (some ⟨gg, a, none⟩)) rfl rfl (by kernel_rfl) (by kernel_rfl) (by kernel_rfl) (fun _ _ _ h => h) (Or.inl ⟨by rfl, ?_⟩) hHeld ?_
                  · intro w hSw; go_simp
                  simp only [List.setIfInBounds_toArray, List.set_cons_zero, List.set_cons_succ]
                  refine take_at 3 183 (.slice (some ⟨xg, xo, none⟩) b.length xc) rfl rfl (by kernel_rfl) (by kernel_rfl) (by kernel_rfl) (fun _ _ _ h => h) (Or.inl ⟨by rfl, ?_⟩) hHeld ?_
                  · intro w hSw; obtain ⟨s1, s2, s4⟩ := hSw; go_simp
                  simp only [List.setIfInBounds_toArray, List.set_cons_zero, List.set_cons_succ]
                  refine take_at 4 184 (.string (str b)) rfl rfl (by kernel_rfl) (by kernel_rfl) (by kernel_rfl) (fun _ _ _ h => h) (Or.inl ⟨by rfl, ?_⟩) hHeld ?_
                  · intro w hSw; obtain ⟨s1, s2, s4⟩ := hSw; have qx := conv_rd s2; go_simp
                  simp only [List.setIfInBounds_toArray, List.set_cons_zero, List.set_cons_succ]
                  refine take_at 5 185 (.slice (some ⟨rg, 0, none⟩) out.length rc) rfl rfl (by kernel_rfl) (by kernel_rfl) (by kernel_rfl) (fun _ _ _ h => h) (Or.inl ⟨by rfl, ?_⟩) hHeld ?_
                  · intro w hSw; go_simp
                  simp only [List.setIfInBounds_toArray, List.set_cons_zero, List.set_cons_succ]
                  refine take_at 6 186 (.int .i64 (a : Int)) rfl rfl (by kernel_rfl) (by kernel_rfl) (by kernel_rfl) (fun _ _ _ h => h) (Or.inl ⟨by rfl, ?_⟩) hHeld ?_
                  · intro w hSw; go_simp
                  simp only [List.setIfInBounds_toArray, List.set_cons_zero, List.set_cons_succ]
                  refine take_at 7 187 (.pointer (some ⟨rg, a, none⟩)) rfl rfl (by kernel_rfl) (by kernel_rfl) (by kernel_rfl) (fun _ _ _ h => h) (Or.inl ⟨by rfl, ?_⟩) hHeld ?_
                  · intro w hSw; go_simp
                  simp only [List.setIfInBounds_toArray, List.set_cons_zero, List.set_cons_succ]
                  refine take_at 8 188 (.string (str b)) rfl rfl (by kernel_rfl) (by kernel_rfl) (by kernel_rfl) (fun _ _ _ h => h) (Or.inl ⟨by rfl, ?_⟩) hHeld ?_
                  · intro w hSw; obtain ⟨s1, s2, s4⟩ := hSw; go_simp
                  simp only [List.setIfInBounds_toArray, List.set_cons_zero, List.set_cons_succ]
                  refine take_at 9 189 (.bool false) rfl rfl (by kernel_rfl) (by kernel_rfl) (by kernel_rfl) (fun _ _ _ h => h) (Or.inl ⟨by rfl, ?_⟩) hHeld ?_
                  · intro w hSw; go_simp
                  simp only [List.setIfInBounds_toArray, List.set_cons_zero, List.set_cons_succ]
                  refine wpAnyH_done (by kernel_rfl) (NoPanic.normal ?_) _
                  clear hHeld hgc hsc HX tne
                  go_wp2_with fail
                  go_roundw
                  case rel => exact ⟨a + 1, by omega, by go_num, HCA.out.drew⟩
                  case measure => simp [intOf]; omega
                · obtain rfl : a = out.length := by omega
                  clear hca
                  go_wp2_with fail
                  go_ret
                  exact ⟨rfl, C1.out.trans (HC6.out.trans (S8.out.st.calm.trans (C9.out.trans (C10.out.trans HCA.out))))⟩
end Go.Proofs.YtglfmhheepgneaaDoor
