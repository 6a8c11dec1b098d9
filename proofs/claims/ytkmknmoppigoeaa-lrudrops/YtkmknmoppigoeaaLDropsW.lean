/-
  LruDrops: the walk.
-/
import Derived.Test.YtkmknmoppigoeaaLTw2
import Derived.Test.YtkmknmoppigoeaaLStv
import Derived.Test.YtkmknmoppigoeaaLRd
namespace Go.Proofs.Ytkmknmoppigoeaa
open Go.RowKit
set_option linter.all false
attribute [local go_sem] Oper.semAt_some

/-- What the keys make, one by one, in a list that has room for all. -/
def madeL (ss : List (List UInt8)) : Nat → List KV
  | 0 => []
  | j + 1 => dropL (ss.getD j []) (madeL ss j) ++ [(ss.getD j [], (j : Int))]
theorem drop_le {k : List UInt8} (L : List KV) : (dropL k L).length ≤ L.length := List.length_filter_le _ _
theorem madeL_nodup (ss : List (List UInt8)) : ∀ j, (keysL (madeL ss j)).Nodup
  | 0 => List.nodup_nil
  | j + 1 => by
    have ih := madeL_nodup ss j
    have hs : (keysL (dropL (ss.getD j []) (madeL ss j))).Nodup := List.Nodup.sublist ((List.filter_sublist).map _) ih
    show (keysL (dropL _ _ ++ [_])).Nodup
    unfold keysL at hs ⊢
    rw [List.map_append, List.nodup_append]
    refine ⟨hs, by simp, fun a ha c hc e => ?_⟩
    simp at hc
    subst hc; subst e
    exact dropL_not ha
theorem madeL_len (ss : List (List UInt8)) : ∀ j, (madeL ss j).length ≤ j
  | 0 => Nat.le_refl _
  | j + 1 => by
    have := madeL_len ss j
    have := drop_le (k := ss.getD j []) (madeL ss j)
    simp only [madeL, List.length_append, List.length_cons, List.length_nil]
    omega
theorem madeL_up (ss : List (List UInt8)) (j : Nat) : (madeL ss j).length ≤ (madeL ss (j + 1)).length ∧ (ss.getD j [] ∉ keysL (madeL ss j) → (madeL ss (j + 1)).length = (madeL ss j).length + 1) := by
  by_cases hk : ss.getD j [] ∈ keysL (madeL ss j)
  · have := dropL_len (madeL_nodup ss j) hk
    exact ⟨by simp only [madeL, List.length_append, List.length_cons, List.length_nil]; omega, fun h => absurd hk h⟩
  · have : dropL (ss.getD j []) (madeL ss j) = madeL ss j := dropL_miss hk
    exact ⟨by simp only [madeL, this]; simp, fun _ => by simp only [madeL, this]; simp⟩
theorem madeL_mono (ss : List (List UInt8)) (i n : Nat) (h : i ≤ n) : (madeL ss i).length ≤ (madeL ss n).length := by
  induction n with
  | zero => have : i = 0 := by omega
            subst this; exact Nat.le_refl _
  | succ n ih =>
    by_cases e : i = n + 1
    · subst e; exact Nat.le_refl _
    · exact Nat.le_trans (ih (by omega)) (madeL_up ss n).1
theorem madeL_put (ss : List (List UInt8)) (j m : Nat) (h : (madeL ss (j + 1)).length ≤ m) : putL m (ss.getD j []) (j : Int) (madeL ss j) = (none, madeL ss (j + 1)) := by
  by_cases hk : ss.getD j [] ∈ keysL (madeL ss j)
  · rw [putL_yes hk]; rfl
  · have := (madeL_up ss j).2 hk
    rw [putL_room hk (by omega)]
    simp only [madeL, dropL_miss hk]

/-- The document's list alone. -/
def RefN (w w' : World) (d most : Nat) (M : List KV) : Prop := ∃ Q, RefIs w' Q d most M ∧ (∀ i, Q i → w.heap.size ≤ i) ∧ Calm w w'
theorem refn_put {w w' : World} {d most : Nat} {M : List KV} (h : RefN w w' d most M) (hn : (keysL M).Nodup) (hl : M.length ≤ most) (k : List UInt8) (v : Int) (o : Option (List UInt8)) (M' : List KV) (e : putL most k v M = (o, M')) (ov : Value) (ho : siT.ko o = ov) (ob : Bool) (hb : o.isSome = ob) :
    Calls Try.prog 16 #[.pointer (some ⟨d, 0, none⟩), .string (str k), .int .i64 v] w' fun e w'' => e = .returned (.tuple #[ov, .bool ob]) ∧ RefN w w'' d most M' := by
  obtain ⟨Q, h1, h2, h3⟩ := h
  refine (rput_c h1 hn hl k v o M' e ov ho ob hb).mono ?_
  rintro e w'' ⟨rfl, ⟨Q', a, g⟩, c⟩
  exact ⟨rfl, Q', a, fun i hi => (g i hi).elim (h2 i) (fun e => Nat.le_trans h3.size e), h3.then_ c (fun i hi hc => by have := h2 i hc; omega)⟩
/-- A key, whatever its bytes, where there is room. -/
theorem twp_lputX {w w' : World} {b d most most2 : Nat} {L M : List KV} (h : Twp w w' b d most most2 L M) (X : ByteArray) (hX : X.size ≤ maxLen) (v : Int) (hr : L.length < most) :
    Calls Try.prog 15 #[.pointer (some ⟨b, 0, none⟩), .string X, .int .i64 v] w' fun e w'' => e = .returned (.tuple #[.string ⟨#[]⟩, .bool false]) ∧ ∃ L', Twp w w'' b d most most2 L' M ∧ L'.length ≤ L.length + 1 := by
  have hp : ∃ L', putL most X.data.toList v L = (none, L') ∧ L'.length ≤ L.length + 1 := by
    by_cases hk : X.data.toList ∈ keysL L
    · exact ⟨_, putL_yes hk, by have := drop_le (k := X.data.toList) L; simp; omega⟩
    · exact ⟨_, putL_room hk hr, by simp⟩
  obtain ⟨L', hp, hl⟩ := hp
  have hc := twp_lput h X.data.toList v hX none L' hp (.string ⟨#[]⟩) rfl false rfl
  refine Calls.mono (show Calls Try.prog 15 #[.pointer (some ⟨b, 0, none⟩), .string X, .int .i64 v] w' _ from hc) ?_
  rintro e w'' ⟨rfl, h2⟩
  exact ⟨rfl, L', h2, hl⟩
theorem getD_at {ss : List (List UInt8)} {j : Nat} {s : List UInt8} (h : ss[j]? = some s) : ss.getD j [] = s := by simp [h]

set_option maxRecDepth 20000 in
set_option maxHeartbeats 16000000 in
theorem lruDrops_c (v0 v1 : Value) (ss ds : List (List UInt8)) (w : World) (hs : Strv w v0 ss) (hds : Strv w v1 ds) : Calls Try.prog 7 #[v0, v1] w fun e w' => e = .returned (.bool true) ∧ Calm w w' := by
  obtain ⟨A, cap, rfl, hm⟩ := hs.form
  obtain ⟨B, capB, rfl, hmB⟩ := hds.form
  have HS := Lib.hid hs
  have HD := Lib.hid hds
  have HM := Lib.hid (show ss.length ≤ maxLen ∧ ds.length ≤ maxLen from ⟨hm, hmB⟩)
  obtain ⟨n, hn⟩ : ∃ n, n = min ss.length 40 := ⟨_, rfl⟩
  have hn1 : n ≤ 40 ∧ n ≤ ss.length := by omega
  have HNn := Lib.hid (show ¬ (n < ss.length ∧ n < 40) from by omega)
  clear hs hds hm hmB hn
  go_enter Try.func7, Try.ntmps7
  go_wp2_with fail
  refine (shown9_c w).mono ?_
  rintro e w1 ⟨rfl, hc⟩
  have C1 := Lib.hid hc
  clear hc
  go_wp2_with fail
  refine (rnew_c 100 100 (by decide) (by decide) (by decide) w1).mono ?_
  rintro e w2 ⟨rfl, h2, k2⟩
  have H2 : Hid (RefN w1 w2 w1.heap.size 100 (madeL ss 0)) := Lib.hid ⟨_, h2, fun i hi => by omega, k2⟩
  clear h2 k2
  generalize w1.heap.size = d at H2
  go_upto_block 0 with fail
  go_cut [] (fun wc => RefN w1 wc d 100 (madeL ss n))
  case first =>
    go_wp2_with fail
    go_loopw [7] (fun i wr => ∃ j : Nat, j ≤ n ∧ i = .int .i64 (j : Int) ∧ RefN w1 wr d 100 (madeL ss j)) (fun i _ => 40 - (intOf i).toNat)
    case atStart => exact ⟨0, Nat.zero_le _, rfl, H2.out⟩
    case round =>
      obtain ⟨j, hj, rfl, hl⟩ := hrel
      have Hl := Lib.hid hl
      have CL := Lib.hid (C1.out.trans hl.choose_spec.2.2)
      clear hl H2
      by_cases hlt : j < n
      · obtain ⟨i1, i2⟩ : j < ss.length ∧ j < 40 := by omega
        obtain ⟨ad, s, rfl, hsj, hsl, hcell⟩ := HS.out.all j i1
        have cf := hcell wr CL.out
        have hg := getD_at hsj
        have hp := madeL_put ss j 100 (by have := madeL_len ss (j + 1); omega)
        rw [hg] at hp
        have HP := Lib.hid (refn_put Hl.out (madeL_nodup ss j) (by have := madeL_len ss j; omega) s (j : Int) none _ hp (.string ⟨#[]⟩) rfl false rfl)
        have hml := HM.out.1
        unfold maxLen at hml
        clear hsj hsl hcell hg hp
        go_wp2_with fail
        refine HP.out.mono ?_
        rintro e w3 ⟨rfl, h3⟩
        have H3 := Lib.hid h3
        clear h3 HP
        go_wp2_with fail
        go_roundw
        case rel => exact ⟨j + 1, by omega, by go_num, H3.out⟩
        case measure => simp [intOf]; omega
      · have hjn : j = n := by omega
        subst hjn
        by_cases i1 : j < ss.length
        · have i2 : ¬ j < 40 := fun h => HNn.out ⟨i1, h⟩
          have i3 : ¬ (j : Int) < 40 := by omega
          go_wp2_with fail
          go_meet
          case rel => exact Hl.out
        · have i3 : ¬ (j : Int) < (ss.length : Int) := by omega
          go_wp2_with fail
          go_meet
          case rel => exact Hl.out
  case rest =>
    obtain ⟨Q, r1, r2, r3⟩ := hcut
    clear H2
    obtain ⟨⟨lv, q1, q2, q3⟩, _, _, _, _, _⟩ := r1
    obtain ⟨A5, c5, rfl⟩ := q2.form
    obtain ⟨N, hN⟩ : ∃ N, N = (madeL ss n).length := ⟨_, rfl⟩
    have hN40 : N ≤ 40 := by have := madeL_len ss n; omega
    have d1 : wc.cell? ⟨d, 1, none⟩ = some (.slice A5 N c5) := by rw [hN]; exact (q1.cell 1).trans rfl
    obtain ⟨m, hm⟩ : ∃ m : Nat, (if (1 : Int) < (N : Int) then (N : Int) else 1) = (m : Int) := by
      by_cases h : (1 : Int) < (N : Int)
      · exact ⟨N, by rw [if_pos h]⟩
      · exact ⟨1, by rw [if_neg h]; rfl⟩
    have hm1 : 1 ≤ m ∧ m ≤ 40 ∧ N ≤ m := by split at hm <;> omega
    have HRr := Lib.hid (show RefIs wc Q d 100 (madeL ss n) ∧ (∀ i, Q i → w1.heap.size ≤ i) ∧ Calm w1 wc from ⟨⟨⟨_, q1, q2, q3⟩, by assumption, by assumption, by assumption, by assumption, by assumption⟩, r2, r3⟩)
    have HN := Lib.hid hN
    clear q1 q2 q3 r2 r3 hN
    go_wp2_with fail
    refine (twp_new HRr.out.1 HRr.out.2.1 HRr.out.2.2 (m : Int) m (by rw [if_neg (by omega)]) hm1.1 (by omega)).mono ?_
    rintro e w3 ⟨rfl, h3⟩
    have H3 := Lib.hid h3
    clear h3 HRr hm d1
    generalize wc.heap.size + 1 = b at H3
    go_upto_block 2 with fail
    go_cut [] (fun wc => Twp w1 wc b d m 100 (madeL ss n) (madeL ss n))
    case first =>
      go_wp2_with fail
      go_loopw [9] (fun i wr => ∃ j : Nat, j ≤ n ∧ i = .int .i64 (j : Int) ∧ Twp w1 wr b d m 100 (madeL ss j) (madeL ss n)) (fun i _ => 40 - (intOf i).toNat)
      case atStart => exact ⟨0, Nat.zero_le _, rfl, H3.out⟩
      case round =>
        obtain ⟨j, hj, rfl, hl⟩ := hrel
        have Hl := Lib.hid hl
        have CL := Lib.hid (C1.out.trans hl.calm_)
        clear hl H3
        by_cases hlt : j < n
        · obtain ⟨i1, i2⟩ : j < ss.length ∧ j < 40 := by omega
          obtain ⟨ad, s, rfl, hsj, hsl, hcell⟩ := HS.out.all j i1
          have cf := hcell wr CL.out
          have hg := getD_at hsj
          have hp := madeL_put ss j m (by have := madeL_mono ss (j + 1) n hlt; have := HN.out; omega)
          rw [hg] at hp
          have HP := Lib.hid (twp_lput Hl.out s (j : Int) hsl none _ hp (.string ⟨#[]⟩) rfl false rfl)
          have hml := HM.out.1
          unfold maxLen at hml
          clear hsj hsl hcell hg hp
          go_wp2_with fail
          refine HP.out.mono ?_
          rintro e w4 ⟨rfl, h4⟩
          have H4 := Lib.hid h4
          clear h4 HP
          go_wp2_with fail
          go_roundw
          case rel => exact ⟨j + 1, by omega, by go_num, H4.out⟩
          case measure => simp [intOf]; omega
        · have hjn : j = n := by omega
          subst hjn
          by_cases i1 : j < ss.length
          · have i2 : ¬ j < 40 := fun h => HNn.out ⟨i1, h⟩
            have i3 : ¬ (j : Int) < 40 := by omega
            go_wp2_with fail
            go_meet
            case rel => exact Hl.out
          · have i3 : ¬ (j : Int) < (ss.length : Int) := by omega
            go_wp2_with fail
            go_meet
            case rel => exact Hl.out
    case rest =>
      have H4 := Lib.hid hcut
      clear hcut H3
      go_upto_block 4 with fail
      go_cut [10] (fun gv wc => ∃ (g : Nat) (L : List KV), gv = .int .i64 (g : Int) ∧ g ≤ 40 ∧ L.length + g ≤ m ∧ Twp w1 wc b d m 100 L L)
      case first =>
        go_wp2_with fail
        go_loopw [10, 11] (fun gv i wr => ∃ (j g : Nat) (L : List KV), j ≤ 40 ∧ i = .int .i64 (j : Int) ∧ gv = .int .i64 (g : Int) ∧ g ≤ j ∧ L.length + g ≤ m ∧ Twp w1 wr b d m 100 L L) (fun _ i _ => 40 - (intOf i).toNat)
        case atStart => exact ⟨0, 0, _, Nat.zero_le _, rfl, rfl, Nat.zero_le _, by have := HN.out; omega, H4.out⟩
        case round =>
          obtain ⟨j, g, L, hj, rfl, rfl, hg, hLg, hl⟩ := hrel
          have Hl := Lib.hid hl
          have CL := Lib.hid (C1.out.trans hl.calm_)
          have HLn := Lib.hid (show (keysL L).Nodup from hl.nodup)
          have hml := HM.out.2
          unfold maxLen at hml
          clear hl H4
          by_cases i1 : j < ds.length
          · by_cases i2 : j < 40
            · obtain ⟨ad, s, rfl, hsj, hsl, hcell⟩ := HD.out.all j i1
              have HC := Lib.hid hcell
              have HSL := Lib.hid hsl
              have cf := hcell wr CL.out
              have HLg := Lib.hid hLg
              clear hsj hsl hcell hLg
              by_cases hk : s ∈ keysL L
              · obtain ⟨l1, v, l2, he, hn1', hd, hgv⟩ := split_first HLn.out hk
                have HF := Lib.hid (twp_rfind Hl.out s (l1.length : Int) (.inl ⟨l1, v, l2, he, hn1', rfl⟩))
                have HP := Lib.hid (twp_ldrop Hl.out s HSL.out true (by rw [hgv]; rfl))
                have HQ := Lib.hid (fun (wx : World) (hx : Twp w1 wx b d m 100 (dropL s L) L) => twp_rdrop hx HLn.out s true (by rw [hgv]; rfl))
                have HLd : Hid ((dropL s L).length + 1 = L.length) := Lib.hid (dropL_len HLn.out hk)
                have j1 : (0 : Int) ≤ (l1.length : Int) := by omega
                clear he hn1' hd hgv hk
                generalize l1.length = p at *
                go_wp2_with fail
                refine HF.out.mono ?_
                rintro e w5 ⟨rfl, rfl⟩
                clear HF
                go_wp2_with fail
                refine HP.out.mono ?_
                rintro e w5 ⟨rfl, h5⟩
                have HQ5 := Lib.hid (HQ.out w5 h5)
                have cf5 := HC.out w5 (C1.out.trans h5.calm_)
                clear h5 HP HQ
                go_wp2_with fail
                refine HQ5.out.mono ?_
                rintro e w6 ⟨rfl, h6⟩
                have H6 := Lib.hid h6
                have cf6 := HC.out w6 (C1.out.trans h6.calm_)
                have HK := Lib.hid (twp_lpeek h6 s HSL.out none (getL_miss dropL_not) (.int .i64 0) rfl false rfl)
                clear h6 HQ5
                go_wp2_with fail
                refine HK.out.mono ?_
                rintro e w7 ⟨rfl, h7⟩
                have cf7 := HC.out w7 (C1.out.trans h7.calm_)
                have HT := Lib.hid (twp_ltouch h7 s HSL.out none (getL_miss dropL_not) (dropL s L) (by unfold useL; rw [getL_miss dropL_not]) false rfl)
                clear h7 HK
                go_wp2_with fail
                refine HT.out.mono ?_
                rintro e w8 ⟨rfl, h8⟩
                have H8 := Lib.hid h8
                clear h8 HT
                go_wp2_with fail
                go_roundw
                case rel => exact ⟨j + 1, g + 1, _, by omega, by go_num, by go_num, by omega, by have := HLd.out; have := HLg.out; omega, H8.out⟩
                case measure => simp [intOf]; omega
              · have HF := Lib.hid (twp_rfind Hl.out s (-1) (.inr ⟨hk, rfl⟩))
                have HP := Lib.hid (twp_ldrop Hl.out s HSL.out false (by rw [getL_miss hk]; rfl))
                have HQ := Lib.hid (fun (wx : World) (hx : Twp w1 wx b d m 100 (dropL s L) L) => twp_rdrop hx HLn.out s false (by rw [getL_miss hk]; rfl))
                have HLd : Hid ((dropL s L).length ≤ L.length) := Lib.hid (drop_le L)
                clear hk
                go_wp2_with fail
                refine HF.out.mono ?_
                rintro e w5 ⟨rfl, rfl⟩
                clear HF
                go_wp2_with fail
                refine HP.out.mono ?_
                rintro e w5 ⟨rfl, h5⟩
                have HQ5 := Lib.hid (HQ.out w5 h5)
                have cf5 := HC.out w5 (C1.out.trans h5.calm_)
                clear h5 HP HQ
                go_wp2_with fail
                refine HQ5.out.mono ?_
                rintro e w6 ⟨rfl, h6⟩
                have H6 := Lib.hid h6
                have cf6 := HC.out w6 (C1.out.trans h6.calm_)
                have HK := Lib.hid (twp_lpeek h6 s HSL.out none (getL_miss dropL_not) (.int .i64 0) rfl false rfl)
                clear h6 HQ5
                go_wp2_with fail
                refine HK.out.mono ?_
                rintro e w7 ⟨rfl, h7⟩
                have cf7 := HC.out w7 (C1.out.trans h7.calm_)
                have HT := Lib.hid (twp_ltouch h7 s HSL.out none (getL_miss dropL_not) (dropL s L) (by unfold useL; rw [getL_miss dropL_not]) false rfl)
                clear h7 HK
                go_wp2_with fail
                refine HT.out.mono ?_
                rintro e w8 ⟨rfl, h8⟩
                have H8 := Lib.hid h8
                clear h8 HT
                go_wp2_with fail
                go_roundw
                case rel => exact ⟨j + 1, g, _, by omega, by go_num, by go_num, by omega, by have := HLd.out; have := HLg.out; omega, H8.out⟩
                case measure => simp [intOf]; omega
            · have i3 : ¬ (j : Int) < 40 := by omega
              go_wp2_with fail
              go_meet
              case rel => exact ⟨g, L, rfl, by omega, hLg, Hl.out⟩
          · have i3 : ¬ (j : Int) < (ds.length : Int) := by omega
            go_wp2_with fail
            go_meet
            case rel => exact ⟨g, L, rfl, by omega, hLg, Hl.out⟩
      case rest =>
        obtain ⟨g, L, rfl, hg40, hLg, hl⟩ := hcut
        have HS7 := Lib.hid (twp_same hl)
        clear hl H4
        go_wp2_with fail
        refine HS7.out.mono ?_
        rintro e w5 ⟨rfl, h5⟩
        have H5 := Lib.hid h5
        clear h5 HS7
        go_wp2_with fail
        go_loopw [15] (fun i wr => ∃ (j : Nat) (L2 : List KV), j ≤ g ∧ i = .int .i64 (j : Int) ∧ L2.length + (g - j) ≤ m ∧ Twp w1 wr b d m 100 L2 L) (fun i _ => g - (intOf i).toNat)
        case atStart => exact ⟨0, L, Nat.zero_le _, rfl, by omega, H5.out⟩
        case round =>
          obtain ⟨j, L2, hj, rfl, hL2, hl⟩ := hrel
          have Hl := Lib.hid hl
          have CL := Lib.hid (C1.out.trans hl.calm_)
          clear hl H5
          by_cases hlt : j < g
          · have hr3 := Row.made wr 5 #[.int .u8 (j : Int), .int .u8 7, .int .u8 (j : Int)]
            have hrd : Rd (wr.alloc (.cells #[.int .u8 (j : Int), .int .u8 7, .int .u8 (j : Int)] 5)) (.slice (some ⟨wr.heap.size, 0, none⟩) 3 3) [UInt8.ofNat j, 7, UInt8.ofNat j] := by
              have hj8 : ((UInt8.ofNat j).toNat : Int) = (j : Int) := by rw [UInt8.toNat_ofNat']; omega
              refine .inr ⟨⟨wr.heap.size, 0, none⟩, 3, rfl, by simp, by decide, fun q x hq => ?_⟩
              rw [addr_mid, Nat.zero_add, hr3.cell]
              match q, hq with
              | 0, hq => cases hq; show some (Value.int .u8 (j : Int)) = some (bv (UInt8.ofNat j)); unfold bv; rw [hj8]
              | 1, hq => cases hq; rfl
              | 2, hq => cases hq; show some (Value.int .u8 (j : Int)) = some (bv (UInt8.ofNat j)); unfold bv; rw [hj8]
            have hconv := conv_rd hrd
            have hs1 : (str [UInt8.ofNat j, 7, UInt8.ofNat j]).size = 3 := rfl
            have hT := Hl.out.rest ((Keep.refl _ wr).alloc (.cells #[.int .u8 (j : Int), .int .u8 7, .int .u8 (j : Int)] 5))
            have HT := Lib.hid hT
            have HL2 := Lib.hid (show L2.length + (g - j) ≤ m ∧ (keysL L2).Nodup from ⟨hL2, hT.nodup⟩)
            clear hr3 hrd hT hL2 CL Hl
            go_wp2_with fail
            refine (twp_lputX HT.out _ ?hX (j : Int) (by have := HL2.out.1; omega)).mono ?hN
            case hX =>
              rw [ByteArray.size_append, str_size]
              exact Nat.le_trans (show (_ : Nat) ≤ 19 + 3 from Nat.le_of_eq rfl) (by unfold maxLen; omega)
            case hN =>
              rintro e w6 ⟨rfl, L3, h6, hL3⟩
              have H6 := Lib.hid h6
              have HL3 := Lib.hid hL3
              clear h6 hL3 HT hconv
              go_wp2_with fail
              go_roundw
              case rel => exact ⟨j + 1, L3, by omega, by go_num, by have := HL3.out; have := HL2.out.1; omega, H6.out⟩
              case measure => simp [intOf]; omega
          · obtain rfl : j = g := by omega
            go_wp2_with fail
            go_ret
            exact ⟨rfl, CL.out⟩
end Go.Proofs.Ytkmknmoppigoeaa