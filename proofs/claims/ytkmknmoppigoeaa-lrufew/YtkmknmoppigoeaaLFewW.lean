/-
  LruFew: the walk.
-/
import Derived.Test.YtkmknmoppigoeaaLSh
import Derived.Test.YtkmknmoppigoeaaLsb4
import Derived.Test.YtkmknmoppigoeaaLP
import Derived.Test.YtkmknmoppigoeaaLStv
namespace Go.Proofs.Ytkmknmoppigoeaa
open Go.RowKit
set_option linter.all false
attribute [local go_sem] Oper.semAt_some

set_option maxRecDepth 20000 in
set_option maxHeartbeats 8000000 in
theorem lruFew_c (a0 : Int) (v1 : Value) (ss : List (List UInt8)) (w : World) (hs : Strv w v1 ss) : Calls Try.prog 9 #[.int .i64 a0, v1] w fun e w' => e = .returned (.bool true) ∧ Calm w w' := by
  obtain ⟨A, cap, rfl, hm⟩ := hs.form
  have HS := Lib.hid hs
  have HM := Lib.hid hm
  clear hs hm
  obtain ⟨a, ha⟩ : ∃ a : Int, (if 40 < a0 then 40 else a0) = a := ⟨_, rfl⟩
  have ha4 : a ≤ 40 := by rw [← ha]; split <;> omega
  obtain ⟨r, hr⟩ : ∃ r : Nat, (if a < 1 then 1 else a) = (r : Int) := by
    by_cases h : a < 1
    · exact ⟨1, by rw [if_pos h]; rfl⟩
    · exact ⟨a.toNat, by rw [if_neg h]; omega⟩
  have hr1 : 1 ≤ r ∧ r ≤ 40 := by split at hr <;> omega
  go_enter Try.func9, Try.ntmps9
  go_wp2_with fail
  refine (shown9_c w).mono ?_
  rintro e w1 ⟨rfl, hc⟩
  have C1 := Lib.hid hc
  clear hc
  go_wp2_with fail
  refine (sb_lnew a r hr hr1.1 (by omega) w1).mono ?_
  rintro e w2 ⟨rfl, h2⟩
  have H2 := Lib.hid h2
  clear h2 ha ha4
  generalize w1.heap.size + 1 = b at H2
  go_wp2_with fail
  go_loopw [8] (fun i wr => ∃ j : Nat, j ≤ 60 ∧ i = .int .i64 (j : Int) ∧ ∃ L, Lst sbT w1 wr b r L) (fun i _ => 60 - (intOf i).toNat)
  case atStart => exact ⟨0, by omega, rfl, _, H2.out⟩
  case round =>
    obtain ⟨j, hj, rfl, L, hl⟩ := hrel
    have Hl := Lib.hid hl
    have CL := Lib.hid (C1.out.trans hl.calm_)
    have hll := hl.len
    have hln := Lib.hid hl.nodup
    clear hl H2 hr
    by_cases i1 : j < ss.length
    · by_cases i2 : j < 60
      · obtain ⟨ad, s, rfl, hsj, hsl, hcell⟩ := HS.out.all j i1
        have HC := Lib.hid hcell
        have HSL := Lib.hid hsl
        have cf := hcell wr CL.out
        have hml := HM.out
        clear hsj hcell hsl
        unfold maxLen at hml
        have HO := Lib.hid (sb_loldest Hl.out _ rfl _ rfl _ rfl)
        have HN := Lib.hid (sb_llen Hl.out L.length rfl)
        by_cases hk : s ∈ keysL L
        · obtain ⟨x, hx⟩ := getL_some hk
          have HP1 := Lib.hid (sb_lpeek Hl.out s HSL.out (some x) hx (.bool x) rfl true rfl)
          have hput := putL_yes (most := r) (v := true) hk
          have HLN : Hid ((dropL s L ++ [(s, true)]).length = L.length) := Lib.hid (by have := dropL_len hln.out hk; simp; omega)
          have HG := Lib.hid (fun hn => getL_last (L := dropL s L) (k := s) (v := true) hn)
          have HPut := Lib.hid hput
          clear hk hx hput HO
          generalize dropL s L ++ [(s, true)] = L2 at HPut HLN HG
          generalize hLn : L.length = n at hll HN HLN
          have HLn := Lib.hid hLn
          clear hLn
          go_wp2_with fail
          refine HP1.out.mono ?_
          rintro e w3 ⟨rfl, h3⟩
          have H3 := Lib.hid h3
          have cf3 := HC.out w3 (C1.out.trans h3.calm_)
          have HO2 := Lib.hid (sb_loldest h3 _ rfl _ rfl _ rfl)
          have HN2 := Lib.hid (sb_llen h3 _ HLn.out)
          have HPP := Lib.hid (sb_lput h3 s true HSL.out _ _ HPut.out (.string ⟨#[]⟩) rfl false rfl)
          clear h3 HP1 HN cf HPut
          go_wp2_with fail
          refine HO2.out.mono ?_
          rintro e w4 ⟨rfl, rfl⟩
          go_wp2_with fail
          refine HN2.out.mono ?_
          rintro e w4 ⟨rfl, rfl⟩
          go_wp2_with fail
          refine HPP.out.mono ?_
          rintro e w4 ⟨rfl, h4⟩
          have H4 := Lib.hid h4
          have HN4 := Lib.hid (sb_llen h4 _ HLN.out)
          have cf4 := HC.out w4 (C1.out.trans h4.calm_)
          have HP4 := Lib.hid (sb_lpeek h4 s HSL.out (some true) (HG.out h4.nodup) (.bool true) rfl true rfl)
          clear h4 HPP HN2 HO2 cf3 H3 HG HLN
          go_wp2_with fail
          refine HN4.out.mono ?_
          rintro e w5 ⟨rfl, rfl⟩
          go_wp2_with fail
          refine HP4.out.mono ?_
          rintro e w6 ⟨rfl, h6⟩
          have H6 := Lib.hid h6
          clear h6 HP4
          go_wp2_with fail
          go_roundw
          case rel => exact ⟨j + 1, by omega, by go_num, _, H6.out⟩
          case measure => simp [intOf]; omega
        · by_cases hfu : L.length < r
          · have HP1 := Lib.hid (sb_lpeek Hl.out s HSL.out none (getL_miss hk) (.bool false) rfl false rfl)
            have hput := putL_room (most := r) (v := true) hk hfu
            have HLN : Hid ((L ++ [(s, true)]).length = L.length + 1) := Lib.hid (by simp)
            have HG := Lib.hid (fun hn => getL_last (L := L) (k := s) (v := true) hn)
            have HPut := Lib.hid hput
            clear hk hput HO
            generalize L ++ [(s, true)] = L2 at HPut HLN HG
            generalize hLn : L.length = n at hll HN HLN hfu
            have HLn := Lib.hid hLn
            clear hLn
            have hfull : ((n : Int) == (r : Int)) = false := by rw [beq_eq_false_iff_ne]; omega
            go_wp2_with fail
            refine HP1.out.mono ?_
            rintro e w3 ⟨rfl, h3⟩
            have H3 := Lib.hid h3
            have cf3 := HC.out w3 (C1.out.trans h3.calm_)
            have HO2 := Lib.hid (sb_loldest h3 _ rfl _ rfl _ rfl)
            have HN2 := Lib.hid (sb_llen h3 _ HLn.out)
            have HPP := Lib.hid (sb_lput h3 s true HSL.out _ _ HPut.out (.string ⟨#[]⟩) rfl false rfl)
            clear h3 HP1 HN cf HPut
            go_wp2_with fail
            refine HO2.out.mono ?_
            rintro e w4 ⟨rfl, rfl⟩
            go_wp2_with fail
            refine HN2.out.mono ?_
            rintro e w4 ⟨rfl, rfl⟩
            go_wp2_with fail
            refine HPP.out.mono ?_
            rintro e w4 ⟨rfl, h4⟩
            have H4 := Lib.hid h4
            have HN4 := Lib.hid (sb_llen h4 _ HLN.out)
            have cf4 := HC.out w4 (C1.out.trans h4.calm_)
            have HP4 := Lib.hid (sb_lpeek h4 s HSL.out (some true) (HG.out h4.nodup) (.bool true) rfl true rfl)
            clear h4 HPP HN2 HO2 cf3 H3 HG HLN
            go_wp2_with fail
            refine HN4.out.mono ?_
            rintro e w5 ⟨rfl, rfl⟩
            go_wp2_with fail
            refine HN4.out.mono ?_
            rintro e w5 ⟨rfl, rfl⟩
            go_wp2_with fail
            refine HP4.out.mono ?_
            rintro e w6 ⟨rfl, h6⟩
            have H6 := Lib.hid h6
            clear h6 HP4
            go_wp2_with fail
            go_roundw
            case rel => exact ⟨j + 1, by omega, by go_num, _, H6.out⟩
            case measure => simp [intOf]; omega
          · have HP1 := Lib.hid (sb_lpeek Hl.out s HSL.out none (getL_miss hk) (.bool false) rfl false rfl)
            obtain ⟨x, l, hxl⟩ : ∃ x l, L = x :: l := by
              cases L with
              | nil => simp at hfu; omega
              | cons x l => exact ⟨x, l, rfl⟩
            have hput := putL_full (most := r) (v := true) hk hfu
            rw [show L.head?.map (·.1) = some x.1 by rw [hxl]; rfl] at hput
            have HO3 : Hid (L.head?.map (·.1) = some x.1) := Lib.hid (by rw [hxl]; rfl)
            have HLN : Hid ((L.tail ++ [(s, true)]).length = L.length) := Lib.hid (by rw [hxl]; simp)
            have HG := Lib.hid (fun hn => getL_last (L := L.tail) (k := s) (v := true) hn)
            have HPut := Lib.hid hput
            have hnr : L.length = r := by omega
            clear hk hput hxl hfu hll
            generalize L.tail ++ [(s, true)] = L2 at HPut HLN HG
            generalize hLn : L.length = n at HN HLN hnr
            have HLn := Lib.hid hLn
            clear hLn
            subst hnr
            have hfull : ((n : Int) == (n : Int)) = true := by simp
            go_wp2_with fail
            refine HP1.out.mono ?_
            rintro e w3 ⟨rfl, h3⟩
            have H3 := Lib.hid h3
            have cf3 := HC.out w3 (C1.out.trans h3.calm_)
            have HO2 := Lib.hid (sb_loldest h3 (some x.1) (by have := HO3.out; exact this) (.string (str x.1)) rfl true rfl)
            have HN2 := Lib.hid (sb_llen h3 _ HLn.out)
            have HPP := Lib.hid (sb_lput h3 s true HSL.out _ _ HPut.out (.string (str x.1)) rfl true rfl)
            clear h3 HP1 HN cf HPut
            go_wp2_with fail
            refine HO2.out.mono ?_
            rintro e w4 ⟨rfl, rfl⟩
            go_wp2_with fail
            refine HN2.out.mono ?_
            rintro e w4 ⟨rfl, rfl⟩
            go_wp2_with fail
            refine HPP.out.mono ?_
            rintro e w4 ⟨rfl, h4⟩
            have H4 := Lib.hid h4
            have HN4 := Lib.hid (sb_llen h4 _ HLN.out)
            have cf4 := HC.out w4 (C1.out.trans h4.calm_)
            have HP4 := Lib.hid (sb_lpeek h4 s HSL.out (some true) (HG.out h4.nodup) (.bool true) rfl true rfl)
            clear h4 HPP HN2 HO2 cf3 H3 HG HLN
            go_wp2_with fail
            refine HN4.out.mono ?_
            rintro e w5 ⟨rfl, rfl⟩
            go_wp2_with fail
            refine HP4.out.mono ?_
            rintro e w6 ⟨rfl, h6⟩
            have H6 := Lib.hid h6
            clear h6 HP4
            go_wp2_with fail
            go_roundw
            case rel => exact ⟨j + 1, by omega, by go_num, _, H6.out⟩
            case measure => simp [intOf]; omega
      · have H3 := Lib.hid CL.out
        go_wp2_with fail
        go_ret
        exact ⟨rfl, H3.out⟩
    · have H3 := Lib.hid CL.out
      go_wp2_with fail
      go_ret
      exact ⟨rfl, H3.out⟩
end Go.Proofs.Ytkmknmoppigoeaa