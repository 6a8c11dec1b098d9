/-
  The walk of ShapeMore.
-/
import Derived.Test.YthmiiddojccafaaHA
import Derived.Test.YthmiiddojccafaaMasks
namespace Go.Proofs.Ythmiiddojccafaa
open Go.RowKit
set_option linter.all false

def mov1 (k : Nat) : In := ⟨183, k % 10, 0, 0, (k : Int)⟩
def movL (n : Nat) : List In := (List.range n).map mov1
theorem movL_succ (n : Nat) : movL (n + 1) = movL n ++ [mov1 n] := by unfold movL; rw [List.range_succ, List.map_append]; rfl
theorem movL_len (n : Nat) : (movL n).length = n := by unfold movL; simp
theorem mov1_tame (k : Nat) : Tame (mov1 k) := by
  have h1 : (mov1 k).dst < 10 := Nat.mod_lt _ (by decide)
  refine ⟨?_, by show (183 : Nat) ≠ 24; decide, ?_, ?_, ?_, by show jumpsO 183 = false; decide⟩
  · show knownO 183 (k % 10) 0 0 (k : Int) = true
    unfold knownO
    rw [show okO 183 0 = true by decide +kernel, show partO 183 = 9 by decide +kernel]
    unfold allO
    have : k % 10 < 16 := by omega
    simp [this]
  · unfold wr1
    rw [decide_eq_false (by omega : ¬ 10 < (mov1 k).dst)]
    rfl
  · unfold wr2
    rw [decide_eq_false (by omega : ¬ (mov1 k).dst = 10)]
    rfl
  · unfold wr3
    rw [decide_eq_false (by show ¬ (183 : Nat) = 133; decide : ¬ (mov1 k).op = 133)]
    rfl
theorem mov1_wf {k : Nat} (h : k ≤ 50) : (mov1 k).Wf := ⟨by show 183 < 256; decide, by show k % 10 < 256; omega, by show 0 < 256; decide, by show (-32768 : Int) ≤ 0 ∧ (0 : Int) < 32768; decide, by show -2147483648 ≤ (k : Int) ∧ (k : Int) < 2147483648; omega⟩
theorem movL_mem {n : Nat} {x : In} (h : x ∈ movL n) : ∃ k, k < n ∧ x = mov1 k := by
  unfold movL at h
  obtain ⟨k, hk, rfl⟩ := List.mem_map.1 h
  exact ⟨k, List.mem_range.1 hk, rfl⟩
theorem movL_at {n k : Nat} (h : k < n) (L : List In) : (movL n ++ L)[k]? = some (mov1 k) := by
  rw [List.getElem?_append_left (by rw [movL_len]; exact h)]
  unfold movL
  rw [List.getElem?_map, List.getElem?_range h]
  rfl
theorem more_right (n : Nat) (L : List In) : rightO (movL n ++ L) = rightO L := right_tame (fun x hx => by obtain ⟨k, -, rfl⟩ := movL_mem hx; exact ⟨(mov1_tame k).known, (mov1_tame k).op24⟩) L
theorem more_low {n k : Nat} (h : k < n) {L : List In} (hL : 1 ≤ L.length) : wrongO (movL n ++ L) k = false := (mov1_tame k).ok (movL_at h L) (.inl (by rw [List.length_append, movL_len]; omega))
theorem more_high (n k : Nat) (L : List In) : wrongO (movL n ++ L) (n + k) = wrongO L k := by have := wrong_app (movL n) L k; rwa [movL_len] at this
theorem more_arg {n : Nat} {L : List In} (hl : L.length ≤ 200) (hE : rightE L = 1) : rightE (movL n ++ L) = 1 ∨ (L.length = 0 ∧ rightE (movL n ++ L) = 7 ∧ (rightP (movL n ++ L) : Int) = (n : Int) - 1) ∨ 50 < n := by
  rcases Nat.lt_or_ge 50 n with hn | hn
  · exact .inr (.inr hn)
  rcases rightE_cases L with ⟨he, -, -⟩ | ⟨-, k, -, -, e⟩ | ⟨-, -, -, e⟩
  rotate_left
  · omega
  · omega
  rcases Nat.eq_zero_or_pos L.length with h0 | h0
  · obtain rfl := List.eq_nil_of_length_eq_zero h0
    rcases Nat.eq_zero_or_pos n with hz | hz
    · subst hz; exact .inl (by decide +kernel)
    · refine .inr (.inl ⟨rfl, ?_⟩)
      have hlen : (movL n ++ []).length = n := by rw [List.append_nil, movL_len]
      have := right_told (l := movL n ++ []) (k := n - 1) (enc_intro (by omega) (by omega) (by rw [more_right]; rfl)) (by omega) (Tame.last (movL_at (by omega) []) (by omega) (by show (183 : Nat) ≠ 149; decide)) (fun j hj => (mov1_tame j).ok (movL_at (by omega) []) (.inl (by omega)))
      exact ⟨this.2, by rw [this.1]; omega⟩
  · refine .inl ?_
    have hr : rightO L = false := by
      rcases hr : rightO L with _ | _
      · rfl
      · rw [enc_intro h0 (by omega) hr] at he; cases he
    unfold rightE encO
    rw [more_right, hr, Bool.and_false]
    rfl
theorem more_check {n : Nat} {L : List In} (hn : n ≤ 50) (hl : L.length ≤ 200) (hE : rightE L = 7) : rightE (movL n ++ L) = 7 ∧ n ≤ rightP (movL n ++ L) := by
  rcases rightE_cases L with ⟨-, -, e⟩ | ⟨he, k, hf, -, -⟩ | ⟨-, -, -, e⟩
  · omega
  · obtain ⟨h1, h2, hr⟩ := enc_parts he
    obtain ⟨f1, f2, f3⟩ := firstO_some.1 hf
    have := right_told (l := movL n ++ L) (k := n + k) (enc_intro (by rw [List.length_append]; omega) (by rw [List.length_append, movL_len]; omega) (by rw [more_right]; exact hr)) (by rw [List.length_append, movL_len]; omega) (by rw [more_high]; exact f2) (fun j hj => by
      rcases Nat.lt_or_ge j n with hlt | hge
      · exact more_low hlt h1
      · rw [show j = n + (j - n) by omega, more_high]; exact f3 _ (by omega))
    exact ⟨this.2, by rw [this.1]; omega⟩
  · omega
theorem targets_small {L : List In} (hS : shapeO L = true) : ∀ z ∈ targetsO L, 0 ≤ z ∧ z < 512 := by
  intro z hz
  obtain ⟨k, hk, hj, e⟩ := (targets_mem hS z).1 hz
  obtain ⟨h5, _, _, _, hno⟩ := shape_small hS
  have hx : L[k]? = some L[k] := List.getElem?_eq_getElem hk
  obtain ⟨_, _, _, h4, _⟩ := wrong_parts hx (hno k hk)
  unfold jumpAt at hj
  rw [hx] at hj
  obtain ⟨a, b, _⟩ := lead_parts (wr4_no h4 hj)
  unfold toAt at e
  rw [hx] at e
  simp only at e
  omega
theorem more_fine {n : Nat} {L : List In} (hn : n ≤ 50) (hl : L.length ≤ 200) (hS : shapeO L = true) : rightE (movL n ++ L) = 0 ∧ targetsO (movL n ++ L) = (targetsO L).map (· + (n : Int)) := by
  obtain ⟨_, h1, _, hr, hno⟩ := shape_small hS
  have hf := right_fine (l := movL n ++ L) (enc_intro (by rw [List.length_append]; omega) (by rw [List.length_append, movL_len]; omega) (by rw [more_right]; exact hr)) (fun j hj => by
      rw [List.length_append, movL_len] at hj
      rcases Nat.lt_or_ge j n with hlt | hge
      · exact more_low hlt h1
      · rw [show j = n + (j - n) by omega, more_high]; exact hno _ (by omega))
  refine ⟨hf.2.1, Rises.ext (targets_rises _) ?_ (fun z => ?_)⟩
  · exact List.Pairwise.map _ (fun a b h => by omega) (targets_rises L)
  · rw [targets_mem hf.2.2, List.mem_map]
    constructor
    · rintro ⟨k, hk, hj, e⟩
      rw [List.length_append, movL_len] at hk
      rcases Nat.lt_or_ge k n with hlt | hge
      · unfold jumpAt at hj
        rw [movL_at hlt] at hj
        have : jumpsO (mov1 k).op = false := (mov1_tame k).jump
        simp only at hj
        rw [this] at hj
        cases hj
      · have ha := at_app (movL n) L (k - n)
        rw [movL_len, show n + (k - n) = k by omega] at ha
        refine ⟨toAt L (k - n), (targets_mem hS _).2 ⟨k - n, by omega, by unfold jumpAt at hj ⊢; rwa [ha] at hj, rfl⟩, ?_⟩
        rw [← e]
        unfold toAt
        rw [ha, List.getElem?_eq_getElem (by omega)]
        simp only
        omega
    · rintro ⟨y, hy, rfl⟩
      obtain ⟨k, hk, hj, e⟩ := (targets_mem hS y).1 hy
      have ha := at_app (movL n) L k
      rw [movL_len] at ha
      refine ⟨n + k, by rw [List.length_append, movL_len]; omega, by unfold jumpAt at hj ⊢; rw [ha]; exact hj, ?_⟩
      rw [← e]
      unfold toAt
      rw [ha, List.getElem?_eq_getElem hk]
      simp only
      omega

set_option maxRecDepth 100000 in
set_option maxHeartbeats 12800000 in
theorem shapeMore_c {w : World} {v : Value} {l : List In} (hl : Ins w v l) (hw : ∀ i ∈ l, i.Wf) (which : Int) : Calls Try.prog 5 #[v, .int .i64 which] w fun e w' => e = .returned (.bool true) ∧ Calm w w' := by
  obtain ⟨A, ca, rfl, hca, hma⟩ := hl.form
  unfold maxLen at hma
  have H1 := Lib.hid hl
  have HW := Lib.hid hw
  obtain ⟨n, hn⟩ : ∃ n, n = l.length := ⟨_, rfl⟩
  have HN := Lib.hid hn
  have i9 : (n : Int) ≤ 9223372036854775807 := by omega
  have i7 : (n : Int) ≤ (ca : Int) := by omega
  obtain ⟨q, hq0, hq1, hq2, hq3⟩ := cut_len n 200
  have hq : min (n : Int) 200 = (q : Int) := by omega
  rw [← hn] at H1 ⊢
  have I1 : Hid (Ins w (.slice A q ca) (l.take q)) := Lib.hid (by have := H1.out; rw [HN.out] at this; exact this.cut q (by rw [← HN.out]; exact hq2))
  have HQ : Hid ((l.take q).length = q) := Lib.hid (by rw [List.length_take, ← HN.out]; omega)
  have HWL : Hid (∀ i ∈ l.take q, i.Wf) := Lib.hid (fun i hi => HW.out i (List.mem_of_mem_take hi))
  generalize l.take q = L at I1 HQ HWL
  have j1 : (q : Int) ≤ 200 := by omega
  have j2 : (q : Int) ≤ (ca : Int) := by omega
  have HQ2 : Hid (q ≤ 200) := Lib.hid hq1
  clear hl hw hn hca hma hq0 hq3 H1 HW HN
  obtain ⟨r, hr16, hm⟩ := mask_nat which 16 65535 (by decide) rfl
  obtain ⟨m, hm1, hm2⟩ : ∃ m : Nat, (r : Int).tmod 51 = (m : Int) ∧ m ≤ 50 := ⟨r % 51, by rw [Int.tmod_eq_emod_of_nonneg (by omega), Int.natCast_emod]; rfl, by omega⟩
  have hm3 : (r : Int) % 51 = (m : Int) := by rw [← hm1, Int.tmod_eq_emod_of_nonneg (by omega)]
  have HM := Lib.hid hm2
  have k1 : (m : Int) ≤ 50 := by omega
  clear hm2 hr16
  go_enter Try.func5, Try.ntmps5
  go_wp2_with fail
  refine (shown6_c w).mono ?_
  rintro e w1 ⟨rfl, hc1⟩
  have C1 := Lib.hid hc1
  have I0 := Lib.hid (I1.out.calm hc1)
  have IW := I1
  clear hc1 I1
  have E1 := Lib.hid (right_c I0.out HWL.out)
  go_wp2_with fail
  refine E1.out.mono ?_
  rintro e w2 ⟨rfl, hc2⟩
  have C2 := Lib.hid (C1.out.trans hc2)
  have I2 := Lib.hid (I0.out.calm hc2)
  clear hc2 I0 E1 C1 hq hq1 hq2 i9 i7
  obtain ⟨E, hEE⟩ : ∃ E : Nat, E = rightE L := ⟨_, rfl⟩
  obtain ⟨PP, hPP⟩ : ∃ PP : Int, PP = (rightP L : Int) := ⟨_, rfl⟩
  have HE := Lib.hid hEE
  rw [← hEE, ← hPP]
  clear hEE hPP hm hm1 hm3
  go_wp2_with fail
  go_loopw [8, 9] (fun p i wr => ∃ (k : Nat) (pv : Value), pv = p ∧ k ≤ m ∧ i = .int .i64 k ∧ Calm w wr ∧ OwnI wr w.heap.size p (movL k)) (fun _ i _ => m - (intOf i).toNat)
  case atStart => exact ⟨0, _, rfl, by omega, rfl, C2.out, OwnI.nil _ _⟩
  case round =>
    obtain ⟨k, pv, rfl, hk, rfl, hcal, how⟩ := hrel
    have HC := Lib.hid hcal
    have HO := Lib.hid how
    clear hcal how
    by_cases hlt : k < m
    · have i3 : (k : Int) < (m : Int) := by omega
      obtain ⟨kk, hkk⟩ : ∃ kk : Nat, kk = k % 10 := ⟨_, rfl⟩
      have hk10 : kk < 10 := by omega
      have q1 : (k : Int).tmod 10 = (kk : Int) := by rw [Int.tmod_eq_emod_of_nonneg (by omega)]; omega
      have q2 : (k : Int) % 10 = (kk : Int) := by omega
      have q3 : (kk : Int) < 10 := by omega
      have HKK := Lib.hid hkk
      clear hkk hk10
      have IX : Hid (Ins (wr.alloc (.cells #[.int .u8 183, .int .u8 (kk : Int), .int .u8 0, .int .i16 0, .int .i32 (k : Int)] 34)) (.slice (some ⟨wr.heap.size, 0, none⟩) 1 1) [mov1 k]) := Lib.hid (Ins.lit wr [mov1 k] 1 _ rfl (by show _ = [Value.int .u8 183, .int .u8 ((k % 10 : Nat) : Int), .int .u8 0, .int .i16 0, .int .i32 (k : Int)] ++ []; rw [← HKK.out]; rfl) (by decide))
      have O4 : Hid (OwnI (wr.alloc (.cells #[.int .u8 183, .int .u8 (kk : Int), .int .u8 0, .int .i16 0, .int .i32 (k : Int)] 34)) w.heap.size pv (movL k)) := Lib.hid (HO.out.moved ((Keep.refl _ _).alloc _))
      have C4 : Hid (Calm w (wr.alloc (.cells #[.int .u8 183, .int .u8 (kk : Int), .int .u8 0, .int .i16 0, .int .i32 (k : Int)] 34))) := Lib.hid (HC.out.alloc _)
      go_wp2_with (at_builtin; go_loud (refine append_insN (by rfl) (.tmp 34) (.tmp 41) rfl w.heap.size pv (movL k) rfl O4.out (.slice (some ⟨wr.heap.size, 0, none⟩) 1 1) [mov1 k] rfl IX.out (by rw [movL_len]; simp; omega) C4.out.size (k + 1) (by rw [List.length_append, movL_len]; rfl) ?_); rintro A5 c5 w5 ho5 hg5)
      have C5 := Lib.hid (O4.out.calm C4.out (Nat.le_refl _) hg5)
      have O5 := Lib.hid ho5
      clear ho5 hg5 IX O4 C4
      go_wp2_with fail
      go_roundw
      case rel => exact ⟨k + 1, _, rfl, by omega, by go_num, C5.out, by
        have := O5.out
        rw [← movL_succ] at this
        exact this⟩
      case measure => simp [intOf]; omega
    · obtain rfl : k = m := by omega
      have IL := Lib.hid (IW.out.calm HC.out)
      go_wp2_with (at_builtin; go_loud (refine append_insN (by rfl) (.tmp 43) (.tmp 44) rfl w.heap.size pv (movL k) rfl HO.out (.slice A q ca) L rfl IL.out (by rw [movL_len]; have := HQ.out; have := HQ2.out; omega) HC.out.size (k + q) (by rw [List.length_append, movL_len, HQ.out]) ?_); rintro A6 c6 w6 ho6 hg6)
      have C6 := Lib.hid (HO.out.calm HC.out (Nat.le_refl _) hg6)
      have O6 := Lib.hid ho6
      have HW6 : Hid (∀ i ∈ movL k ++ L, i.Wf) := Lib.hid (fun i hi => by
        rcases List.mem_append.1 hi with h | h
        · obtain ⟨j, hj, rfl⟩ := movL_mem h; exact mov1_wf (by have := HM.out; omega)
        · exact HWL.out i h)
      have RC := Lib.hid (right_c O6.out.insN HW6.out)
      clear ho6 hg6 IL HO HC
      go_wp2_with fail
      refine RC.out.mono ?_
      rintro e w7 ⟨rfl, hc7⟩
      have C7 := Lib.hid (C6.out.trans hc7)
      have I7 := Lib.hid (O6.out.insN.calm hc7)
      clear hc7 RC C6 O6
      have hq200 : L.length ≤ 200 := by have := HQ.out; have := HQ2.out; omega
      rcases rightE_cases L with ⟨-, -, hE⟩ | ⟨-, -, -, -, hE⟩ | ⟨-, -, -, hE⟩
      · have hmore := more_arg (n := k) hq200 hE
        rw [← HE.out] at hE
        subst hE
        rcases hmore with h1 | ⟨h1, h2, h3⟩ | h1
        · rw [h1]
          clear h1 hq200
          generalize (rightP (movL k ++ L) : Int) = P7
          go_wp2_with fail
          go_ret
          exact ⟨rfl, C7.out⟩
        · rw [h2, h3]
          obtain rfl : q = 0 := by rw [← HQ.out]; exact h1
          clear h1 h2 h3 hq200
          go_wp2_with fail
          go_ret
          exact ⟨rfl, C7.out⟩
        · have := HM.out; omega
      · have hmore := more_check (n := k) HM.out hq200 hE
        rw [← HE.out] at hE
        subst hE
        rw [hmore.1]
        obtain ⟨P7, hP7⟩ : ∃ P7 : Int, P7 = (rightP (movL k ++ L) : Int) := ⟨_, rfl⟩
        have d1 : decide ((k : Int) ≤ P7) = true := decide_eq_true (by have := hmore.2; omega)
        rw [← hP7]
        clear hP7 hmore hq200
        go_wp2_with fail
        go_ret
        exact ⟨rfl, C7.out⟩
      · have hS := rightE_zero hE
        have hmore := more_fine (n := k) HM.out hq200 hS
        rw [← HE.out] at hE
        subst hE
        rw [hmore.1]
        have HT := Lib.hid hmore.2
        have HS7 := Lib.hid hS
        generalize (rightP (movL k ++ L) : Int) = P7
        clear hmore hq200 hS
        have TA := Lib.hid (targets_c (IW.out.calm C7.out) HWL.out)
        go_wp2_with fail
        refine TA.out.mono ?_
        rintro e w8 ⟨va, rfl, hna, hc8⟩
        have C8 := Lib.hid (C7.out.trans hc8)
        have TB := targets_c (I7.out.calm hc8) HW6.out
        rw [HT.out] at TB
        have HTB := Lib.hid TB
        have NA := Lib.hid hna
        clear hc8 TB hna TA C7
        go_wp2_with fail
        refine HTB.out.mono ?_
        rintro e w9 ⟨vb, rfl, hnb, hc9⟩
        have C9 := Lib.hid (C8.out.trans hc9)
        have NA9 := Lib.hid (NA.out.calm hc9)
        have NB9 := Lib.hid hnb
        clear hc9 hnb HTB C8 NA
        have HZ := Lib.hid (targets_small HS7.out)
        generalize targetsO L = T at NA9 NB9 HZ
        obtain ⟨AA, capA, rfl, -, hmA⟩ := NA9.out.form
        obtain ⟨AB, capB, rfl, -, -⟩ := NB9.out.form
        rw [List.length_map] at NB9 ⊢
        obtain ⟨tn, htn⟩ : ∃ tn, tn = T.length := ⟨_, rfl⟩
        have HTN := Lib.hid htn
        rw [← htn] at NA9 NB9 ⊢
        have l9 : (tn : Int) ≤ 9223372036854775807 := by
          have hh := NA9.out.form
          obtain ⟨_, cc, _, h1, h2⟩ := hh
          unfold maxLen at h2
          omega
        clear htn hmA
        go_wp2_with fail
        go_loopw [14] (fun i wr' => ∃ t : Nat, t ≤ tn ∧ i = .int .i64 t ∧ Calm w9 wr') (fun i _ => tn - (intOf i).toNat)
        case atStart => exact ⟨0, by omega, rfl, Keep.refl _ _⟩
        case round =>
          obtain ⟨t, ht, rfl, hcal⟩ := hrel
          have HCT := Lib.hid hcal
          clear hcal
          by_cases hlt : t < tn
          · have i3 : (t : Int) < (tn : Int) := by omega
            obtain ⟨ada, rfl, ca0⟩ := NA9.out.at_ HCT.out t (by rw [← HTN.out]; exact hlt)
            obtain ⟨adb, rfl, cb0⟩ := NB9.out.at_ HCT.out t (by rw [List.length_map, ← HTN.out]; exact hlt)
            rw [List.getElem_map] at cb0
            have hz := HZ.out _ (List.getElem_mem (l := T) (n := t) (by rw [← HTN.out]; exact hlt))
            generalize T[t] = z at ca0 cb0 hz
            have z1 : 0 ≤ z := hz.1
            have z2 : z < 512 := hz.2
            clear hz
            go_wp2_with fail
            go_region
            go_wp2_with fail
            go_roundw
            case rel => exact ⟨t + 1, by omega, by go_num, HCT.out.drewN _⟩
            case measure => simp [intOf]; omega
          · obtain rfl : t = tn := by omega
            go_wp2_with fail
            go_ret
            exact ⟨rfl, C9.out.trans HCT.out⟩
end Go.Proofs.Ythmiiddojccafaa
