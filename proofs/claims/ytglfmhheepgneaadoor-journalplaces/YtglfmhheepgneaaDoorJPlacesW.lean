/-
  JournalPlaces, walked.
-/
import Derived.Test.YtglfmhheepgneaaDoorJC3
namespace Go.Proofs.YtglfmhheepgneaaDoor
open Go.RowKit
set_option linter.all false

def mark77 : List UInt8 := 77 :: List.replicate 511 0
theorem mark77_len : mark77.length = 512 := by unfold mark77; rw [List.length_cons, List.length_replicate]
theorem mark77_num : num (mark77.take 8) = 77 := by
  have : mark77.take 8 = 77 :: List.replicate 7 0 := by unfold mark77; rw [List.take_succ_cons, List.take_replicate]; rfl
  rw [this]
  decide
theorem beg1_mark : begP 1 ≠ mark77 := by
  intro e
  have h1 := beg_take8 1 [] (by omega)
  rw [List.append_nil, e, mark77_num] at h1
  omega

/-- So many are marked. -/
def marked (j i : Nat) : List UInt8 := if i < j then mark77 else full 0
theorem marked_upd (j i : Nat) : upd (marked j) j mark77 i = marked (j + 1) i := by
  unfold upd marked
  by_cases h : j = i
  · rw [if_pos h, if_pos (by omega)]
  · rw [if_neg h]
    by_cases h2 : i < j
    · rw [if_pos h2, if_pos (by omega)]
    · rw [if_neg h2, if_neg (by omega)]
theorem marked_len (j i : Nat) : (marked j i).length = 512 := by unfold marked; split; exact mark77_len; unfold full; rw [List.length_replicate]
theorem zeros_mark : (List.replicate 512 (0 : UInt8)).set 0 77 = mark77 := by rw [show (512 : Nat) = 511 + 1 from rfl, List.replicate_succ]; rfl

set_option maxRecDepth 100000 in
set_option maxHeartbeats 8000000 in
theorem places_c (w : World) (hT : Tab w) (a0 a1 a2 : Int) (near : Bool) (h1 : -9223372036854775808 ≤ a1 ∧ a1 ≤ 9223372036854775807) (h2 : -9223372036854775808 ≤ a2 ∧ a2 ≤ 9223372036854775807) :
    Calls Tryd.prog 6 #[.int .i64 a0, .int .i64 a1, .int .i64 a2, .bool near] w fun e w' => e = .returned (.bool true) ∧ Calm w w' := by
  obtain ⟨r0, b0, m0⟩ := mask_nat a0 4 15 (by omega) (by decide)
  obtain ⟨r1, b1, m1⟩ := mask_nat a1 4 15 (by omega) (by decide)
  obtain ⟨r2, b2, m2⟩ := mask_nat a2 4 15 (by omega) (by decide)
  have SH := Lib.hid (shown_c w hT)
  have HT := Lib.hid hT
  clear hT
  have b0' : (r0 : Int) < 16 := by omega
  go_enter Tryd.func6, Tryd.ntmps6
  go_wp2_with fail
  refine SH.out.mono ?_
  rintro e w1 ⟨rfl, c1⟩
  have C1 := Lib.hid c1
  clear c1 SH
  obtain ⟨n, hn⟩ : ∃ n : Nat, n = 1 + r0 := ⟨_, rfl⟩
  have hn1 : 1 ≤ n ∧ n ≤ 16 := by omega
  have N := new_up w1 n (by omega) (by omega)
  rw [show ((n : Nat) : Int) = 1 + (r0 : Int) by omega] at N
  have HN := Lib.hid N
  have Hn := Lib.hid hn
  clear N hn
  have hn' : (1 : Int) + (r0 : Int) = (n : Int) := by have := Hn.out; omega
  rw [hn'] at HN
  cases near
  · obtain ⟨F, hF⟩ : ∃ F, F = a1 := ⟨_, rfl⟩
    obtain ⟨Z, hZ⟩ : ∃ Z, Z = a2 := ⟨_, rfl⟩
    rw [← hF] at h1
    rw [← hZ] at h2
    have hFb := h1
    have hZb := h2
    clear m1 m2 b1 b2 h1 h2
    go_wp2_with fail
    rw [← hF, ← hZ]
    clear hF hZ
    try rw [hn']
    clear m0 b0' hn'
    refine HN.out.mono ?_
    rintro e w2 ⟨R2, d, S2, rfl, s2, u2, sh2, e2, o2, c2⟩
    have qm := make512 w2
    have B3 := Lib.hid (BRow.zeros w2 512)
    have z512 : Hid (zero512 = zeros8 512) := Lib.hid rfl
    rw [z512.out] at qm
    have C3 : Hid (Calm w (w2.alloc (.cells (zeros8 512) 5))) := Lib.hid ((C1.out.trans c2).alloc _)
    have f3 := (B3.out : Row _ _ _ _).soft 0
    have g3 := (B3.out : Row _ _ _ _).cell 0
    have hg3 : (((List.replicate 512 (0 : UInt8)).map bv).toArray)[0]? = some (.int .u8 0) := by simp [bv]
    rw [hg3] at g3
    have S3 : Hid (Sd w1 (w2.alloc (.cells (zeros8 512) 5)) R2 d S2) := Lib.hid (s2.rest ((Keep.refl _ w2).alloc _))
    have hb3 : ¬ R2 w2.heap.size := s2.st.fresh (Nat.le_refl _)
    have z1 : Hid (w1.heap.size ≤ w2.heap.size) := Lib.hid c2.size
    obtain ⟨mg, hmg⟩ : ∃ mg, mg = w2.heap.size := ⟨_, rfl⟩
    have Z3 : Hid ((w2.alloc (.cells (zeros8 512) 5)).heap.size = mg + 1) := Lib.hid (by rw [hmg]; simp)
    clear hg3 c2 s2
    go_upto_region 10 with fail
    rw [← hmg] at f3 g3 B3 hb3 z1 ⊢
    clear hmg qm
    generalize w2.alloc (.cells (zeros8 512) 5) = w3 at *
    have B4 : Hid (BRow (w3.setCell ⟨mg, 0, none⟩ (.int .u8 77)) mg mark77) := Lib.hid (by have := B3.out.store 0 77; rwa [zeros_mark] at this)
    have S4 : Hid (Sd w1 (w3.setCell ⟨mg, 0, none⟩ (.int .u8 77)) R2 d S2) := Lib.hid (S3.out.touch (p := ⟨mg, 0, none⟩) hb3 z1.out _)
    have C4 : Hid (Calm w1 (w3.setCell ⟨mg, 0, none⟩ (.int .u8 77))) := Lib.hid S4.out.st.calm
    have hz4 : mg < (w3.setCell ⟨mg, 0, none⟩ (.int .u8 77)).heap.size := by simp; have := Z3.out; omega
    go_upto_region 11 with fail
    clear f3 g3 B3 S3
    generalize w3.setCell ⟨mg, 0, none⟩ (.int .u8 77) = w4 at *
    have HU := Lib.hid (And.intro u2 (And.intro sh2 (And.intro e2 o2)))
    clear u2 sh2 e2 o2
    go_wp2_with fail
    go_loopw [13] (fun i wr => ∃ (j : Nat) (Rr : Nat → Prop) (Sr : DS), j ≤ n ∧ i = .int .i64 (j : Int) ∧ Sd w1 wr Rr d Sr ∧ Sr.Up ∧ Sr.Shows n (marked j) ∧ Sr.ops = j ∧ Sr.wait.length = j ∧ BRow wr mg mark77 ∧ ¬ Rr mg) (fun i _ => n - (intOf i).toNat)
    case atStart => exact ⟨0, R2, S2, by omega, rfl, S4.out, HU.out.1, HU.out.2.1.congr (fun i _ => by simp [marked]), HU.out.2.2.2, by rw [HU.out.2.2.1]; rfl, B4.out, hb3⟩
    case round =>
      obtain ⟨j, Rr, Sr, hj, rfl, hs, hu, hsh, ho, hwl, hb, hnb⟩ := hrel
      by_cases hlt : j < n
      · have hmgl : mg < wr.heap.size := Row.lt hb
        have hbm : Bytes wr (fun k => ¬ Rr k) (.slice (some ⟨mg, 0, none⟩) 512 512) mark77 := by
          have := hb.bytes 0 512 512 (Q := fun k => ¬ Rr k) hnb (by rw [mark77_len]; omega)
          rwa [List.drop_zero, List.take_of_length_le (by rw [mark77_len]; omega)] at this
        have WR := write_up hs hu hsh (by unfold DS.fine; omega) j hlt _ mark77 hbm mark77_len
        have HW := Lib.hid WR
        have HB := Lib.hid hb
        have i0 : (j : Int) < (n : Int) := by omega
        have i1 : (n : Int) ≤ 16 := by omega
        clear WR hb hs hu hsh hbm
        go_wp2_with fail
        refine HW.out.mono ?_
        rintro e w5 ⟨R5, S5, rfl, s5, u5, sh5, o5, l5, x5, k5⟩
        have H5 := Lib.hid (And.intro s5 (And.intro u5 (And.intro sh5 (And.intro o5 (And.intro l5 (And.intro x5 k5))))))
        clear s5 u5 sh5 o5 l5 x5 k5 HW
        go_wp2_with fail
        go_roundw
        case rel =>
          obtain ⟨s5, u5, sh5, o5, l5, x5, k5⟩ := H5.out
          exact ⟨j + 1, R5, S5, by omega, by go_num, s5, u5, sh5.congr (fun i _ => marked_upd j i), by omega, by omega, HB.out.keep k5 hnb, x5.not hnb hmgl⟩
        case measure => simp [intOf]; omega
      · obtain rfl : j = n := by omega
        have H4 := Lib.hid (And.intro hs (And.intro hu (And.intro hsh (And.intro ho (And.intro hwl (And.intro hb hnb))))))
        have hT1 : Hid (Tab w1) := Lib.hid (HT.out.calm C1.out)
        have i1 : (j : Int) ≤ 16 := by omega
        have i2 : (1 : Int) ≤ (j : Int) := by omega
        clear hs hu hsh ho hwl hb hnb B4 S4 C4 HU
        by_cases hmay : 2 ≤ Z ∧ Z ≤ (j : Int) ∧ 0 ≤ F ∧ F ≤ (j : Int) - Z
        rotate_left
        · have FA := Lib.hid (jformat_arg H4.out.1 F Z hFb hZb (by rw [H4.out.2.2.1.1]; exact hmay))
          have OA := Lib.hid (jopen_arg H4.out.1 F Z hFb hZb (by rw [H4.out.2.2.1.1]; exact hmay))
          have hcases : (¬ 2 ≤ Z) ∨ (2 ≤ Z ∧ ¬ 0 ≤ F) ∨ (2 ≤ Z ∧ 0 ≤ F ∧ ¬ Z ≤ (j : Int)) ∨ (2 ≤ Z ∧ 0 ≤ F ∧ Z ≤ (j : Int) ∧ ¬ F ≤ (j : Int) - Z) := by omega
          clear hmay
          rcases hcases with k1 | ⟨k1, k2⟩ | ⟨k1, k2, k3⟩ | ⟨k1, k2, k3, k4⟩
          all_goals
            try (have t1 : decide ((2 : Int) ≤ Z) = false := decide_eq_false (by omega))
            try (have t2 : decide ((0 : Int) ≤ F) = false := decide_eq_false (by omega))
            try (have t3 : decide (Z ≤ (j : Int)) = false := decide_eq_false (by omega))
            try (have t4 : decide (F ≤ (j : Int) - Z) = false := decide_eq_false (by omega))
            go_wp2_with (first | (go_at_call 12; refine FA.out.mono ?_; rintro e w6 ⟨rfl, rfl⟩) | (go_at_call 22; refine OA.out.mono ?_; rintro e w6 ⟨rfl, rfl⟩))
            go_ret
            exact ⟨rfl, C1.out.trans H4.out.1.st.calm⟩
        obtain ⟨k1, k3, k2, k4⟩ := hmay
        obtain ⟨f, rfl⟩ : ∃ f : Nat, F = (f : Int) := ⟨F.toNat, by omega⟩
        obtain ⟨z, rfl⟩ : ∃ z : Nat, Z = (z : Int) := ⟨Z.toNat, by omega⟩
        have FM := Lib.hid (jformat_up (f := f) (k := z) hT1.out H4.out.1 H4.out.2.1 H4.out.2.2.1 (by omega) (by omega) (by unfold DS.fine; have := H4.out.2.2.2; omega))
        go_wp2_with fail
        refine FM.out.mono ?_
        rintro e w6 ⟨R6, S6, jb, rfl, hjb6, J6, x6, k6, e6, b6, o6⟩
        have OP := jopen_up (f := f) (k := z) hT1.out J6.jn.sd J6.up J6.shows (by omega) (by omega) (by unfold DS.fine; rw [e6, o6]; have := H4.out.2.2.2; simp; omega)
        have hrep : Hid (replay (areaC (upd (marked j) f (begP 1)) f z) = some ([], 2, 1)) := Lib.hid (by
          have h1 := Chain.beg (marked j) f z 1 (by omega)
          have h2 := h1.told (by omega) (by simp) (by simp) (fun _ => by unfold marked; rw [if_pos (by simp [secsAll]; omega), mark77_num]; simp) (marked_len _ _)
          exact h2)
        have HO := Lib.hid OP
        have M6 := Lib.hid (H4.out.2.2.2.2.2.1.keep k6 H4.out.2.2.2.2.2.2)
        have N6 := Lib.hid (x6.not H4.out.2.2.2.2.2.2 (Row.lt H4.out.2.2.2.2.2.1))
        have HE6 : Hid (S6.wait.length ≤ 0 ∧ S6.ops ≤ 20) := Lib.hid (by have := H4.out.2.2.2.1; rw [e6, o6]; simp; omega)
        have HS6 := Lib.hid (And.intro J6.up J6.shows)
        clear OP FM J6 x6 k6 e6 b6 o6 hjb6
        go_wp2_with fail
        refine HO.out.mono ?_
        rintro e w7 ⟨R7, q7, hq7, x7, k7, s7, ⟨hno, -⟩ | ⟨out, n', used, A, cc, jb9, hs, rfl, hrc, -, J9, -, -, -, -, -⟩⟩
        · rw [hrep.out] at hno; cases hno
        rw [hrep.out] at hs
        injection hs with hs
        injection hs with hs1 hs2
        injection hs2 with hs2 hs3
        subst hs1; subst hs2; subst hs3
        have M7 := Lib.hid (M6.out.keep k7 N6.out)
        have N7 : Hid (¬ R7 mg) := Lib.hid (fun e => N6.out (x7 _ e))
        have H7 := Lib.hid s7
        clear hrc J9 x7 k7 s7 HO
        go_wp2_with fail
        go_loopw [20] (fun i wr => ∃ (a q : Nat) (Rr : Nat → Prop), a ≤ j ∧ q ≤ 30 + a ∧ i = .int .i64 (a : Int) ∧ Sd w1 wr Rr d (S6.more q) ∧ BRow wr mg mark77 ∧ ¬ Rr mg) (fun i _ => j - (intOf i).toNat)
        case atStart => exact ⟨0, q7, R7, by omega, by omega, rfl, H7.out, M7.out, N7.out⟩
        case round =>
          obtain ⟨a, q, Rr, ha, hq, rfl, hs, hb, hnb⟩ := hrel
          by_cases hla : a < j
          · have RD := Lib.hid (read_up hs HS6.out.1 (HS6.out.2.more q) (by unfold DS.fine; have := HE6.out; simp only [DS.more]; omega) a hla)
            have HB := Lib.hid hb
            have ia : (a : Int) < (j : Int) := by omega
            clear hs hb
            go_wp2_with fail
            refine RD.out.mono ?_
            rintro e w8 ⟨R8, g8, cap8, rfl, rd8, l8, s8, x8, k8⟩
            have qa := conv_rd rd8
            have HB8 := Lib.hid (HB.out.keep k8 hnb)
            have qb := conv_rd (HB8.out.rd512 mark77_len)
            have N8 : Hid (¬ R8 mg) := Lib.hid (fun e => hnb (x8 _ e))
            have H8 := Lib.hid s8
            clear rd8 l8 x8 k8 s8 RD
            by_cases haf : a = f
            · subst haf
              have t1 : ((a : Int) != (a : Int)) = false := by simp
              rw [show upd (marked j) a (begP 1) a = begP 1 by simp [upd]] at qa
              have hne := str_beq_no beg1_mark
              go_wp2_with fail
              go_roundw
              case rel => exact ⟨a + 1, q + 1, R8, by omega, by omega, by go_num, by have := H8.out; rwa [DS.more_more] at this, HB8.out, N8.out⟩
              case measure => simp [intOf]; omega
            · have t1 : ((a : Int) != (f : Int)) = true := by rw [bne_iff_ne]; omega
              rw [show upd (marked j) f (begP 1) a = mark77 by unfold upd marked; rw [if_neg (by omega), if_pos hla]] at qa
              go_wp2_with fail
              go_roundw
              case rel => exact ⟨a + 1, q + 1, R8, by omega, by omega, by go_num, by have := H8.out; rwa [DS.more_more] at this, HB8.out, N8.out⟩
              case measure => simp [intOf]; omega
          · obtain rfl : a = j := by omega
            have HS := Lib.hid hs
            clear hs hb
            go_wp2_with fail
            go_ret
            exact ⟨rfl, C1.out.trans HS.out.st.calm⟩
  · have h1' : -9223372036854775808 ≤ (r1 : Int) ∧ (r1 : Int) ≤ 9223372036854775807 := by omega
    have h2' : -9223372036854775808 ≤ (r2 : Int) ∧ (r2 : Int) ≤ 9223372036854775807 := by omega
    go_wp2_with fail
    clear m1 m2 b1 b2 h1 h2
    generalize (r1 : Int) = F at *
    generalize (r2 : Int) = Z at *
    have hFb := h1'
    have hZb := h2'
    clear h1' h2'
    try rw [hn']
    clear m0 b0' hn'
    refine HN.out.mono ?_
    rintro e w2 ⟨R2, d, S2, rfl, s2, u2, sh2, e2, o2, c2⟩
    have qm := make512 w2
    have B3 := Lib.hid (BRow.zeros w2 512)
    have z512 : Hid (zero512 = zeros8 512) := Lib.hid rfl
    rw [z512.out] at qm
    have C3 : Hid (Calm w (w2.alloc (.cells (zeros8 512) 5))) := Lib.hid ((C1.out.trans c2).alloc _)
    have f3 := (B3.out : Row _ _ _ _).soft 0
    have g3 := (B3.out : Row _ _ _ _).cell 0
    have hg3 : (((List.replicate 512 (0 : UInt8)).map bv).toArray)[0]? = some (.int .u8 0) := by simp [bv]
    rw [hg3] at g3
    have S3 : Hid (Sd w1 (w2.alloc (.cells (zeros8 512) 5)) R2 d S2) := Lib.hid (s2.rest ((Keep.refl _ w2).alloc _))
    have hb3 : ¬ R2 w2.heap.size := s2.st.fresh (Nat.le_refl _)
    have z1 : Hid (w1.heap.size ≤ w2.heap.size) := Lib.hid c2.size
    obtain ⟨mg, hmg⟩ : ∃ mg, mg = w2.heap.size := ⟨_, rfl⟩
    have Z3 : Hid ((w2.alloc (.cells (zeros8 512) 5)).heap.size = mg + 1) := Lib.hid (by rw [hmg]; simp)
    clear hg3 c2 s2
    go_upto_region 10 with fail
    rw [← hmg] at f3 g3 B3 hb3 z1 ⊢
    clear hmg qm
    generalize w2.alloc (.cells (zeros8 512) 5) = w3 at *
    have B4 : Hid (BRow (w3.setCell ⟨mg, 0, none⟩ (.int .u8 77)) mg mark77) := Lib.hid (by have := B3.out.store 0 77; rwa [zeros_mark] at this)
    have S4 : Hid (Sd w1 (w3.setCell ⟨mg, 0, none⟩ (.int .u8 77)) R2 d S2) := Lib.hid (S3.out.touch (p := ⟨mg, 0, none⟩) hb3 z1.out _)
    have C4 : Hid (Calm w1 (w3.setCell ⟨mg, 0, none⟩ (.int .u8 77))) := Lib.hid S4.out.st.calm
    have hz4 : mg < (w3.setCell ⟨mg, 0, none⟩ (.int .u8 77)).heap.size := by simp; have := Z3.out; omega
    go_upto_region 11 with fail
    clear f3 g3 B3 S3
    generalize w3.setCell ⟨mg, 0, none⟩ (.int .u8 77) = w4 at *
    have HU := Lib.hid (And.intro u2 (And.intro sh2 (And.intro e2 o2)))
    clear u2 sh2 e2 o2
    go_wp2_with fail
    go_loopw [13] (fun i wr => ∃ (j : Nat) (Rr : Nat → Prop) (Sr : DS), j ≤ n ∧ i = .int .i64 (j : Int) ∧ Sd w1 wr Rr d Sr ∧ Sr.Up ∧ Sr.Shows n (marked j) ∧ Sr.ops = j ∧ Sr.wait.length = j ∧ BRow wr mg mark77 ∧ ¬ Rr mg) (fun i _ => n - (intOf i).toNat)
    case atStart => exact ⟨0, R2, S2, by omega, rfl, S4.out, HU.out.1, HU.out.2.1.congr (fun i _ => by simp [marked]), HU.out.2.2.2, by rw [HU.out.2.2.1]; rfl, B4.out, hb3⟩
    case round =>
      obtain ⟨j, Rr, Sr, hj, rfl, hs, hu, hsh, ho, hwl, hb, hnb⟩ := hrel
      by_cases hlt : j < n
      · have hmgl : mg < wr.heap.size := Row.lt hb
        have hbm : Bytes wr (fun k => ¬ Rr k) (.slice (some ⟨mg, 0, none⟩) 512 512) mark77 := by
          have := hb.bytes 0 512 512 (Q := fun k => ¬ Rr k) hnb (by rw [mark77_len]; omega)
          rwa [List.drop_zero, List.take_of_length_le (by rw [mark77_len]; omega)] at this
        have WR := write_up hs hu hsh (by unfold DS.fine; omega) j hlt _ mark77 hbm mark77_len
        have HW := Lib.hid WR
        have HB := Lib.hid hb
        have i0 : (j : Int) < (n : Int) := by omega
        have i1 : (n : Int) ≤ 16 := by omega
        clear WR hb hs hu hsh hbm
        go_wp2_with fail
        refine HW.out.mono ?_
        rintro e w5 ⟨R5, S5, rfl, s5, u5, sh5, o5, l5, x5, k5⟩
        have H5 := Lib.hid (And.intro s5 (And.intro u5 (And.intro sh5 (And.intro o5 (And.intro l5 (And.intro x5 k5))))))
        clear s5 u5 sh5 o5 l5 x5 k5 HW
        go_wp2_with fail
        go_roundw
        case rel =>
          obtain ⟨s5, u5, sh5, o5, l5, x5, k5⟩ := H5.out
          exact ⟨j + 1, R5, S5, by omega, by go_num, s5, u5, sh5.congr (fun i _ => marked_upd j i), by omega, by omega, HB.out.keep k5 hnb, x5.not hnb hmgl⟩
        case measure => simp [intOf]; omega
      · obtain rfl : j = n := by omega
        have H4 := Lib.hid (And.intro hs (And.intro hu (And.intro hsh (And.intro ho (And.intro hwl (And.intro hb hnb))))))
        have hT1 : Hid (Tab w1) := Lib.hid (HT.out.calm C1.out)
        have i1 : (j : Int) ≤ 16 := by omega
        have i2 : (1 : Int) ≤ (j : Int) := by omega
        clear hs hu hsh ho hwl hb hnb B4 S4 C4 HU
        by_cases hmay : 2 ≤ Z ∧ Z ≤ (j : Int) ∧ 0 ≤ F ∧ F ≤ (j : Int) - Z
        rotate_left
        · have FA := Lib.hid (jformat_arg H4.out.1 F Z hFb hZb (by rw [H4.out.2.2.1.1]; exact hmay))
          have OA := Lib.hid (jopen_arg H4.out.1 F Z hFb hZb (by rw [H4.out.2.2.1.1]; exact hmay))
          have hcases : (¬ 2 ≤ Z) ∨ (2 ≤ Z ∧ ¬ 0 ≤ F) ∨ (2 ≤ Z ∧ 0 ≤ F ∧ ¬ Z ≤ (j : Int)) ∨ (2 ≤ Z ∧ 0 ≤ F ∧ Z ≤ (j : Int) ∧ ¬ F ≤ (j : Int) - Z) := by omega
          clear hmay
          rcases hcases with k1 | ⟨k1, k2⟩ | ⟨k1, k2, k3⟩ | ⟨k1, k2, k3, k4⟩
          all_goals
            try (have t1 : decide ((2 : Int) ≤ Z) = false := decide_eq_false (by omega))
            try (have t2 : decide ((0 : Int) ≤ F) = false := decide_eq_false (by omega))
            try (have t3 : decide (Z ≤ (j : Int)) = false := decide_eq_false (by omega))
            try (have t4 : decide (F ≤ (j : Int) - Z) = false := decide_eq_false (by omega))
            go_wp2_with (first | (go_at_call 12; refine FA.out.mono ?_; rintro e w6 ⟨rfl, rfl⟩) | (go_at_call 22; refine OA.out.mono ?_; rintro e w6 ⟨rfl, rfl⟩))
            go_ret
            exact ⟨rfl, C1.out.trans H4.out.1.st.calm⟩
        obtain ⟨k1, k3, k2, k4⟩ := hmay
        obtain ⟨f, rfl⟩ : ∃ f : Nat, F = (f : Int) := ⟨F.toNat, by omega⟩
        obtain ⟨z, rfl⟩ : ∃ z : Nat, Z = (z : Int) := ⟨Z.toNat, by omega⟩
        have FM := Lib.hid (jformat_up (f := f) (k := z) hT1.out H4.out.1 H4.out.2.1 H4.out.2.2.1 (by omega) (by omega) (by unfold DS.fine; have := H4.out.2.2.2; omega))
        go_wp2_with fail
        refine FM.out.mono ?_
        rintro e w6 ⟨R6, S6, jb, rfl, hjb6, J6, x6, k6, e6, b6, o6⟩
        have OP := jopen_up (f := f) (k := z) hT1.out J6.jn.sd J6.up J6.shows (by omega) (by omega) (by unfold DS.fine; rw [e6, o6]; have := H4.out.2.2.2; simp; omega)
        have hrep : Hid (replay (areaC (upd (marked j) f (begP 1)) f z) = some ([], 2, 1)) := Lib.hid (by
          have h1 := Chain.beg (marked j) f z 1 (by omega)
          have h2 := h1.told (by omega) (by simp) (by simp) (fun _ => by unfold marked; rw [if_pos (by simp [secsAll]; omega), mark77_num]; simp) (marked_len _ _)
          exact h2)
        have HO := Lib.hid OP
        have M6 := Lib.hid (H4.out.2.2.2.2.2.1.keep k6 H4.out.2.2.2.2.2.2)
        have N6 := Lib.hid (x6.not H4.out.2.2.2.2.2.2 (Row.lt H4.out.2.2.2.2.2.1))
        have HE6 : Hid (S6.wait.length ≤ 0 ∧ S6.ops ≤ 20) := Lib.hid (by have := H4.out.2.2.2.1; rw [e6, o6]; simp; omega)
        have HS6 := Lib.hid (And.intro J6.up J6.shows)
        clear OP FM J6 x6 k6 e6 b6 o6 hjb6
        go_wp2_with fail
        refine HO.out.mono ?_
        rintro e w7 ⟨R7, q7, hq7, x7, k7, s7, ⟨hno, -⟩ | ⟨out, n', used, A, cc, jb9, hs, rfl, hrc, -, J9, -, -, -, -, -⟩⟩
        · rw [hrep.out] at hno; cases hno
        rw [hrep.out] at hs
        injection hs with hs
        injection hs with hs1 hs2
        injection hs2 with hs2 hs3
        subst hs1; subst hs2; subst hs3
        have M7 := Lib.hid (M6.out.keep k7 N6.out)
        have N7 : Hid (¬ R7 mg) := Lib.hid (fun e => N6.out (x7 _ e))
        have H7 := Lib.hid s7
        clear hrc J9 x7 k7 s7 HO
        go_wp2_with fail
        go_loopw [20] (fun i wr => ∃ (a q : Nat) (Rr : Nat → Prop), a ≤ j ∧ q ≤ 30 + a ∧ i = .int .i64 (a : Int) ∧ Sd w1 wr Rr d (S6.more q) ∧ BRow wr mg mark77 ∧ ¬ Rr mg) (fun i _ => j - (intOf i).toNat)
        case atStart => exact ⟨0, q7, R7, by omega, by omega, rfl, H7.out, M7.out, N7.out⟩
        case round =>
          obtain ⟨a, q, Rr, ha, hq, rfl, hs, hb, hnb⟩ := hrel
          by_cases hla : a < j
          · have RD := Lib.hid (read_up hs HS6.out.1 (HS6.out.2.more q) (by unfold DS.fine; have := HE6.out; simp only [DS.more]; omega) a hla)
            have HB := Lib.hid hb
            have ia : (a : Int) < (j : Int) := by omega
            clear hs hb
            go_wp2_with fail
            refine RD.out.mono ?_
            rintro e w8 ⟨R8, g8, cap8, rfl, rd8, l8, s8, x8, k8⟩
            have qa := conv_rd rd8
            have HB8 := Lib.hid (HB.out.keep k8 hnb)
            have qb := conv_rd (HB8.out.rd512 mark77_len)
            have N8 : Hid (¬ R8 mg) := Lib.hid (fun e => hnb (x8 _ e))
            have H8 := Lib.hid s8
            clear rd8 l8 x8 k8 s8 RD
            by_cases haf : a = f
            · subst haf
              have t1 : ((a : Int) != (a : Int)) = false := by simp
              rw [show upd (marked j) a (begP 1) a = begP 1 by simp [upd]] at qa
              have hne := str_beq_no beg1_mark
              go_wp2_with fail
              go_roundw
              case rel => exact ⟨a + 1, q + 1, R8, by omega, by omega, by go_num, by have := H8.out; rwa [DS.more_more] at this, HB8.out, N8.out⟩
              case measure => simp [intOf]; omega
            · have t1 : ((a : Int) != (f : Int)) = true := by rw [bne_iff_ne]; omega
              rw [show upd (marked j) f (begP 1) a = mark77 by unfold upd marked; rw [if_neg (by omega), if_pos hla]] at qa
              go_wp2_with fail
              go_roundw
              case rel => exact ⟨a + 1, q + 1, R8, by omega, by omega, by go_num, by have := H8.out; rwa [DS.more_more] at this, HB8.out, N8.out⟩
              case measure => simp [intOf]; omega
          · obtain rfl : a = j := by omega
            have HS := Lib.hid hs
            clear hs hb
            go_wp2_with fail
            go_ret
            exact ⟨rfl, C1.out.trans HS.out.st.calm⟩
end Go.Proofs.YtglfmhheepgneaaDoor
