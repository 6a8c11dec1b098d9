/-
  DiskPlays: a step of the kinds 3, 4, 5, and of none.
-/
import Derived.Test.YtppehlnfoendgaaPlays1
namespace Go.Proofs.Ytppehlnfoendgaa
open Go.RowKit
set_option linter.all false

set_option maxHeartbeats 1600000 in
set_option maxRecDepth 100000 in
theorem do_3 {w0 w : World} {R Q : Nat → Prop} {d r : Nat} {S : DS} (h : Half w0 w R Q d r S S) (hwm : S.wait.length ≤ 1000) (hops : S.ops ≤ 1000) (at_ n : Int) (fill : UInt8) (short : Bool) (A : Option Addr) (ks : List Bool) (c : Nat) (hl : ks.length ≤ c) (hc : c ≤ maxLen) (hb : Bools w0 (fun _ => True) (.slice A ks.length c) ks) :
    Calls Try.prog 7 #[.pointer (some ⟨d, 0, none⟩), .pointer (some ⟨r, 0, none⟩), stepV 3 at_ n fill short (.slice A ks.length c)] w fun e w' => e = .returned (.bool true) ∧ Left w0 w' d r S := by
  have H := Lib.hid h
  have HB := Lib.hid hb
  unfold stepV
  unfold maxLen at hc
  clear h hb
  have h1 := Lib.hid (H.out.rest ((Keep.refl _ w).alloc (.cells #[.int .i64 3, .int .i64 at_, .int .i64 n, .int .u8 (fill.toNat : Int), .bool short, .slice A ks.length c] 34)))
  obtain ⟨⟨b, S1⟩, hop⟩ : ∃ x, S.op = x := ⟨_, rfl⟩
  obtain ⟨hw, ho, hs⟩ := DS.op_wait hop
  have Hop := Lib.hid hop
  clear hop
  cases b
  · by_cases h60 : ks.length ≤ 60
    · go_enter Try.func7, Try.ntmps7
      go_wp2_with fail
      refine (st_barrier_no h1.out.st (by omega) (by omega) Hop.out).mono ?_
      rintro e w1 ⟨rfl, hs1, k1⟩
      have h2 := Lib.hid (h1.out.disk hs1 k1 (fun _ _ x => x))
      clear hs1 k1
      go_wp2_with fail
      refine (rbarrier_no h2.out.rf (by omega) (by omega) Hop.out).mono ?_
      rintro e w2 ⟨rfl, hq, k2⟩
      have h3 := Lib.hid (h2.out.ref hq k2 (fun _ x => .inl x))
      clear hq k2
      go_wp2_with fail
      go_ret
      exact ⟨rfl, _, _, S1, h3.out, by omega, by omega, hs⟩
    · go_enter Try.func7, Try.ntmps7
      go_wp2_with fail
      refine (st_barrier_no h1.out.st (by omega) (by omega) Hop.out).mono ?_
      rintro e w1 ⟨rfl, hs1, k1⟩
      have h2 := Lib.hid (h1.out.disk hs1 k1 (fun _ _ x => x))
      clear hs1 k1
      go_wp2_with fail
      refine (rbarrier_no h2.out.rf (by omega) (by omega) Hop.out).mono ?_
      rintro e w2 ⟨rfl, hq, k2⟩
      have h3 := Lib.hid (h2.out.ref hq k2 (fun _ x => .inl x))
      clear hq k2
      go_wp2_with fail
      go_ret
      exact ⟨rfl, _, _, S1, h3.out, by omega, by omega, hs⟩
  · by_cases h60 : ks.length ≤ 60
    · go_enter Try.func7, Try.ntmps7
      go_wp2_with fail
      refine (st_barrier h1.out.st (by omega) (by omega) Hop.out).mono ?_
      rintro e w1 ⟨rfl, hs1, k1⟩
      have h2 := Lib.hid (h1.out.disk hs1 k1 (fun _ _ x => x))
      clear hs1 k1
      go_wp2_with fail
      refine (rbarrier_ok h2.out.rf (by omega) (by omega) Hop.out).mono ?_
      rintro e w2 ⟨rfl, hq, k2⟩
      have h3 := Lib.hid (h2.out.ref hq k2 (fun _ x => .inl x))
      clear hq k2
      go_wp2_with fail
      go_ret
      exact ⟨rfl, _, _, S1.settled, h3.out, by simp [DS.settled], by simp [DS.settled]; omega, by simp [DS.settled, putTo_len, hs]⟩
    · go_enter Try.func7, Try.ntmps7
      go_wp2_with fail
      refine (st_barrier h1.out.st (by omega) (by omega) Hop.out).mono ?_
      rintro e w1 ⟨rfl, hs1, k1⟩
      have h2 := Lib.hid (h1.out.disk hs1 k1 (fun _ _ x => x))
      clear hs1 k1
      go_wp2_with fail
      refine (rbarrier_ok h2.out.rf (by omega) (by omega) Hop.out).mono ?_
      rintro e w2 ⟨rfl, hq, k2⟩
      have h3 := Lib.hid (h2.out.ref hq k2 (fun _ x => .inl x))
      clear hq k2
      go_wp2_with fail
      go_ret
      exact ⟨rfl, _, _, S1.settled, h3.out, by simp [DS.settled], by simp [DS.settled]; omega, by simp [DS.settled, putTo_len, hs]⟩
set_option maxHeartbeats 1600000 in
set_option maxRecDepth 100000 in
theorem do_5 {w0 w : World} {R Q : Nat → Prop} {d r : Nat} {S : DS} (h : Half w0 w R Q d r S S) (hwm : S.wait.length ≤ 1000) (hops : S.ops ≤ 1000) (at_ n : Int) (fill : UInt8) (short : Bool) (A : Option Addr) (ks : List Bool) (c : Nat) (hl : ks.length ≤ c) (hc : c ≤ maxLen) (hb : Bools w0 (fun _ => True) (.slice A ks.length c) ks) :
    Calls Try.prog 7 #[.pointer (some ⟨d, 0, none⟩), .pointer (some ⟨r, 0, none⟩), stepV 5 at_ n fill short (.slice A ks.length c)] w fun e w' => e = .returned (.bool true) ∧ Left w0 w' d r S := by
  have H := Lib.hid h
  have HB := Lib.hid hb
  unfold stepV
  unfold maxLen at hc
  clear h hb
  have h1 := Lib.hid (H.out.rest ((Keep.refl _ w).alloc (.cells #[.int .i64 5, .int .i64 at_, .int .i64 n, .int .u8 (fill.toNat : Int), .bool short, .slice A ks.length c] 34)))
  cases hd : S.down
  · by_cases h60 : ks.length ≤ 60
    · go_enter Try.func7, Try.ntmps7
      go_wp2_with fail
      have ST := st_start h1.out.st
      rw [hd] at ST
      refine ST.mono ?_
      rintro e w1 ⟨rfl, hs1, k1⟩
      have h2 := Lib.hid (h1.out.disk hs1 k1 (fun _ _ x => x))
      clear hs1 k1 ST
      go_wp2_with fail
      have SR := rstart_c h2.out.rf
      rw [hd] at SR
      refine SR.mono ?_
      rintro e w2 ⟨rfl, hq, k2⟩
      have h3 := Lib.hid (h2.out.ref hq k2 (fun _ x => .inl x))
      clear hq k2 SR
      go_wp2_with fail
      go_ret
      exact ⟨rfl, _, _, _, h3.out, by simp, by simp, rfl⟩
    · go_enter Try.func7, Try.ntmps7
      go_wp2_with fail
      have ST := st_start h1.out.st
      rw [hd] at ST
      refine ST.mono ?_
      rintro e w1 ⟨rfl, hs1, k1⟩
      have h2 := Lib.hid (h1.out.disk hs1 k1 (fun _ _ x => x))
      clear hs1 k1 ST
      go_wp2_with fail
      have SR := rstart_c h2.out.rf
      rw [hd] at SR
      refine SR.mono ?_
      rintro e w2 ⟨rfl, hq, k2⟩
      have h3 := Lib.hid (h2.out.ref hq k2 (fun _ x => .inl x))
      clear hq k2 SR
      go_wp2_with fail
      go_ret
      exact ⟨rfl, _, _, _, h3.out, by simp, by simp, rfl⟩
  · by_cases h60 : ks.length ≤ 60
    · go_enter Try.func7, Try.ntmps7
      go_wp2_with fail
      have ST := st_start h1.out.st
      rw [hd] at ST
      refine ST.mono ?_
      rintro e w1 ⟨rfl, hs1, k1⟩
      have h2 := Lib.hid (h1.out.disk hs1 k1 (fun _ _ x => x))
      clear hs1 k1 ST
      go_wp2_with fail
      have SR := rstart_c h2.out.rf
      rw [hd] at SR
      refine SR.mono ?_
      rintro e w2 ⟨rfl, hq, k2⟩
      have h3 := Lib.hid (h2.out.ref hq k2 (fun _ x => .inl x))
      clear hq k2 SR
      go_wp2_with fail
      go_ret
      exact ⟨rfl, _, _, _, h3.out, by simp, by simp, rfl⟩
    · go_enter Try.func7, Try.ntmps7
      go_wp2_with fail
      have ST := st_start h1.out.st
      rw [hd] at ST
      refine ST.mono ?_
      rintro e w1 ⟨rfl, hs1, k1⟩
      have h2 := Lib.hid (h1.out.disk hs1 k1 (fun _ _ x => x))
      clear hs1 k1 ST
      go_wp2_with fail
      have SR := rstart_c h2.out.rf
      rw [hd] at SR
      refine SR.mono ?_
      rintro e w2 ⟨rfl, hq, k2⟩
      have h3 := Lib.hid (h2.out.ref hq k2 (fun _ x => .inl x))
      clear hq k2 SR
      go_wp2_with fail
      go_ret
      exact ⟨rfl, _, _, _, h3.out, by simp, by simp, rfl⟩
set_option maxHeartbeats 1600000 in
set_option maxRecDepth 100000 in
theorem do_4 {w0 w : World} {R Q : Nat → Prop} {d r : Nat} {S : DS} (h : Half w0 w R Q d r S S) (hwm : S.wait.length ≤ 1000) (hops : S.ops ≤ 1000) (at_ n : Int) (fill : UInt8) (short : Bool) (A : Option Addr) (ks : List Bool) (c : Nat) (hl : ks.length ≤ c) (hc : c ≤ maxLen) (hb : Bools w0 (fun _ => True) (.slice A ks.length c) ks) :
    Calls Try.prog 7 #[.pointer (some ⟨d, 0, none⟩), .pointer (some ⟨r, 0, none⟩), stepV 4 at_ n fill short (.slice A ks.length c)] w fun e w' => e = .returned (.bool true) ∧ Left w0 w' d r S := by
  have H := Lib.hid h
  have HB := Lib.hid hb
  unfold stepV
  unfold maxLen at hc
  clear h hb
  have h1 := Lib.hid (H.out.rest ((Keep.refl _ w).alloc (.cells #[.int .i64 4, .int .i64 at_, .int .i64 n, .int .u8 (fill.toNat : Int), .bool short, .slice A ks.length c] 34)))
  have B60 := HB.out.cut 60
  by_cases h60 : ks.length ≤ 60
  · have HBc := Lib.hid (HB.out.calm h1.out.calm (R := R) (fun k hk e => absurd (h1.out.st.new k e) (by omega)))
    have HBq : Hid (∀ w1, Calm w0 w1 → Bools w1 (fun k => ¬ Q k) (.slice A ks.length c) ks) := Lib.hid (fun w1 hc1 => HB.out.calm hc1 (R := Q) (fun k hk e => absurd (h1.out.new k e) (by omega)))
    clear B60
    go_enter Try.func7, Try.ntmps7
    go_wp2_with fail
    refine (st_crash h1.out.st (by omega) _ (ks) (HBc.out) (by simp only [maxLen]; omega)).mono ?_
    rintro e w1 ⟨rfl, hs1, k1⟩
    have h2 := Lib.hid (h1.out.disk hs1 k1 (fun _ _ x => x))
    clear hs1 k1
    go_wp2_with fail
    refine (rcrash_c h2.out.rf (by omega) _ (ks) ((HBq.out w1 h2.out.calm).move (Nat.le_refl _) (fun _ _ _ => rfl) (fun k hk => .inl hk)) (by simp only [maxLen]; omega)).mono ?_
    rintro e w2 ⟨rfl, hq, k2⟩
    have h3 := Lib.hid (h2.out.ref hq k2 (fun _ x => .inl x))
    clear hq k2
    go_wp2_with fail
    go_ret
    exact ⟨rfl, _, _, _, h3.out, by simp [DS.crash], by simp [DS.crash], by simp [DS.crash, putTo_len]⟩
  · rw [Nat.min_eq_right (by omega)] at B60
    have HBc := Lib.hid (B60.calm h1.out.calm (R := R) (fun k hk e => absurd (h1.out.st.new k e) (by omega)))
    have HBq : Hid (∀ w1, Calm w0 w1 → Bools w1 (fun k => ¬ Q k) (.slice A 60 c) (ks.take 60)) := Lib.hid (fun w1 hc1 => B60.calm hc1 (R := Q) (fun k hk e => absurd (h1.out.new k e) (by omega)))
    clear B60
    go_enter Try.func7, Try.ntmps7
    go_wp2_with fail
    refine (st_crash h1.out.st (by omega) _ (ks.take 60) (HBc.out) (by simp only [maxLen]; simp; omega)).mono ?_
    rintro e w1 ⟨rfl, hs1, k1⟩
    have h2 := Lib.hid (h1.out.disk hs1 k1 (fun _ _ x => x))
    clear hs1 k1
    go_wp2_with fail
    refine (rcrash_c h2.out.rf (by omega) _ (ks.take 60) ((HBq.out w1 h2.out.calm).move (Nat.le_refl _) (fun _ _ _ => rfl) (fun k hk => .inl hk)) (by simp only [maxLen]; simp; omega)).mono ?_
    rintro e w2 ⟨rfl, hq, k2⟩
    have h3 := Lib.hid (h2.out.ref hq k2 (fun _ x => .inl x))
    clear hq k2
    go_wp2_with fail
    go_ret
    exact ⟨rfl, _, _, _, h3.out, by simp [DS.crash], by simp [DS.crash], by simp [DS.crash, putTo_len]⟩
set_option maxHeartbeats 1600000 in
set_option maxRecDepth 100000 in
theorem do_none {w0 w : World} {R Q : Nat → Prop} {d r : Nat} {S : DS} (h : Half w0 w R Q d r S S) (hwm : S.wait.length ≤ 1000) (hops : S.ops ≤ 1000) (kd : Int) (hkd : kd < 1 ∨ 6 < kd) (at_ n : Int) (fill : UInt8) (short : Bool) (A : Option Addr) (ks : List Bool) (c : Nat) (hl : ks.length ≤ c) (hc : c ≤ maxLen) (hb : Bools w0 (fun _ => True) (.slice A ks.length c) ks) :
    Calls Try.prog 7 #[.pointer (some ⟨d, 0, none⟩), .pointer (some ⟨r, 0, none⟩), stepV kd at_ n fill short (.slice A ks.length c)] w fun e w' => e = .returned (.bool true) ∧ Left w0 w' d r S := by
  have H := Lib.hid h
  have HB := Lib.hid hb
  unfold stepV
  unfold maxLen at hc
  clear h hb
  have h1 := Lib.hid (H.out.rest ((Keep.refl _ w).alloc (.cells #[.int .i64 kd, .int .i64 at_, .int .i64 n, .int .u8 (fill.toNat : Int), .bool short, .slice A ks.length c] 34)))
  have k1 : (kd == 1) = false := beq_eq_false_iff_ne.2 (by omega)
  have k2 : (kd == 2) = false := beq_eq_false_iff_ne.2 (by omega)
  have k3 : (kd == 3) = false := beq_eq_false_iff_ne.2 (by omega)
  have k4 : (kd == 4) = false := beq_eq_false_iff_ne.2 (by omega)
  have k5 : (kd == 5) = false := beq_eq_false_iff_ne.2 (by omega)
  have k6 : (kd == 6) = false := beq_eq_false_iff_ne.2 (by omega)
  clear hkd
  by_cases h60 : ks.length ≤ 60
  · go_enter Try.func7, Try.ntmps7
    go_wp2_with fail
    go_ret
    exact ⟨rfl, _, _, _, h1.out, by omega, by omega, rfl⟩
  · go_enter Try.func7, Try.ntmps7
    go_wp2_with fail
    go_ret
    exact ⟨rfl, _, _, _, h1.out, by omega, by omega, rfl⟩
end Go.Proofs.Ytppehlnfoendgaa
