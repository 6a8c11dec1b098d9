/-
  DiskPlays: a step of the kind 6.
-/
import Derived.Test.YtppehlnfoendgaaPlays3
namespace Go.Proofs.Ytppehlnfoendgaa
open Go.RowKit
set_option linter.all false

theorem own0 {w : World} {base : Nat} {t : TypeId} {size : Nat} {v : Value} {n : Nat} {xs : List Value} (h : w.ownsRow base t size v n xs) : w.ownsRow 0 t size v n xs := by
  refine ⟨h.1, ?_⟩
  rcases h.2 with a2 | ⟨g, cap, cur, b0, b1, b2, b3⟩
  · exact .inl a2
  · exact .inr ⟨g, cap, cur, b0, Nat.zero_le _, b2, b3⟩
theorem own_row {w : World} {base : Nat} {t : TypeId} {size : Nat} {v : Value} {n : Nat} {xs : List Value} (h : w.ownsRow base t size v n xs) {g : Nat} (hg : v.ownBlock = some g) : base ≤ g ∧ ∃ cur, Row w g t cur := by
  rcases h.2 with ⟨a2, _⟩ | ⟨g', cap, cur, b0, b1, b2, b3⟩
  · rw [a2] at hg; simp [Value.ownBlock] at hg
  · rw [b0] at hg
    have : g' = g := by simpa [Value.ownBlock] using hg
    subst this
    exact ⟨b1, cur, b2⟩
theorem bools_old {w w' : World} {v : Value} {ks : List Bool} (h : Bools w (fun _ => True) v ks) (hc : Calm w w') : Bools w' (fun k => k < w.heap.size) v ks := by
  obtain ⟨A, cap, e, hh⟩ := h
  refine ⟨A, cap, e, fun i b hi => ?_⟩
  obtain ⟨ad, e1, _, e2, e3⟩ := hh i b hi
  exact ⟨ad, e1, e2, Nat.lt_of_lt_of_le e2 hc.size, (hc.cell (by rw [Addr.add_block]; exact e2) (fun e => e)).trans e3⟩
theorem Half.touch {w0 w : World} {R Q : Nat → Prop} {d r : Nat} {S T : DS} (h : Half w0 w R Q d r S T) {g : Nat} (hR : ¬ R g) (hQ : ¬ Q g) (hn : w0.heap.size ≤ g) (x : Nat) (v : Value) : Half w0 (w.setCell ⟨g, x, none⟩ v) R Q d r S T :=
  have k : Keep (fun k => k = g) w (w.setCell ⟨g, x, none⟩ v) := (Keep.refl (fun k => k = g) w).store (p := ⟨g, x, none⟩) (fun _ => rfl) v
  ⟨h.st.touch (p := ⟨g, x, none⟩) hR hn v, h.rf.move (fun i hi hl => k.block i hl (fun e => hQ (e ▸ hi))) (fun _ x => x), h.new, fun i hi => Nat.lt_of_lt_of_le (h.lt i hi) k.size, h.apart⟩
set_option maxHeartbeats 1600000 in
set_option maxRecDepth 100000 in
theorem do_6 {w0 w : World} {R Q : Nat → Prop} {d r : Nat} {S : DS} (h : Half w0 w R Q d r S S) (hwm : S.wait.length ≤ 1000) (hops : S.ops ≤ 1000) (at_ n : Int) (fill : UInt8) (short : Bool) (A : Option Addr) (ks : List Bool) (c : Nat) (hl : ks.length ≤ c) (hc : c ≤ maxLen) (hn : n ≤ 9223372036854775807) (hz : A = none → c = 0) (hb : Bools w0 (fun _ => True) (.slice A ks.length c) ks) :
    Calls Try.prog 7 #[.pointer (some ⟨d, 0, none⟩), .pointer (some ⟨r, 0, none⟩), stepV 6 at_ n fill short (.slice A ks.length c)] w fun e w' => e = .returned (.bool true) ∧ Left w0 w' d r S := by
  have H := Lib.hid h
  have HB := Lib.hid hb
  unfold stepV
  unfold maxLen at hc
  clear h hb
  have h1 := Lib.hid (H.out.rest ((Keep.refl _ w).alloc (.cells #[.int .i64 6, .int .i64 at_, .int .i64 n, .int .u8 (fill.toNat : Int), .bool short, .slice A ks.length c] 34)))
  obtain ⟨i0, hi0, hz0, hz1, hz2⟩ := info_parts info4
  cases A with
  | none =>
    obtain rfl := hz rfl
    have hk0 : ks = [] := by
      cases ks with
      | nil => rfl
      | cons b l => simp at hl
    subst hk0
    have HBa : Hid (∀ w1, Calm w0 w1 → Bools w1 (fun k => k < w0.heap.size) (.slice none 0 0) []) := Lib.hid (fun w1 hc1 => Bools.none_ _ _)
    by_cases hn0 : n < 0
    · skip
      go_enter Try.func7, Try.ntmps7
      go_upto_region 26 with fail
      have s2 : (w.alloc (.cells #[.int .i64 6, .int .i64 at_, .int .i64 n, .int .u8 (fill.toNat : Int), .bool short, .slice none 0 0] 34)).cell? ⟨w.heap.size, 2, none⟩ = some (.int .i64 n) := by simp
      have sz : w.heap.size < (w.alloc (.cells #[.int .i64 6, .int .i64 at_, .int .i64 n, .int .u8 (fill.toNat : Int), .bool short, .slice none 0 0] 34)).heap.size := by simp
      generalize World.alloc w _ = wa at h1 s2 sz ⊢
      have OM : Hid ((wa.alloc (.cells #[] 4)).ownsRow wa.heap.size 4 1 (.slice (some ⟨wa.heap.size, 0, none⟩) 0 0) 0 []) := Lib.hid (World.ownsRow_made wa #[] 0 (Nat.le_refl _) (Nat.zero_le _) rfl)
      have C2 : Hid (Calm wa (wa.alloc (.cells #[] 4))) := Lib.hid ((Keep.refl _ wa).alloc _)
      obtain ⟨A', hA'⟩ : ∃ A' : Option Addr, A' = some ⟨wa.heap.size, 0, none⟩ := ⟨_, rfl⟩
      obtain ⟨c', hc'⟩ : ∃ c' : Nat, c' = 0 := ⟨_, rfl⟩
      go_wp2_with (at_builtin; go_loud (refine wpList_append_own_none rfl (.tmp 108) (.tmp 109) 32 rfl wa.heap.size 4 i0 1 Try.underlying32 hi0 (.slice (some ⟨wa.heap.size, 0, none⟩) 0 0) 0 [] rfl OM.out rfl ?_); have vv : Value.slice (some ⟨wa.heap.size, 0, none⟩) 0 0 = .slice A' 0 c' := (by rw [hA', hc']); have O2 := OM; rw [vv] at O2; have s3 := (C2.out.cell (p := ⟨w.heap.size, 2, none⟩) sz (fun e => e)).trans s2; rw [vv]; clear vv hA' hc'; generalize World.alloc wa _ = w2 at C2 O2 s3 OM ⊢)
      have O0 := own0 O2.out
      have hnew := fun g (e : (Value.slice A' 0 c').ownBlock = some g) => own_row O2.out e
      have h2 := Lib.hid (h1.out.rest C2.out)
      have nR : ∀ g, (Value.slice A' 0 c').ownBlock = some g → ¬ R g ∧ ¬ Q g ∧ w0.heap.size ≤ g := fun g e => ⟨fun x => absurd (h1.out.st.lt g x) (by have := (hnew g e).1; omega), fun x => absurd (h1.out.lt g x) (by have := (hnew g e).1; omega), by have := (hnew g e).1; have := h1.out.calm.size; omega⟩
      have OB := (own_bools (ks := []) O0).move (R' := fun k => ¬ R k) (Nat.le_refl _) (fun _ _ _ => rfl) (fun k hk => (nR k hk.1).1)
      have X := st_arm_off h2.out.st n hn0 (.slice A' 0 c')
      refine X.mono ?_
      rintro e w3 ⟨rfl, hs3, k3⟩
      have h3 := Lib.hid (h2.out.disk hs3 k3 (fun _ _ x => x))
      have s4 := (k3.cell (p := ⟨w.heap.size, 2, none⟩) (Nat.lt_of_lt_of_le sz C2.out.size) (fun e => absurd (H.out.st.lt _ e) (by simp))).trans s3
      have HO := Lib.hid O0
      have HnR := Lib.hid nR
      have HK3 := Lib.hid k3
      have Hnew := Lib.hid hnew
      clear X hs3 k3 OB O0 nR hnew
      go_wp2_with fail
      have X := rarm_c h3.out.rf n hn none 0 [] ((HBa.out w3 h3.out.calm).move (Nat.le_refl _) (fun _ _ _ => rfl) (fun k hk e => absurd (h1.out.new k e) (by omega))) (by omega) (fun _ => rfl)
      refine X.mono ?_
      rintro e w4 ⟨rfl, hq, k4⟩
      clear X
      have ea : armOf n [] = none := by unfold armOf; rw [if_pos hn0]
      rw [ea] at hq
      have h4 := Lib.hid (h3.out.ref hq k4 (fun i e => e))
      have O4 := Lib.hid (own_move (own_move HO.out (fun g cur e b => Row.keep b HK3.out (HnR.out g e).1)) (fun g cur e b => Row.keep b k4 (HnR.out g e).2.1))
      have nR4 : ∀ g, (Value.slice A' 0 c').ownBlock = some g → ¬ (R) g ∧ ¬ (Grow Q w3 w4) g ∧ w0.heap.size ≤ g := fun g e => by
        obtain ⟨a1, a2, a3⟩ := HnR.out g e
        obtain ⟨_, cur, b1⟩ := Hnew.out g e
        have := b1.lt
        have := HK3.out.size
        exact ⟨a1, fun x => x.elim a2 (fun x => by omega), a3⟩
      have N4 := Lib.hid nR4
      clear hq k4 ea nR4
      generalize Grow Q w3 w4 = Q4 at h4 N4
      go_wp2_with fail
      go_loopw [17] (fun i wr => ∃ (j : Nat) (bs : List Bool), bs.length = 0 ∧ j ≤ 0 ∧ i = .int .i64 j ∧ Half w0 wr R Q4 d r { S with arm := none } { S with arm := none } ∧ wr.ownsRow 0 4 1 (.slice A' 0 c') 0 (bs.map Value.bool)) (fun i _ => 0 - (intOf i).toNat)
      case atStart => exact ⟨0, [], rfl, by omega, rfl, h4.out, O4.out⟩
      case round =>
        obtain ⟨j, bs, hbl, hj, rfl, hh, ho⟩ := hrel
        have HH := Lib.hid hh
        have HO5 := Lib.hid ho
        by_cases hlt : j < 0
        · exact absurd hlt (by omega)
        · have j1 : ¬ (j : Int) < ((0 : Nat) : Int) := by omega
          clear hh ho
          go_wp2_with fail
          go_ret
          exact ⟨rfl, _, _, _, HH.out, by simp, by simp, rfl⟩
    · skip
      go_enter Try.func7, Try.ntmps7
      go_upto_region 26 with fail
      have s2 : (w.alloc (.cells #[.int .i64 6, .int .i64 at_, .int .i64 n, .int .u8 (fill.toNat : Int), .bool short, .slice none 0 0] 34)).cell? ⟨w.heap.size, 2, none⟩ = some (.int .i64 n) := by simp
      have sz : w.heap.size < (w.alloc (.cells #[.int .i64 6, .int .i64 at_, .int .i64 n, .int .u8 (fill.toNat : Int), .bool short, .slice none 0 0] 34)).heap.size := by simp
      generalize World.alloc w _ = wa at h1 s2 sz ⊢
      have OM : Hid ((wa.alloc (.cells #[] 4)).ownsRow wa.heap.size 4 1 (.slice (some ⟨wa.heap.size, 0, none⟩) 0 0) 0 []) := Lib.hid (World.ownsRow_made wa #[] 0 (Nat.le_refl _) (Nat.zero_le _) rfl)
      have C2 : Hid (Calm wa (wa.alloc (.cells #[] 4))) := Lib.hid ((Keep.refl _ wa).alloc _)
      obtain ⟨A', hA'⟩ : ∃ A' : Option Addr, A' = some ⟨wa.heap.size, 0, none⟩ := ⟨_, rfl⟩
      obtain ⟨c', hc'⟩ : ∃ c' : Nat, c' = 0 := ⟨_, rfl⟩
      go_wp2_with (at_builtin; go_loud (refine wpList_append_own_none rfl (.tmp 108) (.tmp 109) 32 rfl wa.heap.size 4 i0 1 Try.underlying32 hi0 (.slice (some ⟨wa.heap.size, 0, none⟩) 0 0) 0 [] rfl OM.out rfl ?_); have vv : Value.slice (some ⟨wa.heap.size, 0, none⟩) 0 0 = .slice A' 0 c' := (by rw [hA', hc']); have O2 := OM; rw [vv] at O2; have s3 := (C2.out.cell (p := ⟨w.heap.size, 2, none⟩) sz (fun e => e)).trans s2; rw [vv]; clear vv hA' hc'; generalize World.alloc wa _ = w2 at C2 O2 s3 OM ⊢)
      have O0 := own0 O2.out
      have hnew := fun g (e : (Value.slice A' 0 c').ownBlock = some g) => own_row O2.out e
      have h2 := Lib.hid (h1.out.rest C2.out)
      have nR : ∀ g, (Value.slice A' 0 c').ownBlock = some g → ¬ R g ∧ ¬ Q g ∧ w0.heap.size ≤ g := fun g e => ⟨fun x => absurd (h1.out.st.lt g x) (by have := (hnew g e).1; omega), fun x => absurd (h1.out.lt g x) (by have := (hnew g e).1; omega), by have := (hnew g e).1; have := h1.out.calm.size; omega⟩
      have OB := (own_bools (ks := []) O0).move (R' := fun k => ¬ R k) (Nat.le_refl _) (fun _ _ _ => rfl) (fun k hk => (nR k hk.1).1)
      have X := st_arm h2.out.st n (by omega) (by unfold big; omega) _ [] OB (by omega)
      refine X.mono ?_
      rintro e w3 ⟨rfl, hs3, k3⟩
      have h3 := Lib.hid (h2.out.disk hs3 k3 (fun i hi e => e.elim (fun x => x) (fun x => by omega)))
      have s4 := (k3.cell (p := ⟨w.heap.size, 2, none⟩) (Nat.lt_of_lt_of_le sz C2.out.size) (fun e => absurd (H.out.st.lt _ e) (by simp))).trans s3
      have HO := Lib.hid O0
      have HnR := Lib.hid nR
      have HK3 := Lib.hid k3
      have Hnew := Lib.hid hnew
      clear X hs3 k3 OB O0 nR hnew
      go_wp2_with fail
      have X := rarm_c h3.out.rf n hn none 0 [] ((HBa.out w3 h3.out.calm).move (Nat.le_refl _) (fun _ _ _ => rfl) (fun k hk e => absurd (h1.out.new k e) (by omega))) (by omega) (fun _ => rfl)
      refine X.mono ?_
      rintro e w4 ⟨rfl, hq, k4⟩
      clear X
      have ea : armOf n [] = some (n.toNat, []) := by unfold armOf; rw [if_neg (by omega)]
      rw [ea] at hq
      have h4 := Lib.hid (h3.out.ref hq k4 (fun i e => e))
      have O4 := Lib.hid (own_move (own_move HO.out (fun g cur e b => Row.keep b HK3.out (HnR.out g e).1)) (fun g cur e b => Row.keep b k4 (HnR.out g e).2.1))
      have nR4 : ∀ g, (Value.slice A' 0 c').ownBlock = some g → ¬ (Grow R w2 w3) g ∧ ¬ (Grow Q w3 w4) g ∧ w0.heap.size ≤ g := fun g e => by
        obtain ⟨a1, a2, a3⟩ := HnR.out g e
        obtain ⟨_, cur, b1⟩ := Hnew.out g e
        have := b1.lt
        have := HK3.out.size
        exact ⟨fun x => x.elim a1 (fun x => by omega), fun x => x.elim a2 (fun x => by omega), a3⟩
      have N4 := Lib.hid nR4
      clear hq k4 ea nR4
      generalize Grow Q w3 w4 = Q4 at h4 N4
      generalize Grow R w2 w3 = R4 at h4 N4
      go_wp2_with fail
      go_loopw [17] (fun i wr => ∃ (j : Nat) (bs : List Bool), bs.length = 0 ∧ j ≤ 0 ∧ i = .int .i64 j ∧ Half w0 wr R4 Q4 d r { S with arm := some (n.toNat, []) } { S with arm := some (n.toNat, []) } ∧ wr.ownsRow 0 4 1 (.slice A' 0 c') 0 (bs.map Value.bool)) (fun i _ => 0 - (intOf i).toNat)
      case atStart => exact ⟨0, [], rfl, by omega, rfl, h4.out, O4.out⟩
      case round =>
        obtain ⟨j, bs, hbl, hj, rfl, hh, ho⟩ := hrel
        have HH := Lib.hid hh
        have HO5 := Lib.hid ho
        by_cases hlt : j < 0
        · exact absurd hlt (by omega)
        · have j1 : ¬ (j : Int) < ((0 : Nat) : Int) := by omega
          clear hh ho
          go_wp2_with fail
          go_ret
          exact ⟨rfl, _, _, _, HH.out, by simp, by simp, rfl⟩
  | some ad =>
    by_cases h60 : ks.length ≤ 60
    · have HBa : Hid (∀ w1, Calm w0 w1 → Bools w1 (fun k => k < w0.heap.size) (.slice (some ad) ks.length c) ks) := Lib.hid (fun w1 hc1 => bools_old HB.out hc1)
      by_cases hn0 : n < 0
      · skip
        go_enter Try.func7, Try.ntmps7
        go_upto_region 26 with fail
        have s2 : (w.alloc (.cells #[.int .i64 6, .int .i64 at_, .int .i64 n, .int .u8 (fill.toNat : Int), .bool short, .slice (some ad) ks.length c] 34)).cell? ⟨w.heap.size, 2, none⟩ = some (.int .i64 n) := by simp
        have sz : w.heap.size < (w.alloc (.cells #[.int .i64 6, .int .i64 at_, .int .i64 n, .int .u8 (fill.toNat : Int), .bool short, .slice (some ad) ks.length c] 34)).heap.size := by simp
        generalize World.alloc w _ = wa at h1 s2 sz ⊢
        have Hc2 : Hid (∀ (j : Nat) u, ((ks).map Value.bool)[j]? = some u → (wa.alloc (.cells #[] 4)).cell? (ad.add j) = some u) := Lib.hid (fun j u hj => by
          rw [List.getElem?_map, Option.map_eq_some_iff] at hj
          obtain ⟨b, hb, rfl⟩ := hj
          obtain ⟨A', c', e', hcc⟩ := HBa.out wa h1.out.calm
          injection e' with e1 _ e2
          obtain ⟨ad', e, _, _, h4⟩ := hcc j b hb
          rw [← e1] at e
          injection e with e
          subst e
          exact (World.cell?_alloc_lt wa _ (ad.add j) (World.block_lt_of_cell? _ _ h4)).trans h4)
        have H1 : Hid (∀ u ∈ (ks).map Value.bool, u.oneCell' = true) := Lib.hid (fun u hu => by simp only [List.mem_map] at hu; obtain ⟨b, _, rfl⟩ := hu; rfl)
        go_wp2_with (at_builtin; go_loud (refine wpList_append_own _ rfl (.tmp 108) (.tmp 109) 32 rfl wa.heap.size 4 i0 _ 1 1 Try.underlying32 hi0 hz0 hz1 hz2 rfl (by decide) (.slice (some ⟨wa.heap.size, 0, none⟩) 0 0) 0 [] rfl (World.ownsRow_made wa #[] 0 (Nat.le_refl _) (Nat.zero_le _) rfl) ad ks.length c ((ks).map Value.bool) rfl (by simp) Hc2.out H1.out (by simp only [maxLen]; omega) (by omega) (by simp) ?_); intro v' w2 hown hg hnil; obtain ⟨A', c', rfl⟩ := own_form hown; have C2 := Lib.hid ((((Keep.refl (fun _ => False) wa).alloc (.cells #[] 4)).grown hg (fun k e hk => by simp [Value.ownBlock] at e; omega))); simp only [Nat.zero_add, List.nil_append] at hown; have O2 := Lib.hid hown; have s3 := (C2.out.cell (p := ⟨w.heap.size, 2, none⟩) sz (fun e => e)).trans s2; clear hown hg hnil)
        have O0 := own0 O2.out
        have hnew := fun g (e : (Value.slice A' ks.length c').ownBlock = some g) => own_row O2.out e
        have h2 := Lib.hid (h1.out.rest C2.out)
        have nR : ∀ g, (Value.slice A' ks.length c').ownBlock = some g → ¬ R g ∧ ¬ Q g ∧ w0.heap.size ≤ g := fun g e => ⟨fun x => absurd (h1.out.st.lt g x) (by have := (hnew g e).1; omega), fun x => absurd (h1.out.lt g x) (by have := (hnew g e).1; omega), by have := (hnew g e).1; have := h1.out.calm.size; omega⟩
        have OB := (own_bools (ks := ks) O0).move (R' := fun k => ¬ R k) (Nat.le_refl _) (fun _ _ _ => rfl) (fun k hk => (nR k hk.1).1)
        have X := st_arm_off h2.out.st n hn0 (.slice A' ks.length c')
        refine X.mono ?_
        rintro e w3 ⟨rfl, hs3, k3⟩
        have h3 := Lib.hid (h2.out.disk hs3 k3 (fun _ _ x => x))
        have s4 := (k3.cell (p := ⟨w.heap.size, 2, none⟩) (Nat.lt_of_lt_of_le sz C2.out.size) (fun e => absurd (H.out.st.lt _ e) (by simp))).trans s3
        have HO := Lib.hid O0
        have HnR := Lib.hid nR
        have HK3 := Lib.hid k3
        have Hnew := Lib.hid hnew
        clear X hs3 k3 OB O0 nR hnew
        go_wp2_with fail
        have X := rarm_c h3.out.rf n hn (some ad) c ks ((HBa.out w3 h3.out.calm).move (Nat.le_refl _) (fun _ _ _ => rfl) (fun k hk e => absurd (h1.out.new k e) (by omega))) (by omega) (fun e => by cases e)
        refine X.mono ?_
        rintro e w4 ⟨rfl, hq, k4⟩
        clear X
        have ea : armOf n ks = none := by unfold armOf; rw [if_pos hn0]
        rw [ea] at hq
        have h4 := Lib.hid (h3.out.ref hq k4 (fun i e => e))
        have O4 := Lib.hid (own_move (own_move HO.out (fun g cur e b => Row.keep b HK3.out (HnR.out g e).1)) (fun g cur e b => Row.keep b k4 (HnR.out g e).2.1))
        have nR4 : ∀ g, (Value.slice A' ks.length c').ownBlock = some g → ¬ (R) g ∧ ¬ (Grow Q w3 w4) g ∧ w0.heap.size ≤ g := fun g e => by
          obtain ⟨a1, a2, a3⟩ := HnR.out g e
          obtain ⟨_, cur, b1⟩ := Hnew.out g e
          have := b1.lt
          have := HK3.out.size
          exact ⟨a1, fun x => x.elim a2 (fun x => by omega), a3⟩
        have N4 := Lib.hid nR4
        clear hq k4 ea nR4
        generalize Grow Q w3 w4 = Q4 at h4 N4
        go_wp2_with fail
        go_loopw [17] (fun i wr => ∃ (j : Nat) (bs : List Bool), bs.length = ks.length ∧ j ≤ ks.length ∧ i = .int .i64 j ∧ Half w0 wr R Q4 d r { S with arm := none } { S with arm := none } ∧ wr.ownsRow 0 4 1 (.slice A' ks.length c') ks.length (bs.map Value.bool)) (fun i _ => ks.length - (intOf i).toNat)
        case atStart => exact ⟨0, ks, rfl, by omega, rfl, h4.out, O4.out⟩
        case round =>
          obtain ⟨j, bs, hbl, hj, rfl, hh, ho⟩ := hrel
          have HH := Lib.hid hh
          have HO5 := Lib.hid ho
          by_cases hlt : j < ks.length
          · obtain ⟨g, rfl, hrw, hcl⟩ : ∃ g, A' = some ⟨g, 0, none⟩ ∧ wr.frozen? ⟨g, j, none⟩ = false ∧ wr.cell? ⟨g, j, none⟩ = some (.bool (bs[j]'(by omega))) := by
              rcases ho.2 with ⟨e0, e1⟩ | ⟨g, cap, cur, e0, _, e2, _⟩
              · omega
              · injection e0 with e0 _ e3
                subst e0
                refine ⟨g, rfl, (show Row wr g 4 cur from e2).soft j, ?_⟩
                have := ho.cells (g := g) rfl j (.bool (bs[j]'(by omega))) (by simp [show j < bs.length by omega])
                by_cases e : j = 0
                · subst e; simpa [Addr.add] using this
                · simpa [Addr.add, e] using this
            obtain ⟨a1, a2, a3⟩ := N4.out g rfl
            generalize bs[j]'(by omega) = bj at hcl
            have j0 : (0 : Int) ≤ (j : Int) := by omega
            have j1 : (j : Int) < (ks.length : Int) := by omega
            clear hh ho
            go_wp2_with fail
            go_roundw
            case rel => exact ⟨j + 1, bs.set j (!bj), by simp [hbl], by omega, by go_num, HH.out.touch a1 a2 a3 j _, by rw [List.map_set]; exact own_set HO5.out hlt _⟩
            case measure => simp [intOf]; omega
          · have j1 : ¬ (j : Int) < (ks.length : Int) := by omega
            clear hh ho
            go_wp2_with fail
            go_ret
            exact ⟨rfl, _, _, _, HH.out, by simp, by simp, rfl⟩
      · skip
        go_enter Try.func7, Try.ntmps7
        go_upto_region 26 with fail
        have s2 : (w.alloc (.cells #[.int .i64 6, .int .i64 at_, .int .i64 n, .int .u8 (fill.toNat : Int), .bool short, .slice (some ad) ks.length c] 34)).cell? ⟨w.heap.size, 2, none⟩ = some (.int .i64 n) := by simp
        have sz : w.heap.size < (w.alloc (.cells #[.int .i64 6, .int .i64 at_, .int .i64 n, .int .u8 (fill.toNat : Int), .bool short, .slice (some ad) ks.length c] 34)).heap.size := by simp
        generalize World.alloc w _ = wa at h1 s2 sz ⊢
        have Hc2 : Hid (∀ (j : Nat) u, ((ks).map Value.bool)[j]? = some u → (wa.alloc (.cells #[] 4)).cell? (ad.add j) = some u) := Lib.hid (fun j u hj => by
          rw [List.getElem?_map, Option.map_eq_some_iff] at hj
          obtain ⟨b, hb, rfl⟩ := hj
          obtain ⟨A', c', e', hcc⟩ := HBa.out wa h1.out.calm
          injection e' with e1 _ e2
          obtain ⟨ad', e, _, _, h4⟩ := hcc j b hb
          rw [← e1] at e
          injection e with e
          subst e
          exact (World.cell?_alloc_lt wa _ (ad.add j) (World.block_lt_of_cell? _ _ h4)).trans h4)
        have H1 : Hid (∀ u ∈ (ks).map Value.bool, u.oneCell' = true) := Lib.hid (fun u hu => by simp only [List.mem_map] at hu; obtain ⟨b, _, rfl⟩ := hu; rfl)
        go_wp2_with (at_builtin; go_loud (refine wpList_append_own _ rfl (.tmp 108) (.tmp 109) 32 rfl wa.heap.size 4 i0 _ 1 1 Try.underlying32 hi0 hz0 hz1 hz2 rfl (by decide) (.slice (some ⟨wa.heap.size, 0, none⟩) 0 0) 0 [] rfl (World.ownsRow_made wa #[] 0 (Nat.le_refl _) (Nat.zero_le _) rfl) ad ks.length c ((ks).map Value.bool) rfl (by simp) Hc2.out H1.out (by simp only [maxLen]; omega) (by omega) (by simp) ?_); intro v' w2 hown hg hnil; obtain ⟨A', c', rfl⟩ := own_form hown; have C2 := Lib.hid ((((Keep.refl (fun _ => False) wa).alloc (.cells #[] 4)).grown hg (fun k e hk => by simp [Value.ownBlock] at e; omega))); simp only [Nat.zero_add, List.nil_append] at hown; have O2 := Lib.hid hown; have s3 := (C2.out.cell (p := ⟨w.heap.size, 2, none⟩) sz (fun e => e)).trans s2; clear hown hg hnil)
        have O0 := own0 O2.out
        have hnew := fun g (e : (Value.slice A' ks.length c').ownBlock = some g) => own_row O2.out e
        have h2 := Lib.hid (h1.out.rest C2.out)
        have nR : ∀ g, (Value.slice A' ks.length c').ownBlock = some g → ¬ R g ∧ ¬ Q g ∧ w0.heap.size ≤ g := fun g e => ⟨fun x => absurd (h1.out.st.lt g x) (by have := (hnew g e).1; omega), fun x => absurd (h1.out.lt g x) (by have := (hnew g e).1; omega), by have := (hnew g e).1; have := h1.out.calm.size; omega⟩
        have OB := (own_bools (ks := ks) O0).move (R' := fun k => ¬ R k) (Nat.le_refl _) (fun _ _ _ => rfl) (fun k hk => (nR k hk.1).1)
        have X := st_arm h2.out.st n (by omega) (by unfold big; omega) _ ks OB (by omega)
        refine X.mono ?_
        rintro e w3 ⟨rfl, hs3, k3⟩
        have h3 := Lib.hid (h2.out.disk hs3 k3 (fun i hi e => e.elim (fun x => x) (fun x => by omega)))
        have s4 := (k3.cell (p := ⟨w.heap.size, 2, none⟩) (Nat.lt_of_lt_of_le sz C2.out.size) (fun e => absurd (H.out.st.lt _ e) (by simp))).trans s3
        have HO := Lib.hid O0
        have HnR := Lib.hid nR
        have HK3 := Lib.hid k3
        have Hnew := Lib.hid hnew
        clear X hs3 k3 OB O0 nR hnew
        go_wp2_with fail
        have X := rarm_c h3.out.rf n hn (some ad) c ks ((HBa.out w3 h3.out.calm).move (Nat.le_refl _) (fun _ _ _ => rfl) (fun k hk e => absurd (h1.out.new k e) (by omega))) (by omega) (fun e => by cases e)
        refine X.mono ?_
        rintro e w4 ⟨rfl, hq, k4⟩
        clear X
        have ea : armOf n ks = some (n.toNat, ks) := by unfold armOf; rw [if_neg (by omega)]
        rw [ea] at hq
        have h4 := Lib.hid (h3.out.ref hq k4 (fun i e => e))
        have O4 := Lib.hid (own_move (own_move HO.out (fun g cur e b => Row.keep b HK3.out (HnR.out g e).1)) (fun g cur e b => Row.keep b k4 (HnR.out g e).2.1))
        have nR4 : ∀ g, (Value.slice A' ks.length c').ownBlock = some g → ¬ (Grow R w2 w3) g ∧ ¬ (Grow Q w3 w4) g ∧ w0.heap.size ≤ g := fun g e => by
          obtain ⟨a1, a2, a3⟩ := HnR.out g e
          obtain ⟨_, cur, b1⟩ := Hnew.out g e
          have := b1.lt
          have := HK3.out.size
          exact ⟨fun x => x.elim a1 (fun x => by omega), fun x => x.elim a2 (fun x => by omega), a3⟩
        have N4 := Lib.hid nR4
        clear hq k4 ea nR4
        generalize Grow Q w3 w4 = Q4 at h4 N4
        generalize Grow R w2 w3 = R4 at h4 N4
        go_wp2_with fail
        go_loopw [17] (fun i wr => ∃ (j : Nat) (bs : List Bool), bs.length = ks.length ∧ j ≤ ks.length ∧ i = .int .i64 j ∧ Half w0 wr R4 Q4 d r { S with arm := some (n.toNat, ks) } { S with arm := some (n.toNat, ks) } ∧ wr.ownsRow 0 4 1 (.slice A' ks.length c') ks.length (bs.map Value.bool)) (fun i _ => ks.length - (intOf i).toNat)
        case atStart => exact ⟨0, ks, rfl, by omega, rfl, h4.out, O4.out⟩
        case round =>
          obtain ⟨j, bs, hbl, hj, rfl, hh, ho⟩ := hrel
          have HH := Lib.hid hh
          have HO5 := Lib.hid ho
          by_cases hlt : j < ks.length
          · obtain ⟨g, rfl, hrw, hcl⟩ : ∃ g, A' = some ⟨g, 0, none⟩ ∧ wr.frozen? ⟨g, j, none⟩ = false ∧ wr.cell? ⟨g, j, none⟩ = some (.bool (bs[j]'(by omega))) := by
              rcases ho.2 with ⟨e0, e1⟩ | ⟨g, cap, cur, e0, _, e2, _⟩
              · omega
              · injection e0 with e0 _ e3
                subst e0
                refine ⟨g, rfl, (show Row wr g 4 cur from e2).soft j, ?_⟩
                have := ho.cells (g := g) rfl j (.bool (bs[j]'(by omega))) (by simp [show j < bs.length by omega])
                by_cases e : j = 0
                · subst e; simpa [Addr.add] using this
                · simpa [Addr.add, e] using this
            obtain ⟨a1, a2, a3⟩ := N4.out g rfl
            generalize bs[j]'(by omega) = bj at hcl
            have j0 : (0 : Int) ≤ (j : Int) := by omega
            have j1 : (j : Int) < (ks.length : Int) := by omega
            clear hh ho
            go_wp2_with fail
            go_roundw
            case rel => exact ⟨j + 1, bs.set j (!bj), by simp [hbl], by omega, by go_num, HH.out.touch a1 a2 a3 j _, by rw [List.map_set]; exact own_set HO5.out hlt _⟩
            case measure => simp [intOf]; omega
          · have j1 : ¬ (j : Int) < (ks.length : Int) := by omega
            clear hh ho
            go_wp2_with fail
            go_ret
            exact ⟨rfl, _, _, _, HH.out, by simp, by simp, rfl⟩
    · obtain ⟨kk, hkk⟩ : ∃ kk, kk = ks.take 60 := ⟨_, rfl⟩
      have hkl : kk.length = 60 := by rw [hkk, List.length_take]; omega
      have HBa : Hid (∀ w1, Calm w0 w1 → Bools w1 (fun k => k < w0.heap.size) (.slice (some ad) kk.length c) kk) := Lib.hid (fun w1 hc1 => by
        have B60 := HB.out.cut 60
        rw [Nat.min_eq_right (by omega)] at B60
        rw [hkl, hkk]
        exact bools_old B60 hc1)
      clear hkk
      by_cases hn0 : n < 0
      · skip
        go_enter Try.func7, Try.ntmps7
        go_upto_region 26 with fail
        have s2 : (w.alloc (.cells #[.int .i64 6, .int .i64 at_, .int .i64 n, .int .u8 (fill.toNat : Int), .bool short, .slice (some ad) ks.length c] 34)).cell? ⟨w.heap.size, 2, none⟩ = some (.int .i64 n) := by simp
        have sz : w.heap.size < (w.alloc (.cells #[.int .i64 6, .int .i64 at_, .int .i64 n, .int .u8 (fill.toNat : Int), .bool short, .slice (some ad) ks.length c] 34)).heap.size := by simp
        generalize World.alloc w _ = wa at h1 s2 sz ⊢
        have Hc2 : Hid (∀ (j : Nat) u, ((kk).map Value.bool)[j]? = some u → (wa.alloc (.cells #[] 4)).cell? (ad.add j) = some u) := Lib.hid (fun j u hj => by
          rw [List.getElem?_map, Option.map_eq_some_iff] at hj
          obtain ⟨b, hb, rfl⟩ := hj
          obtain ⟨A', c', e', hcc⟩ := HBa.out wa h1.out.calm
          injection e' with e1 _ e2
          obtain ⟨ad', e, _, _, h4⟩ := hcc j b hb
          rw [← e1] at e
          injection e with e
          subst e
          exact (World.cell?_alloc_lt wa _ (ad.add j) (World.block_lt_of_cell? _ _ h4)).trans h4)
        have H1 : Hid (∀ u ∈ (kk).map Value.bool, u.oneCell' = true) := Lib.hid (fun u hu => by simp only [List.mem_map] at hu; obtain ⟨b, _, rfl⟩ := hu; rfl)
        go_wp2_with (at_builtin; go_loud (refine wpList_append_own _ rfl (.tmp 108) (.tmp 109) 32 rfl wa.heap.size 4 i0 _ 1 1 Try.underlying32 hi0 hz0 hz1 hz2 rfl (by decide) (.slice (some ⟨wa.heap.size, 0, none⟩) 0 0) 0 [] rfl (World.ownsRow_made wa #[] 0 (Nat.le_refl _) (Nat.zero_le _) rfl) ad 60 c ((kk).map Value.bool) rfl (by simp; omega) Hc2.out H1.out (by simp only [maxLen]; omega) (by omega) (by simp) ?_); intro v' w2 hown hg hnil; obtain ⟨A', c', rfl⟩ := own_form hown; have C2 := Lib.hid ((((Keep.refl (fun _ => False) wa).alloc (.cells #[] 4)).grown hg (fun k e hk => by simp [Value.ownBlock] at e; omega))); simp only [Nat.zero_add, List.nil_append] at hown; have O2 := Lib.hid hown; have s3 := (C2.out.cell (p := ⟨w.heap.size, 2, none⟩) sz (fun e => e)).trans s2; clear hown hg hnil)
        have O0 := own0 O2.out
        rw [← hkl] at O0
        have hnew := fun g (e : (Value.slice A' 60 c').ownBlock = some g) => own_row O2.out e
        have h2 := Lib.hid (h1.out.rest C2.out)
        have nR : ∀ g, (Value.slice A' 60 c').ownBlock = some g → ¬ R g ∧ ¬ Q g ∧ w0.heap.size ≤ g := fun g e => ⟨fun x => absurd (h1.out.st.lt g x) (by have := (hnew g e).1; omega), fun x => absurd (h1.out.lt g x) (by have := (hnew g e).1; omega), by have := (hnew g e).1; have := h1.out.calm.size; omega⟩
        have OB := (own_bools (ks := kk) O0).move (R' := fun k => ¬ R k) (Nat.le_refl _) (fun _ _ _ => rfl) (fun k hk => (nR k (by have := hk.1; rw [hkl] at this; exact this)).1)
        have X := st_arm_off h2.out.st n hn0 (.slice A' 60 c')
        refine X.mono ?_
        rintro e w3 ⟨rfl, hs3, k3⟩
        have h3 := Lib.hid (h2.out.disk hs3 k3 (fun _ _ x => x))
        have s4 := (k3.cell (p := ⟨w.heap.size, 2, none⟩) (Nat.lt_of_lt_of_le sz C2.out.size) (fun e => absurd (H.out.st.lt _ e) (by simp))).trans s3
        have HO := Lib.hid O0
        have HnR := Lib.hid nR
        have HK3 := Lib.hid k3
        have Hnew := Lib.hid hnew
        clear X hs3 k3 OB O0 nR hnew
        go_wp2_with fail
        have X := rarm_c h3.out.rf n hn (some ad) c kk ((HBa.out w3 h3.out.calm).move (Nat.le_refl _) (fun _ _ _ => rfl) (fun k hk e => absurd (h1.out.new k e) (by omega))) (by omega) (fun e => by cases e)
        rw [hkl] at X
        refine X.mono ?_
        rintro e w4 ⟨rfl, hq, k4⟩
        clear X
        have ea : armOf n kk = none := by unfold armOf; rw [if_pos hn0]
        rw [ea] at hq
        have h4 := Lib.hid (h3.out.ref hq k4 (fun i e => e))
        have O4 := Lib.hid (own_move (own_move HO.out (fun g cur e b => Row.keep b HK3.out (HnR.out g (by rw [hkl] at e; exact e)).1)) (fun g cur e b => Row.keep b k4 (HnR.out g (by rw [hkl] at e; exact e)).2.1))
        have nR4 : ∀ g, (Value.slice A' 60 c').ownBlock = some g → ¬ (R) g ∧ ¬ (Grow Q w3 w4) g ∧ w0.heap.size ≤ g := fun g e => by
          obtain ⟨a1, a2, a3⟩ := HnR.out g e
          obtain ⟨_, cur, b1⟩ := Hnew.out g e
          have := b1.lt
          have := HK3.out.size
          exact ⟨a1, fun x => x.elim a2 (fun x => by omega), a3⟩
        have N4 := Lib.hid nR4
        clear hq k4 ea nR4
        rw [hkl] at O4
        generalize Grow Q w3 w4 = Q4 at h4 N4
        go_wp2_with fail
        go_loopw [17] (fun i wr => ∃ (j : Nat) (bs : List Bool), bs.length = 60 ∧ j ≤ 60 ∧ i = .int .i64 j ∧ Half w0 wr R Q4 d r { S with arm := none } { S with arm := none } ∧ wr.ownsRow 0 4 1 (.slice A' 60 c') 60 (bs.map Value.bool)) (fun i _ => 60 - (intOf i).toNat)
        case atStart => exact ⟨0, kk, hkl, by omega, rfl, h4.out, O4.out⟩
        case round =>
          obtain ⟨j, bs, hbl, hj, rfl, hh, ho⟩ := hrel
          have HH := Lib.hid hh
          have HO5 := Lib.hid ho
          by_cases hlt : j < 60
          · obtain ⟨g, rfl, hrw, hcl⟩ : ∃ g, A' = some ⟨g, 0, none⟩ ∧ wr.frozen? ⟨g, j, none⟩ = false ∧ wr.cell? ⟨g, j, none⟩ = some (.bool (bs[j]'(by omega))) := by
              rcases ho.2 with ⟨e0, e1⟩ | ⟨g, cap, cur, e0, _, e2, _⟩
              · omega
              · injection e0 with e0 _ e3
                subst e0
                refine ⟨g, rfl, (show Row wr g 4 cur from e2).soft j, ?_⟩
                have := ho.cells (g := g) rfl j (.bool (bs[j]'(by omega))) (by simp [show j < bs.length by omega])
                by_cases e : j = 0
                · subst e; simpa [Addr.add] using this
                · simpa [Addr.add, e] using this
            obtain ⟨a1, a2, a3⟩ := N4.out g rfl
            generalize bs[j]'(by omega) = bj at hcl
            have j0 : (0 : Int) ≤ (j : Int) := by omega
            have j1 : (j : Int) < (60 : Int) := by omega
            clear hh ho
            go_wp2_with fail
            go_roundw
            case rel => exact ⟨j + 1, bs.set j (!bj), by simp [hbl], by omega, by go_num, HH.out.touch a1 a2 a3 j _, by rw [List.map_set]; exact own_set HO5.out hlt _⟩
            case measure => simp [intOf]; omega
          · have j1 : ¬ (j : Int) < (60 : Int) := by omega
            clear hh ho
            go_wp2_with fail
            go_ret
            exact ⟨rfl, _, _, _, HH.out, by simp, by simp, rfl⟩
      · skip
        go_enter Try.func7, Try.ntmps7
        go_upto_region 26 with fail
        have s2 : (w.alloc (.cells #[.int .i64 6, .int .i64 at_, .int .i64 n, .int .u8 (fill.toNat : Int), .bool short, .slice (some ad) ks.length c] 34)).cell? ⟨w.heap.size, 2, none⟩ = some (.int .i64 n) := by simp
        have sz : w.heap.size < (w.alloc (.cells #[.int .i64 6, .int .i64 at_, .int .i64 n, .int .u8 (fill.toNat : Int), .bool short, .slice (some ad) ks.length c] 34)).heap.size := by simp
        generalize World.alloc w _ = wa at h1 s2 sz ⊢
        have Hc2 : Hid (∀ (j : Nat) u, ((kk).map Value.bool)[j]? = some u → (wa.alloc (.cells #[] 4)).cell? (ad.add j) = some u) := Lib.hid (fun j u hj => by
          rw [List.getElem?_map, Option.map_eq_some_iff] at hj
          obtain ⟨b, hb, rfl⟩ := hj
          obtain ⟨A', c', e', hcc⟩ := HBa.out wa h1.out.calm
          injection e' with e1 _ e2
          obtain ⟨ad', e, _, _, h4⟩ := hcc j b hb
          rw [← e1] at e
          injection e with e
          subst e
          exact (World.cell?_alloc_lt wa _ (ad.add j) (World.block_lt_of_cell? _ _ h4)).trans h4)
        have H1 : Hid (∀ u ∈ (kk).map Value.bool, u.oneCell' = true) := Lib.hid (fun u hu => by simp only [List.mem_map] at hu; obtain ⟨b, _, rfl⟩ := hu; rfl)
        go_wp2_with (at_builtin; go_loud (refine wpList_append_own _ rfl (.tmp 108) (.tmp 109) 32 rfl wa.heap.size 4 i0 _ 1 1 Try.underlying32 hi0 hz0 hz1 hz2 rfl (by decide) (.slice (some ⟨wa.heap.size, 0, none⟩) 0 0) 0 [] rfl (World.ownsRow_made wa #[] 0 (Nat.le_refl _) (Nat.zero_le _) rfl) ad 60 c ((kk).map Value.bool) rfl (by simp; omega) Hc2.out H1.out (by simp only [maxLen]; omega) (by omega) (by simp) ?_); intro v' w2 hown hg hnil; obtain ⟨A', c', rfl⟩ := own_form hown; have C2 := Lib.hid ((((Keep.refl (fun _ => False) wa).alloc (.cells #[] 4)).grown hg (fun k e hk => by simp [Value.ownBlock] at e; omega))); simp only [Nat.zero_add, List.nil_append] at hown; have O2 := Lib.hid hown; have s3 := (C2.out.cell (p := ⟨w.heap.size, 2, none⟩) sz (fun e => e)).trans s2; clear hown hg hnil)
        have O0 := own0 O2.out
        rw [← hkl] at O0
        have hnew := fun g (e : (Value.slice A' 60 c').ownBlock = some g) => own_row O2.out e
        have h2 := Lib.hid (h1.out.rest C2.out)
        have nR : ∀ g, (Value.slice A' 60 c').ownBlock = some g → ¬ R g ∧ ¬ Q g ∧ w0.heap.size ≤ g := fun g e => ⟨fun x => absurd (h1.out.st.lt g x) (by have := (hnew g e).1; omega), fun x => absurd (h1.out.lt g x) (by have := (hnew g e).1; omega), by have := (hnew g e).1; have := h1.out.calm.size; omega⟩
        have OB := (own_bools (ks := kk) O0).move (R' := fun k => ¬ R k) (Nat.le_refl _) (fun _ _ _ => rfl) (fun k hk => (nR k (by have := hk.1; rw [hkl] at this; exact this)).1)
        have X := st_arm h2.out.st n (by omega) (by unfold big; omega) _ kk OB (by omega)
        rw [hkl] at X
        refine X.mono ?_
        rintro e w3 ⟨rfl, hs3, k3⟩
        have h3 := Lib.hid (h2.out.disk hs3 k3 (fun i hi e => e.elim (fun x => x) (fun x => by omega)))
        have s4 := (k3.cell (p := ⟨w.heap.size, 2, none⟩) (Nat.lt_of_lt_of_le sz C2.out.size) (fun e => absurd (H.out.st.lt _ e) (by simp))).trans s3
        have HO := Lib.hid O0
        have HnR := Lib.hid nR
        have HK3 := Lib.hid k3
        have Hnew := Lib.hid hnew
        clear X hs3 k3 OB O0 nR hnew
        go_wp2_with fail
        have X := rarm_c h3.out.rf n hn (some ad) c kk ((HBa.out w3 h3.out.calm).move (Nat.le_refl _) (fun _ _ _ => rfl) (fun k hk e => absurd (h1.out.new k e) (by omega))) (by omega) (fun e => by cases e)
        rw [hkl] at X
        refine X.mono ?_
        rintro e w4 ⟨rfl, hq, k4⟩
        clear X
        have ea : armOf n kk = some (n.toNat, kk) := by unfold armOf; rw [if_neg (by omega)]
        rw [ea] at hq
        have h4 := Lib.hid (h3.out.ref hq k4 (fun i e => e))
        have O4 := Lib.hid (own_move (own_move HO.out (fun g cur e b => Row.keep b HK3.out (HnR.out g (by rw [hkl] at e; exact e)).1)) (fun g cur e b => Row.keep b k4 (HnR.out g (by rw [hkl] at e; exact e)).2.1))
        have nR4 : ∀ g, (Value.slice A' 60 c').ownBlock = some g → ¬ (Grow R w2 w3) g ∧ ¬ (Grow Q w3 w4) g ∧ w0.heap.size ≤ g := fun g e => by
          obtain ⟨a1, a2, a3⟩ := HnR.out g e
          obtain ⟨_, cur, b1⟩ := Hnew.out g e
          have := b1.lt
          have := HK3.out.size
          exact ⟨fun x => x.elim a1 (fun x => by omega), fun x => x.elim a2 (fun x => by omega), a3⟩
        have N4 := Lib.hid nR4
        clear hq k4 ea nR4
        rw [hkl] at O4
        generalize Grow Q w3 w4 = Q4 at h4 N4
        generalize Grow R w2 w3 = R4 at h4 N4
        go_wp2_with fail
        go_loopw [17] (fun i wr => ∃ (j : Nat) (bs : List Bool), bs.length = 60 ∧ j ≤ 60 ∧ i = .int .i64 j ∧ Half w0 wr R4 Q4 d r { S with arm := some (n.toNat, kk) } { S with arm := some (n.toNat, kk) } ∧ wr.ownsRow 0 4 1 (.slice A' 60 c') 60 (bs.map Value.bool)) (fun i _ => 60 - (intOf i).toNat)
        case atStart => exact ⟨0, kk, hkl, by omega, rfl, h4.out, O4.out⟩
        case round =>
          obtain ⟨j, bs, hbl, hj, rfl, hh, ho⟩ := hrel
          have HH := Lib.hid hh
          have HO5 := Lib.hid ho
          by_cases hlt : j < 60
          · obtain ⟨g, rfl, hrw, hcl⟩ : ∃ g, A' = some ⟨g, 0, none⟩ ∧ wr.frozen? ⟨g, j, none⟩ = false ∧ wr.cell? ⟨g, j, none⟩ = some (.bool (bs[j]'(by omega))) := by
              rcases ho.2 with ⟨e0, e1⟩ | ⟨g, cap, cur, e0, _, e2, _⟩
              · omega
              · injection e0 with e0 _ e3
                subst e0
                refine ⟨g, rfl, (show Row wr g 4 cur from e2).soft j, ?_⟩
                have := ho.cells (g := g) rfl j (.bool (bs[j]'(by omega))) (by simp [show j < bs.length by omega])
                by_cases e : j = 0
                · subst e; simpa [Addr.add] using this
                · simpa [Addr.add, e] using this
            obtain ⟨a1, a2, a3⟩ := N4.out g rfl
            generalize bs[j]'(by omega) = bj at hcl
            have j0 : (0 : Int) ≤ (j : Int) := by omega
            have j1 : (j : Int) < (60 : Int) := by omega
            clear hh ho
            go_wp2_with fail
            go_roundw
            case rel => exact ⟨j + 1, bs.set j (!bj), by simp [hbl], by omega, by go_num, HH.out.touch a1 a2 a3 j _, by rw [List.map_set]; exact own_set HO5.out hlt _⟩
            case measure => simp [intOf]; omega
          · have j1 : ¬ (j : Int) < (60 : Int) := by omega
            clear hh ho
            go_wp2_with fail
            go_ret
            exact ⟨rfl, _, _, _, HH.out, by simp, by simp, rfl⟩
end Go.Proofs.Ytppehlnfoendgaa
