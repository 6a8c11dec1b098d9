/-
  Package span: what made is made of, continued.
-/
import Derived.Test.YtboiakahhkihiaaN3
import Derived.Deep.DeepCutAuto
import Derived.Deep.CutBlock
namespace Go.Proofs.Ytboiakahhkihiaa
open Go.RowKit
set_option linter.all false

/-- A call's first three blocks: two spans that it was given, and one that it gives back. -/
structure F3 (w w' : World) (g0 g1 g2 : Nat) (s t : Sp) : Prop where
  cal : Calm w w'
  s : Row w' g0 27 #[.int .u64 (s.lo : Int), .int .u64 (s.hi : Int)]
  t : Row w' g1 27 #[.int .u64 (t.lo : Int), .int .u64 (t.hi : Int)]
  o : ∃ x y, Row w' g2 27 #[x, y]
  n : w.heap.size ≤ g0
  n1 : g0 < g1
  n2 : g1 < g2
theorem Row.both {w : World} {g : Nat} {a b x y : Value} (h : Row w g 27 #[a, b]) : Row ((w.setCell ⟨g, 0, none⟩ x).setCell ⟨g, 1, none⟩ y) g 27 #[x, y] := (h.store 0 x).store 1 y
theorem Row.aside {w : World} {g g' : Nat} {t : TypeId} {cs : Array Value} (h : Row w g t cs) (hn : g ≠ g') (x y : Value) : Row ((w.setCell ⟨g', 0, none⟩ x).setCell ⟨g', 1, none⟩ y) g t cs := (h.far (p := ⟨g', 0, none⟩) hn x).far (p := ⟨g', 1, none⟩) hn y
theorem Keep.both {R : Nat → Prop} {w w' : World} {g : Nat} (h : Keep R w w') (hn : w.heap.size ≤ g) (x y : Value) : Keep R w ((w'.setCell ⟨g, 0, none⟩ x).setCell ⟨g, 1, none⟩ y) :=
  (h.store (p := ⟨g, 0, none⟩) (fun e => absurd e (Nat.not_lt.2 hn)) x).store (p := ⟨g, 1, none⟩) (fun e => absurd e (Nat.not_lt.2 hn)) y
section
variable {w w' w'' : World} {g0 g1 g2 : Nat} {s t : Sp}
theorem F3.drew (h : F3 w w' g0 g1 g2 s t) : F3 w w'.drew g0 g1 g2 s t := ⟨h.cal.drew, h.s, h.t, h.o, h.n, h.n1, h.n2⟩
theorem F3.calm (h : F3 w w' g0 g1 g2 s t) (hc : Calm w' w'') : F3 w w'' g0 g1 g2 s t := by
  obtain ⟨x, y, ho⟩ := h.o
  exact ⟨h.cal.trans hc, h.s.keep hc (fun e => e), h.t.keep hc (fun e => e), ⟨x, y, ho.keep hc (fun e => e)⟩, h.n, h.n1, h.n2⟩
theorem F3.made (w : World) (s t : Sp) (x y : Value) : F3 w (((w.alloc (.cells #[.int .u64 (s.lo : Int), .int .u64 (s.hi : Int)] 27)).alloc (.cells #[.int .u64 (t.lo : Int), .int .u64 (t.hi : Int)] 27)).alloc (.cells #[x, y] 27)) w.heap.size (w.heap.size + 1) (w.heap.size + 1 + 1) s t := by
  obtain ⟨a, b, c⟩ := frame3 (Keep.refl (fun _ => False) (((w.alloc (.cells #[.int .u64 (s.lo : Int), .int .u64 (s.hi : Int)] 27)).alloc (.cells #[.int .u64 (t.lo : Int), .int .u64 (t.hi : Int)] 27)).alloc (.cells #[x, y] 27)))
  exact ⟨(((Keep.refl _ w).alloc _).alloc _).alloc _, a, b, ⟨x, y, c⟩, Nat.le_refl _, Nat.lt_succ_self _, Nat.lt_succ_self _⟩
/-- What it gives back is laid. -/
theorem F3.put (h : F3 w w' g0 g1 g2 s t) (x y : Value) : F3 w ((w'.setCell ⟨g2, 0, none⟩ x).setCell ⟨g2, 1, none⟩ y) g0 g1 g2 s t := by
  obtain ⟨u, v, ho⟩ := h.o
  have := h.n1
  have := h.n2
  have := h.n
  exact ⟨h.cal.both (by omega) x y, h.s.aside (by omega) x y, h.t.aside (by omega) x y, ⟨x, y, ho.both⟩, h.n, h.n1, h.n2⟩
/-- A span that it was given is written over. -/
theorem F3.set0 (h : F3 w w' g0 g1 g2 s t) (s' : Sp) : F3 w ((w'.setCell ⟨g0, 0, none⟩ (.int .u64 (s'.lo : Int))).setCell ⟨g0, 1, none⟩ (.int .u64 (s'.hi : Int))) g0 g1 g2 s' t := by
  obtain ⟨u, v, ho⟩ := h.o
  have := h.n1
  have := h.n2
  have := h.n
  exact ⟨h.cal.both h.n _ _, h.s.both, h.t.aside (by omega) _ _, ⟨u, v, ho.aside (by omega) _ _⟩, h.n, h.n1, h.n2⟩
theorem F3.set1 (h : F3 w w' g0 g1 g2 s t) (t' : Sp) : F3 w ((w'.setCell ⟨g1, 0, none⟩ (.int .u64 (t'.lo : Int))).setCell ⟨g1, 1, none⟩ (.int .u64 (t'.hi : Int))) g0 g1 g2 s t' := by
  obtain ⟨u, v, ho⟩ := h.o
  have := h.n1
  have := h.n2
  have := h.n
  exact ⟨h.cal.both (by omega) _ _, h.s.aside (by omega) _ _, h.t.both, ⟨u, v, ho.aside (by omega) _ _⟩, h.n, h.n1, h.n2⟩
end

theorem beq_no {a : Nat} (h : a ≠ 0) : ((a : Int) == 0) = false := by simp; exact h
section
variable {s t : Sp} (w : World)
theorem pquotient_c (hs : s.Ok) (ht : t.Ok) : Calls Try.prog 43 #[.agg #[.int .u64 (s.lo : Int), .int .u64 (s.hi : Int)], .agg #[.int .u64 (t.lo : Int), .int .u64 (t.hi : Int)]] w fun x w' => x = .returned (.agg #[.int .u64 ((quoS s t).lo : Int), .int .u64 ((quoS s t).hi : Int)]) ∧ Calm w w' := by
  by_cases h : t.lo = 0
  · have e : quoS s t = ⟨0, s.hi⟩ := if_pos h
    obtain ⟨l, hh⟩ := t
    simp only at h
    subst h
    rw [e]
    clear hs ht e
    go_enter Try.func43, Try.ntmps43
    go_wp2_with fail
    go_returns
    exact ⟨rfl, (by repeat' first | exact Keep.refl _ _ | exact Hid.out (by assumption) | apply Keep.alloc | apply Keep.drew | apply Keep.drewN | (refine Keep.store ?_ (fun hp => absurd hp (Nat.not_lt.2 (by dsimp only; omega))) _))⟩
  · have e : quoS s t = ⟨s.lo / t.hi, s.hi / t.lo⟩ := if_neg h
    have r1 := hs.r
    have r2 := ht.r
    have r3 := hs.h
    have b1 := beq_no h
    have n2 : ¬ t.hi = 0 := by omega
    have b2 := beq_no n2
    have d1 := Nat.div_le_self s.lo t.hi
    have d2 := Nat.div_le_self s.hi t.lo
    obtain ⟨H, eH⟩ : ∃ H, H = s.hi / t.lo := ⟨_, rfl⟩
    obtain ⟨L, eL⟩ : ∃ L, L = s.lo / t.hi := ⟨_, rfl⟩
    rw [← eH, ← eL] at e
    rw [← eL] at d1
    rw [← eH] at d2
    have wl : IntKind.u64.wrap ((s.lo : Int) / (t.hi : Int)) = (L : Int) := by rw [IntKind.wrap_u64, ← Int.natCast_ediv, ← eL]; omega
    have wh : IntKind.u64.wrap ((s.hi : Int) / (t.lo : Int)) = (H : Int) := by rw [IntKind.wrap_u64, ← Int.natCast_ediv, ← eH]; omega
    rw [e]
    clear hs ht e eH eL r1 r2 r3 d1 d2
    go_enter Try.func43, Try.ntmps43
    go_upto_region 3 with fail
    have F := Lib.hid (F3.made w s t (.int .u64 0) (.int .u64 0))
    obtain ⟨w1, hw1⟩ : ∃ w1, w1 = ((w.alloc (.cells #[.int .u64 (s.lo : Int), .int .u64 (s.hi : Int)] 27)).alloc (.cells #[.int .u64 (t.lo : Int), .int .u64 (t.hi : Int)] 27)).alloc (.cells #[.int .u64 0, .int .u64 0] 27) := ⟨_, rfl⟩
    rw [← hw1] at F ⊢
    clear hw1
    obtain ⟨g0, h0⟩ : ∃ g, g = w.heap.size := ⟨_, rfl⟩
    rw [← h0] at F ⊢
    obtain ⟨g1, h1⟩ : ∃ g, g = g0 + 1 := ⟨_, rfl⟩
    rw [← h1] at F ⊢
    obtain ⟨g2, h2⟩ : ∃ g, g = g1 + 1 := ⟨_, rfl⟩
    rw [← h2] at F ⊢
    clear h0 h1 h2
    refine wp_region_noPanic ?_
    refine wp_region_held_drew (S := fun w' => F3 w w' g0 g1 g2 s t) (by kernel_rfl) F.out.drew (fun hHeld => ?_)
    refine take_at 0 16 (.pointer (some ⟨g0, 0, none⟩)) rfl rfl (by kernel_rfl) (by kernel_rfl) (by kernel_rfl) (fun _ _ _ h => h) (Or.inl ⟨by rfl, ?_⟩) hHeld ?_
    · intro w hSw; go_simp
    simp only [List.setIfInBounds_toArray, List.set_cons_zero, List.set_cons_succ]
    refine take_at 1 17 (.int .u64 (s.lo : Int)) rfl rfl (by kernel_rfl) (by kernel_rfl) (by kernel_rfl) (fun _ _ _ h => h) (Or.inl ⟨by rfl, ?_⟩) hHeld ?_
    · intro w hSw; have c := hSw.s.two; go_simp
    simp only [List.setIfInBounds_toArray, List.set_cons_zero, List.set_cons_succ]
    refine take_at 2 18 (.pointer (some ⟨g1, 1, none⟩)) rfl rfl (by kernel_rfl) (by kernel_rfl) (by kernel_rfl) (fun _ _ _ h => h) (Or.inl ⟨by rfl, ?_⟩) hHeld ?_
    · intro w hSw; go_simp
    simp only [List.setIfInBounds_toArray, List.set_cons_zero, List.set_cons_succ]
    refine take_at 3 19 (.int .u64 (t.hi : Int)) rfl rfl (by kernel_rfl) (by kernel_rfl) (by kernel_rfl) (fun _ _ _ h => h) (Or.inl ⟨by rfl, ?_⟩) hHeld ?_
    · intro w hSw; have c := hSw.t.two; go_simp
    simp only [List.setIfInBounds_toArray, List.set_cons_zero, List.set_cons_succ]
    refine take_at 4 20 (.int .u64 (L : Int)) rfl rfl (by kernel_rfl) (by kernel_rfl) (by kernel_rfl) (fun _ _ _ h => h) (Or.inl ⟨by rfl, ?_⟩) hHeld ?_
    · intro w hSw; go_simp
    simp only [List.setIfInBounds_toArray, List.set_cons_zero, List.set_cons_succ]
    refine take_at 5 21 (.pointer (some ⟨g0, 1, none⟩)) rfl rfl (by kernel_rfl) (by kernel_rfl) (by kernel_rfl) (fun _ _ _ h => h) (Or.inl ⟨by rfl, ?_⟩) hHeld ?_
    · intro w hSw; go_simp
    simp only [List.setIfInBounds_toArray, List.set_cons_zero, List.set_cons_succ]
    refine take_at 6 22 (.int .u64 (s.hi : Int)) rfl rfl (by kernel_rfl) (by kernel_rfl) (by kernel_rfl) (fun _ _ _ h => h) (Or.inl ⟨by rfl, ?_⟩) hHeld ?_
    · intro w hSw; have c := hSw.s.two; go_simp
    simp only [List.setIfInBounds_toArray, List.set_cons_zero, List.set_cons_succ]
    refine take_at 7 23 (.pointer (some ⟨g1, 0, none⟩)) rfl rfl (by kernel_rfl) (by kernel_rfl) (by kernel_rfl) (fun _ _ _ h => h) (Or.inl ⟨by rfl, ?_⟩) hHeld ?_
    · intro w hSw; go_simp
    simp only [List.setIfInBounds_toArray, List.set_cons_zero, List.set_cons_succ]
    refine take_at 8 24 (.int .u64 (t.lo : Int)) rfl rfl (by kernel_rfl) (by kernel_rfl) (by kernel_rfl) (fun _ _ _ h => h) (Or.inl ⟨by rfl, ?_⟩) hHeld ?_
    · intro w hSw; have c := hSw.t.two; go_simp
    simp only [List.setIfInBounds_toArray, List.set_cons_zero, List.set_cons_succ]
    refine take_at 9 25 (.int .u64 (H : Int)) rfl rfl (by kernel_rfl) (by kernel_rfl) (by kernel_rfl) (fun _ _ _ h => h) (Or.inl ⟨by rfl, ?_⟩) hHeld ?_
    · intro w hSw; go_simp
    simp only [List.setIfInBounds_toArray, List.set_cons_zero, List.set_cons_succ]
    refine take_at 10 26 (.agg #[.int .u64 (L : Int), .int .u64 (H : Int)]) rfl rfl (by kernel_rfl) (by kernel_rfl) (by kernel_rfl) (fun _ _ _ h => h) (Or.inl ⟨by rfl, ?_⟩) hHeld ?_
    · intro w hSw; go_simp
    simp only [List.setIfInBounds_toArray, List.set_cons_zero, List.set_cons_succ]
    obtain ⟨x, y, hrow⟩ := hHeld.o
    obtain ⟨w2, hw2⟩ : ∃ w2, w2 = w1.drew := ⟨_, rfl⟩
    rw [← hw2] at hrow hHeld ⊢
    clear hw2
    have d := hrow.two
    refine wpAnyH_ready (rs := [11]) (by kernel_rfl) (by simp) ?_
    refine AllReadyH.cons rfl (fun K hK => ?_) AllReadyH.nil
    go_simp
    refine hK.out _ _ (hHeld.put _ _) (fun hHeld => ?_)
    clear hK K
    try simp only [List.setIfInBounds_toArray, List.set_cons_zero, List.set_cons_succ]
    refine wpAnyH_done (by kernel_rfl) (NoPanic.normal ?_) _
    obtain ⟨w5, h5⟩ : ∃ w5, w5 = (w2.setCell ⟨g2, 0, none⟩ (.int .u64 (L : Int))).setCell ⟨g2, 1, none⟩ (.int .u64 (H : Int)) := ⟨_, rfl⟩
    have hR := (hrow.store 0 (.int .u64 (L : Int))).store 1 (.int .u64 (H : Int))
    rw [← h5] at hR hHeld ⊢
    have q := Row.two (w := w5) (g := g2) (a := .int .u64 (L : Int)) (b := .int .u64 (H : Int)) hR
    clear h5 hR hrow d
    have C := Lib.hid hHeld.cal
    clear hHeld
    obtain ⟨q1, q2, q3, q4⟩ := q
    go_wp2_with fail
    refine bodyPost_ret (by simp [results, Try.results43, go_sem, q1, q2]; try rfl) rfl ?_
    exact ⟨rfl, C.out⟩
theorem premainder_c (hs : s.Ok) (ht : t.Ok) : Calls Try.prog 44 #[.agg #[.int .u64 (s.lo : Int), .int .u64 (s.hi : Int)], .agg #[.int .u64 (t.lo : Int), .int .u64 (t.hi : Int)]] w fun x w' => x = .returned (.agg #[.int .u64 ((remS s t).lo : Int), .int .u64 ((remS s t).hi : Int)]) ∧ Calm w w' := by
  by_cases h : s.hi < t.lo
  · have e : remS s t = s := if_pos h
    rw [e]
    clear hs ht e
    go_enter Try.func44, Try.ntmps44
    go_wp2_with fail
    go_returns
    exact ⟨rfl, (by repeat' first | exact Keep.refl _ _ | exact Hid.out (by assumption) | apply Keep.alloc | apply Keep.drew | apply Keep.drewN | (refine Keep.store ?_ (fun hp => absurd hp (Nat.not_lt.2 (by dsimp only; omega))) _))⟩
  · by_cases h0 : t.lo = 0
    · have e : remS s t = ⟨0, s.hi⟩ := by unfold remS; rw [if_neg h, if_pos h0]
      obtain ⟨l, hh⟩ := t
      simp only at h0
      subst h0
      rw [e]
      clear hs ht e h
      go_enter Try.func44, Try.ntmps44
      go_wp2_with fail
      go_returns
      exact ⟨rfl, (by repeat' first | exact Keep.refl _ _ | exact Hid.out (by assumption) | apply Keep.alloc | apply Keep.drew | apply Keep.drewN | (refine Keep.store ?_ (fun hp => absurd hp (Nat.not_lt.2 (by dsimp only; omega))) _))⟩
    · have e : remS s t = ⟨0, min s.hi (t.hi - 1)⟩ := by unfold remS; rw [if_neg h, if_neg h0]
      have r2 := ht.r
      have r3 := ht.h
      obtain ⟨M, eM⟩ : ∃ M, M = t.hi - 1 := ⟨_, rfl⟩
      have wm : IntKind.u64.wrap ((t.hi : Int) - 1) = (M : Int) := by rw [IntKind.wrap_u64]; omega
      have hp : 0 < t.lo := by omega
      rw [e, ← eM]
      clear hs ht e eM r2 r3 h0
      go_enter Try.func44, Try.ntmps44
      go_wp2_with fail
      all_goals (go_returns; exact ⟨retA rfl (by show _ = ((min s.hi M : Nat) : Int); omega), (by repeat' first | exact Keep.refl _ _ | exact Hid.out (by assumption) | apply Keep.alloc | apply Keep.drew | apply Keep.drewN | (refine Keep.store ?_ (fun hp => absurd hp (Nat.not_lt.2 (by dsimp only; omega))) _))⟩)
end

theorem bitLen_le {x : Nat} (h : x < 18446744073709551616) : bitLen x ≤ 64 := by
  unfold bitLen
  split
  · omega
  · rename_i h0
    have := (Nat.log2_lt h0).2 (show x < 2 ^ 64 from h)
    omega
theorem onesN_lt {x : Nat} (h : x < 18446744073709551616) : onesN x < 18446744073709551616 := by
  have h1 := Nat.pow_le_pow_right (n := 2) (by decide) (bitLen_le h)
  unfold onesN
  have h2 : (2 : Nat) ^ 64 = 18446744073709551616 := by decide
  have := Nat.two_pow_pos (bitLen x)
  omega
theorem pones_c {x : Nat} (h : x < 18446744073709551616) (w : World) : Calls Try.prog 45 #[.int .u64 (x : Int)] w fun e w' => e = .returned (.int .u64 ((onesN x : Nat) : Int)) ∧ w' = w := by
  have hb := bitLen_le h
  have hl := onesN_lt h
  obtain ⟨O, eO⟩ : ∃ O, O = onesN x := ⟨_, rfl⟩
  rw [← eO] at hl ⊢
  unfold onesN at eO
  have K := Lib.hid (fun w => len64_c h w)
  obtain ⟨L, eL⟩ : ∃ L, L = bitLen x := ⟨_, rfl⟩
  rw [← eL] at K eO hb
  have wr : IntKind.u64.wrap (IntKind.u64.wrap ((2 : Int) ^ L) - 1) = (O : Int) := by
    rw [IntKind.wrap_u64, IntKind.wrap_u64, pow_cast]
    have := Nat.two_pow_pos L
    have h2 : 2 ^ L ≤ 2 ^ 64 := Nat.pow_le_pow_right (by decide) hb
    omega
  clear h hl eO eL
  go_enter Try.func45, Try.ntmps45
  go_wp2_with fail
  refine (K.out _).mono ?_
  rintro e w1 ⟨rfl, rfl⟩
  go_wp2_with fail
  go_returns
  exact ⟨rfl, rfl⟩

section
variable {s t : Sp} (w : World)
theorem pdown64_c (hs : s.Ok) (ht : t.Ok) : Calls Try.prog 47 #[.int .u64 64, .agg #[.int .u64 (s.lo : Int), .int .u64 (s.hi : Int)], .agg #[.int .u64 (t.lo : Int), .int .u64 (t.hi : Int)]] w fun x w' => x = .returned (.agg #[.int .u64 ((downS 64 s t).lo : Int), .int .u64 ((downS 64 s t).hi : Int)]) ∧ Calm w w' := by
  by_cases h : 64 ≤ t.hi
  · have e : downS 64 s t = ⟨0, s.hi⟩ := if_pos h
    rw [e]
    clear hs ht e
    go_enter Try.func47, Try.ntmps47
    go_wp2_with fail
    go_returns
    exact ⟨rfl, (by repeat' first | exact Keep.refl _ _ | exact Hid.out (by assumption) | apply Keep.alloc | apply Keep.drew | apply Keep.drewN | (refine Keep.store ?_ (fun hp => absurd hp (Nat.not_lt.2 (by dsimp only; omega))) _))⟩
  · have e : downS 64 s t = ⟨s.lo / 2 ^ t.hi, s.hi / 2 ^ t.lo⟩ := if_neg h
    have r2 := ht.r
    have h1 : ¬ 64 ≤ t.hi := h
    rw [e]
    clear hs ht e h
    go_enter Try.func47, Try.ntmps47
    go_wp2_with fail
    go_returns
    exact ⟨rfl, (by repeat' first | exact Keep.refl _ _ | exact Hid.out (by assumption) | apply Keep.alloc | apply Keep.drew | apply Keep.drewN | (refine Keep.store ?_ (fun hp => absurd hp (Nat.not_lt.2 (by dsimp only; omega))) _))⟩
theorem pdown32_c (hs : s.Ok) (ht : t.Ok) : Calls Try.prog 47 #[.int .u64 32, .agg #[.int .u64 (s.lo : Int), .int .u64 (s.hi : Int)], .agg #[.int .u64 (t.lo : Int), .int .u64 (t.hi : Int)]] w fun x w' => x = .returned (.agg #[.int .u64 ((downS 32 s t).lo : Int), .int .u64 ((downS 32 s t).hi : Int)]) ∧ Calm w w' := by
  by_cases h : 32 ≤ t.hi
  · have e : downS 32 s t = ⟨0, s.hi⟩ := if_pos h
    rw [e]
    clear hs ht e
    go_enter Try.func47, Try.ntmps47
    go_wp2_with fail
    go_returns
    exact ⟨rfl, (by repeat' first | exact Keep.refl _ _ | exact Hid.out (by assumption) | apply Keep.alloc | apply Keep.drew | apply Keep.drewN | (refine Keep.store ?_ (fun hp => absurd hp (Nat.not_lt.2 (by dsimp only; omega))) _))⟩
  · have e : downS 32 s t = ⟨s.lo / 2 ^ t.hi, s.hi / 2 ^ t.lo⟩ := if_neg h
    have r2 := ht.r
    have h1 : ¬ 32 ≤ t.hi := h
    rw [e]
    clear hs ht e h
    go_enter Try.func47, Try.ntmps47
    go_wp2_with fail
    go_returns
    exact ⟨rfl, (by repeat' first | exact Keep.refl _ _ | exact Hid.out (by assumption) | apply Keep.alloc | apply Keep.drew | apply Keep.drewN | (refine Keep.store ?_ (fun hp => absurd hp (Nat.not_lt.2 (by dsimp only; omega))) _))⟩
set_option maxHeartbeats 1000000 in
theorem pup64_c (hs : s.Ok) (ht : t.Ok) : Calls Try.prog 46 #[.int .u64 64, .agg #[.int .u64 (s.lo : Int), .int .u64 (s.hi : Int)], .agg #[.int .u64 (t.lo : Int), .int .u64 (t.hi : Int)]] w fun x w' => x = .returned (.agg #[.int .u64 ((upS 64 s t).lo : Int), .int .u64 ((upS 64 s t).hi : Int)]) ∧ Calm w w' := by
  by_cases h1 : t.lo = t.hi
  · have r1 := hs.r
    have r2 := hs.h
    have hp := Nat.two_pow_pos (t.hi % 64)
    have eX : ((s.hi : Int) * 2 ^ (t.hi % 64)) = ((s.hi * 2 ^ (t.hi % 64) : Nat) : Int) := by rw [pow_cast, ← Int.natCast_mul]
    have eY : ((s.lo : Int) * 2 ^ (t.hi % 64)) = ((s.lo * 2 ^ (t.hi % 64) : Nat) : Int) := by rw [pow_cast, ← Int.natCast_mul]
    by_cases h2 : s.hi * 2 ^ (t.hi % 64) < 18446744073709551616
    · have e : upS 64 s t = ⟨s.lo * 2 ^ (t.hi % 64), s.hi * 2 ^ (t.hi % 64)⟩ := by
        unfold upS
        rw [h1, if_pos ⟨rfl, h2⟩]
      have hl : s.lo * 2 ^ (t.hi % 64) < 18446744073709551616 := Nat.lt_of_le_of_lt (Nat.mul_le_mul_right _ r1) h2
      obtain ⟨X, hX⟩ : ∃ X, X = s.hi * 2 ^ (t.hi % 64) := ⟨_, rfl⟩
      obtain ⟨Y, hY⟩ : ∃ Y, Y = s.lo * 2 ^ (t.hi % 64) := ⟨_, rfl⟩
      rw [← hX] at e eX h2
      rw [← hY] at e eY hl
      have wx : IntKind.u64.wrap ((s.hi : Int) * 2 ^ (t.hi % 64)) = (X : Int) := by rw [eX]; exact wrapU64 h2
      have wy : IntKind.u64.wrap ((s.lo : Int) * 2 ^ (t.hi % 64)) = (Y : Int) := by rw [eY]; exact wrapU64 hl
      have q : (X : Int) / 2 ^ (t.hi % 64) = (s.hi : Int) := by rw [pow_cast, ← Int.natCast_ediv, hX, Nat.mul_div_cancel _ hp]
      rw [e]
      clear hs ht e hX hY eX eY h2 hl r1 r2 hp
      obtain ⟨tl, th⟩ := t
      simp only at h1
      subst h1
      simp only at wx wy q
      go_enter Try.func46, Try.ntmps46
      go_wp2_with fail
      refine (pisone_c _ _ _).mono ?_
      rintro e w1 ⟨rfl, rfl⟩
      go_wp2_with fail
      go_returns
      exact ⟨rfl, (by repeat' first | exact Keep.refl _ _ | exact Hid.out (by assumption) | apply Keep.alloc | apply Keep.drew | apply Keep.drewN | (refine Keep.store ?_ (fun hp => absurd hp (Nat.not_lt.2 (by dsimp only; omega))) _))⟩
    · have e : upS 64 s t = allS := by
        unfold upS
        rw [h1, if_neg (fun h => h2 h.2)]
      obtain ⟨X, hX⟩ : ∃ X, X = s.hi * 2 ^ (t.hi % 64) % 18446744073709551616 := ⟨_, rfl⟩
      have wx : IntKind.u64.wrap ((s.hi : Int) * 2 ^ (t.hi % 64)) = (X : Int) := by rw [eX, IntKind.wrap_u64, hX]; omega
      obtain ⟨Z, hZ⟩ : ∃ Z, Z = X / 2 ^ (t.hi % 64) := ⟨_, rfl⟩
      have q : (X : Int) / 2 ^ (t.hi % 64) = (Z : Int) := by rw [pow_cast, ← Int.natCast_ediv, hZ]
      have hne : Z ≠ s.hi := by
        intro hz
        have d1 : Z * 2 ^ (t.hi % 64) ≤ X := by rw [hZ]; exact Nat.div_mul_le_self _ _
        rw [hz] at d1
        have d2 : X < 18446744073709551616 := by rw [hX]; exact Nat.mod_lt _ (by decide)
        omega
      have hb : ((Z : Int) != (s.hi : Int)) = true := by simp; omega
      rw [e]
      clear hs ht e hX hZ eX eY h2 hne r1 r2 hp
      obtain ⟨tl, th⟩ := t
      simp only at h1
      subst h1
      simp only at wx q
      go_enter Try.func46, Try.ntmps46
      go_wp2_with fail
      refine (pisone_c _ _ _).mono ?_
      rintro e w1 ⟨rfl, rfl⟩
      go_wp2_with fail
      refine (pall_c _).mono ?_
      rintro x w1 ⟨rfl, rfl⟩
      go_wp2_with fail
      go_returns
      exact ⟨rfl, (by repeat' first | exact Keep.refl _ _ | exact Hid.out (by assumption) | apply Keep.alloc | apply Keep.drew | apply Keep.drewN | (refine Keep.store ?_ (fun hp => absurd hp (Nat.not_lt.2 (by dsimp only; omega))) _))⟩
  · have e : upS 64 s t = allS := by
      unfold upS
      rw [if_neg (fun h => h1 h.1)]
    have hd := decide_eq_false h1
    have K : Hid (∀ w, Calls Try.prog 32 #[.agg #[.int .u64 (t.lo : Int), .int .u64 (t.hi : Int)]] w fun x w' => x = .returned (.bool false) ∧ w' = w.alloc (.cells #[.int .u64 (t.lo : Int), .int .u64 (t.hi : Int)] 27)) := Lib.hid fun w => by
      have k := pisone_c t.lo t.hi w
      rw [hd] at k
      exact k
    rw [e]
    clear hs ht e h1 hd
    go_enter Try.func46, Try.ntmps46
    go_wp2_with fail
    refine (K.out _).mono ?_
    rintro e w1 ⟨rfl, rfl⟩
    go_wp2_with fail
    refine (pall_c _).mono ?_
    rintro x w1 ⟨rfl, rfl⟩
    go_wp2_with fail
    go_returns
    exact ⟨rfl, (by repeat' first | exact Keep.refl _ _ | exact Hid.out (by assumption) | apply Keep.alloc | apply Keep.drew | apply Keep.drewN | (refine Keep.store ?_ (fun hp => absurd hp (Nat.not_lt.2 (by dsimp only; omega))) _))⟩
set_option maxHeartbeats 1000000 in
theorem pup32_c (hs : s.Ok) (ht : t.Ok) : Calls Try.prog 46 #[.int .u64 32, .agg #[.int .u64 (s.lo : Int), .int .u64 (s.hi : Int)], .agg #[.int .u64 (t.lo : Int), .int .u64 (t.hi : Int)]] w fun x w' => x = .returned (.agg #[.int .u64 ((upS 32 s t).lo : Int), .int .u64 ((upS 32 s t).hi : Int)]) ∧ Calm w w' := by
  by_cases h1 : t.lo = t.hi
  · have r1 := hs.r
    have r2 := hs.h
    have hp := Nat.two_pow_pos (t.hi % 32)
    have eX : ((s.hi : Int) * 2 ^ (t.hi % 32)) = ((s.hi * 2 ^ (t.hi % 32) : Nat) : Int) := by rw [pow_cast, ← Int.natCast_mul]
    have eY : ((s.lo : Int) * 2 ^ (t.hi % 32)) = ((s.lo * 2 ^ (t.hi % 32) : Nat) : Int) := by rw [pow_cast, ← Int.natCast_mul]
    by_cases h2 : s.hi * 2 ^ (t.hi % 32) < 18446744073709551616
    · have e : upS 32 s t = ⟨s.lo * 2 ^ (t.hi % 32), s.hi * 2 ^ (t.hi % 32)⟩ := by
        unfold upS
        rw [h1, if_pos ⟨rfl, h2⟩]
      have hl : s.lo * 2 ^ (t.hi % 32) < 18446744073709551616 := Nat.lt_of_le_of_lt (Nat.mul_le_mul_right _ r1) h2
      obtain ⟨X, hX⟩ : ∃ X, X = s.hi * 2 ^ (t.hi % 32) := ⟨_, rfl⟩
      obtain ⟨Y, hY⟩ : ∃ Y, Y = s.lo * 2 ^ (t.hi % 32) := ⟨_, rfl⟩
      rw [← hX] at e eX h2
      rw [← hY] at e eY hl
      have wx : IntKind.u64.wrap ((s.hi : Int) * 2 ^ (t.hi % 32)) = (X : Int) := by rw [eX]; exact wrapU64 h2
      have wy : IntKind.u64.wrap ((s.lo : Int) * 2 ^ (t.hi % 32)) = (Y : Int) := by rw [eY]; exact wrapU64 hl
      have q : (X : Int) / 2 ^ (t.hi % 32) = (s.hi : Int) := by rw [pow_cast, ← Int.natCast_ediv, hX, Nat.mul_div_cancel _ hp]
      rw [e]
      clear hs ht e hX hY eX eY h2 hl r1 r2 hp
      obtain ⟨tl, th⟩ := t
      simp only at h1
      subst h1
      simp only at wx wy q
      go_enter Try.func46, Try.ntmps46
      go_wp2_with fail
      refine (pisone_c _ _ _).mono ?_
      rintro e w1 ⟨rfl, rfl⟩
      go_wp2_with fail
      go_returns
      exact ⟨rfl, (by repeat' first | exact Keep.refl _ _ | exact Hid.out (by assumption) | apply Keep.alloc | apply Keep.drew | apply Keep.drewN | (refine Keep.store ?_ (fun hp => absurd hp (Nat.not_lt.2 (by dsimp only; omega))) _))⟩
    · have e : upS 32 s t = allS := by
        unfold upS
        rw [h1, if_neg (fun h => h2 h.2)]
      obtain ⟨X, hX⟩ : ∃ X, X = s.hi * 2 ^ (t.hi % 32) % 18446744073709551616 := ⟨_, rfl⟩
      have wx : IntKind.u64.wrap ((s.hi : Int) * 2 ^ (t.hi % 32)) = (X : Int) := by rw [eX, IntKind.wrap_u64, hX]; omega
      obtain ⟨Z, hZ⟩ : ∃ Z, Z = X / 2 ^ (t.hi % 32) := ⟨_, rfl⟩
      have q : (X : Int) / 2 ^ (t.hi % 32) = (Z : Int) := by rw [pow_cast, ← Int.natCast_ediv, hZ]
      have hne : Z ≠ s.hi := by
        intro hz
        have d1 : Z * 2 ^ (t.hi % 32) ≤ X := by rw [hZ]; exact Nat.div_mul_le_self _ _
        rw [hz] at d1
        have d2 : X < 18446744073709551616 := by rw [hX]; exact Nat.mod_lt _ (by decide)
        omega
      have hb : ((Z : Int) != (s.hi : Int)) = true := by simp; omega
      rw [e]
      clear hs ht e hX hZ eX eY h2 hne r1 r2 hp
      obtain ⟨tl, th⟩ := t
      simp only at h1
      subst h1
      simp only at wx q
      go_enter Try.func46, Try.ntmps46
      go_wp2_with fail
      refine (pisone_c _ _ _).mono ?_
      rintro e w1 ⟨rfl, rfl⟩
      go_wp2_with fail
      refine (pall_c _).mono ?_
      rintro x w1 ⟨rfl, rfl⟩
      go_wp2_with fail
      go_returns
      exact ⟨rfl, (by repeat' first | exact Keep.refl _ _ | exact Hid.out (by assumption) | apply Keep.alloc | apply Keep.drew | apply Keep.drewN | (refine Keep.store ?_ (fun hp => absurd hp (Nat.not_lt.2 (by dsimp only; omega))) _))⟩
  · have e : upS 32 s t = allS := by
      unfold upS
      rw [if_neg (fun h => h1 h.1)]
    have hd := decide_eq_false h1
    have K : Hid (∀ w, Calls Try.prog 32 #[.agg #[.int .u64 (t.lo : Int), .int .u64 (t.hi : Int)]] w fun x w' => x = .returned (.bool false) ∧ w' = w.alloc (.cells #[.int .u64 (t.lo : Int), .int .u64 (t.hi : Int)] 27)) := Lib.hid fun w => by
      have k := pisone_c t.lo t.hi w
      rw [hd] at k
      exact k
    rw [e]
    clear hs ht e h1 hd
    go_enter Try.func46, Try.ntmps46
    go_wp2_with fail
    refine (K.out _).mono ?_
    rintro e w1 ⟨rfl, rfl⟩
    go_wp2_with fail
    refine (pall_c _).mono ?_
    rintro x w1 ⟨rfl, rfl⟩
    go_wp2_with fail
    go_returns
    exact ⟨rfl, (by repeat' first | exact Keep.refl _ _ | exact Hid.out (by assumption) | apply Keep.alloc | apply Keep.drew | apply Keep.drewN | (refine Keep.store ?_ (fun hp => absurd hp (Nat.not_lt.2 (by dsimp only; omega))) _))⟩
end

end Go.Proofs.Ytboiakahhkihiaa
