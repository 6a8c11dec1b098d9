/-
  What the laws on spans draw: two spans, a number of one.
-/
import Derived.Test.YtboiakahhkihiaaN8
import Derived.Deep.QuietTactic
import Derived.BigQuiet
namespace Go.Proofs.Ytboiakahhkihiaa
open Go.RowKit
set_option linter.all false

def rS (a b : Nat) : Sp := ⟨min a b, max a b⟩
theorem rS_ok {a b : Nat} (ha : a < 18446744073709551616) (hb : b < 18446744073709551616) : (rS a b).Ok := ⟨by show min a b ≤ max a b; omega, by show max a b < _; omega⟩
/-- A number of a span, by any number. -/
def inN (s : Sp) (n : Nat) : Nat := if s.hi - s.lo = 18446744073709551615 then n else s.lo + n % (s.hi - s.lo + 1)
theorem inN_in {s : Sp} (h : s.Ok) {n : Nat} (hn : n < 18446744073709551616) : s.lo ≤ inN s n ∧ inN s n ≤ s.hi := by
  have := h.r; have := h.h
  unfold inN
  split
  · omega
  · have := Nat.mod_lt n (y := s.hi - s.lo + 1) (by omega)
    omega
/-- The blocks of a call that gives back two spans: what it was given, and both. -/
structure F4 (w w' : World) (g0 g1 g2 : Nat) (cs : Array Value) : Prop where
  cal : Calm w w'
  f : Row w' g0 24 cs
  o1 : ∃ x y, Row w' g1 27 #[x, y]
  o2 : ∃ x y, Row w' g2 27 #[x, y]
  n : w.heap.size ≤ g0
  n1 : g0 < g1
  n2 : g1 < g2
section
variable {w w' w'' : World} {g0 g1 g2 : Nat} {cs : Array Value}
theorem F4.calm (h : F4 w w' g0 g1 g2 cs) (hc : Calm w' w'') : F4 w w'' g0 g1 g2 cs := by
  obtain ⟨x, y, h1⟩ := h.o1
  obtain ⟨x', y', h2⟩ := h.o2
  exact ⟨h.cal.trans hc, h.f.keep hc (fun e => e), ⟨x, y, h1.keep hc (fun e => e)⟩, ⟨x', y', h2.keep hc (fun e => e)⟩, h.n, h.n1, h.n2⟩
theorem F4.made (w : World) (cs : Array Value) (x y x' y' : Value) : F4 w (((w.alloc (.cells cs 24)).alloc (.cells #[x, y] 27)).alloc (.cells #[x', y'] 27)) w.heap.size (w.heap.size + 1) (w.heap.size + 1 + 1) cs := by
  obtain ⟨a, b, c⟩ := frame3 (Keep.refl (fun _ => False) (((w.alloc (.cells cs 24)).alloc (.cells #[x, y] 27)).alloc (.cells #[x', y'] 27)))
  exact ⟨(((Keep.refl _ w).alloc _).alloc _).alloc _, a, ⟨x, y, b⟩, ⟨x', y', c⟩, Nat.le_refl _, Nat.lt_succ_self _, Nat.lt_succ_self _⟩
theorem F4.put1 (h : F4 w w' g0 g1 g2 cs) (x y : Value) : F4 w ((w'.setCell ⟨g1, 0, none⟩ x).setCell ⟨g1, 1, none⟩ y) g0 g1 g2 cs := by
  obtain ⟨u, v, h1⟩ := h.o1
  obtain ⟨u', v', h2⟩ := h.o2
  have := h.n1
  have := h.n2
  have := h.n
  exact ⟨h.cal.both (by omega) x y, h.f.aside (by omega) x y, ⟨x, y, h1.both⟩, ⟨u', v', h2.aside (by omega) x y⟩, h.n, h.n1, h.n2⟩
theorem F4.put2 (h : F4 w w' g0 g1 g2 cs) (x y : Value) : F4 w ((w'.setCell ⟨g2, 0, none⟩ x).setCell ⟨g2, 1, none⟩ y) g0 g1 g2 cs := by
  obtain ⟨u, v, h1⟩ := h.o1
  obtain ⟨u', v', h2⟩ := h.o2
  have := h.n1
  have := h.n2
  have := h.n
  exact ⟨h.cal.both (by omega) x y, h.f.aside (by omega) x y, ⟨u, v, h1.aside (by omega) x y⟩, ⟨x, y, h2.both⟩, h.n, h.n1, h.n2⟩
theorem Row.four {a b c d : Value} (h : Row w g0 24 #[a, b, c, d]) : w.cell? ⟨g0, 0, none⟩ = some a ∧ w.cell? ⟨g0, 1, none⟩ = some b ∧ w.cell? ⟨g0, 2, none⟩ = some c ∧ w.cell? ⟨g0, 3, none⟩ = some d := ⟨h.cell 0, h.cell 1, h.cell 2, h.cell 3⟩
end
section
variable (w : World)
set_option maxHeartbeats 1600000 in
theorem spans8_c (a b c d : Nat) : Calls Try.prog 12 #[.agg #[.int .u64 (a : Int), .int .u64 (b : Int), .int .u64 (c : Int), .int .u64 (d : Int)]] w fun x w' => x = .returned (.tuple #[.agg #[.int .u64 ((rS a b).lo : Int), .int .u64 ((rS a b).hi : Int)], .agg #[.int .u64 ((rS c d).lo : Int), .int .u64 ((rS c d).hi : Int)]]) ∧ Calm w w' := by
  have KR : Hid (∀ a b : Nat, ∀ w, Calls Try.prog 30 #[.int .u64 (a : Int), .int .u64 (b : Int)] w fun x w' => x = .returned (.agg #[.int .u64 ((rS a b).lo : Int), .int .u64 ((rS a b).hi : Int)]) ∧ Calm w w') := Lib.hid fun a b w => right8_c a b w
  go_enter Try.func12, Try.ntmps12
  go_upto_region 1 with fail
  have F := Lib.hid (F4.made w #[.int .u64 (a : Int), .int .u64 (b : Int), .int .u64 (c : Int), .int .u64 (d : Int)] (.int .u64 0) (.int .u64 0) (.int .u64 0) (.int .u64 0))
  obtain ⟨w1, hw1⟩ : ∃ w1, w1 = ((w.alloc (.cells #[.int .u64 (a : Int), .int .u64 (b : Int), .int .u64 (c : Int), .int .u64 (d : Int)] 24)).alloc (.cells #[.int .u64 0, .int .u64 0] 27)).alloc (.cells #[.int .u64 0, .int .u64 0] 27) := ⟨_, rfl⟩
  rw [← hw1] at F ⊢
  clear hw1
  obtain ⟨g0, h0⟩ : ∃ g, g = w.heap.size := ⟨_, rfl⟩
  rw [← h0] at F ⊢
  obtain ⟨g1, h1⟩ : ∃ g, g = g0 + 1 := ⟨_, rfl⟩
  rw [← h1] at F ⊢
  obtain ⟨g2, h2⟩ : ∃ g, g = g1 + 1 := ⟨_, rfl⟩
  rw [← h2] at F ⊢
  clear h0 h1 h2
  refine wp_region_noPanic ?_
  refine wp_region_held_drew (S := fun w' => F4 w w' g0 g1 g2 #[.int .u64 (a : Int), .int .u64 (b : Int), .int .u64 (c : Int), .int .u64 (d : Int)]) (by kernel_rfl) ⟨F.out.cal.drew, F.out.f, F.out.o1, F.out.o2, F.out.n, F.out.n1, F.out.n2⟩ (fun hHeld => ?_)
  refine take_at 0 4 (.pointer (some ⟨g0, 0, none⟩)) rfl rfl (by kernel_rfl) (by kernel_rfl) (by kernel_rfl) (fun _ _ _ h => h) (Or.inl ⟨by rfl, ?_⟩) hHeld ?_
  · intro w hSw; go_simp
  simp only [List.setIfInBounds_toArray, List.set_cons_zero, List.set_cons_succ]
  refine take_at 1 5 (.int .u64 (a : Int)) rfl rfl (by kernel_rfl) (by kernel_rfl) (by kernel_rfl) (fun _ _ _ h => h) (Or.inl ⟨by rfl, ?_⟩) hHeld ?_
  · intro w hSw; have c := hSw.f.four; go_simp
  simp only [List.setIfInBounds_toArray, List.set_cons_zero, List.set_cons_succ]
  refine take_at 2 6 (.pointer (some ⟨g0, 1, none⟩)) rfl rfl (by kernel_rfl) (by kernel_rfl) (by kernel_rfl) (fun _ _ _ h => h) (Or.inl ⟨by rfl, ?_⟩) hHeld ?_
  · intro w hSw; go_simp
  simp only [List.setIfInBounds_toArray, List.set_cons_zero, List.set_cons_succ]
  refine take_at 3 7 (.int .u64 (b : Int)) rfl rfl (by kernel_rfl) (by kernel_rfl) (by kernel_rfl) (fun _ _ _ h => h) (Or.inl ⟨by rfl, ?_⟩) hHeld ?_
  · intro w hSw; have c := hSw.f.four; go_simp
  simp only [List.setIfInBounds_toArray, List.set_cons_zero, List.set_cons_succ]
  refine take_at 5 9 (.pointer (some ⟨g0, 2, none⟩)) rfl rfl (by kernel_rfl) (by kernel_rfl) (by kernel_rfl) (fun _ _ _ h => h) (Or.inl ⟨by rfl, ?_⟩) hHeld ?_
  · intro w hSw; go_simp
  simp only [List.setIfInBounds_toArray, List.set_cons_zero, List.set_cons_succ]
  refine take_at 6 10 (.int .u64 (c : Int)) rfl rfl (by kernel_rfl) (by kernel_rfl) (by kernel_rfl) (fun _ _ _ h => h) (Or.inl ⟨by rfl, ?_⟩) hHeld ?_
  · intro w hSw; have c := hSw.f.four; go_simp
  simp only [List.setIfInBounds_toArray, List.set_cons_zero, List.set_cons_succ]
  refine take_at 7 11 (.pointer (some ⟨g0, 3, none⟩)) rfl rfl (by kernel_rfl) (by kernel_rfl) (by kernel_rfl) (fun _ _ _ h => h) (Or.inl ⟨by rfl, ?_⟩) hHeld ?_
  · intro w hSw; go_simp
  simp only [List.setIfInBounds_toArray, List.set_cons_zero, List.set_cons_succ]
  refine take_at 8 12 (.int .u64 (d : Int)) rfl rfl (by kernel_rfl) (by kernel_rfl) (by kernel_rfl) (fun _ _ _ h => h) (Or.inl ⟨by rfl, ?_⟩) hHeld ?_
  · intro w hSw; have c := hSw.f.four; go_simp
  simp only [List.setIfInBounds_toArray, List.set_cons_zero, List.set_cons_succ]
  refine wpAnyH_ready (rs := [4]) (by kernel_rfl) (by simp) ?_
  refine AllReadyH.cons rfl (fun K hK => ?_) AllReadyH.nil
  go_simp
  refine (KR.out a b _).mono ?_
  rintro e w2 ⟨rfl, hc⟩
  refine hK.out _ _ (hHeld.calm hc) (fun hHeld => ?_)
  clear hK K
  try simp only [List.setIfInBounds_toArray, List.set_cons_zero, List.set_cons_succ]
  refine wpAnyH_ready (rs := [9]) (by kernel_rfl) (by simp) ?_
  refine AllReadyH.cons rfl (fun K hK => ?_) AllReadyH.nil
  go_simp
  refine (KR.out c d _).mono ?_
  rintro e w3 ⟨rfl, hc⟩
  refine hK.out _ _ (hHeld.calm hc) (fun hHeld => ?_)
  clear hK K
  try simp only [List.setIfInBounds_toArray, List.set_cons_zero, List.set_cons_succ]
  obtain ⟨x, y, hrow⟩ := hHeld.o1
  have q1 := hrow.two
  refine wpAnyH_ready (rs := [10]) (by kernel_rfl) (by simp) ?_
  refine AllReadyH.cons rfl (fun K hK => ?_) AllReadyH.nil
  go_simp
  refine hK.out _ _ (hHeld.put1 _ _) (fun hHeld => ?_)
  clear hK K
  try simp only [List.setIfInBounds_toArray, List.set_cons_zero, List.set_cons_succ]
  have hR := hrow.both (x := .int .u64 ((rS a b).lo : Int)) (y := .int .u64 ((rS a b).hi : Int))
  obtain ⟨w4, h4⟩ : ∃ w4, w4 = (w3.setCell ⟨g1, 0, none⟩ (.int .u64 ((rS a b).lo : Int))).setCell ⟨g1, 1, none⟩ (.int .u64 ((rS a b).hi : Int)) := ⟨_, rfl⟩
  rw [← h4] at hR hHeld ⊢
  clear h4 q1 hrow
  obtain ⟨x', y', hrow⟩ := hHeld.o2
  have q1 := hrow.two
  refine wpAnyH_ready (rs := [11]) (by kernel_rfl) (by simp) ?_
  refine AllReadyH.cons rfl (fun K hK => ?_) AllReadyH.nil
  go_simp
  refine hK.out _ _ (hHeld.put2 _ _) (fun hHeld => ?_)
  clear hK K
  try simp only [List.setIfInBounds_toArray, List.set_cons_zero, List.set_cons_succ]
  have hQ := hrow.both (x := .int .u64 ((rS c d).lo : Int)) (y := .int .u64 ((rS c d).hi : Int))
  replace hR := hR.aside (g' := g2) (by have := hHeld.n2; omega) (.int .u64 ((rS c d).lo : Int)) (.int .u64 ((rS c d).hi : Int))
  obtain ⟨w5, h5⟩ : ∃ w5, w5 = (w4.setCell ⟨g2, 0, none⟩ (.int .u64 ((rS c d).lo : Int))).setCell ⟨g2, 1, none⟩ (.int .u64 ((rS c d).hi : Int)) := ⟨_, rfl⟩
  rw [← h5] at hR hQ hHeld ⊢
  clear h5 q1 hrow
  have z1 := hR.two
  have z2 := hQ.two
  have C := Lib.hid hHeld.cal
  clear hHeld hR hQ
  refine wpAnyH_done (by kernel_rfl) (NoPanic.normal ?_) _
  go_wp2_with fail
  refine bodyPost_ret (by simp [results, Try.results12, go_sem, z1.1, z1.2.1, z2.1, z2.2.1]; try rfl) rfl ?_
  exact ⟨rfl, C.out⟩
theorem in8_c {s : Sp} {n : Nat} (hs : s.Ok) (hn : n < 18446744073709551616) : Calls Try.prog 28 #[.agg #[.int .u64 (s.lo : Int), .int .u64 (s.hi : Int)], .int .u64 (n : Int)] w fun x w' => x = .returned (.int .u64 ((inN s n : Nat) : Int)) ∧ Calm w w' := by
  have r1 := hs.r
  have r2 := hs.h
  obtain ⟨d, hd⟩ : ∃ d, d = s.hi - s.lo := ⟨_, rfl⟩
  have wd : IntKind.u64.wrap ((s.hi : Int) - (s.lo : Int)) = (d : Int) := by rw [IntKind.wrap_u64]; omega
  by_cases h : d = 18446744073709551615
  · have e : inN s n = n := if_pos (by omega)
    rw [e]
    subst h
    clear hs hn r1 r2 hd e
    go_enter Try.func28, Try.ntmps28
    go_wp2_with fail
    go_returns
    exact ⟨rfl, (by repeat' first | exact Keep.refl _ _ | exact Hid.out (by assumption) | apply Keep.alloc | apply Keep.drew | apply Keep.drewN | (refine Keep.store ?_ (fun hp => absurd hp (Nat.not_lt.2 (by dsimp only; omega))) _))⟩
  · have e : inN s n = s.lo + n % (d + 1) := by rw [hd]; exact if_neg (by omega)
    have ne : ((d : Int) == 18446744073709551615) = false := by simp; omega
    obtain ⟨m, hm⟩ : ∃ m, m = d + 1 := ⟨_, rfl⟩
    have wm : IntKind.u64.wrap ((d : Int) + 1) = (m : Int) := by rw [IntKind.wrap_u64]; omega
    have nz : ¬ m = 0 := by omega
    obtain ⟨q, hq⟩ : ∃ q, q = n % m := ⟨_, rfl⟩
    have wq : (n : Int) % (m : Int) = (q : Int) := by omega
    have lq : q < m := by rw [hq]; exact Nat.mod_lt _ (by omega)
    obtain ⟨z, hz⟩ : ∃ z, z = s.lo + q := ⟨_, rfl⟩
    have wz : IntKind.u64.wrap ((s.lo : Int) + (q : Int)) = (z : Int) := by rw [IntKind.wrap_u64]; omega
    rw [e, ← hm, ← hq, ← hz]
    clear hs hn r1 r2 hd e h hm hq hz lq
    go_enter Try.func28, Try.ntmps28
    go_upto_region 3 with fail
    go_quiet (fail)
    go_wp2_with fail
    go_returns
    exact ⟨rfl, (by repeat' first | exact Keep.refl _ _ | exact Hid.out (by assumption) | apply Keep.alloc | apply Keep.drew | apply Keep.drewN | (refine Keep.store ?_ (fun hp => absurd hp (Nat.not_lt.2 (by dsimp only; omega))) _))⟩
end

end Go.Proofs.Ytboiakahhkihiaa
