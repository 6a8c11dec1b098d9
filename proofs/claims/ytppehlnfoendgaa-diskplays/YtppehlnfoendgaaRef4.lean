/-
  The document's answer for disk: Read, Barrier.
-/
import Derived.Test.YtppehlnfoendgaaRef3
namespace Go.Proofs.Ytppehlnfoendgaa
open Go.RowKit
set_option linter.all false

theorem rop_same {S S1 : DS} (h : S.op = (true, S1)) : S1.secs = S.secs ∧ S1.wait = S.wait := by
  unfold DS.op at h
  split at h
  · simp at h
  · split at h
    · simp at h; subst h; exact ⟨rfl, rfl⟩
    · simp at h
    · simp at h; subst h; exact ⟨rfl, rfl⟩
theorem IsRef.view {w : World} {R : Nat → Prop} {r : Nat} {S : DS} (h : IsRef w R r S) : ∃ db dc A wc, w.cell? ⟨r, 0, none⟩ = some (.slice (some ⟨db, 0, none⟩) S.secs.length dc) ∧ w.cell? ⟨r, 1, none⟩ = some (.slice A S.wait.length wc) ∧
    (∀ (x : Nat) s, S.secs[x]? = some s → w.cell? ⟨db, x, none⟩ = some (.string (str s))) ∧ (∀ (j : Nat) y, S.wait[j]? = some y → ∃ g, A = some ⟨g, 0, none⟩ ∧ w.cell? ⟨g, j * 2, none⟩ = some (.int .i64 y.1) ∧ w.cell? ⟨g, j * 2 + 1, none⟩ = some (.string (str y.2))) ∧ S.secs.length ≤ 4096 := by
  obtain ⟨dv, wv, kv, left, kl, h⟩ := h
  obtain ⟨db, dc, dcur, hdv, _, _, _, _, hc⟩ := own_done h.done h.some_
  obtain ⟨A, wc, hwv, hwc⟩ := own_waits h.wrow
  have t0 := h.top.cell 0
  have t1 := h.top.cell 1
  simp at t0 t1
  rw [hdv] at t0
  rw [hwv] at t1
  exact ⟨db, dc, A, wc, t0, t1, hc, fun j y hj => by obtain ⟨g, e, _, _, c0, c1⟩ := hwc j y hj; exact ⟨g, e, c0, c1⟩, h.few⟩
theorem rnow_ref {w : World} {R : Nat → Prop} {r : Nat} {S : DS} (h : IsRef w R r S) (hwm : S.wait.length ≤ 1000000) (x : Nat) (hx : x < S.secs.length) :
    Calls Try.prog 32 #[.pointer (some ⟨r, 0, none⟩), .int .i64 x] w fun e w' => e = .returned (.string (str (S.now x))) ∧ w = w' := by
  obtain ⟨db, dc, A, wc, t0, t1, hs, hw, hf⟩ := h.view
  have := rnow_c r db S.secs.length dc x wc A S.wait S.secs[x] w t0 t1 hx hf hwm (hs x _ (List.getElem?_eq_getElem hx)) hw
  have e : S.now x = nowOf S.wait x S.secs[x] := by simp [DS.now, hx]
  rw [e]
  exact this

set_option maxHeartbeats 400000 in
theorem rread_arg {w : World} {R : Nat → Prop} {r : Nat} {S : DS} (h : IsRef w R r S) (x : Int) (hx : ¬ (0 ≤ x ∧ x < S.secs.length)) :
    Calls Try.prog 17 #[.pointer (some ⟨r, 0, none⟩), .int .i64 x] w fun e w' => e = .returned (.tuple #[.string ⟨#[]⟩, .int .i64 1]) ∧ w = w' := by
  obtain ⟨db, dc, A, wc, t0, t1, _, _, _⟩ := h.view
  by_cases h0 : x < 0
  · go_enter Try.func17, Try.ntmps17
    go_wp2_with fail
    go_ret2
    exact ⟨rfl, rfl⟩
  · have h1 : (S.secs.length : Int) ≤ x := by omega
    clear hx
    go_enter Try.func17, Try.ntmps17
    go_wp2_with fail
    go_ret2
    exact ⟨rfl, rfl⟩
set_option maxHeartbeats 400000 in
theorem rread_no {w : World} {R : Nat → Prop} {r : Nat} {S S1 : DS} (h : IsRef w R r S) (hwm : S.wait.length ≤ 1000000) (hops : S.ops ≤ 1000000000) (hop : S.op = (false, S1)) (x : Nat) (hx : x < S.secs.length) :
    Calls Try.prog 17 #[.pointer (some ⟨r, 0, none⟩), .int .i64 x] w fun e w' => e = .returned (.tuple #[.string ⟨#[]⟩, .int .i64 11]) ∧ IsRef w' R r S1 ∧ Keep R w w' := by
  obtain ⟨db, dc, A, wc, t0, t1, _, _, _⟩ := h.view
  have hc := rop_c h hwm hops
  rw [hop] at hc
  have x0 : ¬ (x : Int) < 0 := by omega
  have x1 : (x : Int) < (S.secs.length : Int) := by omega
  have H := Lib.hid hc
  clear hc h hop
  go_enter Try.func17, Try.ntmps17
  go_wp2_with fail
  refine H.out.mono ?_
  rintro e w1 ⟨rfl, h1, k1⟩
  have H1 := Lib.hid h1
  have K1 := Lib.hid k1
  clear h1 k1
  go_wp2_with fail
  go_ret2
  exact ⟨rfl, H1.out, K1.out⟩
set_option maxHeartbeats 400000 in
theorem rread_ok {w : World} {R : Nat → Prop} {r : Nat} {S S1 : DS} (h : IsRef w R r S) (hwm : S.wait.length ≤ 1000000) (hops : S.ops ≤ 1000000000) (hop : S.op = (true, S1)) (x : Nat) (hx : x < S.secs.length) :
    Calls Try.prog 17 #[.pointer (some ⟨r, 0, none⟩), .int .i64 x] w fun e w' => e = .returned (.tuple #[.string (str (S1.now x)), .int .i64 0]) ∧ IsRef w' R r S1 ∧ Keep R w w' := by
  obtain ⟨db, dc, A, wc, t0, t1, _, _, _⟩ := h.view
  have hc := rop_c h hwm hops
  rw [hop] at hc
  obtain ⟨s1, s2⟩ := rop_same hop
  have x0 : ¬ (x : Int) < 0 := by omega
  have x1 : (x : Int) < (S.secs.length : Int) := by omega
  have H := Lib.hid hc
  have Hs := Lib.hid (And.intro s1 s2)
  clear hc h hop s1 s2
  go_enter Try.func17, Try.ntmps17
  go_wp2_with fail
  refine H.out.mono ?_
  rintro e w1 ⟨rfl, h1, k1⟩
  have H1 := Lib.hid h1
  have K1 := Lib.hid k1
  clear h1 k1 t0 t1
  go_wp2_with fail
  refine (rnow_ref H1.out (by rw [Hs.out.2]; exact hwm) x (by rw [Hs.out.1]; exact hx)).mono ?_
  rintro e w2 ⟨rfl, rfl⟩
  go_wp2_with fail
  go_ret2
  exact ⟨rfl, H1.out, K1.out⟩
end Go.Proofs.Ytppehlnfoendgaa
