/-
  Package shape: target, isHalf, mayLead.
-/
import Derived.Test.YthmiiddojccafaaI8
import Derived.Test.YthmiiddojccafaaH0
namespace Go.Proofs.Ythmiiddojccafaa
open Go.RowKit
set_option linter.all false

/-- The Op at a place (0: no such place). -/
def opAt (l : List In) (k : Nat) : Nat := match l[k]? with | some x => x.op | none => 0
theorem opAt_some {l : List In} {k : Nat} {x : In} (h : l[k]? = some x) : opAt l k = x.op := by unfold opAt; rw [h]
def isHalfO (l : List In) (k : Nat) : Bool := decide (0 < k) && decide (opAt l (k - 1) = 24)
def leadO (l : List In) (k : Nat) (x : In) : Bool := decide (0 ≤ x.off) && (decide ((k : Int) + 1 + x.off < (l.length : Int)) && !isHalfO l ((k : Int) + 1 + x.off).toNat)

set_option maxHeartbeats 1600000 in
theorem target_c {w : World} {v : Value} {l : List In} (h : Ins w v l) (hl : l.length ≤ 512) {k : Nat} {x : In} (hx : l[k]? = some x) (hw : x.Wf) : Calls Try.prog 36 #[v, .int .i64 (k : Int)] w fun y w' => y = .returned (.int .i64 ((k : Int) + 1 + x.off)) ∧ Calm w w' := by
  obtain ⟨A, cap, rfl, hcap, hmax⟩ := h.form
  have hk := (List.getElem?_eq_some_iff.1 hx).1
  obtain ⟨ad, y, rfl, hy, hat⟩ := h.at_ (Keep.refl _ w) k hk
  obtain rfl : x = y := by rw [hx] at hy; injection hy
  have e3 := hat.c3
  obtain ⟨n, hn⟩ : ∃ n, n = l.length := ⟨_, rfl⟩
  rw [← hn] at hl hk ⊢
  have i1 : (k : Int) < (n : Int) := by omega
  have i2 : (k : Int) ≤ 512 := by omega
  have i3 : -32768 ≤ x.off := hw.off.1
  have i4 : x.off < 32768 := hw.off.2
  clear h hl hx hw hk hy hat hn hcap hmax
  go_enter Try.func36, Try.ntmps36
  go_wp2_with fail
  go_ret
  exact ⟨by go_num, Keep.refl _ w⟩
set_option maxHeartbeats 1600000 in
theorem isHalf_c {w : World} {v : Value} {l : List In} (h : Ins w v l) (hl : l.length ≤ 512) (k : Nat) (hk : k ≤ l.length) : Calls Try.prog 39 #[v, .int .i64 (k : Int)] w fun y w' => y = .returned (.bool (isHalfO l k)) ∧ Calm w w' := by
  by_cases h0 : k = 0
  · subst h0
    have hR : isHalfO l 0 = false := rfl
    rw [hR]
    clear hR
    obtain ⟨A, cap, rfl, hcap, hmax⟩ := h.form
    generalize l.length = n
    clear h hl hcap hmax hk
    go_enter Try.func39, Try.ntmps39
    go_wp2_with fail
    go_ret
    exact ⟨rfl, Keep.refl _ w⟩
  · obtain ⟨A, cap, rfl, hcap, hmax⟩ := h.form
    obtain ⟨ad, y, rfl, hy, hat⟩ := h.at_ (Keep.refl _ w) (k - 1) (by omega)
    have hR : isHalfO l k = decide (y.op = 24) := by
      unfold isHalfO
      rw [opAt_some hy, decide_eq_true (by omega : 0 < k)]
      rfl
    rw [hR]
    clear hR
    obtain ⟨j, rfl⟩ : ∃ j, k = j + 1 := ⟨k - 1, by omega⟩
    rw [show j + 1 - 1 = j by omega] at hat
    have e0 := hat.c0
    have e1 := hat.c1
    have e2 := hat.c2
    have e3 := hat.c3
    have e4 := hat.c4
    obtain ⟨n, hn⟩ : ∃ n, n = l.length := ⟨_, rfl⟩
    rw [← hn] at hl hk ⊢
    have i1 : (j : Int) < (n : Int) := by omega
    have i2 : (j : Int) ≤ 512 := by omega
    have hz : ((j + 1 : Nat) : Int) = (j : Int) + 1 := by omega
    rw [hz]
    have WC := Lib.hid (fun w => wide_c (op := y.op) y.dst y.src y.off y.imm w)
    clear h hl hk hy hat hn hcap hmax h0 hz
    go_enter Try.func39, Try.ntmps39
    go_wp2_with fail
    refine (WC.out _).mono ?_
    rintro e' w1 ⟨rfl, hc1⟩
    go_wp2_with fail
    go_ret
    exact ⟨rfl, hc1⟩
end Go.Proofs.Ythmiiddojccafaa
