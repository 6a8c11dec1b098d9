/-
  Contracts of the reference of layer 5: Same.
-/
import Derived.Test.YtohnemcdldpgaaaI5
import Derived.BigQuiet
namespace Go.Proofs.Ytohnemcdldpgaaa
open Go.RowKit
set_option linter.all false

theorem take_eq_succ {a b : List In} {k : Nat} {x y : In} (hx : a[k]? = some x) (hy : b[k]? = some y) : (a.take (k + 1) = b.take (k + 1)) ↔ (a.take k = b.take k ∧ x = y) := by
  rw [List.take_add_one, List.take_add_one, hx, hy]
  have h1 : k < a.length := (List.getElem?_eq_some_iff.1 hx).1
  have h2 : k < b.length := (List.getElem?_eq_some_iff.1 hy).1
  constructor
  · intro h
    have := List.append_inj h (by rw [List.length_take, List.length_take]; omega)
    exact ⟨this.1, by simpa using this.2⟩
  · rintro ⟨h, rfl⟩
    rw [h]
set_option maxHeartbeats 3200000 in
theorem same_c {w : World} {v1 v2 : Value} {a b : List In} (h1 : Ins w v1 a) (h2 : Ins w v2 b) : Calls Try.prog 16 #[v1, v2] w fun e w' => e = .returned (.bool (decide (a = b))) ∧ Calm w w' := by
  obtain ⟨A, ca, rfl, hca, hma⟩ := h1.form
  obtain ⟨B, cb, rfl, hcb, hmb⟩ := h2.form
  unfold maxLen at hma hmb
  have H1 := Lib.hid h1
  have H2 := Lib.hid h2
  obtain ⟨n, hn⟩ : ∃ n, n = a.length := ⟨_, rfl⟩
  obtain ⟨m, hm⟩ : ∃ m, m = b.length := ⟨_, rfl⟩
  have HN := Lib.hid (And.intro hn hm)
  have i9 : (n : Int) ≤ 9223372036854775807 := by omega
  have i8 : (m : Int) ≤ 9223372036854775807 := by omega
  rw [← hn] at H1 ⊢
  rw [← hm] at H2 ⊢
  clear h1 h2 hn hm hca hcb hma hmb
  by_cases hnm : n = m
  rotate_left
  · have i1 : ((n : Int) != (m : Int)) = true := by rw [bne_iff_ne]; omega
    have hz : decide (a = b) = false := decide_eq_false (fun e => hnm (by rw [HN.out.1, HN.out.2, e]))
    rw [hz]
    clear hz hnm
    go_enter Try.func16, Try.ntmps16
    go_wp2_with fail
    go_ret
    exact ⟨rfl, Keep.refl _ _⟩
  subst hnm
  go_enter Try.func16, Try.ntmps16
  go_wp2_with fail
  go_loopw [5] (fun i wr => ∃ k : Nat, k ≤ n ∧ i = .int .i64 k ∧ Calm w wr ∧ a.take k = b.take k) (fun i _ => n - (intOf i).toNat)
  case atStart => exact ⟨0, by omega, rfl, Keep.refl _ w, rfl⟩
  case round =>
    obtain ⟨k, hk, rfl, hcal, htk⟩ := hrel
    have HC := Lib.hid hcal
    have HT := Lib.hid htk
    clear hcal htk
    by_cases hlt : k < n
    · have i1 : (k : Int) < (n : Int) := by omega
      obtain ⟨ad, x, rfl, hx, hax⟩ := H1.out.at_ HC.out k (by rw [← HN.out.1]; exact hlt)
      obtain ⟨bd, y, rfl, hy, hby⟩ := H2.out.at_ HC.out k (by rw [← HN.out.2]; exact hlt)
      have HS := Lib.hid (take_eq_succ hx hy)
      have HX := Lib.hid (And.intro hx hy)
      have e0 := hax.c0
      have e1 := hax.c1
      have e2 := hax.c2
      have e3 := hax.c3
      have e4 := hax.c4
      have d0 := hby.c0
      have d1 := hby.c1
      have d2 := hby.c2
      have d3 := hby.c3
      have d4 := hby.c4
      clear hax hby hx hy
      by_cases h0 : x.op = y.op
      rotate_left
      · have hne : ¬ x = y := fun e => h0 (by rw [e])
        have g0 : ¬ ((x.op : Int) = (y.op : Int)) := by omega
        clear h0
        have HNE : Hid (¬ a = b) := Lib.hid (fun e => hne (by have := HX.out; rw [e] at this; have h3 := this.1.symm.trans this.2; injection h3))
        clear hne
        go_upto_region 6 with fail
        go_quiet (fail)
        go_wp2_with fail
        go_ret
        exact ⟨by rw [decide_eq_false HNE.out]; rfl, HC.out.drewN _⟩
      rw [h0] at e0
      by_cases h1 : x.dst = y.dst
      rotate_left
      · have hne : ¬ x = y := fun e => h1 (by rw [e])
        have g1 : ¬ ((x.dst : Int) = (y.dst : Int)) := by omega
        clear h0 h1
        have HNE : Hid (¬ a = b) := Lib.hid (fun e => hne (by have := HX.out; rw [e] at this; have h3 := this.1.symm.trans this.2; injection h3))
        clear hne
        go_upto_region 6 with fail
        go_quiet (fail)
        go_wp2_with fail
        go_ret
        exact ⟨by rw [decide_eq_false HNE.out]; rfl, HC.out.drewN _⟩
      rw [h1] at e1
      by_cases h2 : x.src = y.src
      rotate_left
      · have hne : ¬ x = y := fun e => h2 (by rw [e])
        have g2 : ¬ ((x.src : Int) = (y.src : Int)) := by omega
        clear h0 h1 h2
        have HNE : Hid (¬ a = b) := Lib.hid (fun e => hne (by have := HX.out; rw [e] at this; have h3 := this.1.symm.trans this.2; injection h3))
        clear hne
        go_upto_region 6 with fail
        go_quiet (fail)
        go_wp2_with fail
        go_ret
        exact ⟨by rw [decide_eq_false HNE.out]; rfl, HC.out.drewN _⟩
      rw [h2] at e2
      by_cases h3 : x.off = y.off
      rotate_left
      · have hne : ¬ x = y := fun e => h3 (by rw [e])
        have g3 : ¬ ((x.off : Int) = (y.off : Int)) := by exact h3
        clear h0 h1 h2 h3
        have HNE : Hid (¬ a = b) := Lib.hid (fun e => hne (by have := HX.out; rw [e] at this; have h3 := this.1.symm.trans this.2; injection h3))
        clear hne
        go_upto_region 6 with fail
        go_quiet (fail)
        go_wp2_with fail
        go_ret
        exact ⟨by rw [decide_eq_false HNE.out]; rfl, HC.out.drewN _⟩
      rw [h3] at e3
      by_cases h4 : x.imm = y.imm
      rotate_left
      · have hne : ¬ x = y := fun e => h4 (by rw [e])
        have g4 : ¬ ((x.imm : Int) = (y.imm : Int)) := by exact h4
        clear h0 h1 h2 h3 h4
        have HNE : Hid (¬ a = b) := Lib.hid (fun e => hne (by have := HX.out; rw [e] at this; have h3 := this.1.symm.trans this.2; injection h3))
        clear hne
        go_upto_region 6 with fail
        go_quiet (fail)
        go_wp2_with fail
        go_ret
        exact ⟨by rw [decide_eq_false HNE.out]; rfl, HC.out.drewN _⟩
      rw [h4] at e4
      have HXY := Lib.hid (In.ext' h0 h1 h2 h3 h4)
      clear h0 h1 h2 h3 h4
      go_upto_region 6 with fail
      go_quiet (fail)
      go_wp2_with fail
      go_roundw
      case rel => exact ⟨k + 1, by omega, by go_num, HC.out.drewN _, HS.out.2 ⟨HT.out, HXY.out⟩⟩
      case measure => simp [intOf]; omega
    · obtain rfl : k = n := by omega
      have hab : a = b := by
        have := HT.out
        rwa [List.take_of_length_le (by rw [← HN.out.1]; exact Nat.le_refl _), List.take_of_length_le (by rw [← HN.out.2]; exact Nat.le_refl _)] at this
      have HZ := Lib.hid (decide_eq_true hab)
      clear hab
      go_wp2_with fail
      go_ret
      exact ⟨by rw [HZ.out]; rfl, HC.out⟩
end Go.Proofs.Ytohnemcdldpgaaa
