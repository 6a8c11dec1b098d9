/-
  The document's answer for disk: op, Start.
-/
import Derived.Test.YtppehlnfoendgaaRef2
namespace Go.Proofs.Ytppehlnfoendgaa
open Go.RowKit
set_option linter.all false

theorem RLay.turn {w w' : World} {R : Nat → Prop} {r : Nat} {S : DS} {dv wv kv : Value} {left : Int} {kl : List Bool} (h : RLay w R r S dv wv kv left kl) (S' : DS) (left' : Int) (k : Keep (· = r) w w')
    (top : Row w' r 38 #[dv, wv, .bool S'.down, .int .i64 S'.ops, .int .i64 left', kv]) (e1 : S'.secs = S.secs) (e2 : S'.wait = S.wait) (harm : LeftIs left' kl S'.arm) : RLay w' R r S' dv wv kv left' kl := by
  have hm : ∀ {g t cur}, t ≠ 38 → Row w g t cur → Row w' g t cur := fun ht hrow => hrow.keep k (fun e => by subst e; exact (hrow.ne h.top ht) rfl)
  exact ⟨top, by rw [e1]; exact own_move h.done (fun g cur _ hrow => hm (by decide) hrow), by rw [e2]; exact own_move h.wrow (fun g cur _ hrow => hm (by decide) hrow), own_move h.krow (fun g cur _ hrow => hm (by decide) hrow), harm,
    h.rd, h.rD, h.rW, h.rK, by rw [e1]; exact h.few, by rw [e1]; exact h.some_, by rw [e1, e2]; exact h.at_⟩
theorem RLay.keep {w w' : World} {R : Nat → Prop} {r : Nat} {S : DS} {dv wv kv : Value} {left : Int} {kl : List Bool} (h : RLay w R r S dv wv kv left kl) (k : Keep (· = r) w w') : Keep R w w' := k.mono (fun i _ e => by subst e; exact h.rd)

theorem own_max {w : World} {t : TypeId} {v : Value} {n : Nat} {xs : List Value} (h : w.ownsRow 0 t 1 v n xs) : n ≤ maxLen := by
  rcases h.2 with ⟨_, h1⟩ | ⟨g, cap, cur, _, _, _, h3, h4, _⟩
  · omega
  · omega

theorem rstart_c {w : World} {R : Nat → Prop} {r : Nat} {S : DS} (h : IsRef w R r S) :
    Calls Try.prog 22 #[.pointer (some ⟨r, 0, none⟩)] w fun e w' => e = .returned (.int .i64 (if S.down then 0 else 10)) ∧ IsRef w' R r { S with down := false } ∧ Keep R w w' := by
  obtain ⟨dv, wv, kv, left, kl, h⟩ := h
  have t2 := h.top.cell 2
  simp at t2
  cases hd : S.down
  · rw [hd] at t2
    refine (rstart_no r w t2).mono ?_
    rintro e w' ⟨rfl, rfl⟩
    have : ({ S with down := false } : DS) = S := by cases S; simp at hd; simp [hd]
    rw [this]
    exact ⟨by simp, ⟨_, _, _, _, _, h⟩, Keep.refl _ _⟩
  · rw [hd] at t2
    refine (rstart_up r w t2 (h.top.soft 2)).mono ?_
    rintro e w' ⟨rfl, rfl⟩
    have k : Keep (· = r) w (w.setCell ⟨r, 2, none⟩ (.bool false)) := (Keep.refl (· = r) w).store (p := ⟨r, 2, none⟩) (fun _ => rfl) _
    exact ⟨by simp, ⟨_, _, _, _, _, h.turn { S with down := false } left k (by simpa using h.top.store 2 (.bool false)) rfl rfl h.arm⟩, h.keep k⟩

set_option maxHeartbeats 1600000 in
theorem rop_c {w : World} {R : Nat → Prop} {r : Nat} {S : DS} (h : IsRef w R r S) (hwm : S.wait.length ≤ 1000000) (hops : S.ops ≤ 1000000000) :
    Calls Try.prog 31 #[.pointer (some ⟨r, 0, none⟩)] w fun e w' => e = .returned (.bool S.op.1) ∧ IsRef w' R r S.op.2 ∧ Keep R w w' := by
  have HI := Lib.hid h
  obtain ⟨dv, wv, kv, left, kl, h⟩ := h
  have t2 := h.top.cell 2
  have t3 := h.top.cell 3
  have t4 := h.top.cell 4
  have t5 := h.top.cell 5
  simp at t2 t3 t4 t5
  have f3 := h.top.soft 3
  have f4 := h.top.soft 4
  have hrl := h.top.lt
  have H := Lib.hid h
  have harm := h.arm
  have o1 : (S.ops : Int) + 1 ≤ 9223372036854775807 := by omega
  clear h
  cases hd : S.down
  · rw [hd] at t2
    cases ha : S.arm with
    | none =>
      rw [ha] at harm
      have harm' : left = -1 := harm
      have hop : S.op = (true, { S with ops := S.ops + 1 }) := by simp [DS.op, hd, ha]
      rw [hop]
      have Hh := Lib.hid (And.intro hd ha)
      clear hop hd ha harm
      subst harm'
      go_enter Try.func31, Try.ntmps31
      go_wp2_with fail
      go_ret
      have k : Keep (· = r) w (w.setCell ⟨r, 3, none⟩ (.int .i64 (S.ops + 1))) := (Keep.refl (· = r) w).store (p := ⟨r, 3, none⟩) (fun _ => rfl) _
      exact ⟨rfl, ⟨_, _, _, _, _, H.out.turn { S with ops := S.ops + 1 } (-1) k (by simpa using H.out.top.store 3 (.int .i64 (S.ops + 1))) rfl rfl (by rw [Hh.out.2]; rfl)⟩, H.out.keep k⟩
    | some x =>
      obtain ⟨a, ks⟩ := x
      rw [ha] at harm
      obtain ⟨e1, e2, e3⟩ : left = (a : Int) ∧ kl = ks ∧ a ≤ big := harm
      subst e1; subst e2
      cases a with
      | zero =>
        have hop : S.op = (false, S.crash kl) := by simp [DS.op, hd, ha]
        rw [hop]
        clear hop hd ha e3
        go_enter Try.func31, Try.ntmps31
        go_wp2_with fail
        refine (rcrash_c HI.out hwm kv kl ((own_bools H.out.krow).move (Nat.le_refl _) (fun _ _ _ => rfl) (fun k hk => .inr hk.2)) (own_max H.out.krow)).mono ?_
        rintro e w1 ⟨rfl, h, k⟩
        have h' := h
        obtain ⟨dv1, wv1, kv1, left1, kl1, h'⟩ := h'
        have u2 := h'.top.cell 2
        simp [DS.crash] at u2
        have H1 := Lib.hid h
        have K1 := Lib.hid k
        clear h h' k
        go_wp2_with fail
        go_ret
        exact ⟨rfl, H1.out, K1.out⟩
      | succ a =>
        have hop : S.op = (true, { S with ops := S.ops + 1, arm := some (a, kl) }) := by simp [DS.op, hd, ha]
        rw [hop]
        have e4 : (a : Int) + 1 ≤ 9223372036854775807 := by unfold big at e3; omega
        have e5 : ((a : Int) + 1 == 0) = false := beq_eq_false_iff_ne.2 (by omega)
        have e6 : (0 : Int) < (a : Int) + 1 := by omega
        have E3 := Lib.hid e3
        clear hop hd ha e3
        go_enter Try.func31, Try.ntmps31
        go_wp2_with fail
        go_ret
        have k : Keep (· = r) w ((w.setCell ⟨r, 3, none⟩ (.int .i64 (S.ops + 1))).setCell ⟨r, 4, none⟩ (.int .i64 a)) := ((Keep.refl (· = r) w).store (p := ⟨r, 3, none⟩) (fun _ => rfl) _).store (p := ⟨r, 4, none⟩) (fun _ => rfl) _
        refine ⟨rfl, ?_, ?_⟩
        · exact ⟨_, _, _, _, _, H.out.turn { S with ops := S.ops + 1, arm := some (a, kl) } a k (by simpa using (H.out.top.store 3 (.int .i64 (S.ops + 1))).store 4 (.int .i64 a)) rfl rfl ⟨rfl, rfl, by have := E3.out; omega⟩⟩
        · exact H.out.keep k
  · rw [hd] at t2
    have hop : S.op = (false, S) := by simp [DS.op, hd]
    rw [hop]
    clear hop hd harm
    by_cases e : left = 0
    · subst e
      go_enter Try.func31, Try.ntmps31
      go_wp2_with fail
      go_ret
      exact ⟨rfl, HI.out, Keep.refl _ _⟩
    · have e1 : (left == 0) = false := beq_eq_false_iff_ne.2 e
      go_enter Try.func31, Try.ntmps31
      go_wp2_with fail
      go_ret
      exact ⟨rfl, HI.out, Keep.refl _ _⟩
end Go.Proofs.Ytppehlnfoendgaa
