/-
  The document's answer for disk: what it is in memory, its readers.
-/
import Derived.Test.YtppehlnfoendgaaLaw1c
namespace Go.Proofs.Ytppehlnfoendgaa
open Go.RowKit
set_option linter.all false

def sv (b : List UInt8) : Value := .string (str b)
def wsv (ws : List (Nat × List UInt8)) : List (Nat × Value) := ws.map fun x => (x.1, sv x.2)
/-- What is armed, as the document's answer has it. -/
def LeftIs (left : Int) (kl : List Bool) : Option (Nat × List Bool) → Prop
  | none => left = -1
  | some (a, ks) => left = a ∧ kl = ks ∧ a ≤ big
/-- The document's answer in memory. -/
structure RLay (w : World) (R : Nat → Prop) (r : Nat) (S : DS) (dv wv kv : Value) (left : Int) (kl : List Bool) : Prop where
  top : Row w r 38 #[dv, wv, .bool S.down, .int .i64 S.ops, .int .i64 left, kv]
  done : w.ownsRow 0 9 1 dv S.secs.length (S.secs.map sv)
  wrow : w.ownsRow 0 66 2 wv S.wait.length (flat (wsv S.wait))
  krow : w.ownsRow 0 4 1 kv kl.length (kl.map Value.bool)
  arm : LeftIs left kl S.arm
  rd : R r
  rD : ∀ g, dv.ownBlock = some g → R g
  rW : ∀ g, wv.ownBlock = some g → R g
  rK : ∀ g, kv.ownBlock = some g → R g
  few : S.secs.length ≤ 4096
  some_ : 0 < S.secs.length
  at_ : ∀ x ∈ S.wait, x.1 < S.secs.length
def IsRef (w : World) (R : Nat → Prop) (r : Nat) (S : DS) : Prop := ∃ dv wv kv left kl, RLay w R r S dv wv kv left kl
theorem IsRef.move {w w' : World} {R R' : Nat → Prop} {r : Nat} {S : DS} (h : IsRef w R r S) (hk : ∀ k, R k → k < w.heap.size → w'.heap[k]? = w.heap[k]?) (hr : ∀ k, R k → R' k) : IsRef w' R' r S := by
  obtain ⟨dv, wv, kv, left, kl, h⟩ := h
  have hm : ∀ {g t cur}, R g → Row w g t cur → Row w' g t cur := fun hg hrow => (hk _ hg hrow.lt).trans hrow
  exact ⟨dv, wv, kv, left, kl, hm h.rd h.top, own_move h.done (fun g cur hg hrow => hm (h.rD g hg) hrow), own_move h.wrow (fun g cur hg hrow => hm (h.rW g hg) hrow), own_move h.krow (fun g cur hg hrow => hm (h.rK g hg) hrow), h.arm,
    hr _ h.rd, fun g e => hr _ (h.rD g e), fun g e => hr _ (h.rW g e), fun g e => hr _ (h.rK g e), h.few, h.some_, h.at_⟩

/-- The cells of what waits. -/
theorem own_waits {w : World} {v : Value} {ws : List (Nat × List UInt8)} (h : w.ownsRow 0 66 2 v ws.length (flat (wsv ws))) :
    ∃ A wc, v = .slice A ws.length wc ∧ ∀ (j : Nat) x, ws[j]? = some x → ∃ g, A = some ⟨g, 0, none⟩ ∧ v.ownBlock = some g ∧ (∃ cur, Row w g 66 cur) ∧ w.cell? ⟨g, j * 2, none⟩ = some (.int .i64 x.1) ∧ w.cell? ⟨g, j * 2 + 1, none⟩ = some (.string (str x.2)) := by
  rcases h.2 with ⟨h0, h1⟩ | ⟨g, cap, cur, h0, h1, h2, h3, h4, h5, h6⟩
  · exact ⟨none, 0, by rw [h0, h1], fun j x hj => by have := List.eq_nil_of_length_eq_zero h1; subst this; simp at hj⟩
  · refine ⟨_, cap, h0, fun j x hj => ?_⟩
    obtain ⟨f0, f1⟩ := flat_at (wsv ws) j (x.1, sv x.2) (by simp [wsv, hj])
    have e0 : v.ownBlock = some g := by rw [h0]; rfl
    refine ⟨g, rfl, e0, ⟨cur, h2⟩, ?_, ?_⟩
    · have := h.cells (g := g) e0 _ _ f0
      by_cases e : j * 2 = 0 <;> simpa [Addr.add, e] using this
    · have := h.cells (g := g) e0 _ _ f1
      simpa [Addr.add, sv] using this
/-- The cells of what is done. -/
theorem own_done {w : World} {v : Value} {ss : List (List UInt8)} (h : w.ownsRow 0 9 1 v ss.length (ss.map sv)) (h0 : 0 < ss.length) :
    ∃ g cap cur, v = .slice (some ⟨g, 0, none⟩) ss.length cap ∧ v.ownBlock = some g ∧ Row w g 9 cur ∧ ss.length ≤ cap ∧ cap ≤ maxLen ∧ ∀ (j : Nat) x, ss[j]? = some x → w.cell? ⟨g, j, none⟩ = some (.string (str x)) := by
  rcases h.2 with ⟨_, h1⟩ | ⟨g, cap, cur, e0, h1, h2, h3, h4, h5, h6⟩
  · omega
  · have e1 : v.ownBlock = some g := by rw [e0]; rfl
    refine ⟨g, cap, cur, e0, e1, h2, h3, h4, fun j x hj => ?_⟩
    have := h.cells (g := g) e1 j (sv x) (by simp [hj])
    by_cases e : j = 0
    · subst e; simpa [Addr.add, sv] using this
    · simpa [Addr.add, e, sv] using this

set_option maxHeartbeats 400000 in
theorem rstart_up (r : Nat) (w : World) (h : w.cell? ⟨r, 2, none⟩ = some (.bool true)) (hf : w.frozen? ⟨r, 2, none⟩ = false) :
    Calls Try.prog 22 #[.pointer (some ⟨r, 0, none⟩)] w fun e w' => e = .returned (.int .i64 0) ∧ w.setCell ⟨r, 2, none⟩ (.bool false) = w' := by
  go_enter Try.func22, Try.ntmps22
  go_wp2
  go_ret
  exact ⟨rfl, rfl⟩
set_option maxHeartbeats 400000 in
theorem rstart_no (r : Nat) (w : World) (h : w.cell? ⟨r, 2, none⟩ = some (.bool false)) :
    Calls Try.prog 22 #[.pointer (some ⟨r, 0, none⟩)] w fun e w' => e = .returned (.int .i64 10) ∧ w = w' := by
  go_enter Try.func22, Try.ntmps22
  go_wp2
  go_ret
  exact ⟨rfl, rfl⟩

set_option maxHeartbeats 800000 in
theorem rnow_c (r db dn dc x wc : Nat) (A : Option Addr) (ws : List (Nat × List UInt8)) (s0 : List UInt8) (w : World)
    (h0 : w.cell? ⟨r, 0, none⟩ = some (.slice (some ⟨db, 0, none⟩) dn dc)) (h1 : w.cell? ⟨r, 1, none⟩ = some (.slice A ws.length wc)) (hx : x < dn) (hdn : dn ≤ 4096) (hwm : ws.length ≤ 1000000)
    (h2 : w.cell? ⟨db, x, none⟩ = some (.string (str s0)))
    (hw : ∀ (j : Nat) y, ws[j]? = some y → ∃ g, A = some ⟨g, 0, none⟩ ∧ w.cell? ⟨g, j * 2, none⟩ = some (.int .i64 y.1) ∧ w.cell? ⟨g, j * 2 + 1, none⟩ = some (.string (str y.2))) :
    Calls Try.prog 32 #[.pointer (some ⟨r, 0, none⟩), .int .i64 x] w fun e w' => e = .returned (.string (str (nowOf ws x s0))) ∧ w = w' := by
  have Hw := Lib.hid hw
  have x0 : (0 : Int) ≤ (x : Int) := by omega
  have x1 : (x : Int) < (dn : Int) := by omega
  clear hw
  go_enter Try.func32, Try.ntmps32
  go_wp2_with fail
  go_loopw [5, 6] (fun s i wr => ∃ j : Nat, j ≤ ws.length ∧ i = .int .i64 j ∧ s = .string (str (nowOf (ws.take j) x s0)) ∧ w = wr) (fun _ i _ => ws.length - (intOf i).toNat)
  case atStart => exact ⟨0, by omega, rfl, rfl, rfl⟩
  case round =>
    obtain ⟨j, hj, rfl, rfl, rfl⟩ := hrel
    by_cases hlt : j < ws.length
    · obtain ⟨⟨a, b⟩, hy⟩ : ∃ y, ws[j] = y := ⟨_, rfl⟩
      obtain ⟨g, rfl, c0, c1⟩ := Hw.out j (a, b) (by rw [List.getElem?_eq_getElem hlt, hy])
      have hj0 : (0 : Int) ≤ (j : Int) := by omega
      have hj1 : (j : Int) < (ws.length : Int) := by omega
      have Hs : Hid (nowOf (ws.take (j + 1)) x s0 = if a = x then b else nowOf (ws.take j) x s0) := Lib.hid (by rw [List.take_succ_eq_append_getElem hlt, nowOf_append, hy]; rfl)
      clear hy
      by_cases e : a = x
      · have e1 : ((a : Int) == (x : Int)) = true := by simp [e]
        have He := Lib.hid e
        clear e
        go_wp2_with fail
        go_roundw
        case rel => exact ⟨j + 1, by omega, by go_num, by rw [Hs.out, if_pos He.out], trivial⟩
        case measure => simp [intOf]; omega
      · have e1 : ((a : Int) == (x : Int)) = false := beq_eq_false_iff_ne.2 (by omega)
        have He := Lib.hid e
        clear e
        go_wp2_with fail
        go_roundw
        case rel => exact ⟨j + 1, by omega, by go_num, by rw [Hs.out, if_neg He.out], trivial⟩
        case measure => simp [intOf]; omega
    · obtain rfl : j = ws.length := by omega
      have Ht : Hid (ws.take ws.length = ws) := Lib.hid (List.take_of_length_le (Nat.le_refl _))
      go_wp2_with fail
      go_ret
      simp [Ht.out]
end Go.Proofs.Ytppehlnfoendgaa
