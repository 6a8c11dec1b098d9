/-
  The disk's calls, of one that is up; marks, made rows.
-/
import Derived.Test.YtfigiofiakkbdaaDoorJC2
import Derived.Test.YtfigiofiakkbdaaDoorLConv
import Derived.Test.YtfigiofiakkbdaaDoorMasks
namespace Go.Proofs.YtfigiofiakkbdaaDoor
open Go.RowKit
set_option linter.all false

theorem DS.Shows.congr {S : DS} {n : Nat} {c c' : Nat → List UInt8} (h : S.Shows n c) (e : ∀ i, i < n → c i = c' i) : S.Shows n c' := ⟨h.1, fun i hi => (h.2 i hi).trans (e i hi)⟩
section
variable {w0 w : World} {R : Nat → Prop} {d : Nat} {S : DS} {n : Nat} {c : Nat → List UInt8}
theorem write_up (h : Sd w0 w R d S) (hu : S.Up) (hs : S.Shows n c) (hf : S.fine 1) (x : Nat) (hx : x < n) (v : Value) (bs : List UInt8) (hb : Bytes w (fun k => ¬ R k) v bs) (hl : bs.length = 512) :
    Calls Tryd.prog 26 #[.pointer (some ⟨d, 0, none⟩), .int .i64 x, v] w fun e w' => ∃ R' S1, e = .returned (.int .i64 0) ∧ Sd w0 w' R' d S1 ∧ S1.Up ∧ S1.Shows n (upd c x bs) ∧ S1.ops = S.ops + 1 ∧ S1.wait.length = S.wait.length + 1 ∧ Ext R R' w ∧ Keep R w w' := by
  refine (sd_write h hf x (by rw [hs.1]; exact hx) v bs hb hl).mono ?_
  rintro e w' ⟨R', S1, ⟨hw, rfl⟩ | ⟨hw, _⟩, h1, h2, h3⟩
  · obtain ⟨a1, a2, a3, a4, a5⟩ := hs.wr hu hw
    exact ⟨R', S1, rfl, h1, a2, a1, a5, by rw [a4]; simp, h2, h3⟩
  · rw [hu.wr] at hw; cases hw
theorem read_up (h : Sd w0 w R d S) (hu : S.Up) (hs : S.Shows n c) (hf : S.fine 1) (x : Nat) (hx : x < n) :
    Calls Tryd.prog 39 #[.pointer (some ⟨d, 0, none⟩), .int .i64 x] w fun e w' => ∃ R' g cap, e = .returned (.tuple #[.slice (some ⟨g, 0, none⟩) 512 cap, .int .i64 0]) ∧ Rd w' (.slice (some ⟨g, 0, none⟩) 512 cap) (c x) ∧ (c x).length = 512 ∧ Sd w0 w' R' d (S.more 1) ∧ (∀ k, R' k → R k) ∧ Keep R w w' := by
  refine (sd_read h hf x (by rw [hs.1]; exact hx)).mono ?_
  rintro e w' ⟨R', S1, ⟨hw, g, cap, rfl, hd⟩ | ⟨hw, _⟩, h1, h2, h3⟩
  · rw [hu.op] at hw
    injection hw with _ hw
    subst hw
    have e : (S.more 1).now x = c x := hs.2 x hx
    rw [e] at hd
    exact ⟨R', g, cap, rfl, hd.own_from.rd ⟨_, _, _, rfl⟩, hd.len, h1, h2, h3⟩
  · rw [hu.op] at hw; cases hw
end
theorem str_beq_no {a b : List UInt8} (h : a ≠ b) : ((str a).toList == (str b).toList) = false := by
  rw [ByteArray.toList_eq, ByteArray.toList_eq, str_list, str_list]; exact beq_eq_false_iff_ne.2 h
theorem str_bne_no {a b : List UInt8} (h : a = b) : ((str a).toList != (str b).toList) = false := by
  subst h; simp
theorem str_bne_yes {a b : List UInt8} (h : a ≠ b) : ((str a).toList != (str b).toList) = true := by
  rw [ByteArray.toList_eq, ByteArray.toList_eq, str_list, str_list]; exact bne_iff_ne.2 h
theorem str_ne {a b : List UInt8} (h : a ≠ b) : str a ≠ str b := fun e => h (str_inj.1 e)
/-- A row that the call made, read. -/
theorem BRow.rd512 {w : World} {g : Nat} {p : List UInt8} (h : BRow w g p) (hl : p.length = 512) : Rd w (.slice (some ⟨g, 0, none⟩) 512 512) p := h.rd hl.symm hl.symm (by omega)
theorem BRow.store {w : World} {g : Nat} {p : List UInt8} (h : BRow w g p) (i : Nat) (x : UInt8) : BRow (w.setCell ⟨g, i, none⟩ (bv x)) g (p.set i x) := by
  have := Row.store h i (bv x)
  unfold BRow
  rw [List.map_set]
  simpa using this
end Go.Proofs.YtfigiofiakkbdaaDoor
