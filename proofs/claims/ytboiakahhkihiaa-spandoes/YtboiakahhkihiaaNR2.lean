/-
  The reference of layer 8: what do has made.
-/
import Derived.Test.YtboiakahhkihiaaNR1
namespace Go.Proofs.Ytboiakahhkihiaa
open Go.RowKit
set_option linter.all false

/-- A call's first three blocks: two spans that it was given, and one that it gives back. -/
structure Fr (w w' : World) (g0 g1 g2 : Nat) (s t : Sp) : Prop where
  cal : Calm w w'
  s : Row w' g0 30 #[.int .u64 (s.lo : Int), .int .u64 (s.hi : Int)]
  t : Row w' g1 30 #[.int .u64 (t.lo : Int), .int .u64 (t.hi : Int)]
  o : ∃ x y, Row w' g2 30 #[x, y]
  n : w.heap.size ≤ g0
  n1 : g0 < g1
  n2 : g1 < g2
theorem Row.bothr {w : World} {g : Nat} {a b x y : Value} (h : Row w g 30 #[a, b]) : Row ((w.setCell ⟨g, 0, none⟩ x).setCell ⟨g, 1, none⟩ y) g 30 #[x, y] := (h.store 0 x).store 1 y
section
variable {w w' w'' : World} {g0 g1 g2 : Nat} {s t : Sp}
theorem Fr.drew (h : Fr w w' g0 g1 g2 s t) : Fr w w'.drew g0 g1 g2 s t := ⟨h.cal.drew, h.s, h.t, h.o, h.n, h.n1, h.n2⟩
theorem Fr.calm (h : Fr w w' g0 g1 g2 s t) (hc : Calm w' w'') : Fr w w'' g0 g1 g2 s t := by
  obtain ⟨x, y, ho⟩ := h.o
  exact ⟨h.cal.trans hc, h.s.keep hc (fun e => e), h.t.keep hc (fun e => e), ⟨x, y, ho.keep hc (fun e => e)⟩, h.n, h.n1, h.n2⟩
theorem Fr.made (w : World) (s t : Sp) (x y : Value) : Fr w (((w.alloc (.cells #[.int .u64 (s.lo : Int), .int .u64 (s.hi : Int)] 30)).alloc (.cells #[.int .u64 (t.lo : Int), .int .u64 (t.hi : Int)] 30)).alloc (.cells #[x, y] 30)) w.heap.size (w.heap.size + 1) (w.heap.size + 1 + 1) s t := by
  obtain ⟨a, b, c⟩ := frame3 (Keep.refl (fun _ => False) (((w.alloc (.cells #[.int .u64 (s.lo : Int), .int .u64 (s.hi : Int)] 30)).alloc (.cells #[.int .u64 (t.lo : Int), .int .u64 (t.hi : Int)] 30)).alloc (.cells #[x, y] 30)))
  exact ⟨(((Keep.refl _ w).alloc _).alloc _).alloc _, a, b, ⟨x, y, c⟩, Nat.le_refl _, Nat.lt_succ_self _, Nat.lt_succ_self _⟩
/-- What it gives back is laid. -/
theorem Fr.put (h : Fr w w' g0 g1 g2 s t) (x y : Value) : Fr w ((w'.setCell ⟨g2, 0, none⟩ x).setCell ⟨g2, 1, none⟩ y) g0 g1 g2 s t := by
  obtain ⟨u, v, ho⟩ := h.o
  have := h.n1
  have := h.n2
  have := h.n
  exact ⟨h.cal.both (by omega) x y, h.s.aside (by omega) x y, h.t.aside (by omega) x y, ⟨x, y, ho.bothr⟩, h.n, h.n1, h.n2⟩
/-- A span that it was given is written over. -/
theorem Fr.set0 (h : Fr w w' g0 g1 g2 s t) (s' : Sp) : Fr w ((w'.setCell ⟨g0, 0, none⟩ (.int .u64 (s'.lo : Int))).setCell ⟨g0, 1, none⟩ (.int .u64 (s'.hi : Int))) g0 g1 g2 s' t := by
  obtain ⟨u, v, ho⟩ := h.o
  have := h.n1
  have := h.n2
  have := h.n
  exact ⟨h.cal.both h.n _ _, h.s.bothr, h.t.aside (by omega) _ _, ⟨u, v, ho.aside (by omega) _ _⟩, h.n, h.n1, h.n2⟩
theorem Fr.set1 (h : Fr w w' g0 g1 g2 s t) (t' : Sp) : Fr w ((w'.setCell ⟨g1, 0, none⟩ (.int .u64 (t'.lo : Int))).setCell ⟨g1, 1, none⟩ (.int .u64 (t'.hi : Int))) g0 g1 g2 s t' := by
  obtain ⟨u, v, ho⟩ := h.o
  have := h.n1
  have := h.n2
  have := h.n
  exact ⟨h.cal.both (by omega) _ _, h.s.aside (by omega) _ _, h.t.bothr, ⟨u, v, ho.aside (by omega) _ _⟩, h.n, h.n1, h.n2⟩
end

theorem Row.twor {w : World} {g : Nat} {a b : Value} (h : Row w g 30 #[a, b]) : w.cell? ⟨g, 0, none⟩ = some a ∧ w.cell? ⟨g, 1, none⟩ = some b ∧ w.frozen? ⟨g, 0, none⟩ = false ∧ w.frozen? ⟨g, 1, none⟩ = false := Row.two h

end Go.Proofs.Ytboiakahhkihiaa
