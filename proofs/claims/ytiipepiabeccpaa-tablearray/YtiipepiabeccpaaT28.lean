/-
  Tables: boxes of the caller's that turn behind a table.
-/
import Derived.Test.YtiipepiabeccpaaT27
namespace Go.Proofs.Ytiipepiabeccpaa
open Go.RowKit Go.Deep
set_option linter.all false

theorem calm_both {w w' : World} (h : Calm w w') (p : Addr) (u : Value) (hp : p.block < w.heap.size) : Calm (w.setCell p u) (w'.setCell p u) := by
  refine ⟨h.os, h.tape, h.output, by simpa [World.setCell] using h.size, fun i hi hn => ?_⟩
  have hi' : i < w.heap.size := by simpa [World.setCell] using hi
  have e := h.block i hi' hn
  simp only [World.setCell, Array.getElem?_modify, e]
theorem tab_box {w0 w : World} {S : Nat → Prop} {tb : Nat} {q : MN} {E : List Ent} (h : Tab w0 w S tb q E) (p : Addr) (u : Value) (hp : p.block < w0.heap.size) : Tab (w0.setCell p u) (w.setCell p u) S tb q E := by
  obtain ⟨R, h1, h2, h3, h4⟩ := h
  have k : Keep (fun i => i = p.block) w (w.setCell p u) := (Keep.refl (fun i => i = p.block) w).store (p := p) (fun _ => rfl) u
  have hs : (w0.setCell p u).heap.size = w0.heap.size := by simp [World.setCell]
  have hs2 : (w.setCell p u).heap.size = w.heap.size := by simp [World.setCell]
  refine ⟨R, h1.keep k (fun i hi e => ?_) (fun x hx e => ?_), fun i hi => by rw [hs]; exact h2 i hi, fun i hi => by rw [hs2]; exact h3 i hi, calm_both h4 p u hp⟩
  · have e : i = p.block := e
    have := (h2 i (.inl hi)).1
    omega
  · have e : x.2.1 = p.block := e
    have := (h2 x.2.1 (.inr (List.mem_map.2 ⟨x, hx, rfl⟩))).1
    omega
theorem held_box (S : Nat → Prop) (w : World) (p : Addr) (u : Value) (h : ¬ S p.block) : Held S w (w.setCell p u) := fun i hi => Below.heap_setCell _ _ _ _ (fun e => h (by rw [← e]; exact hi))
/-- The law's own variables: n, v, the answer, the map. -/
structure Bx (W : World) (b mb : Nat) (nv vv : Value) (cs : Array Value) : Prop where
  n : Row W b 3 #[nv]
  v : Row W (b + 1) 9 #[vv]
  r : Row W (b + 1 + 1) 4 #[.bool false]
  m : Row W mb 58 cs
  apart : b + 3 ≤ mb
section
variable {W W' : World} {b mb : Nat} {nv vv u : Value} {cs : Array Value}
theorem Bx.calm (h : Bx W b mb nv vv cs) (k : Calm W W') : Bx W' b mb nv vv cs := ⟨h.n.keep k (fun e => e), h.v.keep k (fun e => e), h.r.keep k (fun e => e), h.m.keep k (fun e => e), h.apart⟩
theorem Bx.setN (h : Bx W b mb nv vv cs) (u : Value) : Bx (W.setCell ⟨b, 0, none⟩ u) b mb u vv cs := by
  have k : Keep (fun i => i = b) W (W.setCell ⟨b, 0, none⟩ u) := (Keep.refl (fun i => i = b) W).store (p := ⟨b, 0, none⟩) (fun _ => rfl) u
  have ha := h.apart
  exact ⟨by simpa using h.n.store 0 u, h.v.keep k (fun e => by omega), h.r.keep k (fun e => by omega), h.m.keep k (fun e => by omega), ha⟩
theorem Bx.setV (h : Bx W b mb nv vv cs) (u : Value) : Bx (W.setCell ⟨b + 1, 0, none⟩ u) b mb nv u cs := by
  have k : Keep (fun i => i = b + 1) W (W.setCell ⟨b + 1, 0, none⟩ u) := (Keep.refl (fun i => i = b + 1) W).store (p := ⟨b + 1, 0, none⟩) (fun _ => rfl) u
  have ha := h.apart
  exact ⟨h.n.keep k (fun e => by omega), by simpa using h.v.store 0 u, h.r.keep k (fun e => by omega), h.m.keep k (fun e => by omega), ha⟩
theorem Bx.cn (h : Bx W b mb nv vv cs) : W.cell? ⟨b, 0, none⟩ = some nv := (h.n.cell 0).trans rfl
theorem Bx.cv (h : Bx W b mb nv vv cs) : W.cell? ⟨b + 1, 0, none⟩ = some vv := (h.v.cell 0).trans rfl
theorem Bx.cr (h : Bx W b mb nv vv cs) : W.cell? ⟨b + 1 + 1, 0, none⟩ = some (.bool false) := (h.r.cell 0).trans rfl
end
end Go.Proofs.Ytiipepiabeccpaa
