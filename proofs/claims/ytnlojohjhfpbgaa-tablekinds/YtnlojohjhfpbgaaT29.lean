/-
  Tables: what holds between two rounds over an Array.
-/
import Derived.Test.YtnlojohjhfpbgaaT26
import Derived.Test.YtnlojohjhfpbgaaT28
import Derived.RangeFuncOwn
import Derived.RangeFuncWrites
namespace Go.Proofs.Ytnlojohjhfpbgaa
open Go.RowKit Go.Deep
set_option linter.all false

theorem calm_ownT {w W W' : World} {row : Option Nat} {B : Nat} (h : Calm w W) (hB : w.heap.size ≤ B) (hg : W.grownBy W' row) (hr : ∀ r, row = some r → B ≤ r) : Calm w W' :=
  h.grown hg (fun k hk hlt => by have := hr k hk; omega)
theorem calm_putT {w W : World} {D : Nat} (h : Calm w W) (hD : w.heap.size ≤ D) (o : Obj) : Calm w (W.putObj D o) := calm_ownT h hD (grownBy_putObj' W D o) (fun r e => by cases e; exact Nat.le_refl _)
/-- Between two rounds. -/
def AJ (w6 W5 : World) (T0 : Nat) (es : List KE) (pre : List {x // x ∈ es}) (W : World) : Prop :=
  pre = es.attach.take pre.length ∧ Calm w6 W ∧ W5.heap.size ≤ W.heap.size ∧ W.cell? ⟨T0, 0, none⟩ = some (.int .i64 (pre.length : Int)) ∧ W.frozen? ⟨T0, 0, none⟩ = false
theorem AJ.own {w6 W5 : World} {T0 : Nat} {es : List KE} (hz : w6.heap.size ≤ W5.heap.size) : OwnFrom W5.heap.size (AJ w6 W5 T0 es) := by
  rintro s A B row ⟨h1, h2, h3, h7, h8⟩ hg hr
  have hr' : ∀ r, row = some r → ∃ o : Obj, A.heap[r]? = some o ∧ o.isCells = false := fun r e => (hr r e).2
  exact ⟨h1, calm_ownT h2 hz hg (fun r e => (hr r e).1), Nat.le_trans h3 hg.size, cell_kept h7 hg hr', (frozen_kept h7 hg hr').trans h8⟩
/-- Behind a stop: it cannot be. -/
def AX (es : List KE) (c : Code) (pre : List {x // x ∈ es}) (W : World) : Prop := ¬ ∃ k, k ≤ es.length ∧ pre = es.attach.take k
theorem AX.own {es : List KE} {B : Nat} (c : Code) : OwnFrom B (AX es c) := fun _ _ _ _ h _ _ => h
theorem from_calm {B : Nat} {W W' : World} (k : Calm W W') : KeepsFrom B W W' := ⟨k.size, fun i o _ h _ => (k.block i (Array.getElem?_eq_some_iff.1 h).1 (fun e => e)).trans h⟩
theorem tkp_calm {n0 : Nat} {W W' : World} (k : Calm W W') : TKp n0 W W' := fun g cs _ hr => hr.keep k (fun e => e)
theorem tkp_int {n0 : Nat} {W : World} {p : Addr} {cs : Array Value} (h : Row W p.block 3 cs) (u : Value) : TKp n0 W (W.setCell p u) := fun g cs' _ hr => by
  have e : g ≠ p.block := fun e => by
    subst e
    have h1 : W.heap[p.block]? = some (.cells cs 3 (0, 0)) := h
    have h2 : W.heap[p.block]? = some (.cells cs' 72 (0, 0)) := hr
    rw [h1] at h2
    injection h2 with h2
    injection h2 with _ h2
    cases h2
  exact (Below.heap_setCell W p u g e).trans hr
theorem aj_next {w6 W5 W W7 : World} {T0 n0 i : Nat} {es : List KE} {pre : List {x // x ∈ es}} {x : {x // x ∈ es}} (hp : pre ++ [x] = es.attach.take (i + 1)) (hlp : (pre ++ [x]).length = i + 1) (k : Calm W W7) (p2 : Calm w6 W) (p3 : W5.heap.size ≤ W.heap.size)
    (c : W7.cell? ⟨T0, 0, none⟩ = some (.int .i64 (i : Int))) (f : W7.frozen? ⟨T0, 0, none⟩ = false) (h6 : w6.heap.size ≤ T0) (h0 : T0 < n0) :
    KeepsFrom n0 W (W7.setCell ⟨T0, 0, none⟩ (.int .i64 ((i : Int) + 1))) ∧ TKp n0 W (W7.setCell ⟨T0, 0, none⟩ (.int .i64 ((i : Int) + 1))) ∧ AJ w6 W5 T0 es (pre ++ [x]) (W7.setCell ⟨T0, 0, none⟩ (.int .i64 ((i : Int) + 1))) := by
  refine ⟨(from_calm k).trans ((KeepsOthers.setCell W7 _ _).from _), fun g cs hg hr => ?_, ?_⟩
  · exact (Below.heap_setCell W7 ⟨T0, 0, none⟩ _ g (by show g ≠ T0; omega)).trans (hr.keep k (fun e => e))
  · refine ⟨by rw [hlp]; exact hp, (p2.trans k).store (p := ⟨T0, 0, none⟩) (fun h => by have h' : T0 < w6.heap.size := h; omega) _, by have := k.size; simp [World.setCell]; omega, ?_, (World.frozen?_setCell _ _ _ _).trans f⟩
    rw [hlp]
    exact World.cell?_setCell_same' _ _ _ (by rw [c]; rfl)
/-- The entry that a key names. -/
theorem rows_key {vl : Nat} {E : List Ent} (hn : (keysL E).Nodup) {x y : KE} (hx : x ∈ rows vl E) (hy : y ∈ rows vl E) (e : x.1 = y.1) : x = y := by
  unfold rows kes kbs mapv at hx hy
  rw [List.map_map] at hx hy
  obtain ⟨a, ha, rfl⟩ := List.mem_map.1 hx
  obtain ⟨b, hb, rfl⟩ := List.mem_map.1 hy
  have := uniq_key hn ha hb e
  rw [this]
end Go.Proofs.Ytnlojohjhfpbgaa
