/-
  Tables: a range over an Array.
-/
import Derived.Test.YtiipepiabeccpaaT25
namespace Go.Proofs.Ytiipepiabeccpaa
open Go.RowKit Go.Deep Go.Shelf
set_option linter.all false

theorem calm_grown {w w' : World} (k : Calm w w') : w.grownBy w' none := ⟨k.os, k.tape, k.output, k.size, fun i hi _ => k.block i hi (fun e => e)⟩
theorem below_calm {w w' : World} (k : Below w.heap.size w w') : Calm w w' := ⟨k.os, k.tape, k.output, k.size, fun i hi _ => k.block i hi⟩
/-- The entries of a table, as its all() has them. -/
def rows (vl : Nat) (E : List Ent) : List KE := kes vl (kbs E)
theorem rows_len (vl : Nat) (E : List Ent) : (rows vl E).length = E.length := by simp [rows, kes_len, kbs, mapv]
theorem rows_at (vl : Nat) (E : List Ent) (i : Nat) : (rows vl E)[i]? = (E[i]?).map (fun x => (x.1, lv vl x.2.1)) := by
  simp [rows, kes, kbs, mapv, Function.comp_def]
theorem tab_allnow {w0 w : World} {S : Nat → Prop} {tb : Nat} {q : MN} {E : List Ent} (h : Tab w0 w S tb q E) (hk : q.kind = 1) : ∃ ev, w.cell? ⟨tb, 5, none⟩ = some ev ∧ tb < w.heap.size ∧ ∀ W, Below w.heap.size w W → AllNow ev (rows q.val E) W := by
  obtain ⟨R, h1, _, _, _⟩ := h
  obtain ⟨ev, hr, hK⟩ := h1.top
  refine ⟨ev, (hr.cell 5).trans rfl, hr.lt, fun W hW => ?_⟩
  cases hK with
  | arr A hkd hR hrow hkeys =>
    refine ⟨_, _, _, rfl, m_ak_all _, cf_ak_all, (all_arr h1.ok.max.2 (hrow.keep (below_calm hW) (fun e => e)) hkeys).mono ?_⟩
    rintro e w' ⟨v, rfl, ho, hc⟩
    exact ⟨v, rfl, ho, calm_grown hc⟩
  | hash b D hkd => omega
  | lru b tb' R0 hkd => omega
theorem tall_stops (n : Nat) (hn : 2 ≤ n) (B tb : Nat) {w : World} {es : List KE} (hes : es.length ≤ 1100) {ev : Value} (hBl : B < w.heap.size) (hB : w.cell? ⟨B, 0, none⟩ = some (.pointer (some ⟨tb, 0, none⟩)))
    (hE : w.cell? ⟨tb, 5, none⟩ = some ev) (htl : tb < w.heap.size) (hA : ∀ W, Below w.heap.size w W → AllNow ev es W) :
    SeqStopsK Fence.wide n Try.prog 72 #[.pointer (some ⟨B, 0, none⟩)] (encE es) (TKp w.heap.size) (fun ys => ys = es.attach) (fun pre => ∃ k, k ≤ es.length ∧ pre = es.attach.take k) es.length w := fun l J Jx W hW hJ _ hY h0 =>
  tall1_in n hn l w.heap.size B tb ev hes J Jx hY (fun pre X X' hX hg => hJ pre X X' none hX hg (fun r e => by cases e)) W hW.size ((hW.cell (p := ⟨B, 0, none⟩) hBl).trans hB) ((hW.cell (p := ⟨tb, 5, none⟩) htl).trans hE) (hA W hW) h0
theorem tkp_t {n0 : Nat} {A B C : World} (h : TKp n0 A B) (k : TKp n0 B C) : TKp n0 A C := fun g cs h0 hr => k g cs h0 (h g cs h0 hr)
theorem tkp_b {n0 : Nat} (W : World) (l : Nat) (o o' : Obj) (h : W.heap[l]? = some o) (hc : o.isCells = false) : TKp n0 W (W.putObj l o') := fun g cs _ hr => by
  have e : g ≠ l := fun e => by
    subst e
    have h' : W.heap[g]? = some (.cells cs 78 (0, 0)) := hr
    rw [h'] at h
    injection h with h
    subst h
    cases hc
  exact (World.putObj_heap_other e).trans hr
end Go.Proofs.Ytiipepiabeccpaa
