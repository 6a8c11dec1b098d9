/-
  DiskKeeps: what is kept, as lists.
-/
import Derived.Test.YtekghiheblkggaaLaw1c
namespace Go.Proofs.Ytekghiheblkggaa
open Go.RowKit
set_option linter.all false

def fulls (es : List (Nat × UInt8)) : List (Nat × List UInt8) := es.map fun e => (e.1, full e.2)
theorem fulls_len (es : List (Nat × UInt8)) : (fulls es).length = es.length := by simp [fulls]
theorem fulls_snoc (es : List (Nat × UInt8)) (x : Nat) (c : UInt8) : fulls (es ++ [(x, c)]) = fulls es ++ [(x, full c)] := by simp [fulls]
theorem putTo_full (kept : Nat → Bool) (cs : List UInt8) (es : List (Nat × UInt8)) (n : Nat) : putTo kept (cs.map full) (fulls es) n = (putTo kept cs es n).map full := by
  induction n with
  | zero => rfl
  | succ n ih =>
    by_cases h : n < es.length
    · rw [putTo_succ _ _ _ _ (es[n].1, full es[n].2) (by simp [fulls, h]), putTo_succ _ _ _ _ _ (List.getElem?_eq_getElem h), ih]
      split
      · rw [List.map_set]
      · rfl
    · have e1 : (fulls es)[n]? = none := List.getElem?_eq_none (by rw [fulls_len]; omega)
      have e2 : es[n]? = none := List.getElem?_eq_none (by omega)
      simpa [putTo, e1, e2] using ih
theorem putTo_congr {α : Type} (k k' : Nat → Bool) (s : List α) (ws : List (Nat × α)) (n : Nat) (h : ∀ i, i < n → k i = k' i) : putTo k s ws n = putTo k' s ws n := by
  induction n with
  | zero => rfl
  | succ n ih =>
    simp only [putTo]
    rw [ih (fun i hi => h i (by omega)), h n (by omega)]
theorem putTo_none {α : Type} (s : List α) (ws : List (Nat × α)) (n : Nat) : putTo (fun _ => false) s ws n = s := by
  induction n with
  | zero => rfl
  | succ n ih =>
    simp only [putTo]
    split
    · simp [ih]
    · exact ih
theorem putTo_snoc {α : Type} (k : Nat → Bool) (s : List α) (ws : List (Nat × α)) (y : Nat × α) (n : Nat) (h : n ≤ ws.length) : putTo k s (ws ++ [y]) n = putTo k s ws n := by
  induction n with
  | zero => rfl
  | succ n ih =>
    have hl : n < ws.length := by omega
    rw [putTo_succ _ _ _ _ _ (show (ws ++ [y])[n]? = some ws[n] by rw [List.getElem?_append_left hl, List.getElem?_eq_getElem hl]), putTo_succ _ _ _ _ _ (List.getElem?_eq_getElem hl), ih (by omega)]
theorem putTo_last {α : Type} (s : List α) (ws : List (Nat × α)) (y : Nat × α) : putTo (fun _ => true) s (ws ++ [y]) (ws.length + 1) = (putTo (fun _ => true) s ws ws.length).set y.1 y.2 := by
  rw [putTo_succ _ _ _ _ y (by simp), putTo_snoc _ _ _ _ _ (Nat.le_refl _)]
  rfl
/-- What place i may hold: what it held, or one of the later bytes. -/
def mayOf (cs : List UInt8) (es : List (Nat × UInt8)) (i : Nat) : List UInt8 := cs.getD i 0 :: (es.filter (fun e => e.1 == i)).map (·.2)
theorem mayOf_snoc (cs : List UInt8) (es : List (Nat × UInt8)) (x : Nat) (c : UInt8) (i : Nat) : mayOf cs (es ++ [(x, c)]) i = if x = i then mayOf cs es i ++ [c] else mayOf cs es i := by
  simp only [mayOf, List.filter_append, List.map_append]
  by_cases h : x = i
  · simp [h]
  · simp [h, List.filter_cons]
theorem mayOf_len (cs : List UInt8) (es : List (Nat × UInt8)) (i : Nat) : 1 ≤ (mayOf cs es i).length ∧ (mayOf cs es i).length ≤ es.length + 1 := by
  have := List.length_filter_le (fun e : Nat × UInt8 => e.1 == i) es
  simp [mayOf]
  omega
theorem put_mem (kept : Nat → Bool) (cs : List UInt8) (es : List (Nat × UInt8)) (n i : Nat) (hi : i < cs.length) : (putTo kept cs es n).getD i 0 ∈ mayOf cs es i := by
  induction n with
  | zero => simp [putTo, mayOf]
  | succ n ih =>
    by_cases h : n < es.length
    · rw [putTo_succ _ _ _ _ _ (List.getElem?_eq_getElem h)]
      have hl := putTo_len kept cs es n
      split
      · by_cases e : es[n].1 = i
        · have : ((putTo kept cs es n).set es[n].1 es[n].2).getD i 0 = es[n].2 := by simp [List.getD, List.getElem?_set, e, hl, hi]
          rw [this]
          simp only [mayOf, List.mem_cons, List.mem_map, List.mem_filter]
          exact .inr ⟨es[n], ⟨List.getElem_mem h, by simp [e]⟩, rfl⟩
        · have : ((putTo kept cs es n).set es[n].1 es[n].2).getD i 0 = (putTo kept cs es n).getD i 0 := by simp [List.getD, List.getElem?_set, e]
          rw [this]
          exact ih
      · exact ih
    · have e2 : es[n]? = none := List.getElem?_eq_none (by omega)
      simpa [putTo, e2] using ih
end Go.Proofs.Ytekghiheblkggaa
