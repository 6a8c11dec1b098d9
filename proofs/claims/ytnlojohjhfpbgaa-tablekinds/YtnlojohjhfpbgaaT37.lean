import Derived.Test.YtnlojohjhfpbgaaT35
import Derived.Test.YtnlojohjhfpbgaaSortE
import Derived.Shelf.SlSortCmp.NoneTotal
/-
  Tables: the sort of a Hash's entries.
-/
namespace Go.Proofs.Ytnlojohjhfpbgaa
open Go.RowKit Go.Deep Go.Shelf Go.Lib Go.Sort
set_option linter.all false

def encH (vl : Nat) (x : List UInt8 × Nat) : List Value := [.string (str x.1), slv vl x.2]
theorem ltH (x y : List UInt8 × Nat) : ltOf (fun x y : List UInt8 × Nat => cmpV x.1 y.1) x y = Op.bytesLess x.1 y.1 := by
  unfold ltOf
  exact cmpV_neg x.1 y.1
theorem swoH : SWO (ltOf fun x y : List UInt8 × Nat => cmpV x.1 y.1) where
  irrefl x := by rw [ltH]; exact bl_irrefl _
  trans x y z h1 h2 := by rw [ltH] at *; exact bl_trans _ _ _ h1 h2
  ntrans x y z h1 h2 := by rw [ltH] at *; exact bl_ntrans _ _ _ h1 h2
theorem cmpLaysH (vl blk off size : Nat) (w : World) : CmpLays Try.prog 114 #[] (encH vl) 2 (fun x y => cmpV x.1 y.1) blk off size w :=
  fun m os dk _ x y => (hall1_c (x.1, lv vl x.2) (y.1, lv vl y.2) _).mono (by
    rintro e w' ⟨rfl, rfl⟩
    exact ⟨rfl, 0, _, by rw [alloc_eq_grow, alloc_eq_grow, grow_grow]; rfl⟩)
theorem flatH_at (vl : Nat) (L : KB) (j : Nat) (hj : j < L.length * 2) : (flatE (kes vl L))[j]? = some (flatK (encH vl) 2 L.toArray)[j]! := by
  rw [get_flatK _ _ _ _ (by simpa using hj)]
  have hd : j / 2 < L.length := by omega
  have hx : (kes vl L)[j / 2]? = some ((L[j / 2]).1, lv vl (L[j / 2]).2) := by simp [kes, mapv, List.getElem?_eq_getElem hd]
  obtain ⟨a, b⟩ := flatE_at _ _ _ hx
  have e1 : L.toArray[j / 2]! = L[j / 2] := by simp [hd]
  rw [e1]
  rcases Nat.mod_two_eq_zero_or_one j with h | h
  · rw [h]
    rw [show (flatE (kes vl L))[j]? = (flatE (kes vl L))[j / 2 * 2]? by congr 1; omega, a]
    simp [encH]
  · rw [h]
    rw [show (flatE (kes vl L))[j]? = (flatE (kes vl L))[j / 2 * 2 + 1]? by congr 1; omega, b]
    simp [encH, slv, lv]
end Go.Proofs.Ytnlojohjhfpbgaa

/-
  Tables: the sort of a Hash's entries, whole.
-/
namespace Go.Proofs.Ytnlojohjhfpbgaa
open Go.RowKit Go.Deep Go.Shelf Go.Lib Go.Sort
set_option linter.all false

set_option maxHeartbeats 1000000 in
theorem sortsE (vl : Nat) : SortsE vl := by
  intro W base v L hl hb ho
  have hlen : (kes vl L).length = L.length := kes_len vl L
  rcases ho.2 with ⟨rfl, h0⟩ | ⟨g, cap, cur, rfl, b0, h1, h2, h3, h4, h5⟩
  · have hL : L = [] := List.eq_nil_of_length_eq_zero (by omega)
    subst hL
    have hcon := AnyF.slices_SortFunc_none sortE_lays none 0 (.func (.func 114) #[] #[]) W
    change Calls Try.prog 113 _ _ _ at hcon
    refine hcon.mono ?_
    rintro e w' ⟨rfl, rfl⟩
    exact ⟨rfl, [], List.Perm.refl _, List.Pairwise.nil, ho, Keep.refl _ _⟩
  · have eg : ∀ args w, (callFunc 114 args).run Try.prog w = .ok (.enter 114 args) w := enters_of Try.func114 (by kernel_rfl) rfl
    have hrow : Row W g 72 cur := h1
    have hH : HoldsK (encH vl) 2 W g 0 L.toArray := fun j hj => by
      rw [size_flatK] at hj
      have hj' : j < L.length * 2 := by simpa using hj
      refine ⟨?_, by rw [Nat.zero_add]; exact hrow.soft j⟩
      rw [Nat.zero_add, hrow.cell j]
      have e := flatH_at vl L j hj'
      rw [← h5, List.getElem?_take, if_pos (by omega)] at e
      simpa using e
    have hcon := AnyQ.slices_SortFunc sortE_lays 2 Try.isAgg72 Try.sizeOf72 (encH vl) (fun _ => rfl) (fun x v hv => by simp [encH] at hv; rcases hv with rfl | rfl <;> rfl) (fun x y => cmpV x.1 y.1) swoH 114 #[] g 0 cap L.toArray W eg (cmpLaysH vl g 0 _ W) hH hrow.lt (by simp; omega)
    change Calls Try.prog 113 _ _ _ at hcon
    have es : L.toArray.size = (kes vl L).length := by simp [hlen]
    rw [es] at hcon
    refine hcon.mono ?_
    rintro e w' ⟨rfl, d', n, os, hp, hs, rfl⟩
    obtain ⟨p1, p2, p3⟩ := hp
    have hd : d'.size = L.length := by rw [p1]; simp
    have hperm : d'.toList.Perm L := by
      have e1 : d'.extract 0 (kes vl L).length = d' := by rw [hlen, ← hd]; simp
      have e2 : L.toArray.extract 0 (kes vl L).length = L.toArray := by rw [hlen]; simp
      rw [e1, e2] at p3
      simpa using p3
    obtain ⟨f, hf⟩ : ∃ f, f = putCells id 0 (flatK (encH vl) 2 d') := ⟨_, rfl⟩
    have hnew : (sortWorldK (encH vl) 2 W g 0 n d' os).heap[g]? = some (.cells (f cur) 72 (0, 0)) := by
      subst hf
      show ((W.heap.modify g _) ++ os)[g]? = _
      rw [Array.getElem?_append_left (by simpa using hrow.lt), Array.getElem?_modify, if_pos rfl, h1]
      rfl
    have hfs : (f cur).size = cur.size := by subst hf; simp [putCells]
    refine ⟨rfl, d'.toList, hperm, ?_, ?_, ?_⟩
    · refine List.pairwise_iff_getElem.2 (fun i j hi hj hij => ?_)
      have hi' : i < d'.size := by simpa [keysL] using hi
      have hj' : j < d'.size := by simpa [keysL] using hj
      have h := hs i j (Nat.zero_le _) hij (by omega)
      rw [ltH] at h
      simpa [keysL, hi', hj'] using h
    · have hl2 : (kes vl d'.toList).length = (kes vl L).length := by rw [kes_len, kes_len]; simp [hd]
      refine ⟨by rw [flatE_len], .inr ⟨g, cap, f cur, by rw [hl2], b0, hnew, by rw [hl2]; exact h2, h3, by rw [hfs]; exact h4, ?_⟩⟩
      apply List.ext_getElem?
      intro j
      rw [List.getElem?_take, hl2]
      by_cases hj : j < (kes vl L).length * 2
      · rw [if_pos hj, flatH_at vl d'.toList j (by simp [hd]; omega)]
        have hjc : j < cur.size := by omega
        subst hf
        simp [putCells, hjc]
        intro hh
        exact absurd hh (by simp [hd]; omega)
      · rw [if_neg hj]
        exact (List.getElem?_eq_none (by rw [flatE_len, hl2]; omega)).symm
    · refine ⟨rfl, rfl, rfl, ?_, fun i hi hn => ?_⟩
      · show W.heap.size ≤ ((W.heap.modify g _) ++ os).size
        simp
      · show ((W.heap.modify g _) ++ os)[i]? = _
        rw [Array.getElem?_append_left (by simpa using hi), Array.getElem?_modify, if_neg (fun e => hn (by subst e; rfl))]
end Go.Proofs.Ytnlojohjhfpbgaa

