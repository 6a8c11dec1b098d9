/-
  Slices of ints: read, made, appended to, sorted and compacted.
-/
import Derived.Test.YthmiiddojccafaaIA
import Derived.Test.YthmiiddojccafaaSortL
import Derived.Sort.OwnSortedInts
import Derived.Lib.OwnBridge
namespace Go.Proofs.Ythmiiddojccafaa
open Go.RowKit Go.Sort
set_option linter.all false

/-- A slice of ints that reads as a list: nil, or cells in memory. -/
def Num (w : World) (v : Value) (zs : List Int) : Prop :=
  (v = .slice none 0 0 ∧ zs = []) ∨ ∃ (ad : Addr) (cap : Nat), v = .slice (some ad) zs.length cap ∧ zs.length ≤ cap ∧ cap ≤ maxLen ∧ ∀ (k : Nat) z, zs[k]? = some z → w.cell? (ad.add k) = some (.int .i64 z)
theorem Num.calm {w w' : World} {v : Value} {zs : List Int} (h : Num w v zs) (hc : Calm w w') : Num w' v zs := by
  rcases h with h | ⟨ad, cap, h1, h2, h3, h4⟩
  · exact .inl h
  · refine .inr ⟨ad, cap, h1, h2, h3, fun k z hk => ?_⟩
    have h5 := h4 k z hk
    exact (hc.cell (p := ad.add k) (World.block_lt_of_cell? _ _ h5) (fun e => e)).trans h5
theorem Num.form {w : World} {v : Value} {zs : List Int} (h : Num w v zs) : ∃ A cap, v = .slice A zs.length cap ∧ zs.length ≤ cap ∧ cap ≤ maxLen := by
  rcases h with ⟨rfl, rfl⟩ | ⟨ad, cap, rfl, h1, h2, h4⟩
  · exact ⟨none, 0, rfl, Nat.zero_le _, Nat.zero_le _⟩
  · exact ⟨some ad, cap, rfl, h1, h2⟩
theorem Num.at_ {w w' : World} {A : Option Addr} {n cap : Nat} {zs : List Int} (h : Num w (.slice A n cap) zs) (hc : Calm w w') (k : Nat) (hk : k < zs.length) : ∃ ad, A = some ad ∧ w'.cell? (ad.add k) = some (.int .i64 zs[k]) := by
  rcases h.calm hc with ⟨_, rfl⟩ | ⟨ad, cap', e, h1, h2, h4⟩
  · simp at hk
  · injection e with e1
    exact ⟨ad, e1, h4 k zs[k] (List.getElem?_eq_getElem hk)⟩
theorem Num.nil (w : World) : Num w (.slice none 0 0) [] := .inl ⟨rfl, rfl⟩
theorem Num.made1 (w : World) (z : Int) : Num (w.alloc (.cells #[.int .i64 z] 3)) (.slice (some ⟨w.heap.size, 0, none⟩) 1 1) [z] := by
  have h := Row.made w 3 #[.int .i64 z]
  refine .inr ⟨⟨w.heap.size, 0, none⟩, 1, rfl, Nat.le_refl _, by unfold maxLen; decide, fun k i hk => ?_⟩
  match k, hk with
  | 0, hk => cases hk; exact h.cell 0
theorem Num.made2 (w : World) (y z : Int) : Num (w.alloc (.cells #[.int .i64 y, .int .i64 z] 3)) (.slice (some ⟨w.heap.size, 0, none⟩) 2 2) [y, z] := by
  have h := Row.made w 3 #[.int .i64 y, .int .i64 z]
  refine .inr ⟨⟨w.heap.size, 0, none⟩, 2, rfl, Nat.le_refl _, by unfold maxLen; decide, fun k i hk => ?_⟩
  match k, hk with
  | 0, hk => cases hk; exact h.cell 0
  | 1, hk => cases hk; exact h.cell 1

def OwnZ (w : World) (base : Nat) (v : Value) (zs : List Int) : Prop := w.ownsRow base 3 1 v zs.length (zs.map (Value.int .i64))
theorem OwnZ.nil (w : World) (base : Nat) : OwnZ w base (.slice none 0 0) [] := ⟨rfl, .inl ⟨rfl, rfl⟩⟩
theorem OwnZ.moved {w w'' : World} {base : Nat} {v : Value} {zs : List Int} (h : OwnZ w base v zs) (hc : Calm w w'') : OwnZ w'' base v zs := by
  refine ⟨h.1, ?_⟩
  rcases h.2 with h0 | ⟨g, cap, cur, e, b0, h1, h2⟩
  · exact .inl h0
  · exact .inr ⟨g, cap, cur, e, b0, Row.keep (t := 3) (cs := cur) h1 hc (fun e => e), h2⟩
theorem OwnZ.num {w : World} {base : Nat} {v : Value} {zs : List Int} (h : OwnZ w base v zs) : Num w v zs := by
  have h' := h
  rcases h.2 with ⟨e, h0⟩ | ⟨g, cap, cur, rfl, _, h1, h2, h3, h4, h5⟩
  · exact .inl ⟨e, List.eq_nil_of_length_eq_zero h0⟩
  · refine .inr ⟨⟨g, 0, none⟩, cap, rfl, h2, h3, fun k z hk => ?_⟩
    have := World.ownsRow.cells h' (g := g) rfl k (.int .i64 z) (by rw [List.getElem?_map, hk]; rfl)
    exact this
theorem infoInt : (Try.prog.info? 3).map (fun i => (i.zero, i.size, i.bytes)) = some (some (.int .i64 0), 1, 8) := by kernel_rfl
theorem info_partsInt : ∃ i0 : TypeInfo, Try.prog.info? 3 = some i0 ∧ i0.zero = some (.int .i64 0) ∧ i0.size = 1 ∧ i0.bytes = 8 := by
  obtain ⟨i, h1, h2⟩ := Option.map_eq_some_iff.1 infoInt
  simp only [Prod.mk.injEq] at h2
  exact ⟨i, h1, h2.1, h2.2.1, h2.2.2⟩
/-- append(v, z), v a row of the call's own, nil let in. -/
theorem append_int {w : World} {ops : Array Oper} {rest : List Oper} {o : Oper} {a : Act} {Q : Exit → Act → World → Prop} (hgd : o.guard = none) (s x : Operand)
    (ho : o.op = .call { callee := .builtin .append, args := #[s, x], argTypes := #[28, 28] })
    (base : Nat) (v : Value) (zs : List Int) (hs : a.eval s = v) (hown : OwnZ w base v zs)
    (gx : Nat) (z : Int) (hx : a.eval x = .slice (some ⟨gx, 0, none⟩) 1 1) (hz : w.cell? ⟨gx, 0, none⟩ = some (.int .i64 z)) (hlen : zs.length ≤ 1000000) (hbase : base ≤ w.heap.size)
    (h : ∀ g cap w', OwnZ w' base (.slice (some ⟨g, 0, none⟩) (zs ++ [z]).length cap) (zs ++ [z]) → w.grownBy w' v.ownBlock → wpList Try.prog ops Q rest (a.put o.dst (.slice (some ⟨g, 0, none⟩) (zs ++ [z]).length cap)) w') : wpList Try.prog ops Q (o :: rest) a w := by
  obtain ⟨i0, hi0, hz0, hz1, hz2⟩ := info_partsInt
  refine wpList_append_own w hgd s x 28 ho base 3 i0 _ 1 8 Try.underlying28 hi0 hz0 hz1 hz2 rfl (by decide) v zs.length (zs.map (Value.int .i64)) hs hown ⟨gx, 0, none⟩ 1 1 [.int .i64 z] hx rfl (fun j u hj => ?_) (fun u hu => ?_) (by unfold maxLen; omega) (by omega) hbase (fun v' w' a1 a2 a3 => ?_)
  · match j, hj with
    | 0, hj => cases hj; exact hz
  · simp at hu; subst hu; rfl
  · rcases a1.2 with ⟨e, _⟩ | ⟨g, cap', cur, e, b1, b2, b3, b4, b5, b6⟩
    · have := (a3.1 e).2; cases this
    · subst e
      have hl : (zs ++ [z]).length = zs.length + 1 := by simp
      have := h g cap' w' (by unfold OwnZ; rw [hl, List.map_append]; exact a1) a2
      rwa [hl] at this

/-- slices.Sort and slices.Compact, one behind the other, on a row of the call's own. -/
def sortZ (zs : List Int) : List Int := zs.mergeSort fun x y => decide (x ≤ y)
theorem OwnZ.base {w : World} {base : Nat} {v : Value} {zs : List Int} (h : OwnZ w base v zs) : (v = .slice none 0 0 ∧ zs = []) ∨ ∃ g cap cur, v = .slice (some ⟨g, 0, none⟩) zs.length cap ∧ base ≤ g ∧ Row w g 3 cur ∧ zs.length ≤ cap ∧ cap ≤ maxLen ∧ cur.size = cap * 1 ∧ cur.toList.take (zs.length * 1) = zs.map (Value.int .i64) := by
  rcases h.2 with ⟨e, h0⟩ | ⟨g, cap, cur, rfl, b0, h1, h2, h3, h4, h5⟩
  · exact .inl ⟨e, List.eq_nil_of_length_eq_zero h0⟩
  · exact .inr ⟨g, cap, cur, rfl, b0, h1, h2, h3, h4, h5⟩
theorem sort_c {w w0 : World} {v : Value} {zs : List Int} (h : OwnZ w w0.heap.size v zs) (hl : zs.length ≤ 1000000) (hc : Calm w0 w) : Calls Try.prog 37 #[v] w fun e w' => e = .returned (.tuple #[]) ∧ OwnZ w' w0.heap.size v (sortZ zs) ∧ Calm w0 w' := by
  have hl2 : (sortZ zs).length = zs.length := List.length_mergeSort zs
  rcases h.base with ⟨rfl, rfl⟩ | ⟨g, cap, cur, rfl, b0, h1, h2, h3, h4, h5⟩
  · refine (slices_Sort_int_none none 0 w).mono ?_
    rintro e w' ⟨rfl, rfl⟩
    exact ⟨rfl, by rw [show sortZ [] = [] by simp [sortZ]]; exact OwnZ.nil _ _, hc⟩
  · have hH : Holds (Value.int .i64) w g 0 zs.toArray := holds_of_blockI h1 (by simpa using h5)
    refine (slices_Sort_int g 0 cap zs w hH h1.lt (by omega)).mono ?_
    rintro e w' ⟨rfl, nn, os, rfl⟩
    refine ⟨rfl, ?_, hc.grown (grownBy_sortedI _) (fun k hk hlt => by cases hk; omega)⟩
    have := ownsRow_sortedI (n := nn) (os := os) hl2 b0 h1 h2 h3 h4
    unfold OwnZ
    rw [hl2]
    exact this
theorem compact_c {w w0 : World} {v : Value} {zs : List Int} (h : OwnZ w w0.heap.size v zs) (hl : zs.length ≤ 1000000) (hc : Calm w0 w) : Calls Try.prog 38 #[v] w fun e w' => ∃ vv, e = .returned vv ∧ OwnZ w' w0.heap.size vv (Lib.compact zs) ∧ Calm w0 w' := by
  rcases h.base with ⟨rfl, rfl⟩ | ⟨g, cap, cur, rfl, b0, h1, h2, h3, h4, h5⟩
  · refine (slices_Compact_int_empty none 0 w).mono ?_
    rintro e w' ⟨rfl, rfl⟩
    exact ⟨_, rfl, OwnZ.nil _ _, hc⟩
  · have hH : Holds (Value.int .i64) w g 0 zs.toArray := holds_of_blockI h1 (by simpa using h5)
    refine (slices_Compact_int g 0 cap zs w hH (by omega) h2).mono ?_
    rintro e w' ⟨rfl, q, rfl⟩
    have hle := Lib.compact_length_le zs
    refine ⟨_, rfl, ?_, Keep.of_below (Lib.below_putRow hc.to b0) _⟩
    have hp := Lib.ownsRow_putRow (q := q) (k := (Lib.compact zs).length) (ys := Lib.compact zs ++ List.replicate (zs.length - (Lib.compact zs).length) 0) h (by simp; omega) hle
    rw [List.take_left] at hp
    exact hp
end Go.Proofs.Ythmiiddojccafaa
