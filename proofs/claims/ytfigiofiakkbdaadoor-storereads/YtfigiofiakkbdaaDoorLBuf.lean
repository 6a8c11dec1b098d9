import Derived.Test.YtfigiofiakkbdaaDoorLConv
import Derived.Lib.AppendZeros
import Derived.Lib.AppendZerosOnto
import Derived.Laws.IdiomCopy
import Derived.Deep.AppendSrc
/-
  append([]byte(s), make([]byte, n)...): a row of bytes that may be written.
-/
namespace Go.Proofs.YtfigiofiakkbdaaDoor
open Go.RowKit
set_option linter.all false

/-- The first cells of a block are these bytes, and may be written. -/
def Cs (w : World) (g : Nat) (bs : List UInt8) : Prop := ∀ (i : Nat) c, bs[i]? = some c → w.cell? ⟨g, i, none⟩ = some (bv c) ∧ w.frozen? ⟨g, i, none⟩ = false
theorem Cs.keep {w w' : World} {g : Nat} {bs : List UInt8} {Q : Nat → Prop} (h : Cs w g bs) (k : Keep Q w w') (hQ : ¬ Q g) (hg : g < w.heap.size) : Cs w' g bs := fun i c hi => ⟨(k.cell (p := ⟨g, i, none⟩) hg hQ).trans (h i c hi).1, (k.soft (p := ⟨g, i, none⟩) hg hQ).trans (h i c hi).2⟩
theorem Cs.take {w : World} {g : Nat} {bs : List UInt8} (h : Cs w g bs) (n : Nat) : Cs w g (bs.take n) := fun i c hi => by
  rw [List.getElem?_take] at hi
  split at hi
  · exact h i c hi
  · simp at hi
theorem Cs.set {w : World} {g : Nat} {bs : List UInt8} (h : Cs w g bs) (k : Nat) (hk : k < bs.length) (x : UInt8) : Cs (w.setCell ⟨g, k, none⟩ (bv x)) g (bs.set k x) := fun i c hi => by
  rw [List.getElem?_set] at hi
  refine ⟨?_, ?_⟩
  · by_cases e : k = i
    · subst e
      rw [if_pos rfl, if_pos hk] at hi
      injection hi with hi
      subst hi
      exact World.cell?_setCell_same' _ _ _ (by rw [(h k bs[k] (List.getElem?_eq_getElem hk)).1]; rfl)
    · rw [if_neg e] at hi
      exact (World.cell?_setCell_other _ _ _ _ (by simp <;> omega)).trans (h i c hi).1
  · rw [World.frozen?_setCell]
    by_cases e : k = i
    · subst e; exact (h k bs[k] (List.getElem?_eq_getElem hk)).2
    · rw [if_neg e] at hi; exact (h i c hi).2
theorem Cs.rd {w : World} {g : Nat} {bs : List UInt8} (h : Cs w g bs) (o n cap : Nat) (ho : o + n ≤ bs.length) (hc : n ≤ cap) (hm : cap ≤ maxLen) : Rd w (.slice (some ⟨g, o, none⟩) n cap) ((bs.take (o + n)).drop o) := by
  have hl : ((bs.take (o + n)).drop o).length = n := by simp; omega
  refine .inr ⟨_, cap, by rw [hl], by rw [hl]; exact hc, hm, fun i c hi => ?_⟩
  rw [addr_mid]
  rw [List.getElem?_drop, List.getElem?_take] at hi
  split at hi
  · exact (h _ c hi).1
  · simp at hi
theorem setCells_keep (b : Nat) : ∀ (vs : List Value) (o : Nat) (w : World), Keep (· = b) w (w.setCells b o vs)
  | [], _, w => Keep.refl _ w
  | v :: r, o, w => ((Keep.refl (· = b) w).store (p := ⟨b, o, none⟩) (fun _ => rfl) v).trans (setCells_keep b r (o + 1) _)
theorem zeroCells_u8 (n : Nat) : Builtin.zeroCells #[Value.int .u8 0] n = ((List.replicate n (0 : UInt8)).map bv).toArray := by
  apply Array.ext
  · simp [Builtin.zeroCells]
  · intro i h1 h2
    simp [Builtin.zeroCells, bv]
    rw [Nat.mod_one]
    rfl
set_option maxRecDepth 100000 in
theorem run_room_zeros (w : World) (ty : TypeId) (b sLen sCap n : Nat) (h0 : 0 < n) (hn : n ≤ 1000000) (hroom : sLen + n ≤ sCap) (hc : ∀ j, j < n → (w.cell? ⟨b, sLen + j, none⟩).isSome = true) (hf : ∀ j, j < n → w.frozen? ⟨b, sLen + j, none⟩ = false) :
    (Builtin.append_ #[31, 3] ty #[.slice (some ⟨b, 0, none⟩) sLen sCap, .int .i64 (n : Int)]).run Tryd.prog w = .ok (.slice (some ⟨b, 0, none⟩) (sLen + n) sCap) (w.setCells b sLen ((List.replicate n (0 : UInt8)).map bv)) := by
  obtain ⟨i, hi, hz, hs, hb⟩ := info_parts8
  have hst := run_storeCells_cells (P := Tryd.prog) b sLen ((List.replicate n (0 : UInt8)).map bv) 0 w (by simpa using hc) (by simpa using hf) (bv_one _)
  simp only [Nat.add_zero] at hst
  have hw : IntKind.i64.wrap (n : Int) = n := by rw [IntKind.wrap_i64]; omega
  have hneg : ¬ ((n : Int) < 0) := by omega
  have h48 : ¬ (281474976710656 < (n : Int) * (i.bytes : Int)) := by rw [hb]; omega
  have hns : ¬ n = 0 := by omega
  have ha : (⟨b, 0, none⟩ : Addr).add sLen = ⟨b, sLen, none⟩ := by rw [addr_mid, Nat.zero_add]
  have hzc : (Value.int IntKind.u8 0).cells = #[Value.int .u8 0] := rfl
  simp [Builtin.append_, run_underlying Tryd.underlying31, run_underlying Tryd.underlying3, sizeOf, typeInfo, zeroValue, hi, hz, hs, asInt, asIntOf, hw, hneg, h48, hns, hroom, ha, hzc, zeroCells_u8, -List.map_replicate]
  have e := hst
  simp only [List.map_replicate] at e ⊢
  rw [e]
  rfl

theorem append_zeros (w : World) (ty : TypeId) (bs : List UInt8) (n : Nat) (h0 : 0 < n) (hn : n ≤ 1000000) (hb : bs.length ≤ 1000000) :
    ∃ c W g cap W5, Sem.run Tryd.prog (convert 9 31 (.string (str bs))) w = .ok (.slice (some ⟨w.heap.size, 0, none⟩) bs.length c) W ∧
      (Builtin.append_ #[31, 3] ty #[.slice (some ⟨w.heap.size, 0, none⟩) bs.length c, .int .i64 (n : Int)]).run Tryd.prog W = .ok (.slice (some ⟨g, 0, none⟩) (bs.length + n) cap) W5 ∧
      Cs W5 g (bs ++ List.replicate n 0) ∧ Calm w W5 ∧ w.heap.size ≤ g ∧ g < W5.heap.size ∧ bs.length + n ≤ cap ∧ cap ≤ maxLen := by
  have h := Lib.run_convert_string_bytes (P := Tryd.prog) w 9 31 5 (str bs) Tryd.underlying9 Tryd.underlying31 Tryd.underlying5
  rw [str_size] at h
  have hcal := bytesWorld_calm w 5 (str bs)
  have hnew := Lib.bytesWorld_at_new w 5 (str bs)
  have hsz := Lib.bytesWorld_size w 5 (str bs)
  have hge := grownCap_ge w bs.length 0 5
  have hle := grownCap_le_maxLen w bs.length 0 5 (by unfold maxLen; omega)
  have hcs : (Lib.bytesCells w 5 (str bs)).size = grownCap w bs.length 0 5 := by
    simp [Lib.bytesCells, str, ByteArray.size]
    have : grownCap w (str bs).size 0 5 = grownCap w bs.length 0 5 := rfl
    omega
  have hcell : ∀ i c, bs[i]? = some c → (Lib.bytesWorld w 5 (str bs)).cell? ⟨w.heap.size, i, none⟩ = some (bv c) := fun i c hi => by
    have hl : i < bs.length := (List.getElem?_eq_some_iff.1 hi).1
    rw [Lib.bytesWorld_cell _ _ _ i (by rw [str_size]; exact hl), str_list]
    simp [bv, List.getD, hi]
  generalize Lib.bytesWorld w 5 (str bs) = W at *
  generalize Lib.bytesCells w 5 (str bs) = C at *
  generalize grownCap w bs.length 0 5 = c at *
  have hsome : ∀ i, i < c → (W.cell? ⟨w.heap.size, i, none⟩).isSome = true := fun i hi => by
    simp only [World.cell?, hnew]
    simp
    omega
  have hsoft : ∀ i, i < c → W.frozen? ⟨w.heap.size, i, none⟩ = false := fun i hi => by
    simp [World.frozen?, hnew]
    omega
  refine ⟨c, W, ?_⟩
  by_cases hr : bs.length + n ≤ c
  · have hrun := run_room_zeros W ty w.heap.size bs.length c n h0 hn hr (fun j hj => hsome _ (by omega)) (fun j hj => hsoft _ (by omega))
    have kk := setCells_keep w.heap.size ((List.replicate n (0 : UInt8)).map bv) bs.length W
    refine ⟨w.heap.size, c, _, h, hrun, fun i x hi => ⟨?_, ?_⟩, hcal.then_ kk (fun i hi e => by omega), Nat.le_refl _, by have := kk.size; omega, hr, hle⟩
    · rcases Nat.lt_or_ge i bs.length with hl | hl
      · rw [List.getElem?_append_left hl] at hi
        rw [World.cell?_setCells_out _ _ _ _ _ (fun _ _ => .inl hl)]
        exact hcell i x hi
      · rw [List.getElem?_append_right hl] at hi
        obtain ⟨hj, hx⟩ := List.getElem?_eq_some_iff.1 hi
        have hj' : i - bs.length < n := by simpa using hj
        have := World.cell?_setCells_in w.heap.size ((List.replicate n (0 : UInt8)).map bv) bs.length W (fun j hj => hsome _ (by simp at hj; omega)) (i - bs.length) (by simpa using hj')
        rw [show bs.length + (i - bs.length) = i by omega] at this
        rw [this]
        simp only [List.getElem_map]
        rw [hx]
    · have hil : i < bs.length + n := by have := (List.getElem?_eq_some_iff.1 hi).1; simpa using this
      rw [World.frozen?_setCells]
      exact hsoft i (by omega)
  · obtain ⟨i0, hi0, hz0, hs0, hb0⟩ := info_parts8
    have hold : (Builtin.firstCells i0.size bs.length (.slice (some ⟨w.heap.size, 0, none⟩) bs.length c)).run Tryd.prog W.drew = .ok (bs.map bv).toArray W.drew := by
      rw [hs0]
      exact run_firstCells_some (P := Tryd.prog) W.drew 1 bs.length ⟨w.heap.size, 0, none⟩ bs.length c (bs.map bv) (by simp) (fun j u hj => by
        rw [List.getElem?_map, Option.map_eq_some_iff] at hj
        obtain ⟨b, hb1, rfl⟩ := hj
        rw [addr_mid, Nat.zero_add]
        exact hcell j b hb1)
    have hrun := Lib.run_append_grow_zeros (P := Tryd.prog) W 31 3 ty 5 i0 _ .i64 .i64 Tryd.underlying31 Tryd.underlying3 hi0 hz0 (some ⟨w.heap.size, 0, none⟩) bs.length c (bs.map bv) hold n h0 (by omega) (by omega) (by omega) (by rw [hb0]; omega) (by rw [hb0]; have := nextslicecap_le (need := bs.length + n) (old := c) (by omega); omega)
    have hge2 := grownCap_ge W (bs.length + n) c 5
    have hle2 := grownCap_le_maxLen W (bs.length + n) c 5 (by unfold maxLen; omega)
    generalize grownCap W (bs.length + n) c 5 = c2 at *
    rw [show (Value.int IntKind.u8 0).cells = #[Value.int .u8 0] from rfl, zeroCells_u8, zeroCells_u8] at hrun
    have hrow := Row.made W.drew 5 ((bs.map bv).toArray ++ ((List.replicate n (0 : UInt8)).map bv).toArray ++ ((List.replicate (c2 - (bs.length + n)) (0 : UInt8)).map bv).toArray)
    refine ⟨W.heap.size, c2, _, h, hrun, fun i x hi => ⟨?_, hrow.soft i⟩, (hcal.drew).alloc _, by omega, by simp, hge2, hle2⟩
    have hil : i < bs.length + n := by have := (List.getElem?_eq_some_iff.1 hi).1; simpa using this
    have e : (bs.map bv).toArray ++ ((List.replicate n (0 : UInt8)).map bv).toArray ++ ((List.replicate (c2 - (bs.length + n)) (0 : UInt8)).map bv).toArray = (((bs ++ List.replicate n 0) ++ List.replicate (c2 - (bs.length + n)) 0).map bv).toArray := by simp
    rw [e] at hrow ⊢
    have := hrow.cell i
    refine Eq.trans this ?_
    rw [List.getElem?_toArray, List.getElem?_map, List.getElem?_append_left (by simpa using hil), hi]
    rfl
end Go.Proofs.YtfigiofiakkbdaaDoor

/-
  Rows of bytes that may be written and appended to, whatever made them.
-/
namespace Go.Proofs.YtfigiofiakkbdaaDoor
open Go.RowKit
set_option linter.all false

structure Buf (w : World) (g : Nat) (bs : List UInt8) (cap : Nat) : Prop where
  cs : Cs w g bs
  room : ∀ i, i < cap → (w.cell? ⟨g, i, none⟩).isSome = true ∧ w.frozen? ⟨g, i, none⟩ = false
  le : bs.length ≤ cap
  mx : cap ≤ maxLen
  lt : g < w.heap.size
theorem Buf.keep {w w' : World} {g cap : Nat} {bs : List UInt8} {Q : Nat → Prop} (h : Buf w g bs cap) (k : Keep Q w w') (hQ : ¬ Q g) : Buf w' g bs cap :=
  ⟨h.cs.keep k hQ h.lt, fun i hi => by
    have := h.room i hi
    rw [k.cell (p := ⟨g, i, none⟩) h.lt hQ, k.soft (p := ⟨g, i, none⟩) h.lt hQ]
    exact this, h.le, h.mx, Nat.lt_of_lt_of_le h.lt k.size⟩
theorem Buf.rd {w : World} {g cap : Nat} {bs : List UInt8} (h : Buf w g bs cap) : Rd w (.slice (some ⟨g, 0, none⟩) bs.length cap) bs := by
  have := h.cs.rd 0 bs.length cap (by omega) h.le h.mx
  rwa [List.drop_zero, Nat.zero_add, List.take_length] at this
theorem buf_conv (w : World) (bs : List UInt8) (hb : bs.length ≤ 1000000) :
    ∃ c W, Sem.run Tryd.prog (convert 9 31 (.string (str bs))) w = .ok (.slice (some ⟨w.heap.size, 0, none⟩) bs.length c) W ∧ Buf W w.heap.size bs c ∧ Calm w W := by
  have h := Lib.run_convert_string_bytes (P := Tryd.prog) w 9 31 5 (str bs) Tryd.underlying9 Tryd.underlying31 Tryd.underlying5
  rw [str_size] at h
  have hcal := bytesWorld_calm w 5 (str bs)
  have hnew := Lib.bytesWorld_at_new w 5 (str bs)
  have hsz := Lib.bytesWorld_size w 5 (str bs)
  have hge := grownCap_ge w bs.length 0 5
  have hle := grownCap_le_maxLen w bs.length 0 5 (by unfold maxLen; omega)
  have hcs : (Lib.bytesCells w 5 (str bs)).size = grownCap w bs.length 0 5 := by
    simp [Lib.bytesCells, str, ByteArray.size]
    have : grownCap w (str bs).size 0 5 = grownCap w bs.length 0 5 := rfl
    omega
  have hcell : ∀ i c, bs[i]? = some c → (Lib.bytesWorld w 5 (str bs)).cell? ⟨w.heap.size, i, none⟩ = some (bv c) := fun i c hi => by
    have hl : i < bs.length := (List.getElem?_eq_some_iff.1 hi).1
    rw [Lib.bytesWorld_cell _ _ _ i (by rw [str_size]; exact hl), str_list]
    simp [bv, List.getD, hi]
  generalize Lib.bytesWorld w 5 (str bs) = W at *
  generalize Lib.bytesCells w 5 (str bs) = C at *
  generalize grownCap w bs.length 0 5 = c at *
  have hroom : ∀ i, i < c → (W.cell? ⟨w.heap.size, i, none⟩).isSome = true ∧ W.frozen? ⟨w.heap.size, i, none⟩ = false := fun i hi => by
    constructor
    · simp only [World.cell?, hnew]
      simp
      omega
    · simp [World.frozen?, hnew]
      omega
  exact ⟨c, W, h, ⟨fun i x hi => ⟨hcell i x hi, (hroom i (by have := (List.getElem?_eq_some_iff.1 hi).1; omega)).2⟩, hroom, hge, hle, by omega⟩, hcal⟩
/-- Behind cells that were laid. -/
theorem buf_laid {w : World} {g cap : Nat} {bs ys : List UInt8} (h : Buf w g bs cap) (hr : bs.length + ys.length ≤ cap) : Buf (w.setCells g bs.length (ys.map bv)) g (bs ++ ys) cap := by
  have kk := setCells_keep g (ys.map bv) bs.length w
  have hsome : ∀ i, i < cap → ((w.setCells g bs.length (ys.map bv)).cell? ⟨g, i, none⟩).isSome = true := fun i hi => by
    rcases Nat.lt_or_ge i bs.length with hl | hl
    · rw [World.cell?_setCells_out _ _ _ _ _ (fun _ _ => .inl hl)]; exact (h.room i hi).1
    · rcases Nat.lt_or_ge i (bs.length + ys.length) with hl2 | hl2
      · have := World.cell?_setCells_in g (ys.map bv) bs.length w (fun j hj => (h.room _ (by simp at hj; omega)).1) (i - bs.length) (by simp; omega)
        rw [show bs.length + (i - bs.length) = i by omega] at this
        rw [this]; rfl
      · rw [World.cell?_setCells_out _ _ _ _ _ (fun _ _ => .inr (by simp; omega))]; exact (h.room i hi).1
  have hsoft : ∀ i, i < cap → (w.setCells g bs.length (ys.map bv)).frozen? ⟨g, i, none⟩ = false := fun i hi => by rw [World.frozen?_setCells]; exact (h.room i hi).2
  refine ⟨fun i x hi => ⟨?_, hsoft i (by have := (List.getElem?_eq_some_iff.1 hi).1; simp at this; omega)⟩, fun i hi => ⟨hsome i hi, hsoft i hi⟩, by simp; omega, h.mx, by have := kk.size; have := h.lt; omega⟩
  rcases Nat.lt_or_ge i bs.length with hl | hl
  · rw [List.getElem?_append_left hl] at hi
    rw [World.cell?_setCells_out _ _ _ _ _ (fun _ _ => .inl hl)]
    exact (h.cs i x hi).1
  · rw [List.getElem?_append_right hl] at hi
    obtain ⟨hj, hx⟩ := List.getElem?_eq_some_iff.1 hi
    have := World.cell?_setCells_in g (ys.map bv) bs.length w (fun j hj => (h.room _ (by simp at hj; omega)).1) (i - bs.length) (by simpa using hj)
    rw [show bs.length + (i - bs.length) = i by omega] at this
    rw [this]
    simp only [List.getElem_map]
    rw [hx]
/-- A new row. -/
theorem buf_new (w : World) (bs : List UInt8) (k : Nat) (hm : bs.length + k ≤ maxLen) : Buf (w.alloc (.cells (((bs ++ List.replicate k 0).map bv).toArray) 5)) w.heap.size bs (bs.length + k) := by
  have hrow := Row.made w 5 (((bs ++ List.replicate k 0).map bv).toArray)
  refine ⟨fun i x hi => ⟨?_, hrow.soft i⟩, fun i hi => ⟨?_, hrow.soft i⟩, by omega, hm, by simp⟩
  · have hl : i < bs.length := (List.getElem?_eq_some_iff.1 hi).1
    rw [hrow.cell, List.getElem?_toArray, List.getElem?_map, List.getElem?_append_left hl, hi]
    rfl
  · rw [hrow.cell, List.getElem?_toArray, List.getElem?_map, List.getElem?_eq_getElem (by simp; omega)]
    rfl
theorem buf_zeros {w : World} {g cap : Nat} {bs : List UInt8} (h : Buf w g bs cap) (ty : TypeId) (n : Nat) (h0 : 0 < n) (hn : n ≤ 1000000) (hb : bs.length ≤ 1000000) :
    ∃ g' cap' w', (Builtin.append_ #[31, 3] ty #[.slice (some ⟨g, 0, none⟩) bs.length cap, .int .i64 (n : Int)]).run Tryd.prog w = .ok (.slice (some ⟨g', 0, none⟩) (bs.length + n) cap') w' ∧
      Buf w' g' (bs ++ List.replicate n 0) cap' ∧ Keep (· = g) w w' ∧ (g' = g ∨ w.heap.size ≤ g') := by
  by_cases hr : bs.length + n ≤ cap
  · have hrun := run_room_zeros w ty g bs.length cap n h0 hn hr (fun j hj => (h.room _ (by omega)).1) (fun j hj => (h.room _ (by omega)).2)
    exact ⟨g, cap, _, hrun, buf_laid h (by simpa using hr), setCells_keep _ _ _ _, .inl rfl⟩
  · obtain ⟨i0, hi0, hz0, hs0, hb0⟩ := info_parts8
    have hold : (Builtin.firstCells i0.size bs.length (.slice (some ⟨g, 0, none⟩) bs.length cap)).run Tryd.prog w.drew = .ok (bs.map bv).toArray w.drew := by
      rw [hs0]
      exact run_firstCells_some (P := Tryd.prog) w.drew 1 bs.length ⟨g, 0, none⟩ bs.length cap (bs.map bv) (by simp) (fun j u hj => by
        rw [List.getElem?_map, Option.map_eq_some_iff] at hj
        obtain ⟨b, hb1, rfl⟩ := hj
        rw [addr_mid, Nat.zero_add]
        exact (h.cs j b hb1).1)
    have hrun := Lib.run_append_grow_zeros (P := Tryd.prog) w 31 3 ty 5 i0 _ .i64 .i64 Tryd.underlying31 Tryd.underlying3 hi0 hz0 (some ⟨g, 0, none⟩) bs.length cap (bs.map bv) hold n h0 (by omega) (by omega) (by omega) (by rw [hb0]; omega) (by rw [hb0]; have := nextslicecap_le (need := bs.length + n) (old := cap) (by omega); omega)
    have hge2 := grownCap_ge w (bs.length + n) cap 5
    have hle2 := grownCap_le_maxLen w (bs.length + n) cap 5 (by unfold maxLen; omega)
    generalize grownCap w (bs.length + n) cap 5 = c2 at *
    rw [show (Value.int IntKind.u8 0).cells = #[Value.int .u8 0] from rfl, zeroCells_u8, zeroCells_u8] at hrun
    have e : (bs.map bv).toArray ++ ((List.replicate n (0 : UInt8)).map bv).toArray ++ ((List.replicate (c2 - (bs.length + n)) (0 : UInt8)).map bv).toArray = (((bs ++ List.replicate n 0) ++ List.replicate (c2 - (bs.length + n)) 0).map bv).toArray := by simp
    rw [e] at hrun
    have hb := buf_new w.drew (bs ++ List.replicate n 0) (c2 - (bs.length + n)) (by simp; omega)
    rw [show (bs ++ List.replicate n (0 : UInt8)).length + (c2 - (bs.length + n)) = c2 by simp; omega] at hb
    exact ⟨w.heap.size, c2, _, hrun, hb, ((Keep.refl _ w).drew).alloc _, .inr (Nat.le_refl _)⟩
theorem buf_append {w : World} {g cap : Nat} {bs ys : List UInt8} (h : Buf w g bs cap) (ty : TypeId) (yg yc : Nat) (hy : Cs w yg ys) (hn : ys.length ≤ 1000000) (hb : bs.length ≤ 1000000) :
    ∃ g' cap' w', (Builtin.append_ #[31, 31] ty #[.slice (some ⟨g, 0, none⟩) bs.length cap, .slice (some ⟨yg, 0, none⟩) ys.length yc]).run Tryd.prog w = .ok (.slice (some ⟨g', 0, none⟩) (bs.length + ys.length) cap') w' ∧
      Buf w' g' (bs ++ ys) cap' ∧ Keep (· = g) w w' ∧ (g' = g ∨ w.heap.size ≤ g') := by
  obtain ⟨i0, hi0, hz0, hs0, hb0⟩ := info_parts8
  have hsrc : Src Tryd.prog i0.size 31 (.slice (some ⟨yg, 0, none⟩) ys.length yc) ys.length (ys.map bv) w := by
    rw [hs0]
    exact Src.ofSlice w Tryd.underlying31 ⟨yg, 0, none⟩ ys.length yc (ys.map bv) (by simp) (fun j u hj => by
      rw [List.getElem?_map, Option.map_eq_some_iff] at hj
      obtain ⟨b, hb1, rfl⟩ := hj
      rw [addr_mid, Nat.zero_add]
      exact (hy j b hb1).1) (bv_one ys)
  by_cases hr : bs.length + ys.length ≤ cap
  · have hrun := run_append_room_src (P := Tryd.prog) (w := w) 31 31 ty 5 i0 Tryd.underlying31 hi0 g 0 bs.length cap _ ys.length (ys.map bv) hsrc hr (fun j hj => by rw [hs0]; simp at hj; rw [Nat.mul_one, Nat.zero_add]; exact (h.room _ (by omega)).1) (fun j hj => by rw [hs0]; simp at hj; rw [Nat.mul_one, Nat.zero_add]; exact (h.room _ (by omega)).2)
    rw [hs0, Nat.mul_one, Nat.zero_add] at hrun
    exact ⟨g, cap, _, hrun, buf_laid h hr, setCells_keep _ _ _ _, .inl rfl⟩
  · have hold : (Builtin.firstCells i0.size bs.length (.slice (some ⟨g, 0, none⟩) bs.length cap)).run Tryd.prog w.drew = .ok (bs.map bv).toArray w.drew := by
      rw [hs0]
      exact run_firstCells_some (P := Tryd.prog) w.drew 1 bs.length ⟨g, 0, none⟩ bs.length cap (bs.map bv) (by simp) (fun j u hj => by
        rw [List.getElem?_map, Option.map_eq_some_iff] at hj
        obtain ⟨b, hb1, rfl⟩ := hj
        rw [addr_mid, Nat.zero_add]
        exact (h.cs j b hb1).1)
    have hrun := run_append_grow_src (P := Tryd.prog) (w := w) 31 31 ty 5 i0 _ Tryd.underlying31 hi0 hz0 (some ⟨g, 0, none⟩) bs.length cap (bs.map bv) hold _ ys.length (ys.map bv) hsrc (by omega) (by omega) (by rw [hb0]; have := nextslicecap_le (need := bs.length + ys.length) (old := cap) (by omega); omega)
    have hge2 := grownCap_ge w (bs.length + ys.length) cap 5
    have hle2 := grownCap_le_maxLen w (bs.length + ys.length) cap 5 (by unfold maxLen; omega)
    generalize grownCap w (bs.length + ys.length) cap 5 = c2 at *
    rw [show (Value.int IntKind.u8 0).cells = #[Value.int .u8 0] from rfl, zeroCells_u8] at hrun
    have e : (bs.map bv ++ ys.map bv).toArray ++ ((List.replicate (c2 - (bs.length + ys.length)) (0 : UInt8)).map bv).toArray = (((bs ++ ys) ++ List.replicate (c2 - (bs.length + ys.length)) 0).map bv).toArray := by simp
    rw [e] at hrun
    have hb := buf_new w.drew (bs ++ ys) (c2 - (bs.length + ys.length)) (by simp; omega)
    rw [show (bs ++ ys).length + (c2 - (bs.length + ys.length)) = c2 by simp; omega] at hb
    exact ⟨w.heap.size, c2, _, hrun, hb, ((Keep.refl _ w).drew).alloc _, .inr (Nat.le_refl _)⟩
end Go.Proofs.YtfigiofiakkbdaaDoor

