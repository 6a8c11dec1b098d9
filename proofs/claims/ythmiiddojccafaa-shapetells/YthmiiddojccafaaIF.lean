/-
  Arguments that are instructions, or rows of them, opened.
-/
import Derived.Test.YthmiiddojccafaaI5
import Derived.Test.YthmiiddojccafaaFrames
import Derived.Deep.Slices
namespace Go.Proofs.Ythmiiddojccafaa
open Go.ChangeShapes Go.WideShapes Go.ChangeAt Go.RowKit Go.Deep
set_option linter.all false

section
variable {H : Type} {enc : TypeId × Value → H} {W : World}
set_option maxRecDepth 100000 in
theorem open_five {cs : List Value} {fuel : Nat} {x : DataW H × List MemPlace} (hlen : cs.length = 5) (h : DataW.trod enc Try.prog W 0 (fun _ => true) true fuel 34 cs = some x) : ∃ i : In, cs = i.vs ∧ i.Wf := by
  obtain ⟨xs, n, _, _, _, hxl, hg⟩ := DataW.trod_struct Try.underlying34 h
  have c5 : Try.prog.cellsOf 5 = 1 := by kernel_rfl
  have c6 : Try.prog.cellsOf 32 = 1 := by kernel_rfl
  have c7 : Try.prog.cellsOf 21 = 1 := by kernel_rfl
  have hxl : xs.length = 5 := hxl
  match cs, hlen, xs, hxl with
  | [v0, v1, v2, v3, v4], _, [y0, y1, y2, y3, y4], _ =>
    have g0 : DataW.trod enc Try.prog W 0 (fun _ => true) true n 5 (([v0, v1, v2, v3, v4].drop 0).take (Try.prog.cellsOf 5)) = some y0 := hg 0 _ rfl
    rw [c5] at g0
    have g0 : DataW.trod enc Try.prog W 0 (fun _ => true) true n 5 [v0] = some y0 := g0
    have g1 : DataW.trod enc Try.prog W 0 (fun _ => true) true n 5 (([v0, v1, v2, v3, v4].drop 1).take (Try.prog.cellsOf 5)) = some y1 := hg 1 _ rfl
    rw [c5] at g1
    have g1 : DataW.trod enc Try.prog W 0 (fun _ => true) true n 5 [v1] = some y1 := g1
    have g2 : DataW.trod enc Try.prog W 0 (fun _ => true) true n 5 (([v0, v1, v2, v3, v4].drop 2).take (Try.prog.cellsOf 5)) = some y2 := hg 2 _ rfl
    rw [c5] at g2
    have g2 : DataW.trod enc Try.prog W 0 (fun _ => true) true n 5 [v2] = some y2 := g2
    have g3 : DataW.trod enc Try.prog W 0 (fun _ => true) true n 32 (([v0, v1, v2, v3, v4].drop 3).take (Try.prog.cellsOf 32)) = some y3 := hg 3 _ rfl
    rw [c6] at g3
    have g3 : DataW.trod enc Try.prog W 0 (fun _ => true) true n 32 [v3] = some y3 := g3
    have g4 : DataW.trod enc Try.prog W 0 (fun _ => true) true n 21 (([v0, v1, v2, v3, v4].drop 4).take (Try.prog.cellsOf 21)) = some y4 := hg 4 _ rfl
    rw [c7] at g4
    have g4 : DataW.trod enc Try.prog W 0 (fun _ => true) true n 21 [v4] = some y4 := g4
    obtain ⟨k0, e0, _, w0⟩ := DataW.trod_int Try.underlying5 g0
    obtain ⟨k1, e1, _, w1⟩ := DataW.trod_int Try.underlying5 g1
    obtain ⟨k2, e2, _, w2⟩ := DataW.trod_int Try.underlying5 g2
    obtain ⟨k3, e3, _, w3⟩ := DataW.trod_int Try.underlying32 g3
    obtain ⟨k4, e4, _, w4⟩ := DataW.trod_int Try.underlying21 g4
    simp only [List.cons.injEq, and_true] at e0 e1 e2 e3 e4
    subst e0 e1 e2 e3 e4
    have b0 := bounds_u8 w0
    have b1 := bounds_u8 w1
    have b2 := bounds_u8 w2
    have b3 := bounds_i16 w3
    have b4 := bounds_i32 w4
    refine ⟨⟨k0.toNat, k1.toNat, k2.toNat, k3, k4⟩, ?_, ⟨?_, ?_, ?_, ?_, ?_⟩⟩
    · unfold In.vs
      simp only [Int.toNat_of_nonneg b0.1, Int.toNat_of_nonneg b1.1, Int.toNat_of_nonneg b2.1]
    · show k0.toNat < 256; omega
    · show k1.toNat < 256; omega
    · show k2.toNat < 256; omega
    · exact ⟨b3.1, by show k3 < _; omega⟩
    · exact ⟨b4.1, by show k4 < _; omega⟩
set_option maxRecDepth 100000 in
theorem open_insn {r : Reach} {b0 : Nat} {v : Value} {d : DataW H} {p : List MemPlace} (hval : Value.okWide Try.prog W r b0 34 v) (h : DataW.Trod enc Try.prog W 0 (fun _ => true) true 34 v d p) : ∃ i : In, v = i.v ∧ i.Wf := by
  obtain ⟨cs, rfl, hsz⟩ := okWide_struct Try.underlying34 hval
  obtain ⟨fuel, hf⟩ := h
  have c8 : Try.prog.cellsOf 34 = 5 := by kernel_rfl
  rw [c8] at hsz
  have hf : DataW.trod enc Try.prog W 0 (fun _ => true) true fuel 34 cs.toList = some (d, p) := hf
  obtain ⟨i, hi, hw⟩ := open_five (by simpa using hsz) hf
  refine ⟨i, ?_, hw⟩
  unfold In.v
  congr 1
  apply Array.toList_inj.1
  rw [hi]
  rfl
set_option maxRecDepth 100000 in
theorem open_insns {r : Reach} {b0 : Nat} {v : Value} {d : DataW H} {p : List MemPlace} (hval : Value.okWide Try.prog W r b0 22 v) (h : DataW.Trod enc Try.prog W 0 (fun _ => true) true 22 v d p) : ∃ l : List In, Ins W v l ∧ ∀ i ∈ l, i.Wf := by
  obtain ⟨a, len, cap, rfl⟩ := okWide_slice Try.underlying22 hval
  obtain ⟨fuel, hf⟩ := h
  have c8 : Try.prog.cellsOf 34 = 5 := by kernel_rfl
  rcases open_slice Try.underlying22 hf with ⟨hcs, _⟩ | ⟨x, l, c, m, n, D, Pl, hcs, _, hl, hm, hmm, _, hi⟩
  · simp [Value.cells] at hcs
    obtain ⟨rfl, rfl, rfl⟩ := hcs
    exact ⟨[], .inl ⟨rfl, rfl⟩, fun i hi => by cases hi⟩
  · simp [Value.cells] at hcs
    obtain ⟨rfl, rfl, rfl⟩ := hcs
    simp only [if_true] at hmm
    have key : ∀ k, k < len → ∃ i : In, i.Wf ∧ InAt W (x.add (k * 5)) i := fun k hk => by
      obtain ⟨cs', h1, h2⟩ := hi k (by omega)
      rw [c8] at h1
      obtain ⟨_, hlen, hat⟩ := World.cells?_some h1
      obtain ⟨i, rfl, hw⟩ := open_five hlen h2
      exact ⟨i, hw, hat 0 (by decide), hat 1 (by decide), hat 2 (by decide), hat 3 (by decide), hat 4 (by decide)⟩
    have : ∃ f : Nat → In, ∀ k, k < len → (f k).Wf ∧ InAt W (x.add (k * 5)) (f k) := by
      refine ⟨fun k => if h : k < len then (key k h).choose else ⟨0, 0, 0, 0, 0⟩, fun k hk => ?_⟩
      simp only [dif_pos hk]
      exact (key k hk).choose_spec
    obtain ⟨f, hf'⟩ := this
    refine ⟨(List.range len).map f, .inr ⟨x, cap, by simp, by simpa using hl, hm, fun k i hk => ?_⟩, fun i hi' => ?_⟩
    · rw [List.getElem?_map, Option.map_eq_some_iff] at hk
      obtain ⟨k', hk', rfl⟩ := hk
      have hlt : k < len := by have := (List.getElem?_eq_some_iff.1 hk').1; simpa using this
      have : k' = k := by rw [List.getElem?_range hlt] at hk'; injection hk' with hk'; exact hk'.symm
      subst this
      exact (hf' k' hlt).2
    · obtain ⟨k, hk, rfl⟩ := List.mem_map.1 hi'
      exact (hf' k (by simpa using hk)).1
set_option maxRecDepth 100000 in
theorem open_rdb {r : Reach} {b0 : Nat} {v : Value} {d : DataW H} {p : List MemPlace} (hval : Value.okWide Try.prog W r b0 36 v) (h : DataW.Trod enc Try.prog W 0 (fun _ => true) true 36 v d p) : ∃ bs, Rd W v bs ∧ True := by
  obtain ⟨a, len, cap, rfl⟩ := okWide_slice Try.underlying36 hval
  obtain ⟨fuel, hf⟩ := h
  rcases open_ints Try.underlying36 Try.underlying5 (by kernel_rfl) hf with ⟨hcs, _⟩ | ⟨x, l, c, zs, hcs, _, hl, hm, hz, _, hcell, hwz⟩
  · simp [Value.cells] at hcs
    obtain ⟨rfl, rfl, rfl⟩ := hcs
    exact ⟨[], .inl ⟨rfl, rfl⟩, trivial⟩
  · simp [Value.cells] at hcs
    obtain ⟨rfl, rfl, rfl⟩ := hcs
    have hz' : zs.length = cap := by simpa using hz
    refine ⟨(zs.take len).map (fun z => UInt8.ofNat z.toNat), .inr ⟨x, cap, by rw [List.length_map, List.length_take, Nat.min_eq_left (by omega)], by rw [List.length_map, List.length_take]; omega, hm, fun i b hi => ?_⟩, trivial⟩
    · rw [List.getElem?_map, Option.map_eq_some_iff] at hi
      obtain ⟨z, hi, rfl⟩ := hi
      rw [List.getElem?_take] at hi
      split at hi
      · have hil : i < zs.length := (List.getElem?_eq_some_iff.1 hi).1
        have hcl := hcell i hil
        have : zs.getD i 0 = z := by simp [hi]
        rw [this] at hcl
        rw [hcl]
        unfold bv
        rw [u8_back z (hwz z (List.mem_of_getElem? hi))]
      · simp at hi
end
end Go.Proofs.Ythmiiddojccafaa
