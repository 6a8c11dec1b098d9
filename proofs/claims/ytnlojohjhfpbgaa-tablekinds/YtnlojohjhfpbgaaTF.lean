/-
  Arguments that are maps (what a table is of), or texts, opened.
-/
import Derived.Test.YtnlojohjhfpbgaaTP
import Derived.Test.YtnlojohjhfpbgaaLRd
import Derived.Test.YtnlojohjhfpbgaaFrames
import Derived.Deep.Slices
namespace Go.Proofs.Ytnlojohjhfpbgaa
open Go.ChangeShapes Go.WideShapes Go.ChangeAt Go.RowKit Go.Deep
set_option linter.all false

section
variable {H : Type} {enc : TypeId × Value → H} {W : World}
set_option maxRecDepth 100000 in
theorem open_map5 {cs : List Value} {fuel : Nat} {x : DataW H × List MemPlace} (hlen : cs.length = 5) (h : DataW.trod enc Try.prog W 0 (fun _ => true) true fuel 52 cs = some x) : ∃ m : MP, cs = m.vals ∧ m.name.length ≤ maxLen := by
  obtain ⟨xs, n, _, _, _, hxl, hg⟩ := DataW.trod_struct Try.underlying52 h
  have c5 : Try.prog.cellsOf 9 = 1 := by kernel_rfl
  have c6 : Try.prog.cellsOf 3 = 1 := by kernel_rfl
  have hxl : xs.length = 5 := hxl
  match cs, hlen, xs, hxl with
  | [v0, v1, v2, v3, v4], _, [y0, y1, y2, y3, y4], _ =>
    have g0 : DataW.trod enc Try.prog W 0 (fun _ => true) true n 9 (([v0, v1, v2, v3, v4].drop 0).take (Try.prog.cellsOf 9)) = some y0 := hg 0 _ rfl
    rw [c5] at g0
    have g0 : DataW.trod enc Try.prog W 0 (fun _ => true) true n 9 [v0] = some y0 := g0
    have g1 : DataW.trod enc Try.prog W 0 (fun _ => true) true n 3 (([v0, v1, v2, v3, v4].drop 1).take (Try.prog.cellsOf 3)) = some y1 := hg 1 _ rfl
    rw [c6] at g1
    have g1 : DataW.trod enc Try.prog W 0 (fun _ => true) true n 3 [v1] = some y1 := g1
    have g2 : DataW.trod enc Try.prog W 0 (fun _ => true) true n 3 (([v0, v1, v2, v3, v4].drop 2).take (Try.prog.cellsOf 3)) = some y2 := hg 2 _ rfl
    rw [c6] at g2
    have g2 : DataW.trod enc Try.prog W 0 (fun _ => true) true n 3 [v2] = some y2 := g2
    have g3 : DataW.trod enc Try.prog W 0 (fun _ => true) true n 3 (([v0, v1, v2, v3, v4].drop 3).take (Try.prog.cellsOf 3)) = some y3 := hg 3 _ rfl
    rw [c6] at g3
    have g3 : DataW.trod enc Try.prog W 0 (fun _ => true) true n 3 [v3] = some y3 := g3
    have g4 : DataW.trod enc Try.prog W 0 (fun _ => true) true n 3 (([v0, v1, v2, v3, v4].drop 4).take (Try.prog.cellsOf 3)) = some y4 := hg 4 _ rfl
    rw [c6] at g4
    have g4 : DataW.trod enc Try.prog W 0 (fun _ => true) true n 3 [v4] = some y4 := g4
    obtain ⟨s, e0, _, w0⟩ := DataW.trod_string Try.underlying9 g0
    obtain ⟨k1, e1, _, w1⟩ := DataW.trod_int Try.underlying3 g1
    obtain ⟨k2, e2, _, w2⟩ := DataW.trod_int Try.underlying3 g2
    obtain ⟨k3, e3, _, w3⟩ := DataW.trod_int Try.underlying3 g3
    obtain ⟨k4, e4, _, w4⟩ := DataW.trod_int Try.underlying3 g4
    simp only [List.cons.injEq, and_true] at e0 e1 e2 e3 e4
    subst e0 e1 e2 e3 e4
    exact ⟨⟨s.data.toList, k1, k2, k3, k4⟩, rfl, w0⟩
set_option maxRecDepth 100000 in
theorem open_map10 {r : Reach} {b0 : Nat} {v : Value} {d : DataW H} {p : List MemPlace} (hval : Value.okWide Try.prog W r b0 52 v) (h : DataW.Trod enc Try.prog W 0 (fun _ => true) true 52 v d p) : ∃ m : MP, v = m.agg ∧ m.name.length ≤ maxLen := by
  obtain ⟨cs, rfl, hsz⟩ := okWide_struct Try.underlying52 hval
  obtain ⟨fuel, hf⟩ := h
  have c8 : Try.prog.cellsOf 52 = 5 := by kernel_rfl
  rw [c8] at hsz
  have hf : DataW.trod enc Try.prog W 0 (fun _ => true) true fuel 52 cs.toList = some (d, p) := hf
  obtain ⟨m, hi, hw⟩ := open_map5 (by simpa using hsz) hf
  refine ⟨m, ?_, hw⟩
  unfold MP.agg
  congr 1
  apply Array.toList_inj.1
  rw [hi]
set_option maxRecDepth 100000 in
theorem open_text {r : Reach} {b0 : Nat} {v : Value} {d : DataW H} {p : List MemPlace} (hval : Value.okWide Try.prog W r b0 9 v) (h : DataW.Trod enc Try.prog W 0 (fun _ => true) true 9 v d p) : ∃ s : List UInt8, v = .string (str s) ∧ s.length ≤ maxLen := by
  obtain ⟨s, rfl, _, _, h⟩ := Go.ChangeMaps.open_string Try.underlying9 hval h
  exact ⟨s.data.toList, rfl, h⟩
set_option maxRecDepth 100000 in
theorem open_rdb {r : Reach} {b0 : Nat} {v : Value} {d : DataW H} {p : List MemPlace} (hval : Value.okWide Try.prog W r b0 22 v) (h : DataW.Trod enc Try.prog W 0 (fun _ => true) true 22 v d p) : ∃ bs, Rd W v bs ∧ True := by
  obtain ⟨a, len, cap, rfl⟩ := okWide_slice Try.underlying22 hval
  obtain ⟨fuel, hf⟩ := h
  rcases open_ints Try.underlying22 Try.underlying5 (by kernel_rfl) hf with ⟨hcs, _⟩ | ⟨x, l, c, zs, hcs, _, hl, hm, hz, _, hcell, hwz⟩
  · simp [Value.cells] at hcs
    obtain ⟨rfl, rfl, rfl⟩ := hcs
    exact ⟨[], .inl ⟨rfl, rfl⟩, trivial⟩
  · simp [Value.cells] at hcs
    obtain ⟨rfl, rfl, rfl⟩ := hcs
    have hz' : zs.length = cap := by simpa using hz
    refine ⟨(zs.take len).map (fun z => UInt8.ofNat z.toNat), .inr ⟨x, cap, by rw [List.length_map, List.length_take, Nat.min_eq_left (by omega)], by rw [List.length_map, List.length_take]; omega, hm, fun i b hi => ?_⟩, trivial⟩
    · rw [List.getElem?_map, Option.map_eq_some_iff] at hi
      obtain ⟨z, hi, rfl⟩ := hi
      rw [List.getElem?_take] at hi
      split at hi
      · have hil : i < zs.length := (List.getElem?_eq_some_iff.1 hi).1
        have hcl := hcell i hil
        have : zs.getD i 0 = z := by simp [hi]
        rw [this] at hcl
        rw [hcl]
        unfold bv
        rw [u8_back z (hwz z (List.mem_of_getElem? hi))]
      · simp at hi
end
end Go.Proofs.Ytnlojohjhfpbgaa
