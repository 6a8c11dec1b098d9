/-
  StoreCrash: a slice of tries that came in, opened.
-/
import Derived.Test.YtfigiofiakkbdaaDoorS21
import Derived.Test.YtfigiofiakkbdaaDoorJF
import Derived.Deep.Slices
namespace Go.Proofs.YtfigiofiakkbdaaDoor
open Go.ChangeShapes Go.WideShapes Go.ChangeAt Go.RowKit Go.Deep
set_option linter.all false

set_option maxRecDepth 100000 in
theorem open_try4 {H : Type} {enc : TypeId × Value → H} {W : World} {a : Addr} {cs : List Value} {fuel : Nat} {x : DataW H × List MemPlace} (hc : W.cells? 0 a 3 = some cs) (h : DataW.trod enc Tryd.prog W 0 (fun _ => true) true fuel 48 cs = some x) : TryAt4 W a := by
  obtain ⟨_, hlen, hat⟩ := World.cells?_some hc
  obtain ⟨xs, n, _, _, _, hxl, hg⟩ := DataW.trod_struct Tryd.underlying48 h
  have c3 : Tryd.prog.cellsOf 3 = 1 := by kernel_rfl
  have c4 : Tryd.prog.cellsOf 4 = 1 := by kernel_rfl
  have cb : Tryd.prog.cellsOf 46 = 1 := by kernel_rfl
  have hxl : xs.length = 3 := hxl
  match cs, hlen, xs, hxl with
  | [v0, v1, v3], _, [y0, y1, y3], _ =>
    have g0 : DataW.trod enc Tryd.prog W 0 (fun _ => true) true n 3 (([v0, v1, v3].drop 0).take (Tryd.prog.cellsOf 3)) = some y0 := hg 0 _ rfl
    rw [c3] at g0
    have g0 : DataW.trod enc Tryd.prog W 0 (fun _ => true) true n 3 [v0] = some y0 := g0
    have g1 : DataW.trod enc Tryd.prog W 0 (fun _ => true) true n 3 (([v0, v1, v3].drop 1).take (Tryd.prog.cellsOf 3)) = some y1 := hg 1 _ rfl
    rw [c3] at g1
    have g1 : DataW.trod enc Tryd.prog W 0 (fun _ => true) true n 3 [v1] = some y1 := g1
    have g3 : DataW.trod enc Tryd.prog W 0 (fun _ => true) true n 46 (([v0, v1, v3].drop 2).take (Tryd.prog.cellsOf 46)) = some y3 := hg 2 _ rfl
    rw [cb] at g3
    have g3 : DataW.trod enc Tryd.prog W 0 (fun _ => true) true n 46 [v3] = some y3 := g3
    obtain ⟨k0, e0, _, w0⟩ := DataW.trod_int Tryd.underlying3 g0
    obtain ⟨k1, e1, _, w1⟩ := DataW.trod_int Tryd.underlying3 g1
    simp only [List.cons.injEq, and_true] at e0 e1
    subst e0 e1
    rcases open_bools Tryd.underlying46 Tryd.underlying4 c4 g3 with ⟨hcs, _⟩ | ⟨x5, l, c, B, hcs, _, hl, hm, _, hcell⟩
    · injection hcs with hcs _
      subst hcs
      exact ⟨k0, k1, none, [], 0, hat 0 (by omega), hat 1 (by omega), hat 2 (by omega), Nat.le_refl _, Nat.zero_le _, fun _ => rfl, Bools.none_ _ _⟩
    · injection hcs with hcs _
      subst hcs
      refine ⟨k0, k1, some x5, (List.range l).map B, c, hat 0 (by omega), hat 1 (by omega), by rw [List.length_map, List.length_range]; exact hat 2 (by omega), by simpa using hl, hm, (fun e => by cases e), some x5, c, by simp, fun i b hi => ?_⟩
      rw [List.getElem?_map, Option.map_eq_some_iff] at hi
      obtain ⟨i', hi', rfl⟩ := hi
      have hlt : i < l := by have := (List.getElem?_eq_some_iff.1 hi').1; simpa using this
      have : i' = i := by rw [List.getElem?_range hlt] at hi'; injection hi' with hi'; exact hi'.symm
      subst this
      have hcl := hcell i' (by omega)
      have hb := World.block_lt_of_cell? _ _ hcl
      rw [Addr.add_block] at hb
      exact ⟨x5, rfl, trivial, hb, hcl⟩

set_option maxRecDepth 100000 in
theorem open_trys4 {H : Type} {enc : TypeId × Value → H} {W : World} {r : Reach} {b0 : Nat} {v : Value} {d : DataW H} {p : List MemPlace} (hval : Value.okWide Tryd.prog W r b0 44 v) (h : DataW.Trod enc Tryd.prog W 0 (fun _ => true) true 44 v d p) : ∃ m : Nat, TrysAt4 W v m := by
  obtain ⟨a, len, cap, rfl⟩ := okWide_slice Tryd.underlying44 hval
  obtain ⟨fuel, hf⟩ := h
  have c6 : Tryd.prog.cellsOf 48 = 3 := by kernel_rfl
  rcases open_slice Tryd.underlying44 hf with ⟨hcs, _⟩ | ⟨x, l, c, m, n, D, Pl, hcs, _, hl, hm, hmm, _, hi⟩
  · simp [Value.cells] at hcs
    obtain ⟨rfl, rfl, rfl⟩ := hcs
    exact ⟨0, ⟨none, 0, rfl, Nat.le_refl _, Nat.zero_le _, fun i hi => absurd hi (Nat.not_lt_zero _)⟩⟩
  · simp [Value.cells] at hcs
    obtain ⟨rfl, rfl, rfl⟩ := hcs
    simp only [if_true] at hmm
    refine ⟨len, ⟨some x, cap, rfl, hl, hm, fun i hil => ⟨x, rfl, ?_⟩⟩⟩
    obtain ⟨cs', h1, h2⟩ := hi i (by omega)
    rw [c6] at h1
    exact open_try4 h1 h2
end Go.Proofs.YtfigiofiakkbdaaDoor
