/-
  A slice of structs among the arguments, opened.
-/
import Derived.Test.YtnlojohjhfpbgaaS10V
import Derived.Test.YtnlojohjhfpbgaaFrames
import Derived.Deep.Slices
import Derived.Deep.Strs
namespace Go.Proofs.Ytnlojohjhfpbgaa
open Go.ChangeShapes Go.WideShapes Go.ChangeAt Go.RowKit Go.Deep
set_option linter.all false
set_option maxRecDepth 100000 in
theorem open_S10 {H : Type} {enc : TypeId × Value → H} {W : World} {a : Addr} {cs : List Value} {fuel : Nat} {x : DataW H × List MemPlace} (hc : W.cells? 0 a 7 = some cs) (h : DataW.trod enc Try.prog W 0 (fun _ => true) true fuel 65 cs = some x) :
    ∃ s : S10, (s.ky.length ≤ maxLen ∧ s.v.length ≤ maxLen) ∧ W.cell? (a.add 0) = some (.int .i64 s.k) ∧ W.cell? (a.add 1) = some (.string (str s.ky)) ∧ W.cell? (a.add 2) = some (.string (str s.v)) ∧ W.cell? (a.add 3) = some (.int .i64 s.fl) ∧ W.cell? (a.add 4) = some (.bool s.wr) ∧ W.cell? (a.add 5) = some (.bool s.raw) ∧ W.cell? (a.add 6) = some (.bool s.kp) := by
  obtain ⟨_, hlen, hat⟩ := World.cells?_some hc
  obtain ⟨xs, n, _, _, _, hxl, hg⟩ := DataW.trod_struct Try.underlying65 h
  have c_bool : Try.prog.cellsOf 4 = 1 := by kernel_rfl
  have c_int : Try.prog.cellsOf 3 = 1 := by kernel_rfl
  have c_str : Try.prog.cellsOf 9 = 1 := by kernel_rfl
  have hxl : xs.length = 7 := hxl
  match cs, hlen, xs, hxl with
  | [v0, v1, v2, v3, v4, v5, v6], _, [y0, y1, y2, y3, y4, y5, y6], _ =>
    have g0 : DataW.trod enc Try.prog W 0 (fun _ => true) true n 3 (([v0, v1, v2, v3, v4, v5, v6].drop 0).take (Try.prog.cellsOf 3)) = some y0 := hg 0 _ rfl
    rw [c_int] at g0
    have g0 : DataW.trod enc Try.prog W 0 (fun _ => true) true n 3 [v0] = some y0 := g0
    have g1 : DataW.trod enc Try.prog W 0 (fun _ => true) true n 9 (([v0, v1, v2, v3, v4, v5, v6].drop 1).take (Try.prog.cellsOf 9)) = some y1 := hg 1 _ rfl
    rw [c_str] at g1
    have g1 : DataW.trod enc Try.prog W 0 (fun _ => true) true n 9 [v1] = some y1 := g1
    have g2 : DataW.trod enc Try.prog W 0 (fun _ => true) true n 9 (([v0, v1, v2, v3, v4, v5, v6].drop 2).take (Try.prog.cellsOf 9)) = some y2 := hg 2 _ rfl
    rw [c_str] at g2
    have g2 : DataW.trod enc Try.prog W 0 (fun _ => true) true n 9 [v2] = some y2 := g2
    have g3 : DataW.trod enc Try.prog W 0 (fun _ => true) true n 3 (([v0, v1, v2, v3, v4, v5, v6].drop 3).take (Try.prog.cellsOf 3)) = some y3 := hg 3 _ rfl
    rw [c_int] at g3
    have g3 : DataW.trod enc Try.prog W 0 (fun _ => true) true n 3 [v3] = some y3 := g3
    have g4 : DataW.trod enc Try.prog W 0 (fun _ => true) true n 4 (([v0, v1, v2, v3, v4, v5, v6].drop 4).take (Try.prog.cellsOf 4)) = some y4 := hg 4 _ rfl
    rw [c_bool] at g4
    have g4 : DataW.trod enc Try.prog W 0 (fun _ => true) true n 4 [v4] = some y4 := g4
    have g5 : DataW.trod enc Try.prog W 0 (fun _ => true) true n 4 (([v0, v1, v2, v3, v4, v5, v6].drop 5).take (Try.prog.cellsOf 4)) = some y5 := hg 5 _ rfl
    rw [c_bool] at g5
    have g5 : DataW.trod enc Try.prog W 0 (fun _ => true) true n 4 [v5] = some y5 := g5
    have g6 : DataW.trod enc Try.prog W 0 (fun _ => true) true n 4 (([v0, v1, v2, v3, v4, v5, v6].drop 6).take (Try.prog.cellsOf 4)) = some y6 := hg 6 _ rfl
    rw [c_bool] at g6
    have g6 : DataW.trod enc Try.prog W 0 (fun _ => true) true n 4 [v6] = some y6 := g6
    obtain ⟨k0, e0, _, w0⟩ := DataW.trod_int Try.underlying3 g0
    obtain ⟨k1, e1, _, w1⟩ := DataW.trod_string Try.underlying9 g1
    obtain ⟨k2, e2, _, w2⟩ := DataW.trod_string Try.underlying9 g2
    obtain ⟨k3, e3, _, w3⟩ := DataW.trod_int Try.underlying3 g3
    obtain ⟨k4, e4, _⟩ := DataW.trod_bool Try.underlying4 g4
    obtain ⟨k5, e5, _⟩ := DataW.trod_bool Try.underlying4 g5
    obtain ⟨k6, e6, _⟩ := DataW.trod_bool Try.underlying4 g6
    simp only [List.cons.injEq, and_true] at e0 e1 e2 e3 e4 e5 e6
    subst e0 e1 e2 e3 e4 e5 e6
    exact ⟨⟨k0, k1.data.toList, k2.data.toList, k3, k4, k5, k6⟩, ⟨w1, w2⟩, hat 0 (by decide), hat 1 (by decide), hat 2 (by decide), hat 3 (by decide), hat 4 (by decide), hat 5 (by decide), hat 6 (by decide)⟩
set_option maxRecDepth 100000 in
theorem open_Steps10 {H : Type} {enc : TypeId × Value → H} {W : World} {r : Reach} {b0 : Nat} {v : Value} {d : DataW H} {p : List MemPlace} (hval : Value.okWide Try.prog W r b0 50 v) (h : DataW.Trod enc Try.prog W 0 (fun _ => true) true 50 v d p) : ∃ ss, St10 W v ss ∧ True := by
  obtain ⟨a, len, cap, rfl⟩ := okWide_slice Try.underlying50 hval
  obtain ⟨fuel, hf⟩ := h
  have c6 : Try.prog.cellsOf 65 = 7 := by kernel_rfl
  rcases open_slice Try.underlying50 hf with ⟨hcs, _⟩ | ⟨x, l, c, m, n, D, Pl, hcs, _, hl, hm, hmm, _, hi⟩
  · simp [Value.cells] at hcs
    obtain ⟨rfl, rfl, rfl⟩ := hcs
    exact ⟨[], ⟨none, 0, rfl, Nat.zero_le _, fun i s hs => by simp at hs⟩, trivial⟩
  · simp [Value.cells] at hcs
    obtain ⟨rfl, rfl, rfl⟩ := hcs
    simp only [if_true] at hmm
    have hall : ∀ i : Nat, ∃ s : S10, i < len → ((s.ky.length ≤ maxLen ∧ s.v.length ≤ maxLen) ∧ W.cell? ((x.add (i * 7)).add 0) = some (.int .i64 s.k) ∧ W.cell? ((x.add (i * 7)).add 1) = some (.string (str s.ky)) ∧ W.cell? ((x.add (i * 7)).add 2) = some (.string (str s.v)) ∧ W.cell? ((x.add (i * 7)).add 3) = some (.int .i64 s.fl) ∧ W.cell? ((x.add (i * 7)).add 4) = some (.bool s.wr) ∧ W.cell? ((x.add (i * 7)).add 5) = some (.bool s.raw) ∧ W.cell? ((x.add (i * 7)).add 6) = some (.bool s.kp)) := by
      intro i
      by_cases hil : i < len
      · obtain ⟨cs', h1, h2⟩ := hi i (by omega)
        rw [c6] at h1
        obtain ⟨s, hs⟩ := open_S10 h1 h2
        exact ⟨s, fun _ => hs⟩
      · exact ⟨⟨0, [], [], 0, false, false, false⟩, fun e => absurd e hil⟩
    obtain ⟨S, hS⟩ := Classical.axiomOfChoice hall
    refine ⟨(List.range len).map S, ⟨some x, cap, by simp, by simp; omega, fun i s hs => ?_⟩, trivial⟩
    rw [List.getElem?_map, Option.map_eq_some_iff] at hs
    obtain ⟨k, hk, rfl⟩ := hs
    have hik : i < len ∧ k = i := by
      obtain ⟨h1, h2⟩ := List.getElem?_eq_some_iff.1 hk
      simp at h1 h2
      exact ⟨h1, h2.symm⟩
    obtain ⟨hil, rfl⟩ := hik
    obtain ⟨a1, c0, c1, c2, c3, c4, c5, c6⟩ := hS k hil
    have hb := World.block_lt_of_cell? _ _ c0
    rw [Addr.add_block, Addr.add_block] at hb
    exact ⟨a1, x, rfl, hb, c0, c1, c2, c3, c4, c5, c6⟩
end Go.Proofs.Ytnlojohjhfpbgaa
