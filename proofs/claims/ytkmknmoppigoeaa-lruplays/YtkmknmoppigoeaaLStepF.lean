/-
  A slice of steps among the arguments, opened.
-/
import Derived.Test.YtkmknmoppigoeaaLStep
import Derived.Test.YtkmknmoppigoeaaFrames
import Derived.Deep.Slices
import Derived.Deep.Strs
namespace Go.Proofs.Ytkmknmoppigoeaa
open Go.ChangeShapes Go.WideShapes Go.ChangeAt Go.RowKit Go.Deep
set_option linter.all false
set_option maxRecDepth 100000 in
theorem open_step9 {H : Type} {enc : TypeId × Value → H} {W : World} {a : Addr} {cs : List Value} {fuel : Nat} {x : DataW H × List MemPlace} (hc : W.cells? 0 a 3 = some cs) (h : DataW.trod enc Try.prog W 0 (fun _ => true) true fuel 30 cs = some x) :
    ∃ s : Int × List UInt8 × Int, s.2.1.length ≤ maxLen ∧ W.cell? (a.add 0) = some (.int .i64 s.1) ∧ W.cell? (a.add 1) = some (.string (str s.2.1)) ∧ W.cell? (a.add 2) = some (.int .i64 s.2.2) := by
  obtain ⟨_, hlen, hat⟩ := World.cells?_some hc
  obtain ⟨xs, n, _, _, _, hxl, hg⟩ := DataW.trod_struct Try.underlying30 h
  have c3 : Try.prog.cellsOf 3 = 1 := by kernel_rfl
  have c5 : Try.prog.cellsOf 9 = 1 := by kernel_rfl
  have hxl : xs.length = 3 := hxl
  match cs, hlen, xs, hxl with
  | [v0, v1, v2], _, [y0, y1, y2], _ =>
    have g0 : DataW.trod enc Try.prog W 0 (fun _ => true) true n 3 (([v0, v1, v2].drop 0).take (Try.prog.cellsOf 3)) = some y0 := hg 0 _ rfl
    rw [c3] at g0
    have g0 : DataW.trod enc Try.prog W 0 (fun _ => true) true n 3 [v0] = some y0 := g0
    have g1 : DataW.trod enc Try.prog W 0 (fun _ => true) true n 9 (([v0, v1, v2].drop 1).take (Try.prog.cellsOf 9)) = some y1 := hg 1 _ rfl
    rw [c5] at g1
    have g1 : DataW.trod enc Try.prog W 0 (fun _ => true) true n 9 [v1] = some y1 := g1
    have g2 : DataW.trod enc Try.prog W 0 (fun _ => true) true n 3 (([v0, v1, v2].drop 2).take (Try.prog.cellsOf 3)) = some y2 := hg 2 _ rfl
    rw [c3] at g2
    have g2 : DataW.trod enc Try.prog W 0 (fun _ => true) true n 3 [v2] = some y2 := g2
    obtain ⟨k0, e0, _, w0⟩ := DataW.trod_int Try.underlying3 g0
    obtain ⟨k2, e2, _, w2⟩ := DataW.trod_int Try.underlying3 g2
    obtain ⟨s, e1, _, w1⟩ := DataW.trod_string Try.underlying9 g1
    simp only [List.cons.injEq, and_true] at e0 e1 e2
    subst e0 e1 e2
    exact ⟨(k0, s.data.toList, k2), w1, hat 0 (by decide), hat 1 (by decide), hat 2 (by decide)⟩
set_option maxRecDepth 100000 in
theorem open_steps9 {H : Type} {enc : TypeId × Value → H} {W : World} {r : Reach} {b0 : Nat} {v : Value} {d : DataW H} {p : List MemPlace} (hval : Value.okWide Try.prog W r b0 22 v) (h : DataW.Trod enc Try.prog W 0 (fun _ => true) true 22 v d p) : ∃ ss, Stepv W v ss ∧ True := by
  obtain ⟨a, len, cap, rfl⟩ := okWide_slice Try.underlying22 hval
  obtain ⟨fuel, hf⟩ := h
  have c6 : Try.prog.cellsOf 30 = 3 := by kernel_rfl
  rcases open_slice Try.underlying22 hf with ⟨hcs, _⟩ | ⟨x, l, c, m, n, D, Pl, hcs, _, hl, hm, hmm, _, hi⟩
  · simp [Value.cells] at hcs
    obtain ⟨rfl, rfl, rfl⟩ := hcs
    exact ⟨[], ⟨none, 0, rfl, Nat.zero_le _, fun i s hs => by simp at hs⟩, trivial⟩
  · simp [Value.cells] at hcs
    obtain ⟨rfl, rfl, rfl⟩ := hcs
    simp only [if_true] at hmm
    have hall : ∀ i : Nat, ∃ s : Int × List UInt8 × Int, i < len → (s.2.1.length ≤ maxLen ∧ W.cell? ((x.add (i * 3)).add 0) = some (.int .i64 s.1) ∧ W.cell? ((x.add (i * 3)).add 1) = some (.string (str s.2.1)) ∧ W.cell? ((x.add (i * 3)).add 2) = some (.int .i64 s.2.2)) := by
      intro i
      by_cases hil : i < len
      · obtain ⟨cs', h1, h2⟩ := hi i (by omega)
        rw [c6] at h1
        obtain ⟨s, hs⟩ := open_step9 h1 h2
        exact ⟨s, fun _ => hs⟩
      · exact ⟨(0, [], 0), fun e => absurd e hil⟩
    obtain ⟨S, hS⟩ := Classical.axiomOfChoice hall
    refine ⟨(List.range len).map S, ⟨some x, cap, by simp, by simp; omega, fun i s hs => ?_⟩, trivial⟩
    rw [List.getElem?_map, Option.map_eq_some_iff] at hs
    obtain ⟨k, hk, rfl⟩ := hs
    have hik : i < len ∧ k = i := by
      obtain ⟨h1, h2⟩ := List.getElem?_eq_some_iff.1 hk
      simp at h1 h2
      exact ⟨h1, h2.symm⟩
    obtain ⟨hil, rfl⟩ := hik
    obtain ⟨a1, a2, a3, a4⟩ := hS k hil
    have hb := World.block_lt_of_cell? _ _ a2
    rw [Addr.add_block, Addr.add_block] at hb
    exact ⟨a1, x, rfl, hb, a2, a3, a4⟩
end Go.Proofs.Ytkmknmoppigoeaa
