/-
  A slice of steps that came in, opened.
-/
import Derived.Test.YtppehlnfoendgaaPlays7
import Derived.Test.YtppehlnfoendgaaFrames
import Derived.Deep.Slices
namespace Go.Proofs.Ytppehlnfoendgaa
open Go.ChangeShapes Go.WideShapes Go.ChangeAt Go.RowKit Go.Deep
set_option linter.all false

theorem lie6 {w : World} {a : Addr} {cs : List Value} (hl : cs.length = 6) (h : ∀ i, i < 6 → w.cell? (a.add i) = cs[i]?) : LieAt w a cs := fun j v hj => by
  have hlt : j < 6 := by have := (List.getElem?_eq_some_iff.1 hj).1; omega
  rw [h j hlt, hj]

theorem open_step {H : Type} {enc : TypeId × Value → H} {W : World} {a : Addr} {cs : List Value} {fuel : Nat} {x : DataW H × List MemPlace} (hc : W.cells? 0 a 6 = some cs) (h : DataW.trod enc Try.prog W 0 (fun _ => true) true fuel 34 cs = some x) : StepAt W a := by
  obtain ⟨_, hlen, hat⟩ := World.cells?_some hc
  obtain ⟨xs, n, _, _, _, hxl, hg⟩ := DataW.trod_struct Try.underlying34 h
  have c3 : Try.prog.cellsOf 3 = 1 := by kernel_rfl
  have c5 : Try.prog.cellsOf 5 = 1 := by kernel_rfl
  have c4 : Try.prog.cellsOf 4 = 1 := by kernel_rfl
  have cb : Try.prog.cellsOf 32 = 1 := by kernel_rfl
  have hxl : xs.length = 6 := hxl
  match cs, hlen, xs, hxl with
  | [v0, v1, v2, v3, v4, v5], _, [y0, y1, y2, y3, y4, y5], _ =>
    have g0 : DataW.trod enc Try.prog W 0 (fun _ => true) true n 3 (([v0, v1, v2, v3, v4, v5].drop 0).take (Try.prog.cellsOf 3)) = some y0 := hg 0 _ rfl
    rw [c3] at g0
    have g0 : DataW.trod enc Try.prog W 0 (fun _ => true) true n 3 [v0] = some y0 := g0
    have g1 : DataW.trod enc Try.prog W 0 (fun _ => true) true n 3 (([v0, v1, v2, v3, v4, v5].drop 1).take (Try.prog.cellsOf 3)) = some y1 := hg 1 _ rfl
    rw [c3] at g1
    have g1 : DataW.trod enc Try.prog W 0 (fun _ => true) true n 3 [v1] = some y1 := g1
    have g2 : DataW.trod enc Try.prog W 0 (fun _ => true) true n 3 (([v0, v1, v2, v3, v4, v5].drop 2).take (Try.prog.cellsOf 3)) = some y2 := hg 2 _ rfl
    rw [c3] at g2
    have g2 : DataW.trod enc Try.prog W 0 (fun _ => true) true n 3 [v2] = some y2 := g2
    have g3 : DataW.trod enc Try.prog W 0 (fun _ => true) true n 5 (([v0, v1, v2, v3, v4, v5].drop 3).take (Try.prog.cellsOf 5)) = some y3 := hg 3 _ rfl
    rw [c5] at g3
    have g3 : DataW.trod enc Try.prog W 0 (fun _ => true) true n 5 [v3] = some y3 := g3
    have g4 : DataW.trod enc Try.prog W 0 (fun _ => true) true n 4 (([v0, v1, v2, v3, v4, v5].drop 4).take (Try.prog.cellsOf 4)) = some y4 := hg 4 _ rfl
    rw [c4] at g4
    have g4 : DataW.trod enc Try.prog W 0 (fun _ => true) true n 4 [v4] = some y4 := g4
    have g5 : DataW.trod enc Try.prog W 0 (fun _ => true) true n 32 (([v0, v1, v2, v3, v4, v5].drop 5).take (Try.prog.cellsOf 32)) = some y5 := hg 5 _ rfl
    rw [cb] at g5
    have g5 : DataW.trod enc Try.prog W 0 (fun _ => true) true n 32 [v5] = some y5 := g5
    obtain ⟨k0, e0, _, w0⟩ := DataW.trod_int Try.underlying3 g0
    obtain ⟨k1, e1, _, w1⟩ := DataW.trod_int Try.underlying3 g1
    obtain ⟨k2, e2, _, w2⟩ := DataW.trod_int Try.underlying3 g2
    obtain ⟨k3, e3, _, w3⟩ := DataW.trod_int Try.underlying5 g3
    obtain ⟨k4, e4, _⟩ := DataW.trod_bool Try.underlying4 g4
    simp only [List.cons.injEq, and_true] at e0 e1 e2 e3 e4
    subst e0 e1 e2 e3 e4
    have b2 := bounds_i64 w2
    have hb3 := u8_back k3 w3
    rcases open_bools Try.underlying32 Try.underlying4 c4 g5 with ⟨hcs, _⟩ | ⟨x5, l, c, B, hcs, _, hl, hm, _, hcell⟩
    · injection hcs with hcs _
      subst hcs
      refine ⟨k0, k1, k2, UInt8.ofNat k3.toNat, k4, none, [], 0, ?_, Nat.le_refl _, Nat.zero_le _, by omega, fun _ => rfl, Bools.none_ _ _⟩
      unfold stepC
      rw [hb3]
      exact lie6 rfl hat
    · injection hcs with hcs _
      subst hcs
      refine ⟨k0, k1, k2, UInt8.ofNat k3.toNat, k4, some x5, (List.range l).map B, c, ?_, by simpa using hl, hm, by omega, (fun e => by cases e), some x5, c, by simp, fun i b hi => ?_⟩
      · unfold stepC
        rw [hb3, List.length_map, List.length_range]
        exact lie6 rfl hat
      · rw [List.getElem?_map, Option.map_eq_some_iff] at hi
        obtain ⟨i', hi', rfl⟩ := hi
        have hlt : i < l := by have := (List.getElem?_eq_some_iff.1 hi').1; simpa using this
        have : i' = i := by rw [List.getElem?_range hlt] at hi'; injection hi' with hi'; exact hi'.symm
        subst this
        have hcl := hcell i' (by omega)
        have hb := World.block_lt_of_cell? _ _ hcl
        rw [Addr.add_block] at hb
        exact ⟨x5, rfl, trivial, hb, hcl⟩

theorem open_Steps {H : Type} {enc : TypeId × Value → H} {W : World} {r : Reach} {b0 : Nat} {v : Value} {d : DataW H} {p : List MemPlace} (hval : Value.okWide Try.prog W r b0 22 v) (h : DataW.Trod enc Try.prog W 0 (fun _ => true) true 22 v d p) : ∃ m : Nat, StepsAt W v m ∧ True := by
  obtain ⟨a, len, cap, rfl⟩ := okWide_slice Try.underlying22 hval
  obtain ⟨fuel, hf⟩ := h
  have c6 : Try.prog.cellsOf 34 = 6 := by kernel_rfl
  rcases open_slice Try.underlying22 hf with ⟨hcs, _⟩ | ⟨x, l, c, m, n, D, Pl, hcs, _, hl, hm, hmm, _, hi⟩
  · simp [Value.cells] at hcs
    obtain ⟨rfl, rfl, rfl⟩ := hcs
    exact ⟨0, ⟨none, 0, rfl, Nat.le_refl _, Nat.zero_le _, fun i hi => absurd hi (Nat.not_lt_zero _)⟩, trivial⟩
  · simp [Value.cells] at hcs
    obtain ⟨rfl, rfl, rfl⟩ := hcs
    simp only [if_true] at hmm
    refine ⟨len, ⟨some x, cap, rfl, hl, hm, fun i hil => ⟨x, rfl, ?_⟩⟩, trivial⟩
    obtain ⟨cs', h1, h2⟩ := hi i (by omega)
    rw [c6] at h1
    exact open_step h1 h2
end Go.Proofs.Ytppehlnfoendgaa
