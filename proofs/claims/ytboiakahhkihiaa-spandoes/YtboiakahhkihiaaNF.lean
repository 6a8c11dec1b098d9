/-
  An argument that is four numbers, opened.
-/
import Derived.Test.YtboiakahhkihiaaFrames
import Derived.Deep.Slices
namespace Go.Proofs.Ytboiakahhkihiaa
open Go.ChangeShapes Go.WideShapes Go.ChangeAt Go.RowKit Go.Deep
set_option linter.all false

section
variable {H : Type} {enc : TypeId × Value → H} {W : World}
set_option maxRecDepth 100000 in
theorem open_four8 {r : Reach} {b0 : Nat} {v : Value} {d : DataW H} {p : List MemPlace} (hval : Value.okWide Try.prog W r b0 24 v) (h : DataW.Trod enc Try.prog W 0 (fun _ => true) true 24 v d p) :
    ∃ a b c d : Nat, v = .agg #[.int .u64 (a : Int), .int .u64 (b : Int), .int .u64 (c : Int), .int .u64 (d : Int)] ∧ a < 18446744073709551616 ∧ b < 18446744073709551616 ∧ c < 18446744073709551616 ∧ d < 18446744073709551616 := by
  obtain ⟨cs, rfl, hsz⟩ := okWide_struct Try.underlying24 hval
  obtain ⟨fuel, hf⟩ := h
  have c8 : Try.prog.cellsOf 24 = 4 := by kernel_rfl
  rw [c8] at hsz
  have hlen : cs.toList.length = 4 := by simpa using hsz
  have hf' : DataW.trod enc Try.prog W 0 (fun _ => true) true fuel 24 cs.toList = some (d, p) := hf
  obtain ⟨xs, n, _, _, _, hxl, hg⟩ := DataW.trod_struct Try.underlying24 hf'
  have c5 : Try.prog.cellsOf 22 = 1 := by kernel_rfl
  have hxl : xs.length = 4 := hxl
  have key : ∀ l : List Value, cs.toList = l → l.length = 4 → ∃ a b c d : Nat, l = [.int .u64 (a : Int), .int .u64 (b : Int), .int .u64 (c : Int), .int .u64 (d : Int)] ∧ a < 18446744073709551616 ∧ b < 18446744073709551616 ∧ c < 18446744073709551616 ∧ d < 18446744073709551616 := by
    intro l hl hn
    rw [hl] at hg
    match l, hn, xs, hxl with
    | [v0, v1, v2, v3], _, [y0, y1, y2, y3], _ =>
      have g0 : DataW.trod enc Try.prog W 0 (fun _ => true) true n 22 (([v0, v1, v2, v3].drop 0).take (Try.prog.cellsOf 22)) = some y0 := hg 0 _ rfl
      rw [c5] at g0
      have g0 : DataW.trod enc Try.prog W 0 (fun _ => true) true n 22 [v0] = some y0 := g0
      have g1 : DataW.trod enc Try.prog W 0 (fun _ => true) true n 22 (([v0, v1, v2, v3].drop 1).take (Try.prog.cellsOf 22)) = some y1 := hg 1 _ rfl
      rw [c5] at g1
      have g1 : DataW.trod enc Try.prog W 0 (fun _ => true) true n 22 [v1] = some y1 := g1
      have g2 : DataW.trod enc Try.prog W 0 (fun _ => true) true n 22 (([v0, v1, v2, v3].drop 2).take (Try.prog.cellsOf 22)) = some y2 := hg 2 _ rfl
      rw [c5] at g2
      have g2 : DataW.trod enc Try.prog W 0 (fun _ => true) true n 22 [v2] = some y2 := g2
      have g3 : DataW.trod enc Try.prog W 0 (fun _ => true) true n 22 (([v0, v1, v2, v3].drop 3).take (Try.prog.cellsOf 22)) = some y3 := hg 3 _ rfl
      rw [c5] at g3
      have g3 : DataW.trod enc Try.prog W 0 (fun _ => true) true n 22 [v3] = some y3 := g3
      obtain ⟨k0, e0, _, w0⟩ := DataW.trod_int Try.underlying22 g0
      obtain ⟨k1, e1, _, w1⟩ := DataW.trod_int Try.underlying22 g1
      obtain ⟨k2, e2, _, w2⟩ := DataW.trod_int Try.underlying22 g2
      obtain ⟨k3, e3, _, w3⟩ := DataW.trod_int Try.underlying22 g3
      simp only [List.cons.injEq, and_true] at e0 e1 e2 e3
      subst e0 e1 e2 e3
      have b0 := bounds_u64 w0
      have b1 := bounds_u64 w1
      have b2 := bounds_u64 w2
      have b3 := bounds_u64 w3
      refine ⟨k0.toNat, k1.toNat, k2.toNat, k3.toNat, ?_, by omega, by omega, by omega, by omega⟩
      simp only [Int.toNat_of_nonneg b0.1, Int.toNat_of_nonneg b1.1, Int.toNat_of_nonneg b2.1, Int.toNat_of_nonneg b3.1]
  obtain ⟨a, b, c, d, e, h1, h2, h3, h4⟩ := key _ rfl hlen
  refine ⟨a, b, c, d, ?_, h1, h2, h3, h4⟩
  have : cs = cs.toList.toArray := by simp
  rw [this, e]
end
end Go.Proofs.Ytboiakahhkihiaa
