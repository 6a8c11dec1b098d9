/-
  Arguments that are slices, opened to what the walks ask of them.
-/
import Derived.Test.YtnlojohjhfpbgaaRows
import Derived.Test.YtnlojohjhfpbgaaMem
import Derived.ProofKit
import Derived.OpenShut
import Derived.ShutString
import Derived.ChangeOld
import Derived.Deep.Grids
namespace Go.Proofs.Ytnlojohjhfpbgaa
open Go.ChangeShapes Go.WideShapes Go.ChangeAt Go.RowKit Go.Deep
set_option linter.all false

theorem own : ownKnob Try.prog.godebug = none := by kernel_rfl
theorem laidOut : laidOutB Try.prog = true := by kernel_rfl

/-- A slice of integers of a kind that reads as a list. -/
def Nums (k : IntKind) (w : World) (v : Value) (zs : List Int) : Prop :=
  (∃ (A : Option Addr) (cap : Nat), v = .slice A zs.length cap ∧ ∀ (i : Nat) z, zs[i]? = some z → ∃ ad, A = some ad ∧ ad.block < w.heap.size ∧ w.cell? (ad.add i) = some (.int k z)) ∧ ∀ z ∈ zs, (Lit.int k z).wf = true
/-- The slice's length is at most its capacity, and that is at most the greatest length. -/
def Fits (v : Value) : Prop := ∀ A n c, v = .slice A n c → n ≤ c ∧ c ≤ maxLen

section
variable {H : Type} {enc : TypeId × Value → H} {W : World} {r : Reach} {b0 : Nat} {v : Value} {d : DataW H} {p : List MemPlace}

set_option maxRecDepth 100000 in
theorem open_nums {t e : TypeId} {k : IntKind} (ht : Try.prog.underlying t = some (.slice e)) (he : Try.prog.underlying e = some (.int k)) (hc : Try.prog.cellsOf e = 1) (hval : Value.okWide Try.prog W r b0 t v) (h : DataW.Trod enc Try.prog W 0 (fun _ => true) true t v d p) :
    ∃ zs, Nums k W v zs ∧ Fits v := by
  obtain ⟨a, len, cap, rfl⟩ := okWide_slice ht hval
  obtain ⟨fuel, hf⟩ := h
  rcases open_ints ht he hc hf with ⟨hcs, _⟩ | ⟨x, l, c, zs, hcs, _, hl, hm, hz, _, hcell, hwz⟩
  · simp [Value.cells] at hcs
    obtain ⟨rfl, rfl, rfl⟩ := hcs
    exact ⟨[], ⟨⟨none, 0, rfl, fun i z hz => by simp at hz⟩, fun z hz => by simp at hz⟩, fun A n c e => by injection e with _ e1 e2; omega⟩
  · simp [Value.cells] at hcs
    obtain ⟨rfl, rfl, rfl⟩ := hcs
    have hz' : zs.length = cap := by simpa using hz
    refine ⟨zs.take len, ⟨⟨some x, cap, by rw [List.length_take, Nat.min_eq_left (by omega)], fun i z hi => ?_⟩, fun z hz => hwz z (List.mem_of_mem_take hz)⟩, fun A n c e => by injection e with _ e1 e2; subst e1; subst e2; exact ⟨hl, hm⟩⟩
    rw [List.getElem?_take] at hi
    split at hi
    · have hil : i < zs.length := (List.getElem?_eq_some_iff.1 hi).1
      have hcl := hcell i hil
      have : zs.getD i 0 = z := by simp [hi]
      rw [this] at hcl
      have hb := World.block_lt_of_cell? _ _ hcl
      rw [Addr.add_block] at hb
      exact ⟨x, rfl, hb, hcl⟩
    · simp at hi

set_option maxRecDepth 100000 in
theorem open_bls {t e : TypeId} (ht : Try.prog.underlying t = some (.slice e)) (he : Try.prog.underlying e = some .bool) (hc : Try.prog.cellsOf e = 1) (hval : Value.okWide Try.prog W r b0 t v) (h : DataW.Trod enc Try.prog W 0 (fun _ => true) true t v d p) :
    ∃ ks, Bools W (fun _ => True) v ks ∧ Fits v := by
  obtain ⟨a, len, cap, rfl⟩ := okWide_slice ht hval
  obtain ⟨fuel, hf⟩ := h
  rcases open_bools ht he hc hf with ⟨hcs, _⟩ | ⟨x, l, c, B, hcs, _, hl, hm, _, hcell⟩
  · simp [Value.cells] at hcs
    obtain ⟨rfl, rfl, rfl⟩ := hcs
    exact ⟨[], Bools.none_ _ _, fun A n c e => by injection e with _ e1 e2; omega⟩
  · simp [Value.cells] at hcs
    obtain ⟨rfl, rfl, rfl⟩ := hcs
    refine ⟨(List.range len).map B, ⟨some x, cap, by simp, fun i b hi => ?_⟩, fun A n c e => by injection e with _ e1 e2; subst e1; subst e2; exact ⟨hl, hm⟩⟩
    rw [List.getElem?_map, Option.map_eq_some_iff] at hi
    obtain ⟨i', hi', rfl⟩ := hi
    have hlt : i < len := by have := (List.getElem?_eq_some_iff.1 hi').1; simpa using this
    have : i' = i := by rw [List.getElem?_range hlt] at hi'; injection hi' with hi'; exact hi'.symm
    subst this
    have hcl := hcell i' (by omega)
    have hb := World.block_lt_of_cell? _ _ hcl
    rw [Addr.add_block] at hb
    exact ⟨x, rfl, trivial, hb, hcl⟩
end

theorem u8_back (z : Int) (h : (Lit.int .u8 z).wf = true) : ((UInt8.ofNat z.toNat).toNat : Int) = z := by
  have := bounds_u8 h
  rw [UInt8.toNat_ofNat']
  omega
/-- Integers that are bytes. -/
theorem Nums.bytes {w : World} {v : Value} {zs : List Int} (h : Nums .u8 w v zs) : Bytes w (fun _ => True) v (zs.map fun z => UInt8.ofNat z.toNat) := by
  obtain ⟨⟨A, cap, e, h1⟩, h2⟩ := h
  refine ⟨A, cap, by rw [e, List.length_map], fun i b hi => ?_⟩
  rw [List.getElem?_map, Option.map_eq_some_iff] at hi
  obtain ⟨z, hz, rfl⟩ := hi
  obtain ⟨ad, e1, e2, e3⟩ := h1 i z hz
  refine ⟨ad, e1, trivial, e2, ?_⟩
  rw [e3]
  simp only [bv]
  rw [u8_back z (h2 z (List.mem_of_getElem? hz))]
end Go.Proofs.Ytnlojohjhfpbgaa
