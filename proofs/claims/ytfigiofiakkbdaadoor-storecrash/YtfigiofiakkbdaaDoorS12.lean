/-
  The statements of layer 4: slices of ints; sectors as halves.
-/
import Derived.Test.YtfigiofiakkbdaaDoorS11
import Derived.Test.YtfigiofiakkbdaaDoorFrames
namespace Go.Proofs.YtfigiofiakkbdaaDoor
open Go.RowKit
set_option linter.all false

theorem Nums.form {k : IntKind} {w : World} {v : Value} {zs : List Int} (h : Nums k w v zs) : ∃ A cap, v = .slice A zs.length cap := by obtain ⟨⟨A, cap, e, _⟩, _⟩ := h; exact ⟨A, cap, e⟩
theorem Nums.at_ {k : IntKind} {w w' : World} {A : Option Addr} {cap : Nat} {zs : List Int} (h : Nums k w (.slice A zs.length cap) zs) (hc : Calm w w') (i : Nat) (hi : i < zs.length) : ∃ ad z, A = some ad ∧ zs[i]? = some z ∧ w'.cell? (ad.add i) = some (.int k z) := by
  obtain ⟨⟨A', cap', e, h1⟩, _⟩ := h
  injection e with e1 _ e2
  subst e1; subst e2
  obtain ⟨ad, e1, h3, h4⟩ := h1 i zs[i] (List.getElem?_eq_getElem hi)
  exact ⟨ad, zs[i], e1, List.getElem?_eq_getElem hi, (hc.cell (p := ad.add i) (by rw [Addr.add_block]; exact h3) (fun e => e)).trans h4⟩
theorem Fits.len {A : Option Addr} {n c : Nat} (h : Fits (.slice A n c)) : n ≤ 9223372036854775807 := by
  have := h A n c rfl
  unfold maxLen at this
  omega
theorem str_beq_yes {a b : List UInt8} (h : a = b) : ((str a).toList == (str b).toList) = true := by subst h; simp
/-- Halves, and what lies behind. -/
theorem areaC_parts (c : Nat → List UInt8) (n h : Nat) (hn : 2 * h ≤ n) (hl : ∀ i, i < n → (c i).length = 512) :
    ∃ P0 P1 P2 : List UInt8, areaC c 0 n = P0 ++ (P1 ++ P2) ∧ P0 = areaC c 0 h ∧ P1 = areaC c h h ∧ P2 = areaC c (h + h) (n - 2 * h) ∧ P0.length = 512 * h ∧ P1.length = 512 * h ∧ (areaC c 0 n).length = 512 * n := by
  refine ⟨_, _, _, ?_, rfl, rfl, rfl, areaC_len (fun i _ h2 => hl i (by omega)), areaC_len (fun i _ h2 => hl i (by omega)), areaC_len (fun i _ h2 => hl i (by omega))⟩
  rw [show n = h + (h + (n - 2 * h)) by omega, areaC_add, areaC_add, Nat.zero_add]
  congr 3
  omega
theorem str_parts {X P0 P1 P2 : List UInt8} {H N : Nat} (e : X = P0 ++ (P1 ++ P2)) (h0 : P0.length = H) (h1 : P1.length = H) (hN : X.length = N) :
    (str X).extract 0 H = str P0 ∧ (str X).extract H (2 * H) = str P1 ∧ (str X).extract (2 * H) N = str P2 := by
  refine ⟨?_, ?_, ?_⟩
  · rw [str_extract, e, List.drop_zero, List.take_left' h0]
  · rw [str_extract, e, ← List.append_assoc, List.take_left' (by simp; omega), List.drop_left' h0]
  · rw [str_extract, ← hN, List.take_length, e, ← List.append_assoc, List.drop_left' (by simp; omega)]
theorem begP_num (k : Nat) (h : k ≤ 4611686018427387905) : num ((begP k).take 8) = k := by
  have := beg_take8 k [] h
  rwa [List.append_nil] at this
/-- Halves that begin otherwise are unlike. -/
theorem halves_ne {c c' : Nat → List UInt8} {f h k k' : Nat} {o o' : Option (List UInt8)} (a : Hf c f h k o) (b : Hf c' f h k' o') (h1 : 1 ≤ h) (hk : k ≤ 4611686018427387905) (hk' : k' ≤ 4611686018427387905) (hne : k ≠ k') : areaC c f h ≠ areaC c' f h := by
  intro e
  have e2 := congrArg (fun l => num (l.take 8)) e
  have t : ∀ (c : Nat → List UInt8) (k : Nat), c f = begP k → (areaC c f h).take 8 = (begP k).take 8 := by
    intro c k hc
    rw [show h = 1 + (h - 1) by omega, areaC_add]
    simp only [areaC, List.nil_append, Nat.add_zero]
    rw [hc, List.take_append_of_le_length (by rw [begP_len]; omega)]
  rw [t c k a.beg, t c' k' b.beg, begP_num k hk, begP_num k' hk'] at e2
  exact hne e2
end Go.Proofs.YtfigiofiakkbdaaDoor
