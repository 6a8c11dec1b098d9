/-
  Rows that rise: what is sorted and compacted is known by what it holds. The places to which jumps lead.
-/
import Derived.Test.YthmiiddojccafaaH4
import Derived.Test.YthmiiddojccafaaH5
namespace Go.Proofs.Ythmiiddojccafaa
open Go.RowKit
set_option linter.all false

abbrev Rises (zs : List Int) : Prop := zs.Pairwise (· < ·)
theorem Rises.ext : ∀ {a b : List Int}, Rises a → Rises b → (∀ x, x ∈ a ↔ x ∈ b) → a = b
  | [], [], _, _, _ => rfl
  | [], y :: b, _, _, h => by have := (h y).2 (by simp); cases this
  | x :: a, [], _, _, h => by have := (h x).1 (by simp); cases this
  | x :: a, y :: b, ha, hb, h => by
    obtain ⟨hx, ha'⟩ := List.pairwise_cons.1 ha
    obtain ⟨hy, hb'⟩ := List.pairwise_cons.1 hb
    have e : x = y := by
      rcases List.mem_cons.1 ((h x).1 (by simp)) with e | e
      · exact e
      · rcases List.mem_cons.1 ((h y).2 (by simp)) with e' | e'
        · exact e'.symm
        · have h1 := hy x e; have h2 := hx y e'; omega
    subst e
    rw [Rises.ext ha' hb' (fun z => ?_)]
    constructor
    · intro hz
      rcases List.mem_cons.1 ((h z).1 (List.mem_cons_of_mem _ hz)) with e | e
      · subst e; have := hx z hz; omega
      · exact e
    · intro hz
      rcases List.mem_cons.1 ((h z).2 (List.mem_cons_of_mem _ hz)) with e | e
      · subst e; have := hy z hz; omega
      · exact e
theorem compactUpTo_rises (d : Array Int) (hs : ∀ i j, i < j → j < d.size → d[i]! ≤ d[j]!) : ∀ m, m ≤ d.size → Rises (Lib.compactUpTo d m) ∧ ∀ x, x ∈ Lib.compactUpTo d m ↔ ∃ j, j < m ∧ d[j]! = x
  | 0, _ => ⟨by simp [Lib.compactUpTo], fun x => by simp [Lib.compactUpTo]⟩
  | m + 1, hm => by
    obtain ⟨h1, h2⟩ := compactUpTo_rises d hs m (by omega)
    rw [Lib.compactUpTo_succ]
    by_cases hk : Lib.keeps d m = true
    · rw [if_pos hk]
      refine ⟨List.pairwise_append.2 ⟨h1, by simp, fun a ha b hb => ?_⟩, fun x => ?_⟩
      · simp only [List.mem_singleton] at hb
        subst hb
        obtain ⟨j, hj, rfl⟩ := (h2 a).1 ha
        have hne : d[m]! ≠ d[m - 1]! := by
          unfold Lib.keeps at hk
          rcases of_decide_eq_true hk with e | e
          · omega
          · exact e
        have h3 : d[m - 1]! ≤ d[m]! := hs (m - 1) m (by omega) (by omega)
        have h4 : d[j]! ≤ d[m - 1]! := by
          rcases Nat.lt_or_ge j (m - 1) with hlt | hge
          · exact hs j (m - 1) hlt (by omega)
          · rw [show j = m - 1 by omega]; exact Int.le_refl _
        omega
      · rw [List.mem_append, h2, List.mem_singleton]
        constructor
        · rintro (⟨j, hj, e⟩ | e)
          · exact ⟨j, by omega, e⟩
          · exact ⟨m, by omega, e.symm⟩
        · rintro ⟨j, hj, e⟩
          rcases Nat.lt_or_ge j m with hlt | hge
          · exact .inl ⟨j, hlt, e⟩
          · rw [show j = m by omega] at e; exact .inr e.symm
    · rw [if_neg hk, List.append_nil]
      refine ⟨h1, fun x => ?_⟩
      rw [h2]
      constructor
      · rintro ⟨j, hj, e⟩; exact ⟨j, by omega, e⟩
      · rintro ⟨j, hj, e⟩
        rcases Nat.lt_or_ge j m with hlt | hge
        · exact ⟨j, hlt, e⟩
        · have hjm : j = m := by omega
          subst hjm
          unfold Lib.keeps at hk
          have hn : ¬ (j = 0 ∨ d[j]! ≠ d[j - 1]!) := fun hh => hk (decide_eq_true hh)
          have h5 : j ≠ 0 := fun e => hn (.inl e)
          have h6 : d[j]! = d[j - 1]! := Classical.byContradiction fun hh => hn (.inr hh)
          exact ⟨j - 1, by omega, by rw [← h6, e]⟩
theorem sorted_compact (zs : List Int) : Rises (Lib.compact (sortZ zs)) ∧ ∀ x, x ∈ Lib.compact (sortZ zs) ↔ x ∈ zs := by
  have hp : (sortZ zs).Pairwise (fun a b => decide (a ≤ b) = true) := List.pairwise_mergeSort (by intro a b c h1 h2; simp at *; omega) (by intro a b; simp; omega) zs
  have hperm : (sortZ zs).Perm zs := List.mergeSort_perm zs _
  obtain ⟨h1, h2⟩ := compactUpTo_rises (sortZ zs).toArray (fun i j hij hj => by
    have hj' : j < (sortZ zs).length := by simpa using hj
    have := List.pairwise_iff_getElem.1 hp i j (by omega) hj' hij
    simp only [decide_eq_true_eq] at this
    simpa [getElem!_pos, hj', show i < (sortZ zs).length by omega] using this) (sortZ zs).length (by simp)
  refine ⟨h1, fun x => ?_⟩
  unfold Lib.compact
  rw [h2, ← hperm.mem_iff]
  constructor
  · rintro ⟨j, hj, e⟩
    rw [← e]
    have : (sortZ zs).toArray[j]! = (sortZ zs)[j] := by simp [getElem!_pos, hj]
    rw [this]
    exact List.getElem_mem _
  · intro hx
    obtain ⟨j, hj, e⟩ := List.getElem_of_mem hx
    exact ⟨j, hj, by simp [getElem!_pos, hj, e]⟩

def jumpAt (l : List In) (k : Nat) : Bool := match l[k]? with | some x => jumpsO x.op | none => false
def toAt (l : List In) (k : Nat) : Int := match l[k]? with | some x => (k : Int) + 1 + x.off | none => 0
/-- All places to which the jumps of the first n lead, as they come. -/
def leadsTo (l : List In) : Nat → List Int
  | 0 => []
  | n + 1 => leadsTo l n ++ (if jumpAt l n then [toAt l n] else [])
theorem leads_mem {l : List In} : ∀ {n : Nat} {z : Int}, z ∈ leadsTo l n ↔ ∃ k, k < n ∧ jumpAt l k = true ∧ toAt l k = z
  | 0, z => by simp [leadsTo]
  | n + 1, z => by
    unfold leadsTo
    rw [List.mem_append, leads_mem]
    constructor
    · rintro (⟨k, h1, h2, h3⟩ | h)
      · exact ⟨k, by omega, h2, h3⟩
      · by_cases hj : jumpAt l n = true
        · rw [if_pos hj, List.mem_singleton] at h
          exact ⟨n, by omega, hj, h.symm⟩
        · rw [if_neg hj] at h; cases h
    · rintro ⟨k, h1, h2, h3⟩
      rcases Nat.lt_or_ge k n with hlt | hge
      · exact .inl ⟨k, hlt, h2, h3⟩
      · obtain rfl : k = n := by omega
        rw [if_pos h2]
        exact .inr (by simp [h3])
theorem leads_len (l : List In) : ∀ n, (leadsTo l n).length ≤ n
  | 0 => Nat.le_refl _
  | n + 1 => by
    unfold leadsTo
    have := leads_len l n
    by_cases hj : jumpAt l n = true
    · rw [if_pos hj]; simp; omega
    · rw [if_neg hj]; simp; omega
/-- What Targets tells. -/
def targetsO (l : List In) : List Int := if shapeO l = true then Lib.compact (sortZ (leadsTo l l.length)) else []
theorem targets_rises (l : List In) : Rises (targetsO l) := by
  unfold targetsO
  split
  · exact (sorted_compact _).1
  · exact .nil
theorem targets_mem {l : List In} (h : shapeO l = true) (z : Int) : z ∈ targetsO l ↔ ∃ k, k < l.length ∧ jumpAt l k = true ∧ toAt l k = z := by
  unfold targetsO
  rw [if_pos h, (sorted_compact _).2, leads_mem]
theorem targets_none {l : List In} (h : shapeO l = false) : targetsO l = [] := by
  unfold targetsO
  rw [if_neg (by rw [h]; decide)]
end Go.Proofs.Ythmiiddojccafaa
