/-
  Rows of entries: keys and slices, appended.
-/
import Derived.Test.YtiipepiabeccpaaT22
import Derived.Deep.AppendLies
import Derived.Deep.RegionLaw
import Derived.Maps.AppendAt
namespace Go.Proofs.Ytiipepiabeccpaa
open Go.RowKit Go.Deep
set_option linter.all false

/-- A key, and a slice. -/
abbrev KE := List UInt8 × (Option Addr × Nat × Nat)
def flatE : List KE → List Value
  | [] => []
  | x :: r => .string (str x.1) :: .slice x.2.1 x.2.2.1 x.2.2.2 :: flatE r
theorem flatE_len (l : List KE) : (flatE l).length = l.length * 2 := by
  induction l with
  | nil => rfl
  | cons x r ih => simp [flatE, ih]; omega
theorem flatE_app (a b : List KE) : flatE (a ++ b) = flatE a ++ flatE b := by
  induction a with
  | nil => rfl
  | cons x r ih => simp [flatE, ih]
theorem flatE_at : ∀ (l : List KE) (k : Nat) (x : KE), l[k]? = some x → (flatE l)[k * 2]? = some (.string (str x.1)) ∧ (flatE l)[k * 2 + 1]? = some (.slice x.2.1 x.2.2.1 x.2.2.2)
  | [], k, x, h => by simp at h
  | y :: l, 0, x, h => by simp at h; subst h; simp [flatE]
  | y :: l, k + 1, x, h => by
    have := flatE_at l k x (by simpa using h)
    rw [show (k + 1) * 2 = k * 2 + 2 by omega]
    simpa [flatE] using this
theorem flatE_one : ∀ (l : List KE), ∀ u ∈ flatE l, u.oneCell' = true
  | [], u, h => by cases h
  | x :: r, u, h => by
    simp only [flatE, List.mem_cons] at h
    rcases h with rfl | rfl | h
    · rfl
    · rfl
    · exact flatE_one r u h
theorem infoE10 : (Try.prog.info? 78).map (fun i => (i.zero, i.size, i.bytes)) = some (some (.agg #[.string ⟨#[]⟩, .slice none 0 0]), 2, 40) := by kernel_rfl
theorem infoE10_parts : ∃ i0 : TypeInfo, Try.prog.info? 78 = some i0 ∧ i0.zero = some (.agg #[.string ⟨#[]⟩, .slice none 0 0]) ∧ i0.size = 2 ∧ i0.bytes = 40 := by
  obtain ⟨i, h1, h2⟩ := Option.map_eq_some_iff.1 infoE10
  simp only [Prod.mk.injEq] at h2
  exact ⟨i, h1, h2.1, h2.2.1, h2.2.2⟩

def OwnE (w : World) (base : Nat) (v : Value) (l : List KE) : Prop := w.ownsRow base 78 2 v l.length (flatE l)
theorem OwnE.move {w w' : World} {base : Nat} {v : Value} {l : List KE} (h : OwnE w base v l) (hm : ∀ g, v.ownBlock = some g → g < w.heap.size → w'.heap[g]? = w.heap[g]?) : OwnE w' base v l := by
  refine ⟨h.1, ?_⟩
  rcases h.2 with h0 | ⟨g, cap, cur, e, b0, h1, h2⟩
  · exact .inl h0
  · exact .inr ⟨g, cap, cur, e, b0, (hm g (by subst e; rfl) (Row.lt (t := 78) (cs := cur) h1)).trans h1, h2⟩
theorem OwnE.calm {w w' : World} {base : Nat} {v : Value} {l : List KE} (h : OwnE w base v l) (hc : Calm w w') : OwnE w' base v l := h.move (fun g _ hl => hc.block g hl (fun e => e))
theorem OwnE.made (w : World) : OwnE (w.alloc (.cells #[] 78)) w.heap.size (.slice (some ⟨w.heap.size, 0, none⟩) 0 0) [] := World.ownsRow_made w #[] 0 (Nat.le_refl _) (Nat.zero_le _) rfl
theorem OwnE.nil (w : World) (base : Nat) : OwnE w base (.slice none 0 0) [] := ⟨rfl, .inl ⟨rfl, rfl⟩⟩
theorem OwnE.form {w : World} {base : Nat} {v : Value} {l : List KE} (h : OwnE w base v l) : ∃ A c, v = .slice A l.length c := by
  rcases h.2 with ⟨e, h0⟩ | ⟨g, cap, cur, e, _⟩
  · exact ⟨none, 0, by rw [e, h0]⟩
  · exact ⟨_, cap, e⟩
theorem OwnE.some_ {w : World} {base : Nat} {v : Value} {l : List KE} (h : OwnE w base v l) (hl : l ≠ []) : ∃ g c, v = .slice (some ⟨g, 0, none⟩) l.length c ∧ l.length ≤ c ∧ c ≤ maxLen ∧ base ≤ g ∧ ∀ j u, (flatE l)[j]? = some u → w.cell? ⟨g, j, none⟩ = some u := by
  have hh := h
  rcases h.2 with ⟨e, h0⟩ | ⟨g, cap, cur, e, b0, h1, h2, h3, h4, h5⟩
  · exact absurd (List.eq_nil_of_length_eq_zero h0) hl
  · subst e
    refine ⟨g, cap, rfl, by omega, by omega, b0, fun j u hj => ?_⟩
    have := World.ownsRow.cells hh (g := g) rfl j u hj
    rwa [addr_mid, Nat.zero_add] at this
theorem OwnE.wider {w : World} {base base' : Nat} {v : Value} {l : List KE} (h : OwnE w base v l) (hb : base' ≤ base) : OwnE w base' v l := by
  refine ⟨h.1, ?_⟩
  rcases h.2 with h0 | ⟨g, cap, cur, e, b0, h1⟩
  · exact .inl h0
  · exact .inr ⟨g, cap, cur, e, Nat.le_trans hb b0, h1⟩
theorem OwnE.block {w : World} {base g : Nat} {v : Value} {l : List KE} (h : OwnE w base v l) (hg : v.ownBlock = some g) : base ≤ g ∧ g < w.heap.size := by
  rcases h.2 with ⟨e, _⟩ | ⟨g', cap, cur, e, b0, h1, _⟩
  · subst e; cases hg
  · subst e
    have hg : some g' = some g := hg
    injection hg with hg
    subst hg
    exact ⟨b0, Row.lt (t := 78) (cs := cur) h1⟩

/-- append(v, y...), y a piece of memory that is read. -/
theorem run_append_ents (w : World) (ty : TypeId) (base : Nat) (v : Value) (xs : List KE) (hown : OwnE w base v xs) (ad : Addr) (m c : Nat) (ys : List KE) (hm : ys.length = m)
    (hc : ∀ j u, (flatE ys)[j]? = some u → w.cell? (ad.add j) = some u) (hlen : xs.length + m ≤ 100000) (hbase : base ≤ w.heap.size) :
    ∃ A c' w', (Builtin.append_ #[139, 139] ty #[v, .slice (some ad) m c]).run Try.prog w = .ok (.slice A (xs ++ ys).length c') w' ∧ OwnE w' base (.slice A (xs ++ ys).length c') (xs ++ ys) ∧ w.grownBy w' v.ownBlock ∧ (∀ g, (Value.slice A (xs ++ ys).length c').ownBlock = some g → v.ownBlock = some g ∨ w.heap.size ≤ g) := by
  subst hm
  obtain ⟨i0, hi0, hz0, hz1, hz2⟩ := infoE10_parts
  obtain ⟨v', w', hr, h2, h3, _, h5⟩ := run_append_own_at (P := Try.prog) w base 139 ty 78 i0 _ 2 40 Try.underlying139 hi0 hz0 hz1 hz2 rfl (by decide) v xs.length (flatE xs) hown ad ys.length c (flatE ys) (flatE_len ys) hc (flatE_one ys) (by unfold maxLen; omega) (by omega) hbase
  have ho : OwnE w' base v' (xs ++ ys) := by
    unfold OwnE
    rw [flatE_app, List.length_append]
    exact h2
  obtain ⟨A, c', rfl⟩ := ho.form
  refine ⟨A, c', w', hr, ho, h3, fun g hg => ?_⟩
  rcases h5 with h5 | h5
  · exact .inl (h5 ▸ hg)
  · rw [h5] at hg; injection hg with hg; exact .inr (by omega)

/-- .. as a step of a region that draws its order. -/
theorem step_append_ents {w : World} {ops : Array Oper} {o : Oper} {a : Act} {K : Act → World → Prop} {Q : Exit → Act → World → Prop} {E : Prop} (hgd : o.guard = none) (s x : Operand)
    (ho : o.op = .call { callee := .builtin .append, args := #[s, x], argTypes := #[139, 139] })
    (base : Nat) (v : Value) (xs : List KE) (hs : a.eval s = v) (hown : OwnE w base v xs) (ad : Addr) (m c : Nat) (ys : List KE) (hx : a.eval x = .slice (some ad) m c) (hm : ys.length = m)
    (hc : ∀ j u, (flatE ys)[j]? = some u → w.cell? (ad.add j) = some u) (hlen : xs.length + m ≤ 100000) (hbase : base ≤ w.heap.size) (N : Nat) (hN : (xs ++ ys).length = N)
    (h : ∀ A c' w', OwnE w' base (.slice A N c') (xs ++ ys) → w.grownBy w' v.ownBlock → (∀ g, (Value.slice A N c').ownBlock = some g → v.ownBlock = some g ∨ w.heap.size ≤ g) → K (a.put o.dst (.slice A N c')) w') :
    if Region.wanted o (yielded ops a.tmps) = true then Oper.wp Try.prog o a w K Q else E := by
  subst hN
  have hw : Region.wanted o (yielded ops a.tmps) = true := by simp [Region.wanted, hgd]
  rw [if_pos hw]
  obtain ⟨A, c', w', hr, h2, h3, h4⟩ := run_append_ents w o.type base v xs hown ad m c ys hm hc hlen hbase
  unfold Oper.wp execOp
  simp only [ho, resolve, invoke, builtin, Sem.run_bind, Sem.run_pure, Result.andThen_ok, List.map_toArray, List.map_cons, List.map_nil, hs, hx, hr]
  exact h A c' w' h2 h3 h4
/-- .. in a plain region. -/
theorem list_append_ents {w : World} {ops : Array Oper} {rest : List Oper} {o : Oper} {a : Act} {Q : Exit → Act → World → Prop} (hgd : o.guard = none) (s x : Operand)
    (ho : o.op = .call { callee := .builtin .append, args := #[s, x], argTypes := #[139, 139] })
    (base : Nat) (v : Value) (xs : List KE) (hs : a.eval s = v) (hown : OwnE w base v xs) (ad : Addr) (m c : Nat) (ys : List KE) (hx : a.eval x = .slice (some ad) m c) (hm : ys.length = m)
    (hc : ∀ j u, (flatE ys)[j]? = some u → w.cell? (ad.add j) = some u) (hlen : xs.length + m ≤ 100000) (hbase : base ≤ w.heap.size) (N : Nat) (hN : (xs ++ ys).length = N)
    (h : ∀ A c' w', OwnE w' base (.slice A N c') (xs ++ ys) → w.grownBy w' v.ownBlock → (∀ g, (Value.slice A N c').ownBlock = some g → v.ownBlock = some g ∨ w.heap.size ≤ g) → wpList Try.prog ops Q rest (a.put o.dst (.slice A N c')) w') :
    wpList Try.prog ops Q (o :: rest) a w := by
  refine wpList_step fun K hK => ?_
  exact step_append_ents hgd s x ho base v xs hs hown ad m c ys hx hm hc hlen hbase N hN (fun A c' w' a1 a2 a3 => hK _ _ (h A c' w' a1 a2 a3))

end Go.Proofs.Ytiipepiabeccpaa
