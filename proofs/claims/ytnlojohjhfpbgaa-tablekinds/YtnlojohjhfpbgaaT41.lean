/-
  Rows of strings that the call made: appended, outside and inside a round.
-/
import Derived.Test.YtnlojohjhfpbgaaT29
import Derived.Test.YtnlojohjhfpbgaaQW
import Derived.Sort.CutIn
namespace Go.Proofs.Ytnlojohjhfpbgaa
open Go.RowKit Go.Deep
set_option linter.all false
attribute [local go_sem] Oper.semAt_some

abbrev KS := List UInt8
def flatS (l : List KS) : List Value := l.map (fun k => .string (str k))
theorem flatS_len (l : List KS) : (flatS l).length = l.length * 1 := by simp [flatS]
theorem flatS_app (a b : List KS) : flatS (a ++ b) = flatS a ++ flatS b := by simp [flatS]
theorem flatS_at (l : List KS) (k : Nat) (x : KS) (h : l[k]? = some x) : (flatS l)[k]? = some (.string (str x)) := by simp [flatS, h]
theorem flatS_one (l : List KS) : ∀ u ∈ flatS l, u.oneCell' = true := by
  intro u h
  obtain ⟨x, _, rfl⟩ := List.mem_map.1 h
  rfl
theorem infoS10 : (Try.prog.info? 9).map (fun i => (i.zero, i.size, i.bytes)) = some (some (.string ⟨#[]⟩), 1, 16) := by kernel_rfl
theorem infoS10_parts : ∃ i0 : TypeInfo, Try.prog.info? 9 = some i0 ∧ i0.zero = some (.string ⟨#[]⟩) ∧ i0.size = 1 ∧ i0.bytes = 16 := by
  obtain ⟨i, h1, h2⟩ := Option.map_eq_some_iff.1 infoS10
  simp only [Prod.mk.injEq] at h2
  exact ⟨i, h1, h2.1, h2.2.1, h2.2.2⟩
def OwnS (w : World) (base : Nat) (v : Value) (l : List KS) : Prop := w.ownsRow base 9 1 v l.length (flatS l)
theorem OwnS.move {w w' : World} {base : Nat} {v : Value} {l : List KS} (h : OwnS w base v l) (hm : ∀ g, v.ownBlock = some g → g < w.heap.size → w'.heap[g]? = w.heap[g]?) : OwnS w' base v l := by
  refine ⟨h.1, ?_⟩
  rcases h.2 with h0 | ⟨g, cap, cur, e, b0, h1, h2⟩
  · exact .inl h0
  · exact .inr ⟨g, cap, cur, e, b0, (hm g (by subst e; rfl) (Row.lt (t := 9) (cs := cur) h1)).trans h1, h2⟩
theorem OwnS.calm {w w' : World} {base : Nat} {v : Value} {l : List KS} (h : OwnS w base v l) (hc : Calm w w') : OwnS w' base v l := h.move (fun g _ hl => hc.block g hl (fun e => e))
theorem OwnS.made (w : World) : OwnS (w.alloc (.cells #[] 9)) w.heap.size (.slice (some ⟨w.heap.size, 0, none⟩) 0 0) [] := World.ownsRow_made w #[] 0 (Nat.le_refl _) (Nat.zero_le _) rfl
theorem OwnS.nil (w : World) (base : Nat) : OwnS w base (.slice none 0 0) [] := ⟨rfl, .inl ⟨rfl, rfl⟩⟩
theorem OwnS.form {w : World} {base : Nat} {v : Value} {l : List KS} (h : OwnS w base v l) : ∃ A c, v = .slice A l.length c := by
  rcases h.2 with ⟨e, h0⟩ | ⟨g, cap, cur, e, _⟩
  · exact ⟨none, 0, by rw [e, h0]⟩
  · exact ⟨_, cap, e⟩
theorem OwnS.some_ {w : World} {base : Nat} {v : Value} {l : List KS} (h : OwnS w base v l) (hl : l ≠ []) : ∃ g c, v = .slice (some ⟨g, 0, none⟩) l.length c ∧ l.length ≤ c ∧ c ≤ maxLen ∧ base ≤ g ∧ ∀ j u, (flatS l)[j]? = some u → w.cell? ⟨g, j, none⟩ = some u := by
  have hh := h
  rcases h.2 with ⟨e, h0⟩ | ⟨g, cap, cur, e, b0, h1, h2, h3, h4, h5⟩
  · exact absurd (List.eq_nil_of_length_eq_zero h0) hl
  · subst e
    refine ⟨g, cap, rfl, by omega, by omega, b0, fun j u hj => ?_⟩
    have := World.ownsRow.cells hh (g := g) rfl j u hj
    rwa [addr_mid, Nat.zero_add] at this
theorem OwnS.wider {w : World} {base base' : Nat} {v : Value} {l : List KS} (h : OwnS w base v l) (hb : base' ≤ base) : OwnS w base' v l := by
  refine ⟨h.1, ?_⟩
  rcases h.2 with h0 | ⟨g, cap, cur, e, b0, h1⟩
  · exact .inl h0
  · exact .inr ⟨g, cap, cur, e, Nat.le_trans hb b0, h1⟩
theorem OwnS.block {w : World} {base g : Nat} {v : Value} {l : List KS} (h : OwnS w base v l) (hg : v.ownBlock = some g) : base ≤ g ∧ g < w.heap.size := by
  rcases h.2 with ⟨e, _⟩ | ⟨g', cap, cur, e, b0, h1, _⟩
  · subst e; cases hg
  · subst e
    have hg : some g' = some g := hg
    injection hg with hg
    subst hg
    exact ⟨b0, Row.lt (t := 9) (cs := cur) h1⟩

/-- append(v, y...), y a piece of memory that is read. -/
theorem run_append_strs9 (w : World) (ty : TypeId) (base : Nat) (v : Value) (xs : List KS) (hown : OwnS w base v xs) (ad : Addr) (m c : Nat) (ys : List KS) (hm : ys.length = m)
    (hc : ∀ j u, (flatS ys)[j]? = some u → w.cell? (ad.add j) = some u) (hlen : xs.length + m ≤ 100000) (hbase : base ≤ w.heap.size) :
    ∃ A c' w', (Builtin.append_ #[34, 34] ty #[v, .slice (some ad) m c]).run Try.prog w = .ok (.slice A (xs ++ ys).length c') w' ∧ OwnS w' base (.slice A (xs ++ ys).length c') (xs ++ ys) ∧ w.grownBy w' v.ownBlock ∧ (∀ g, (Value.slice A (xs ++ ys).length c').ownBlock = some g → v.ownBlock = some g ∨ w.heap.size ≤ g) := by
  subst hm
  obtain ⟨i0, hi0, hz0, hz1, hz2⟩ := infoS10_parts
  obtain ⟨v', w', hr, h2, h3, _, h5⟩ := run_append_own_at (P := Try.prog) w base 34 ty 9 i0 _ 1 16 Try.underlying34 hi0 hz0 hz1 hz2 rfl (by decide) v xs.length (flatS xs) hown ad ys.length c (flatS ys) (flatS_len ys) hc (flatS_one ys) (by unfold maxLen; omega) (by omega) hbase
  have ho : OwnS w' base v' (xs ++ ys) := by
    unfold OwnS
    rw [flatS_app, List.length_append]
    exact h2
  obtain ⟨A, c', rfl⟩ := ho.form
  refine ⟨A, c', w', hr, ho, h3, fun g hg => ?_⟩
  rcases h5 with h5 | h5
  · exact .inl (h5 ▸ hg)
  · rw [h5] at hg; injection hg with hg; exact .inr (by omega)

/-- .. as a step of a region that draws its order. -/
theorem step_append_strs9 {w : World} {ops : Array Oper} {o : Oper} {a : Act} {K : Act → World → Prop} {Q : Exit → Act → World → Prop} {E : Prop} (hgd : o.guard = none) (s x : Operand)
    (ho : o.op = .call { callee := .builtin .append, args := #[s, x], argTypes := #[34, 34] })
    (base : Nat) (v : Value) (xs : List KS) (hs : a.eval s = v) (hown : OwnS w base v xs) (ad : Addr) (m c : Nat) (ys : List KS) (hx : a.eval x = .slice (some ad) m c) (hm : ys.length = m)
    (hc : ∀ j u, (flatS ys)[j]? = some u → w.cell? (ad.add j) = some u) (hlen : xs.length + m ≤ 100000) (hbase : base ≤ w.heap.size) (N : Nat) (hN : (xs ++ ys).length = N)
    (h : ∀ A c' w', OwnS w' base (.slice A N c') (xs ++ ys) → w.grownBy w' v.ownBlock → (∀ g, (Value.slice A N c').ownBlock = some g → v.ownBlock = some g ∨ w.heap.size ≤ g) → K (a.put o.dst (.slice A N c')) w') :
    if Region.wanted o (yielded ops a.tmps) = true then Oper.wp Try.prog o a w K Q else E := by
  subst hN
  have hw : Region.wanted o (yielded ops a.tmps) = true := by simp [Region.wanted, hgd]
  rw [if_pos hw]
  obtain ⟨A, c', w', hr, h2, h3, h4⟩ := run_append_strs9 w o.type base v xs hown ad m c ys hm hc hlen hbase
  unfold Oper.wp execOp
  simp only [ho, resolve, invoke, builtin, Sem.run_bind, Sem.run_pure, Result.andThen_ok, List.map_toArray, List.map_cons, List.map_nil, hs, hx, hr]
  exact h A c' w' h2 h3 h4
/-- .. in a plain region. -/
theorem list_append_strs9 {w : World} {ops : Array Oper} {rest : List Oper} {o : Oper} {a : Act} {Q : Exit → Act → World → Prop} (hgd : o.guard = none) (s x : Operand)
    (ho : o.op = .call { callee := .builtin .append, args := #[s, x], argTypes := #[34, 34] })
    (base : Nat) (v : Value) (xs : List KS) (hs : a.eval s = v) (hown : OwnS w base v xs) (ad : Addr) (m c : Nat) (ys : List KS) (hx : a.eval x = .slice (some ad) m c) (hm : ys.length = m)
    (hc : ∀ j u, (flatS ys)[j]? = some u → w.cell? (ad.add j) = some u) (hlen : xs.length + m ≤ 100000) (hbase : base ≤ w.heap.size) (N : Nat) (hN : (xs ++ ys).length = N)
    (h : ∀ A c' w', OwnS w' base (.slice A N c') (xs ++ ys) → w.grownBy w' v.ownBlock → (∀ g, (Value.slice A N c').ownBlock = some g → v.ownBlock = some g ∨ w.heap.size ≤ g) → wpList Try.prog ops Q rest (a.put o.dst (.slice A N c')) w') :
    wpList Try.prog ops Q (o :: rest) a w := by
  refine wpList_step fun K hK => ?_
  exact step_append_strs9 hgd s x ho base v xs hs hown ad m c ys hx hm hc hlen hbase N hN (fun A c' w' a1 a2 a3 => hK _ _ (h A c' w' a1 a2 a3))

/-- append of entries, in a plain region of a round. -/
theorem round_append_strs9 {l n : Nat} {w : World} {ops : Array Oper} {rest : List Oper} {o : Oper} {a : Act} {Q : Exit → Act → World → Prop} (hgd : o.guard = none) (s x : Operand)
    (ho : o.op = .call { callee := .builtin .append, args := #[s, x], argTypes := #[34, 34] })
    (base : Nat) (v : Value) (xs : List KS) (hs : a.eval s = v) (hown : OwnS w base v xs) (ad : Addr) (m c : Nat) (ys : List KS) (hx : a.eval x = .slice (some ad) m c) (hm : ys.length = m)
    (hc : ∀ j u, (flatS ys)[j]? = some u → w.cell? (ad.add j) = some u) (hlen : xs.length + m ≤ 100000) (hbase : base ≤ w.heap.size) (N : Nat) (hN : (xs ++ ys).length = N)
    (h : ∀ A c' w', OwnS w' base (.slice A N c') (xs ++ ys) → w.grownBy w' v.ownBlock → (∀ g, (Value.slice A N c').ownBlock = some g → v.ownBlock = some g ∨ w.heap.size ≤ g) → wpListIn (Fence.wide.inRound l) n Try.prog ops Q rest (a.put o.dst (.slice A N c')) w') :
    wpListIn (Fence.wide.inRound l) n Try.prog ops Q (o :: rest) a w := by
  refine wpListIn_plain hgd fun K hK => ?_
  refine oper_inRound (fun c e => by rw [ho] at e; cases e) ?_
  have := step_append_strs9 (ops := ops) (K := K) (Q := Q) (E := False) hgd s x ho base v xs hs hown ad m c ys hx hm hc hlen hbase N hN (fun A c' w' a1 a2 a3 => hK _ _ (h A c' w' a1 a2 a3))
  rwa [if_pos (by simp [Region.wanted, hgd])] at this

theorem OwnS.isRow {w : World} {base g : Nat} {v : Value} {l : List KS} (h : OwnS w base v l) (hg : v.ownBlock = some g) {o : Obj} (ho : w.heap[g]? = some o) : o.isCells = true := by
  rcases h.2 with ⟨e0, _⟩ | ⟨g', cap, cur, e1, _, h1, _⟩
  · subst e0; cases hg
  · subst e1
    have hv : some g' = some g := hg
    injection hv with hv
    subst hv
    rw [h1] at ho
    injection ho with ho
    subst ho
    rfl
/-- Between two rounds: what was told lies in the row. -/
def SJ9 (w W5 : World) (T0 : Nat) (es : List KE) (pre : List {x // x ∈ es}) (W : World) : Prop :=
  Calm w W ∧ W5.heap.size ≤ W.heap.size ∧ ∃ v, W.cell? ⟨T0, 0, none⟩ = some v ∧ W.frozen? ⟨T0, 0, none⟩ = false ∧ OwnS W W5.heap.size v (pre.map (·.1.1))
theorem SJ9.own {w W5 : World} {T0 : Nat} {es : List KE} (hz : w.heap.size ≤ W5.heap.size) : OwnFrom W5.heap.size (SJ9 w W5 T0 es) := by
  rintro s A B row ⟨h2, h3, v, h7, h8, ho⟩ hg hr
  have hr' : ∀ r, row = some r → ∃ o : Obj, A.heap[r]? = some o ∧ o.isCells = false := fun r e => (hr r e).2
  refine ⟨calm_ownT h2 hz hg (fun r e => (hr r e).1), Nat.le_trans h3 hg.size, v, cell_kept h7 hg hr', (frozen_kept h7 hg hr').trans h8, ?_⟩
  refine ho.move (fun g hv hl => hg.block g hl (fun e => ?_))
  obtain ⟨_, o, h, hc⟩ := hr g e.symm
  rcases ho.2 with ⟨e0, _⟩ | ⟨g', cap, cur, e1, _, h1, _⟩
  · subst e0; cases hv
  · subst e1
    have hv : some g' = some g := hv
    injection hv with hv
    subst hv
    rw [h1] at h
    injection h with h
    subst h
    cases hc

theorem OwnS.notRow {w : World} {base g : Nat} {v : Value} {l : List KS} (h : OwnS w base v l) (hg : v.ownBlock = some g) {cs : Array Value} (hr : Row w g 72 cs) : False := by
  rcases h.2 with ⟨e0, _⟩ | ⟨g', cap, cur, e1, _, h1, _⟩
  · subst e0; cases hg
  · subst e1
    have hv : some g' = some g := hg
    injection hv with hv
    subst hv
    exact Row.ne (t := 9) (cs := cur) h1 hr (by decide) rfl
end Go.Proofs.Ytnlojohjhfpbgaa
