/-
  Appending to rows of instructions that the call made, nil let in on either side.
-/
import Derived.Test.YthmiiddojccafaaH9
import Derived.Test.YthmiiddojccafaaHP
namespace Go.Proofs.Ythmiiddojccafaa
open Go.RowKit
set_option linter.all false

theorem OwnI.nil (w : World) (base : Nat) : OwnI w base (.slice none 0 0) [] := ⟨rfl, .inl ⟨rfl, rfl⟩⟩
theorem OwnI.insN {w : World} {base : Nat} {v : Value} {l : List In} (h : OwnI w base v l) : Ins w v l := by
  rcases h.2 with ⟨e, h0⟩ | ⟨g, cap, cur, rfl, _⟩
  · exact .inl ⟨e, List.eq_nil_of_length_eq_zero h0⟩
  · exact h.ins
theorem OwnI.form {w : World} {base : Nat} {v : Value} {l : List In} (h : OwnI w base v l) : ∃ A c, v = .slice A l.length c ∧ l.length ≤ c := by
  rcases h.2 with ⟨e, h0⟩ | ⟨g, cap, cur, e, _, _, h2, _⟩
  · exact ⟨none, 0, by rw [e, h0], by omega⟩
  · exact ⟨_, cap, e, h2⟩
theorem OwnI.calm {w0 w w' : World} {base : Nat} {v : Value} {l : List In} (h : OwnI w base v l) (hc : Calm w0 w) (hb : w0.heap.size ≤ base) (hg : w.grownBy w' v.ownBlock) : Calm w0 w' := by
  refine hc.grown hg (fun k hk hlt => ?_)
  rcases h.2 with ⟨e, _⟩ | ⟨g, cap, cur, e, b0, _⟩
  · rw [e] at hk; cases hk
  · rw [e] at hk
    have hk : some g = some k := hk
    injection hk with hk
    omega
theorem run_append_insN (w : World) (ty : TypeId) (base : Nat) (v : Value) (xs : List In) (hown : OwnI w base v xs)
    (y : Value) (l : List In) (hb : Ins w y l) (hlen : xs.length + l.length ≤ 1000000) (hbase : base ≤ w.heap.size) :
    ∃ A c w', (Builtin.append_ #[22, 22] ty #[v, y]).run Try.prog w = .ok (.slice A (xs ++ l).length c) w' ∧ OwnI w' base (.slice A (xs ++ l).length c) (xs ++ l) ∧ w.grownBy w' v.ownBlock := by
  obtain ⟨i0, hi0, hz0, hz1, hz2⟩ := info_partsI
  have hb' := hb
  rcases hb with ⟨rfl, rfl⟩ | ⟨ad, cap, rfl, h1, h2, h4⟩
  · have hr := run_append_owned_none w base 22 ty 34 i0 5 Try.underlying22 hi0 _ _ _ hown
    obtain ⟨A, c, rfl, -⟩ := hown.form
    rw [List.append_nil]
    exact ⟨A, c, w, hr, hown, ⟨rfl, rfl, rfl, Nat.le_refl _, fun _ _ _ => rfl⟩⟩
  · obtain ⟨v', w', hr, a1, a2, a3⟩ := run_append_own (P := Try.prog) w base 22 ty 34 i0 _ 5 12 Try.underlying22 hi0 hz0 hz1 hz2 rfl (by decide) _ _ _ hown ad l.length cap (flat l) (flat_len l) (fun j u hj => hb'.cells j u hj) (flat_one l) (by unfold maxLen; omega) (by omega) hbase
    have ho : OwnI w' base v' (xs ++ l) := by
      unfold OwnI
      rw [flat_app, List.length_append]
      exact a1
    obtain ⟨A, c, rfl, -⟩ := ho.form
    exact ⟨A, c, w', hr, ho, a2⟩
theorem append_insN {w : World} {ops : Array Oper} {rest : List Oper} {o : Oper} {a : Act} {Q : Exit → Act → World → Prop} (hgd : Region.wanted o (yielded ops a.tmps) = true) (s x : Operand)
    (ho : o.op = .call { callee := .builtin .append, args := #[s, x], argTypes := #[22, 22] })
    (base : Nat) (v : Value) (xs : List In) (hs : a.eval s = v) (hown : OwnI w base v xs)
    (y : Value) (l : List In) (hx : a.eval x = y) (hb : Ins w y l) (hlen : xs.length + l.length ≤ 1000000) (hbase : base ≤ w.heap.size) (N : Nat) (hN : (xs ++ l).length = N)
    (h : ∀ A c w', OwnI w' base (.slice A N c) (xs ++ l) → w.grownBy w' v.ownBlock → wpList Try.prog ops Q rest (a.put o.dst (.slice A N c)) w') : wpList Try.prog ops Q (o :: rest) a w := by
  subst hN
  refine wpList_step fun K hK => ?_
  rw [if_pos hgd]
  obtain ⟨A, c, w', hr, h2, h3⟩ := run_append_insN w o.type base v xs hown y l hb hlen hbase
  unfold Oper.wp execOp
  simp only [ho, resolve, invoke, builtin, Sem.run_bind, Sem.run_pure, Result.andThen_ok, List.map_toArray, List.map_cons, List.map_nil, hs, hx, hr]
  exact hK _ _ (h A c w' h2 h3)
end Go.Proofs.Ythmiiddojccafaa
