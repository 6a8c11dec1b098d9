/-
  Rows of strings that grow.
-/
import Derived.Test.YtfigiofiakkbdaaDoorLStrs
import Derived.Test.YtfigiofiakkbdaaDoorJB3
namespace Go.Proofs.YtfigiofiakkbdaaDoor
open Go.RowKit
set_option linter.all false

/-- own[k] = append(own[k], b): nil let in. -/
theorem append_strs0 {w : World} {ops : Array Oper} {rest : List Oper} {o : Oper} {a : Act} {Q : Exit → Act → World → Prop} (hgd : o.guard = none) (s x : Operand)
    (ho : o.op = .call { callee := .builtin .append, args := #[s, x], argTypes := #[45, 45] })
    (base : Nat) (A : Option Addr) (c0 : Nat) (out : List (List UInt8)) (b : List UInt8) (hs : a.eval s = .slice A out.length c0) (hown : Strs w base (.slice A out.length c0) out)
    (hx : a.eval x = .slice (some ⟨w.heap.size, 0, none⟩) 1 1) (hlen : out.length ≤ 1000000) (hbase : base ≤ w.heap.size)
    (h : ∀ g cap w', Strs w' base (.slice (some ⟨g, 0, none⟩) (out.length + 1) cap) (out ++ [b]) → Keep (fun k => (Value.slice A out.length c0).ownBlock = some k) w w' → ((Value.slice A out.length c0).ownBlock = some g ∨ w.heap.size ≤ g) → wpList Tryd.prog ops Q rest (a.put o.dst (.slice (some ⟨g, 0, none⟩) (out.length + 1) cap)) w') :
    wpList Tryd.prog ops Q (o :: rest) a (w.alloc (.cells #[sv b] 9)) := by
  obtain ⟨i0, hi0, hz0, hz1, hz2⟩ := info_partsS
  have hc : Calm w (w.alloc (.cells #[sv b] 9)) := (Keep.refl _ w).alloc _
  refine wpList_append_lies _ hgd s x 45 ho base 9 i0 _ 1 16 Tryd.underlying45 hi0 hz0 hz1 hz2 rfl (by decide) _ _ _ hs (hown.calm hc) ⟨w.heap.size, 0, none⟩ 1 1 [sv b] hx rfl (fun j u hj => ?_) (fun u hu => by simp only [List.mem_singleton] at hu; subst hu; rfl) (by decide) (by unfold maxLen; omega) (by omega) (by simp; omega) _ rfl ?_
  · have hj0 : j = 0 := by have := (List.getElem?_eq_some_iff.1 hj).1; simpa using this
    subst hj0
    rw [addr_mid, (Row.made w 9 #[sv b]).cell]
    simpa using hj
  · intro g cap w' a1 a2 a3 a4
    refine h g cap w' (by simpa [Strs] using a1) ((Calm.keep hc _).trans (grown_keep a2)) ?_
    rcases a3 with a3 | a3
    · exact .inl a3
    · exact .inr (by rw [a3]; simp)
theorem Strs.row {w : World} {base : Nat} {v : Value} {out : List (List UInt8)} (h : Strs w base v out) {g : Nat} (hg : v.ownBlock = some g) : base ≤ g ∧ ∃ cur, Row w g 9 cur := by
  rcases h.2 with ⟨e, _⟩ | ⟨g', cap, cur, e, b0, h1, _⟩
  · rw [e] at hg; simp [Value.ownBlock] at hg
  · rw [e] at hg
    have : g' = g := by simpa [Value.ownBlock] using hg
    subst this
    exact ⟨b0, cur, h1⟩
theorem Strs.keep {w w' : World} {base : Nat} {v : Value} {out : List (List UInt8)} {Q : Nat → Prop} (h : Strs w base v out) (k : Keep Q w w') (hQ : ∀ g, v.ownBlock = some g → ¬ Q g) : Strs w' base v out := by
  refine ⟨h.1, ?_⟩
  rcases h.2 with h0 | ⟨g, cap, cur, e, b0, h1, h2⟩
  · exact .inl h0
  · exact .inr ⟨g, cap, cur, e, b0, Row.keep (t := 9) (cs := cur) h1 k (hQ g (by rw [e]; rfl)), h2⟩
theorem Strs.form {w : World} {base : Nat} {v : Value} {out : List (List UInt8)} (h : Strs w base v out) : ∃ A c, v = .slice A out.length c := by
  rcases h.2 with ⟨e, h0⟩ | ⟨g, cap, cur, e, _⟩
  · exact ⟨none, 0, by rw [e, h0]⟩
  · exact ⟨_, cap, e⟩
theorem Strs.at_ {w : World} {base : Nat} {A : Option Addr} {n c : Nat} {out : List (List UInt8)} (h : Strs w base (.slice A n c) out) (i : Nat) (b : List UInt8) (hi : out[i]? = some b) : ∃ g, A = some ⟨g, 0, none⟩ ∧ w.cell? ⟨g, i, none⟩ = some (.string (str b)) := by
  have hlt : i < out.length := (List.getElem?_eq_some_iff.1 hi).1
  rcases h.2 with ⟨e, h0⟩ | ⟨g, cap, cur, e, _⟩
  · omega
  · injection e with e1 _ _
    refine ⟨g, e1, ?_⟩
    have := World.ownsRow.cells h (g := g) (by rw [e1]; rfl) i (sv b) (by simp [hi])
    rwa [addr_mid, Nat.zero_add] at this
theorem Strs.nil0 (w : World) (base : Nat) : Strs w base (.slice none 0 0) [] := World.ownsRow_nil _ _ _ _
end Go.Proofs.YtfigiofiakkbdaaDoor
