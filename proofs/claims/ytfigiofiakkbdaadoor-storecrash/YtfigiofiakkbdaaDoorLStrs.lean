/-
  Rows of strings that the call made.
-/
import Derived.Test.YtfigiofiakkbdaaDoorLStr
import Derived.Deep.AppendLies
namespace Go.Proofs.YtfigiofiakkbdaaDoor
open Go.RowKit
set_option linter.all false

def sv (b : List UInt8) : Value := .string (str b)
/-- A row of strings that the call made. -/
def Strs (w : World) (base : Nat) (v : Value) (out : List (List UInt8)) : Prop := w.ownsRow base 9 1 v out.length (out.map sv)
theorem Strs.calm {w w' : World} {base : Nat} {v : Value} {out : List (List UInt8)} (h : Strs w base v out) (hc : Calm w w') : Strs w' base v out := by
  refine ⟨h.1, ?_⟩
  rcases h.2 with h0 | ⟨g, cap, cur, e, b0, h1, h2⟩
  · exact .inl h0
  · exact .inr ⟨g, cap, cur, e, b0, Row.keep (t := 9) (cs := cur) h1 hc (fun e => e), h2⟩
theorem Strs.base_le {w : World} {base g n c : Nat} {out : List (List UInt8)} (h : Strs w base (.slice (some ⟨g, 0, none⟩) n c) out) : base ≤ g := by
  rcases h.2 with ⟨e, _⟩ | ⟨g', cap, cur, e, b0, _⟩
  · cases e
  · injection e with e1
    injection e1 with e1
    injection e1 with e1
    subst e1
    exact b0
theorem Strs.wider {w : World} {base base' : Nat} {v : Value} {out : List (List UInt8)} (h : Strs w base v out) (hb : base' ≤ base) : Strs w base' v out := by
  refine ⟨h.1, ?_⟩
  rcases h.2 with h0 | ⟨g, cap, cur, e, b0, h1⟩
  · exact .inl h0
  · exact .inr ⟨g, cap, cur, e, Nat.le_trans hb b0, h1⟩
theorem infoStr : (Tryd.prog.info? 9).map (fun i => (i.zero, i.size, i.bytes)) = some (some (.string ⟨#[]⟩), 1, 16) := by kernel_rfl
theorem info_partsS : ∃ i0 : TypeInfo, Tryd.prog.info? 9 = some i0 ∧ i0.zero = some (.string ⟨#[]⟩) ∧ i0.size = 1 ∧ i0.bytes = 16 := by
  obtain ⟨i, h1, h2⟩ := Option.map_eq_some_iff.1 infoStr
  simp only [Prod.mk.injEq] at h2
  exact ⟨i, h1, h2.1, h2.2.1, h2.2.2⟩
/-- out = append(out, b). -/
theorem append_strs {w : World} {ops : Array Oper} {rest : List Oper} {o : Oper} {a : Act} {Q : Exit → Act → World → Prop} (hgd : o.guard = none) (s x : Operand)
    (ho : o.op = .call { callee := .builtin .append, args := #[s, x], argTypes := #[45, 45] })
    (base g0 c0 : Nat) (out : List (List UInt8)) (b : List UInt8) (hs : a.eval s = .slice (some ⟨g0, 0, none⟩) out.length c0) (hown : Strs w base (.slice (some ⟨g0, 0, none⟩) out.length c0) out)
    (hx : a.eval x = .slice (some ⟨w.heap.size, 0, none⟩) 1 1) (hlen : out.length ≤ 1000000) (hbase : base ≤ w.heap.size)
    (h : ∀ g cap w', Strs w' base (.slice (some ⟨g, 0, none⟩) (out.length + 1) cap) (out ++ [b]) → (w.alloc (.cells #[sv b] 9)).grownBy w' (some g0) → wpList Tryd.prog ops Q rest (a.put o.dst (.slice (some ⟨g, 0, none⟩) (out.length + 1) cap)) w') :
    wpList Tryd.prog ops Q (o :: rest) a (w.alloc (.cells #[sv b] 9)) := by
  obtain ⟨i0, hi0, hz0, hz1, hz2⟩ := info_partsS
  have hc : Calm w (w.alloc (.cells #[sv b] 9)) := (Keep.refl _ w).alloc _
  refine wpList_append_lies _ hgd s x 45 ho base 9 i0 _ 1 16 Tryd.underlying45 hi0 hz0 hz1 hz2 rfl (by decide) _ _ _ hs (hown.calm hc) ⟨w.heap.size, 0, none⟩ 1 1 [sv b] hx rfl (fun j u hj => ?_) (fun u hu => by simp only [List.mem_singleton] at hu; subst hu; rfl) (by decide) (by unfold maxLen; omega) (by omega) (by simp; omega) _ rfl ?_
  · have hj0 : j = 0 := by have := (List.getElem?_eq_some_iff.1 hj).1; simpa using this
    subst hj0
    rw [addr_mid, (Row.made w 9 #[sv b]).cell]
    simpa using hj
  · intro g cap w' a1 a2 _ _
    exact h g cap w' (by simpa [Strs] using a1) a2
theorem Strs.made (w : World) : Strs (w.alloc (.cells #[] 9)) w.heap.size (.slice (some ⟨w.heap.size, 0, none⟩) 0 0) [] := World.ownsRow_made w #[] 0 (Nat.le_refl _) (Nat.zero_le _) rfl

end Go.Proofs.YtfigiofiakkbdaaDoor
