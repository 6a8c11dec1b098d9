/-
  Rows of instructions that the call made; appending.
-/
import Derived.Test.YthmiiddojccafaaI9
namespace Go.Proofs.Ythmiiddojccafaa
open Go.RowKit
set_option linter.all false

def flat : List In → List Value
  | [] => []
  | i :: r => i.vs ++ flat r
theorem flat_len (l : List In) : (flat l).length = l.length * 5 := by
  induction l with
  | nil => rfl
  | cons i r ih => simp [flat, In.vs, ih]; omega
theorem flat_app (a b : List In) : flat (a ++ b) = flat a ++ flat b := by
  induction a with
  | nil => rfl
  | cons i r ih => simp [flat, ih]
theorem flat_at : ∀ (l : List In) (k r : Nat) (i : In), r < 5 → l[k]? = some i → (flat l)[k * 5 + r]? = i.vs[r]?
  | [], k, r, i, hr, h => by simp at h
  | j :: l, 0, r, i, hr, h => by
    simp at h
    subst h
    show (j.vs ++ flat l)[0 * 5 + r]? = _
    rw [Nat.zero_mul, Nat.zero_add, List.getElem?_append_left (by simp [In.vs]; omega)]
  | j :: l, k + 1, r, i, hr, h => by
    show (j.vs ++ flat l)[(k + 1) * 5 + r]? = _
    have hl : j.vs.length = 5 := rfl
    rw [List.getElem?_append_right (by rw [hl]; omega), hl, show (k + 1) * 5 + r - 5 = k * 5 + r by omega]
    exact flat_at l k r i hr (by simpa using h)
theorem flat_one : ∀ (l : List In), ∀ u ∈ flat l, u.oneCell' = true
  | [], u, h => by cases h
  | i :: r, u, h => by
    rcases List.mem_append.1 h with h | h
    · simp [In.vs] at h
      rcases h with rfl | rfl | rfl | rfl | rfl <;> rfl
    · exact flat_one r u h
theorem add_add (ad : Addr) (i r : Nat) : (ad.add i).add r = ad.add (i + r) := by
  rcases Nat.eq_zero_or_pos r with h | h
  · subst h; rfl
  · rw [← add_off ad i r h]
    unfold Addr.add
    rw [if_neg (by omega)]
/-- The cells of a row that is read. -/
theorem Ins.cells {w : World} {ad : Addr} {n cap : Nat} {l : List In} (h : Ins w (.slice (some ad) n cap) l) (j : Nat) (u : Value) (hj : (flat l)[j]? = some u) : w.cell? (ad.add j) = some u := by
  rcases h with ⟨e, _⟩ | ⟨ad', cap', e, h1, h2, h4⟩
  · cases e
  · injection e with e1 e2 e3
    injection e1 with e1
    subst e1
    have hlt : j < l.length * 5 := by have := (List.getElem?_eq_some_iff.1 hj).1; rwa [flat_len] at this
    have hk : j / 5 < l.length := by omega
    have hx : l[j / 5]? = some l[j / 5] := List.getElem?_eq_getElem hk
    have hj' : j = j / 5 * 5 + j % 5 := by omega
    have ha := h4 (j / 5) _ hx
    have hf := flat_at l (j / 5) (j % 5) _ (Nat.mod_lt _ (by decide)) hx
    rw [← hj', hj] at hf
    have hr : j % 5 = 0 ∨ j % 5 = 1 ∨ j % 5 = 2 ∨ j % 5 = 3 ∨ j % 5 = 4 := by omega
    have key : ∀ r, j % 5 = r → w.cell? ((ad.add (j / 5 * 5)).add r) = (l[j / 5].vs)[r]? := by
      intro r hr'
      have h5 : r < 5 := by omega
      rcases hr with hr | hr | hr | hr | hr <;> (rw [hr] at hr'; subst hr')
      · exact ha.c0
      · exact ha.c1
      · exact ha.c2
      · exact ha.c3
      · exact ha.c4
    have := key (j % 5) rfl
    rw [add_add, ← hj', ← hf] at this
    exact this
def OwnI (w : World) (base : Nat) (v : Value) (l : List In) : Prop := w.ownsRow base 34 5 v l.length (flat l)
theorem OwnI.moved {w w'' : World} {base : Nat} {v : Value} {l : List In} (h : OwnI w base v l) (hc : Calm w w'') : OwnI w'' base v l := by
  refine ⟨h.1, ?_⟩
  rcases h.2 with h0 | ⟨g, cap, cur, e, b0, h1, h2⟩
  · exact .inl h0
  · exact .inr ⟨g, cap, cur, e, b0, Row.keep (t := 34) (cs := cur) h1 hc (fun e => e), h2⟩
theorem OwnI.ins {w : World} {base g n c : Nat} {l : List In} (h : OwnI w base (.slice (some ⟨g, 0, none⟩) n c) l) : Ins w (.slice (some ⟨g, 0, none⟩) n c) l := by
  rcases h.2 with ⟨e, _⟩ | ⟨g', cap, cur, e, _, h1, h2, h3, h4, h5⟩
  · cases e
  · injection e with e1 e2 e3
    injection e1 with e1
    injection e1 with e1
    subst e1
    have key : ∀ (k : Nat) i, l[k]? = some i → ∀ r, r < 5 → w.cell? ⟨g, k * 5 + r, none⟩ = i.vs[r]? := fun k i hk r hr => by
      have hf := flat_at l k r i hr hk
      have hv : (i.vs)[r]? = some ((i.vs)[r]'(by simp [In.vs]; omega)) := List.getElem?_eq_getElem _
      rw [hv] at hf ⊢
      have := World.ownsRow.cells h (g := g) rfl (k * 5 + r) _ hf
      rwa [addr_mid, Nat.zero_add] at this
    refine .inr ⟨⟨g, 0, none⟩, c, by rw [e2], by omega, by omega, fun k i hk => ?_⟩
    rw [addr_mid, Nat.zero_add]
    exact ⟨key k i hk 0 (by decide), key k i hk 1 (by decide), key k i hk 2 (by decide), key k i hk 3 (by decide), key k i hk 4 (by decide)⟩
theorem OwnI.low {w : World} {base g n c : Nat} {l : List In} (h : OwnI w base (.slice (some ⟨g, 0, none⟩) n c) l) : base ≤ g ∧ n = l.length := by
  rcases h.2 with ⟨e, _⟩ | ⟨g', cap, cur, e, h0, h1⟩
  · cases e
  · injection e with e1 e2 e3
    injection e1 with e1
    injection e1 with e1
    subst e1
    exact ⟨h0, e2⟩
theorem Ins.made1 (w : World) (x : In) : Ins (w.alloc (.cells #[.int .u8 (x.op : Int), .int .u8 (x.dst : Int), .int .u8 (x.src : Int), .int .i16 x.off, .int .i32 x.imm] 34)) (.slice (some ⟨w.heap.size, 0, none⟩) 1 1) [x] := by
  have h := Row.made w 34 #[.int .u8 (x.op : Int), .int .u8 (x.dst : Int), .int .u8 (x.src : Int), .int .i16 x.off, .int .i32 x.imm]
  refine .inr ⟨⟨w.heap.size, 0, none⟩, 1, rfl, Nat.le_refl _, by unfold maxLen; decide, fun k i hk => ?_⟩
  match k, hk with
  | 0, hk => cases hk; exact ⟨h.cell 0, h.cell 1, h.cell 2, h.cell 3, h.cell 4⟩
theorem OwnI.made (w : World) : OwnI (w.alloc (.cells #[] 34)) w.heap.size (.slice (some ⟨w.heap.size, 0, none⟩) 0 0) [] := World.ownsRow_made w #[] 0 (Nat.le_refl _) (Nat.zero_le _) rfl
/-- append(v, y...), v a row of the call's own that is not nil, y whatever is read. -/
theorem run_append_ins (w : World) (ty : TypeId) (base g0 n0 c0 : Nat) (xs : List In) (hown : OwnI w base (.slice (some ⟨g0, 0, none⟩) n0 c0) xs)
    (y : Value) (l : List In) (hb : Ins w y l) (hlen : xs.length + l.length ≤ 1000000) (hbase : base ≤ w.heap.size) :
    ∃ g cap w', (Builtin.append_ #[22, 22] ty #[.slice (some ⟨g0, 0, none⟩) n0 c0, y]).run Try.prog w = .ok (.slice (some ⟨g, 0, none⟩) (xs.length + l.length) cap) w' ∧
      OwnI w' base (.slice (some ⟨g, 0, none⟩) (xs.length + l.length) cap) (xs ++ l) ∧ w.grownBy w' (some g0) := by
  obtain ⟨i0, hi0, hz0, hz1, hz2⟩ := info_partsI
  have hn : n0 = xs.length := hown.low.2
  subst hn
  have hb' := hb
  rcases hb with ⟨rfl, rfl⟩ | ⟨ad, cap, rfl, h1, h2, h4⟩
  · exact ⟨g0, c0, w, run_append_owned_none w base 22 ty 34 i0 5 Try.underlying22 hi0 _ _ _ hown, by simpa using hown, ⟨rfl, rfl, rfl, Nat.le_refl _, fun _ _ _ => rfl⟩⟩
  · obtain ⟨v', w', hr, a1, a2, a3⟩ := run_append_own (P := Try.prog) w base 22 ty 34 i0 _ 5 12 Try.underlying22 hi0 hz0 hz1 hz2 rfl (by decide) _ _ _ hown ad l.length cap (flat l) (flat_len l) (fun j u hj => hb'.cells j u hj) (flat_one l) (by unfold maxLen; omega) (by omega) hbase
    rcases a1.2 with ⟨e, _⟩ | ⟨g, cap', cur, e, b1, b2, b3, b4, b5, b6⟩
    · have := (a3.1 e).1; cases this
    · subst e
      refine ⟨g, cap', w', hr, ?_, a2⟩
      unfold OwnI
      rw [flat_app, List.length_append]
      exact a1
theorem append_ins {w : World} {ops : Array Oper} {rest : List Oper} {o : Oper} {a : Act} {Q : Exit → Act → World → Prop} (hgd : Region.wanted o (yielded ops a.tmps) = true) (s x : Operand)
    (ho : o.op = .call { callee := .builtin .append, args := #[s, x], argTypes := #[22, 22] })
    (base g0 n0 c0 : Nat) (xs : List In) (hs : a.eval s = .slice (some ⟨g0, 0, none⟩) n0 c0) (hown : OwnI w base (.slice (some ⟨g0, 0, none⟩) n0 c0) xs)
    (y : Value) (l : List In) (hx : a.eval x = y) (hb : Ins w y l) (hlen : xs.length + l.length ≤ 1000000) (hbase : base ≤ w.heap.size)
    (h : ∀ g cap w', OwnI w' base (.slice (some ⟨g, 0, none⟩) (xs.length + l.length) cap) (xs ++ l) → w.grownBy w' (some g0) → wpList Try.prog ops Q rest (a.put o.dst (.slice (some ⟨g, 0, none⟩) (xs.length + l.length) cap)) w') : wpList Try.prog ops Q (o :: rest) a w := by
  refine wpList_step fun K hK => ?_
  rw [if_pos hgd]
  obtain ⟨g, cap, w', hr, h2, h3⟩ := run_append_ins w o.type base g0 n0 c0 xs hown y l hb hlen hbase
  unfold Oper.wp execOp
  simp only [ho, resolve, invoke, builtin, Sem.run_bind, Sem.run_pure, Result.andThen_ok, List.map_toArray, List.map_cons, List.map_nil, hs, hx, hr]
  exact hK _ _ (h g cap w' h2 h3)
end Go.Proofs.Ythmiiddojccafaa
