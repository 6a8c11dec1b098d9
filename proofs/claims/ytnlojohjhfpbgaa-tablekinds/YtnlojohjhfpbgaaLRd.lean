/-
  Slices of bytes that are read, rows of bytes that the call made; appending, making.
-/
import Derived.Test.YtnlojohjhfpbgaaLStr
import Derived.Laws.AppendOwnNone
import Derived.Deep.AppendLies
namespace Go.Proofs.Ytnlojohjhfpbgaa
open Go.RowKit
set_option linter.all false

theorem Bytes.nil_ (w : World) : Bytes w (fun _ => True) (.slice none 0 0) [] := ⟨none, 0, rfl, fun i b h => by simp at h⟩
/-- A slice of bytes that reads as a list: nil, or cells in memory. -/
def Rd (w : World) (v : Value) (bs : List UInt8) : Prop :=
  (v = .slice none 0 0 ∧ bs = []) ∨ ∃ (ad : Addr) (cap : Nat), v = .slice (some ad) bs.length cap ∧ bs.length ≤ cap ∧ cap ≤ maxLen ∧ ∀ (i : Nat) b, bs[i]? = some b → w.cell? (ad.add i) = some (bv b)
/-- A row of bytes that the call made, from its block's beginning. -/
def Own (w : World) (base : Nat) (v : Value) (bs : List UInt8) : Prop := w.ownsRow base 5 1 v bs.length (bs.map bv)

section
variable {w w' : World} {v : Value} {bs : List UInt8} {base : Nat}
theorem Rd.len (h : Rd w v bs) : bs.length ≤ maxLen := by
  rcases h with ⟨_, rfl⟩ | ⟨ad, cap, _, h1, h2, _⟩
  · exact Nat.zero_le _
  · omega
theorem Rd.bytes (h : Rd w v bs) : Bytes w (fun _ => True) v bs := by
  rcases h with ⟨rfl, rfl⟩ | ⟨ad, cap, rfl, h1, h2, h4⟩
  · exact Bytes.nil_ w
  · exact ⟨some ad, cap, rfl, fun i b hi => ⟨ad, rfl, trivial, by have := World.block_lt_of_cell? _ _ (h4 i b hi); rwa [Addr.add_block] at this, h4 i b hi⟩⟩
theorem Rd.calm (h : Rd w v bs) (hc : Calm w w') : Rd w' v bs := by
  rcases h with ⟨rfl, rfl⟩ | ⟨ad, cap, rfl, h1, h2, h4⟩
  · exact .inl ⟨rfl, rfl⟩
  · exact .inr ⟨ad, cap, rfl, h1, h2, fun i b hi => (hc.cell (p := ad.add i) (World.block_lt_of_cell? _ _ (h4 i b hi)) (fun e => e)).trans (h4 i b hi)⟩
theorem Rd.drew (h : Rd w v bs) : Rd w.drew v bs := h
theorem Rd.form (h : Rd w v bs) : ∃ A cap, v = .slice A bs.length cap ∧ bs.length ≤ cap ∧ cap ≤ maxLen := by
  rcases h with ⟨rfl, rfl⟩ | ⟨ad, cap, rfl, h1, h2, h4⟩
  · exact ⟨none, 0, rfl, Nat.zero_le _, Nat.zero_le _⟩
  · exact ⟨some ad, cap, rfl, h1, h2⟩
/-- v[:n]. -/
theorem Rd.cut {A : Option Addr} {cap : Nat} (h : Rd w (.slice A bs.length cap) bs) (n : Nat) (hn : n ≤ bs.length) : Rd w (.slice A n cap) (bs.take n) := by
  rcases h with ⟨e, rfl⟩ | ⟨ad, cap', e, h1, h2, h4⟩
  · injection e with e1 e2 e3
    simp at hn
    subst e1; subst e3; subst hn
    exact .inl ⟨rfl, rfl⟩
  · injection e with e1 e2 e3
    subst e1; subst e3
    refine .inr ⟨ad, cap, by rw [List.length_take, Nat.min_eq_left hn], by rw [List.length_take]; omega, h2, fun i b hi => ?_⟩
    rw [List.getElem?_take] at hi
    split at hi
    · exact h4 i b hi
    · simp at hi
theorem Own.rd (h : Own w base v bs) (hv : ∃ ad n c, v = .slice (some ad) n c) : Rd w v bs := by
  rcases h.2 with ⟨e, _⟩ | ⟨g, cap, cur, e, _, h1, h2, h3, h4, h5⟩
  · obtain ⟨ad, n, c, e'⟩ := hv
    rw [e'] at e; cases e
  · refine .inr ⟨⟨g, 0, none⟩, cap, e, h2, h3, fun i b hi => ?_⟩
    exact World.ownsRow.cells h (g := g) (by rw [e]; rfl) i (bv b) (by simp [hi])
theorem Own.moved {w'' : World} (h : Own w base v bs) (hc : Calm w w'') : Own w'' base v bs := by
  refine ⟨h.1, ?_⟩
  rcases h.2 with h0 | ⟨g, cap, cur, e, b0, h1, h2⟩
  · exact .inl h0
  · exact .inr ⟨g, cap, cur, e, b0, Row.keep (t := 5) (cs := cur) h1 hc (fun e => e), h2⟩
end
theorem conv_rd {w : World} {v : Value} {bs : List UInt8} (h : Rd w v bs) : Sem.run Try.prog (convert 22 9 v) w = .ok (.string (str bs)) w := by
  rcases h with ⟨rfl, rfl⟩ | ⟨ad, cap, rfl, h1, h2, h4⟩
  · have hs := Try.underlying22
    have hd := Try.underlying9
    have he := Try.underlying5
    simp [convert, run_underlying hs, run_underlying hd, run_underlying he, Conv.bytesToString]
    rfl
  · exact run_convert_bytes_back (P := Try.prog) w 22 9 5 ad cap bs Try.underlying22 Try.underlying5 Try.underlying9 (fun j hj => h4 j bs[j] (List.getElem?_eq_getElem hj))
theorem Own.made (w : World) : Own (w.alloc (.cells #[] 5)) w.heap.size (.slice (some ⟨w.heap.size, 0, none⟩) 0 0) [] := World.ownsRow_made w #[] 0 (Nat.le_refl _) (Nat.zero_le _) rfl
theorem bv_one (bs : List UInt8) : ∀ u ∈ bs.map bv, u.oneCell' = true := by
  intro u hu
  obtain ⟨b, _, rfl⟩ := List.mem_map.1 hu
  rfl
theorem info8 : (Try.prog.info? 5).map (fun i => (i.zero, i.size, i.bytes)) = some (some (.int .u8 0), 1, 1) := by kernel_rfl
theorem info_parts8 : ∃ i0 : TypeInfo, Try.prog.info? 5 = some i0 ∧ i0.zero = some (.int .u8 0) ∧ i0.size = 1 ∧ i0.bytes = 1 := by
  obtain ⟨i, h1, h2⟩ := Option.map_eq_some_iff.1 info8
  simp only [Prod.mk.injEq] at h2
  exact ⟨i, h1, h2.1, h2.2.1, h2.2.2⟩
/-- append(v, y...), v a row of the call's own that is not nil, y whatever is read. -/
theorem run_append_bytes (w : World) (ty : TypeId) (base g0 n0 c0 : Nat) (xs : List UInt8) (hown : Own w base (.slice (some ⟨g0, 0, none⟩) n0 c0) xs)
    (y : Value) (bs : List UInt8) (hb : Rd w y bs) (hlen : xs.length + bs.length ≤ 1000000000) (hbase : base ≤ w.heap.size) :
    ∃ g cap w', (Builtin.append_ #[22, 22] ty #[.slice (some ⟨g0, 0, none⟩) n0 c0, y]).run Try.prog w = .ok (.slice (some ⟨g, 0, none⟩) (xs.length + bs.length) cap) w' ∧
      Own w' base (.slice (some ⟨g, 0, none⟩) (xs.length + bs.length) cap) (xs ++ bs) ∧ w.grownBy w' (some g0) := by
  obtain ⟨i0, hi0, hz0, hz1, hz2⟩ := info_parts8
  have hn : n0 = xs.length := by
    rcases hown.2 with ⟨e, _⟩ | ⟨g, cap, cur, e, _⟩
    · cases e
    · injection e
  subst hn
  rcases hb with ⟨rfl, rfl⟩ | ⟨ad, cap, rfl, h1, h2, h4⟩
  · exact ⟨g0, c0, w, run_append_owned_none w base 22 ty 5 i0 1 Try.underlying22 hi0 _ _ _ hown, by simpa using hown, ⟨rfl, rfl, rfl, Nat.le_refl _, fun _ _ _ => rfl⟩⟩
  · obtain ⟨v', w', hr, a1, a2, a3⟩ := run_append_own (P := Try.prog) w base 22 ty 5 i0 _ 1 1 Try.underlying22 hi0 hz0 hz1 hz2 rfl (by decide) _ _ _ hown ad bs.length cap (bs.map bv) (by simp) (fun j u hj => by
      rw [List.getElem?_map, Option.map_eq_some_iff] at hj
      obtain ⟨b, hb1, rfl⟩ := hj
      exact h4 j b hb1) (bv_one bs) (by unfold maxLen; omega) (by omega) hbase
    rcases a1.2 with ⟨e, _⟩ | ⟨g, cap', cur, e, b1, b2, b3, b4, b5, b6⟩
    · have := (a3.1 e).1; cases this
    · subst e
      exact ⟨g, cap', w', hr, by simpa [Own] using a1, a2⟩
theorem append_own' {w : World} {ops : Array Oper} {rest : List Oper} {o : Oper} {a : Act} {Q : Exit → Act → World → Prop} (hgd : Region.wanted o (yielded ops a.tmps) = true) (s x : Operand)
    (ho : o.op = .call { callee := .builtin .append, args := #[s, x], argTypes := #[22, 22] })
    (base g0 n0 c0 : Nat) (xs : List UInt8) (hs : a.eval s = .slice (some ⟨g0, 0, none⟩) n0 c0) (hown : Own w base (.slice (some ⟨g0, 0, none⟩) n0 c0) xs)
    (y : Value) (bs : List UInt8) (hx : a.eval x = y) (hb : Rd w y bs) (hlen : xs.length + bs.length ≤ 1000000000) (hbase : base ≤ w.heap.size)
    (h : ∀ g cap w', Own w' base (.slice (some ⟨g, 0, none⟩) (xs.length + bs.length) cap) (xs ++ bs) → w.grownBy w' (some g0) → wpList Try.prog ops Q rest (a.put o.dst (.slice (some ⟨g, 0, none⟩) (xs.length + bs.length) cap)) w') : wpList Try.prog ops Q (o :: rest) a w := by
  refine wpList_step fun K hK => ?_
  rw [if_pos hgd]
  obtain ⟨g, cap, w', hr, h2, h3⟩ := run_append_bytes w o.type base g0 n0 c0 xs hown y bs hb hlen hbase
  unfold Oper.wp execOp
  simp only [ho, resolve, invoke, builtin, Sem.run_bind, Sem.run_pure, Result.andThen_ok, List.map_toArray, List.map_cons, List.map_nil, hs, hx, hr]
  exact hK _ _ (h g cap w' h2 h3)
theorem append_own {w : World} {ops : Array Oper} {rest : List Oper} {o : Oper} {a : Act} {Q : Exit → Act → World → Prop} (hgd : o.guard = none) (s x : Operand)
    (ho : o.op = .call { callee := .builtin .append, args := #[s, x], argTypes := #[22, 22] })
    (base g0 n0 c0 : Nat) (xs : List UInt8) (hs : a.eval s = .slice (some ⟨g0, 0, none⟩) n0 c0) (hown : Own w base (.slice (some ⟨g0, 0, none⟩) n0 c0) xs)
    (y : Value) (bs : List UInt8) (hx : a.eval x = y) (hb : Rd w y bs) (hlen : xs.length + bs.length ≤ 1000000000) (hbase : base ≤ w.heap.size)
    (h : ∀ g cap w', Own w' base (.slice (some ⟨g, 0, none⟩) (xs.length + bs.length) cap) (xs ++ bs) → w.grownBy w' (some g0) → wpList Try.prog ops Q rest (a.put o.dst (.slice (some ⟨g, 0, none⟩) (xs.length + bs.length) cap)) w') : wpList Try.prog ops Q (o :: rest) a w :=
  append_own' (by simp [Region.wanted, hgd]) s x ho base g0 n0 c0 xs hs hown y bs hx hb hlen hbase h

/-! make -/
def zeros8 (n : Nat) : Array Value := (List.replicate n (Value.int .u8 0)).toArray
theorem run_make8 (w : World) (n : Nat) (hn : n ≤ 1000000000) :
    Sem.run Try.prog (Instr.makeSlice 22 (.int .i64 (n : Int)) (.int .i64 (n : Int))) w = .ok (.slice (some ⟨w.heap.size, 0, none⟩) n n) (w.alloc (.cells (zeros8 n) 5)) := by
  obtain ⟨i, hi, hz0, hz1, hz2⟩ := info_parts8
  have hb' : (i.bytes : Int) * (n : Int) ≤ 281474976710656 := by rw [hz2]; omega
  have hr := run_make (P := Try.prog) w 22 5 i _ Try.underlying22 hi hz0 .i64 .i64 n n (by omega) (Int.le_refl _) hb' (by omega)
  have hm : madeCells (Value.int .u8 0).cells (n * 1) = zeros8 n := by
    apply Array.toList_inj.1
    show (madeCells #[Value.int .u8 0] (n * 1)).toList = _
    rw [toList_madeCells_one, Nat.mul_one]
    rfl
  simp only [Int.toNat_natCast, hz1] at hr
  rw [hr, hm]
theorem zeros8_bv (n : Nat) : (zeros8 n).toList = (List.replicate n (0 : UInt8)).map bv := by simp [zeros8, bv]
theorem Own.zeros (w : World) (n : Nat) (hn : n ≤ 1000000000) : Own (w.alloc (.cells (zeros8 n) 5)) w.heap.size (.slice (some ⟨w.heap.size, 0, none⟩) n n) (List.replicate n 0) := by
  refine ⟨by simp, .inr ⟨w.heap.size, n, zeros8 n, by simp, Nat.le_refl _, Row.made w _ _, by simp, by unfold maxLen; omega, by simp [zeros8], ?_⟩⟩
  rw [zeros8_bv]
  simp
/-- A literal's row. -/
theorem Rd.made (w : World) (bs : List UInt8) (n : Nat) (cs : Array Value) (hn : bs.length = n) (hcs : cs.toList = bs.map bv) (hl : n ≤ 1000000000) : Rd (w.alloc (.cells cs 5)) (.slice (some ⟨w.heap.size, 0, none⟩) n n) bs := by
  subst hn
  refine .inr ⟨_, _, rfl, Nat.le_refl _, by unfold maxLen; omega, fun i b hi => ?_⟩
  have ha : Addr.add ⟨w.heap.size, 0, none⟩ i = ⟨w.heap.size, i, none⟩ := by
    unfold Addr.add
    split <;> simp_all
  rw [ha, (Row.made w 5 cs).cell i]
  have : cs[i]? = cs.toList[i]? := by simp
  rw [this, hcs, List.getElem?_map, hi]
  rfl
theorem Own.form {w : World} {base : Nat} {g n c : Nat} {bs : List UInt8} (h : Own w base (.slice (some ⟨g, 0, none⟩) n c) bs) : ∃ cur, n = bs.length ∧ base ≤ g ∧ Row w g 5 cur ∧ n ≤ c ∧ c ≤ maxLen ∧ cur.size = c ∧ cur.toList.take n = bs.map bv := by
  rcases h.2 with ⟨e, _⟩ | ⟨g', cap', cur, e, b1, b2, b3, b4, b5, b6⟩
  · cases e
  · injection e with e1 e2 e3
    injection e1 with e1
    injection e1 with e1
    subst e1; subst e2; subst e3
    exact ⟨cur, rfl, b1, b2, b3, b4, by omega, by simpa using b6⟩
theorem Own.at_ {w : World} {base : Nat} {g n c : Nat} {bs : List UInt8} (h : Own w base (.slice (some ⟨g, 0, none⟩) n c) bs) (i : Nat) (hi : i < bs.length) : w.cell? ⟨g, i, none⟩ = some (.int .u8 (bs[i].toNat : Int)) ∧ w.frozen? ⟨g, i, none⟩ = false := by
  obtain ⟨cur, e, _, h1, h2, h3, h4, h5⟩ := h.form
  refine ⟨?_, h1.soft i⟩
  rw [h1.cell i]
  have : cur.toList[i]? = some (bv bs[i]) := by
    have e2 := congrArg (fun l => l[i]?) h5
    simp only [List.getElem?_take, if_pos (show i < n by omega), List.getElem?_map, List.getElem?_eq_getElem hi] at e2
    simpa using e2
  simpa [bv] using this
theorem Own.set {w : World} {base : Nat} {g n c : Nat} {bs : List UInt8} (h : Own w base (.slice (some ⟨g, 0, none⟩) n c) bs) (i : Nat) (hi : i < bs.length) (x : UInt8) : Own (w.setCell ⟨g, i, none⟩ (.int .u8 (x.toNat : Int))) base (.slice (some ⟨g, 0, none⟩) n c) (bs.set i x) := by
  obtain ⟨cur, rfl, hb, h1, h2, h3, h4, h5⟩ := h.form
  refine ⟨by simp, .inr ⟨g, c, cur.setIfInBounds i (bv x), by simp, hb, h1.store i (bv x), by simpa using h2, h3, by simpa using h4, ?_⟩⟩
  simp only [List.length_set, Nat.mul_one, Array.toList_setIfInBounds, List.map_set]
  rw [← h5, List.take_set]

theorem Rd.at_ {w w' : World} {A : Option Addr} {n cap : Nat} {bs : List UInt8} (h : Rd w (.slice A n cap) bs) (hc : Calm w w') (i : Nat) (hi : i < bs.length) : ∃ ad b, A = some ad ∧ bs[i]? = some b ∧ w'.cell? (ad.add i) = some (.int .u8 (b.toNat : Int)) := by
  rcases h.calm hc with ⟨_, rfl⟩ | ⟨ad, cap', e, h1, h2, h4⟩
  · simp at hi
  · injection e with e1
    exact ⟨ad, bs[i], e1, List.getElem?_eq_getElem hi, h4 i bs[i] (List.getElem?_eq_getElem hi)⟩
end Go.Proofs.Ytnlojohjhfpbgaa
