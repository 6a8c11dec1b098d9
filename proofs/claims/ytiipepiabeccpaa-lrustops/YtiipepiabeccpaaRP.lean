/-
  The document's list (the reference): a row of pairs that its calls make.
-/
import Derived.Test.YtiipepiabeccpaaLP
import Derived.Deep.AppendLies
import Derived.Deep.RegionLaw
import Derived.Maps.AppendAt
namespace Go.Proofs.Ytiipepiabeccpaa
open Go.RowKit
set_option linter.all false
attribute [local go_sem] Oper.semAt_some

theorem ks_yes {a b : List UInt8} (h : a = b) : ((str a).toList == (str b).toList) = true := by subst h; simp
theorem ks_no {a b : List UInt8} (h : a ≠ b) : ((str a).toList == (str b).toList) = false := by
  rw [ByteArray.toList_eq, ByteArray.toList_eq, str_list, str_list]; exact beq_eq_false_iff_ne.2 h
theorem ks_same {a b : List UInt8} (h : a = b) : ((str a).toList != (str b).toList) = false := by subst h; simp
theorem ks_unlike {a b : List UInt8} (h : a ≠ b) : ((str a).toList != (str b).toList) = true := by
  rw [ByteArray.toList_eq, ByteArray.toList_eq, str_list, str_list]; exact bne_iff_ne.2 h

abbrev KV := List UInt8 × Int
def flatP : List KV → List Value
  | [] => []
  | x :: r => .string (str x.1) :: .int .i64 x.2 :: flatP r
theorem flatP_len (l : List KV) : (flatP l).length = l.length * 2 := by
  induction l with
  | nil => rfl
  | cons x r ih => simp [flatP, ih]; omega
theorem flatP_app (a b : List KV) : flatP (a ++ b) = flatP a ++ flatP b := by
  induction a with
  | nil => rfl
  | cons x r ih => simp [flatP, ih]
theorem flatP_at : ∀ (l : List KV) (k : Nat) (x : KV), l[k]? = some x → (flatP l)[k * 2]? = some (.string (str x.1)) ∧ (flatP l)[k * 2 + 1]? = some (.int .i64 x.2)
  | [], k, x, h => by simp at h
  | y :: l, 0, x, h => by simp at h; subst h; simp [flatP]
  | y :: l, k + 1, x, h => by
    have := flatP_at l k x (by simpa using h)
    rw [show (k + 1) * 2 = k * 2 + 2 by omega]
    simpa [flatP] using this
theorem flatP_one : ∀ (l : List KV), ∀ u ∈ flatP l, u.oneCell' = true
  | [], u, h => by cases h
  | x :: r, u, h => by
    simp only [flatP, List.mem_cons] at h
    rcases h with rfl | rfl | h
    · rfl
    · rfl
    · exact flatP_one r u h
theorem infoP : (Try.prog.info? 45).map (fun i => (i.zero, i.size, i.bytes)) = some (some (.agg #[.string ⟨#[]⟩, .int .i64 0]), 2, 24) := by kernel_rfl
theorem infoP_parts : ∃ i0 : TypeInfo, Try.prog.info? 45 = some i0 ∧ i0.zero = some (.agg #[.string ⟨#[]⟩, .int .i64 0]) ∧ i0.size = 2 ∧ i0.bytes = 24 := by
  obtain ⟨i, h1, h2⟩ := Option.map_eq_some_iff.1 infoP
  simp only [Prod.mk.injEq] at h2
  exact ⟨i, h1, h2.1, h2.2.1, h2.2.2⟩

def OwnP (w : World) (base : Nat) (v : Value) (l : List KV) : Prop := w.ownsRow base 45 2 v l.length (flatP l)
theorem OwnP.move {w w' : World} {base : Nat} {v : Value} {l : List KV} (h : OwnP w base v l) (hm : ∀ g, v.ownBlock = some g → g < w.heap.size → w'.heap[g]? = w.heap[g]?) : OwnP w' base v l := by
  refine ⟨h.1, ?_⟩
  rcases h.2 with h0 | ⟨g, cap, cur, e, b0, h1, h2⟩
  · exact .inl h0
  · exact .inr ⟨g, cap, cur, e, b0, (hm g (by subst e; rfl) (Row.lt (t := 45) (cs := cur) h1)).trans h1, h2⟩
theorem OwnP.calm {w w' : World} {base : Nat} {v : Value} {l : List KV} (h : OwnP w base v l) (hc : Calm w w') : OwnP w' base v l := h.move (fun g _ hl => hc.block g hl (fun e => e))
theorem OwnP.made (w : World) : OwnP (w.alloc (.cells #[] 45)) w.heap.size (.slice (some ⟨w.heap.size, 0, none⟩) 0 0) [] := World.ownsRow_made w #[] 0 (Nat.le_refl _) (Nat.zero_le _) rfl
theorem OwnP.nil (w : World) (base : Nat) : OwnP w base (.slice none 0 0) [] := ⟨rfl, .inl ⟨rfl, rfl⟩⟩
theorem OwnP.form {w : World} {base : Nat} {v : Value} {l : List KV} (h : OwnP w base v l) : ∃ A c, v = .slice A l.length c := by
  rcases h.2 with ⟨e, h0⟩ | ⟨g, cap, cur, e, _⟩
  · exact ⟨none, 0, by rw [e, h0]⟩
  · exact ⟨_, cap, e⟩
theorem OwnP.some_ {w : World} {base : Nat} {v : Value} {l : List KV} (h : OwnP w base v l) (hl : l ≠ []) : ∃ g c, v = .slice (some ⟨g, 0, none⟩) l.length c ∧ l.length ≤ c ∧ c ≤ maxLen ∧ base ≤ g ∧ ∀ j u, (flatP l)[j]? = some u → w.cell? ⟨g, j, none⟩ = some u := by
  have hh := h
  rcases h.2 with ⟨e, h0⟩ | ⟨g, cap, cur, e, b0, h1, h2, h3, h4, h5⟩
  · exact absurd (List.eq_nil_of_length_eq_zero h0) hl
  · subst e
    refine ⟨g, cap, rfl, by omega, by omega, b0, fun j u hj => ?_⟩
    have := World.ownsRow.cells hh (g := g) rfl j u hj
    rwa [addr_mid, Nat.zero_add] at this
theorem OwnP.wider {w : World} {base base' : Nat} {v : Value} {l : List KV} (h : OwnP w base v l) (hb : base' ≤ base) : OwnP w base' v l := by
  refine ⟨h.1, ?_⟩
  rcases h.2 with h0 | ⟨g, cap, cur, e, b0, h1⟩
  · exact .inl h0
  · exact .inr ⟨g, cap, cur, e, Nat.le_trans hb b0, h1⟩
theorem OwnP.block {w : World} {base g : Nat} {v : Value} {l : List KV} (h : OwnP w base v l) (hg : v.ownBlock = some g) : base ≤ g ∧ g < w.heap.size := by
  rcases h.2 with ⟨e, _⟩ | ⟨g', cap, cur, e, b0, h1, _⟩
  · subst e; cases hg
  · subst e
    have hg : some g' = some g := hg
    injection hg with hg
    subst hg
    exact ⟨b0, Row.lt (t := 45) (cs := cur) h1⟩

/-- append(v, y...), y a piece of memory that is read. -/
theorem run_append_pairs (w : World) (ty : TypeId) (base : Nat) (v : Value) (xs : List KV) (hown : OwnP w base v xs) (ad : Addr) (m c : Nat) (ys : List KV) (hm : ys.length = m)
    (hc : ∀ j u, (flatP ys)[j]? = some u → w.cell? (ad.add j) = some u) (hlen : xs.length + m ≤ 100000) (hbase : base ≤ w.heap.size) :
    ∃ A c' w', (Builtin.append_ #[46, 46] ty #[v, .slice (some ad) m c]).run Try.prog w = .ok (.slice A (xs ++ ys).length c') w' ∧ OwnP w' base (.slice A (xs ++ ys).length c') (xs ++ ys) ∧ w.grownBy w' v.ownBlock ∧ (∀ g, (Value.slice A (xs ++ ys).length c').ownBlock = some g → v.ownBlock = some g ∨ w.heap.size ≤ g) := by
  subst hm
  obtain ⟨i0, hi0, hz0, hz1, hz2⟩ := infoP_parts
  obtain ⟨v', w', hr, h2, h3, _, h5⟩ := run_append_own_at (P := Try.prog) w base 46 ty 45 i0 _ 2 24 Try.underlying46 hi0 hz0 hz1 hz2 rfl (by decide) v xs.length (flatP xs) hown ad ys.length c (flatP ys) (flatP_len ys) hc (flatP_one ys) (by unfold maxLen; omega) (by omega) hbase
  have ho : OwnP w' base v' (xs ++ ys) := by
    unfold OwnP
    rw [flatP_app, List.length_append]
    exact h2
  obtain ⟨A, c', rfl⟩ := ho.form
  refine ⟨A, c', w', hr, ho, h3, fun g hg => ?_⟩
  rcases h5 with h5 | h5
  · exact .inl (h5 ▸ hg)
  · rw [h5] at hg; injection hg with hg; exact .inr (by omega)

/-- .. as a step of a region that draws its order. -/
theorem step_append_pairs {w : World} {ops : Array Oper} {o : Oper} {a : Act} {K : Act → World → Prop} {Q : Exit → Act → World → Prop} {E : Prop} (hgd : o.guard = none) (s x : Operand)
    (ho : o.op = .call { callee := .builtin .append, args := #[s, x], argTypes := #[46, 46] })
    (base : Nat) (v : Value) (xs : List KV) (hs : a.eval s = v) (hown : OwnP w base v xs) (ad : Addr) (m c : Nat) (ys : List KV) (hx : a.eval x = .slice (some ad) m c) (hm : ys.length = m)
    (hc : ∀ j u, (flatP ys)[j]? = some u → w.cell? (ad.add j) = some u) (hlen : xs.length + m ≤ 100000) (hbase : base ≤ w.heap.size) (N : Nat) (hN : (xs ++ ys).length = N)
    (h : ∀ A c' w', OwnP w' base (.slice A N c') (xs ++ ys) → w.grownBy w' v.ownBlock → (∀ g, (Value.slice A N c').ownBlock = some g → v.ownBlock = some g ∨ w.heap.size ≤ g) → K (a.put o.dst (.slice A N c')) w') :
    if Region.wanted o (yielded ops a.tmps) = true then Oper.wp Try.prog o a w K Q else E := by
  subst hN
  have hw : Region.wanted o (yielded ops a.tmps) = true := by simp [Region.wanted, hgd]
  rw [if_pos hw]
  obtain ⟨A, c', w', hr, h2, h3, h4⟩ := run_append_pairs w o.type base v xs hown ad m c ys hm hc hlen hbase
  unfold Oper.wp execOp
  simp only [ho, resolve, invoke, builtin, Sem.run_bind, Sem.run_pure, Result.andThen_ok, List.map_toArray, List.map_cons, List.map_nil, hs, hx, hr]
  exact h A c' w' h2 h3 h4
/-- .. in a plain region. -/
theorem list_append_pairs {w : World} {ops : Array Oper} {rest : List Oper} {o : Oper} {a : Act} {Q : Exit → Act → World → Prop} (hgd : o.guard = none) (s x : Operand)
    (ho : o.op = .call { callee := .builtin .append, args := #[s, x], argTypes := #[46, 46] })
    (base : Nat) (v : Value) (xs : List KV) (hs : a.eval s = v) (hown : OwnP w base v xs) (ad : Addr) (m c : Nat) (ys : List KV) (hx : a.eval x = .slice (some ad) m c) (hm : ys.length = m)
    (hc : ∀ j u, (flatP ys)[j]? = some u → w.cell? (ad.add j) = some u) (hlen : xs.length + m ≤ 100000) (hbase : base ≤ w.heap.size) (N : Nat) (hN : (xs ++ ys).length = N)
    (h : ∀ A c' w', OwnP w' base (.slice A N c') (xs ++ ys) → w.grownBy w' v.ownBlock → (∀ g, (Value.slice A N c').ownBlock = some g → v.ownBlock = some g ∨ w.heap.size ≤ g) → wpList Try.prog ops Q rest (a.put o.dst (.slice A N c')) w') :
    wpList Try.prog ops Q (o :: rest) a w := by
  refine wpList_step fun K hK => ?_
  exact step_append_pairs hgd s x ho base v xs hs hown ad m c ys hx hm hc hlen hbase N hN (fun A c' w' a1 a2 a3 => hK _ _ (h A c' w' a1 a2 a3))

/-- The document's list in memory. Q: where it lies. -/
structure RefIs (w : World) (Q : Nat → Prop) (d most : Nat) (L : List KV) : Prop where
  row : ∃ lv, Row w d 48 #[.int .i64 (most : Int), lv] ∧ OwnP w 0 lv L ∧ ∀ g, lv.ownBlock = some g → Q g
  qd : Q d
  lt : ∀ k, Q k → k < w.heap.size
  few : L.length ≤ 1101
  pos : 1 ≤ most
  top : most ≤ 1100
theorem RefIs.keep {w w' : World} {Q : Nat → Prop} {d most : Nat} {L : List KV} (h : RefIs w Q d most L) {P : Nat → Prop} (k : Keep P w w') (hP : ∀ i, Q i → ¬ P i) : RefIs w' Q d most L := by
  obtain ⟨⟨lv, h1, h2, h3⟩, h4, h5, h6, h7, h8⟩ := h
  exact ⟨⟨lv, h1.keep k (hP d h4), h2.move (fun g hg hl => k.block g hl (hP g (h3 g hg))), h3⟩, h4, fun i hi => Nat.lt_of_lt_of_le (h5 i hi) k.size, h6, h7, h8⟩
theorem RefIs.calm {w w' : World} {Q : Nat → Prop} {d most : Nat} {L : List KV} (h : RefIs w Q d most L) (k : Calm w w') : RefIs w' Q d most L := h.keep k (fun _ _ e => e)
/-- A new row is laid into the struct. -/
theorem RefIs.lay {w w' : World} {Q : Nat → Prop} {d most : Nat} {L L' : List KV} (h : RefIs w Q d most L) {P : Nat → Prop} (k : Keep P w w') (hPd : ¬ P d) (hPQ : ∀ i, P i → i < w.heap.size → Q i) {lv : Value} (ho : OwnP w' 0 lv L') (hl : L'.length ≤ 1101) (hb : ∀ g, lv.ownBlock = some g → Q g ∨ w.heap.size ≤ g) :
    ∃ Q', RefIs (w'.setCell ⟨d, 1, none⟩ lv) Q' d most L' ∧ Grow Q Q' w ∧ Keep Q w (w'.setCell ⟨d, 1, none⟩ lv) := by
  obtain ⟨⟨lv0, h1, h2, h3⟩, h4, h5, h6, h7, h8⟩ := h
  have hr := h1.keep k hPd
  have hdl := hr.lt
  refine ⟨fun i => Q i ∨ lv.ownBlock = some i, ⟨⟨lv, by simpa using hr.store 1 lv, ho.move (fun g hg hgl => Below.heap_setCell _ _ _ _ (fun e => ?_)), fun g hg => .inr hg⟩, .inl h4, ?_, hl, h7, h8⟩, fun i hi => hi.elim .inl (hb i), ?_⟩
  · have e' : g = d := e
    subst e'
    rcases ho.2 with ⟨e0, _⟩ | ⟨g', cap, cur, e1, _, e2, _⟩
    · rw [e0] at hg; cases hg
    · rw [e1] at hg
      have hg : some g' = some g := hg
      injection hg with hg
      subst hg
      exact Row.ne (t := 45) (cs := cur) e2 hr (by decide) rfl
  · rintro i (hi | hi)
    · simpa [World.setCell] using Nat.lt_of_lt_of_le (h5 i hi) k.size
    · simpa [World.setCell] using (ho.block hi).2
  · exact (k.mono (fun i hi hp => hPQ i hp hi)).store (fun _ => h4) _

set_option maxHeartbeats 1000000 in
theorem rnew_c (a : Int) (most : Nat) (hm : (if a < 1 then 1 else a) = (most : Int)) (hp : 1 ≤ most) (ht : most ≤ 1100) (w : World) :
    Calls Try.prog 23 #[.int .i64 a] w fun e w' => e = .returned (.pointer (some ⟨w.heap.size, 0, none⟩)) ∧ RefIs w' (fun i => i = w.heap.size) w.heap.size most [] ∧ Calm w w' := by
  have Hp := Lib.hid (show 1 ≤ most ∧ most ≤ 1100 from ⟨hp, ht⟩)
  clear hp ht
  go_enter Try.func23, Try.ntmps23
  go_wp2
  go_ret
  refine ⟨rfl, ⟨⟨.slice none 0 0, Row.made _ _ _, OwnP.nil _ _, fun g hg => by cases hg⟩, rfl, fun k hk => by subst hk; simp, by simp, Hp.out.1, Hp.out.2⟩, (Keep.refl _ w).alloc _⟩

set_option maxRecDepth 20000 in
set_option maxHeartbeats 1000000 in
theorem rfind_c {w : World} {Q : Nat → Prop} {d most : Nat} {L : List KV} (h : RefIs w Q d most L) (k : List UInt8) (r : Int)
    (hr : (∃ l1 v l2, L = l1 ++ (k, v) :: l2 ∧ k ∉ keysL l1 ∧ r = (l1.length : Int)) ∨ (k ∉ keysL L ∧ r = -1)) :
    Calls Try.prog 80 #[.pointer (some ⟨d, 0, none⟩), .string (str k)] w fun e w' => e = .returned (.int .i64 r) ∧ w = w' := by
  obtain ⟨⟨lv, h1, h2, h3⟩, _, _, h6, _, _⟩ := h
  obtain ⟨A, c, rfl⟩ := h2.form
  have c1 : w.cell? ⟨d, 1, none⟩ = some (.slice A L.length c) := (h1.cell 1).trans rfl
  have Hr := Lib.hid hr
  have H2 := Lib.hid h2
  clear hr h1 h2 h3
  go_enter Try.func80, Try.ntmps80
  go_wp2_with fail
  go_loopw [5] (fun i wr => ∃ j : Nat, j ≤ L.length ∧ i = .int .i64 (j : Int) ∧ wr = w ∧ k ∉ keysL (L.take j)) (fun i _ => L.length - (intOf i).toNat)
  case atStart => exact ⟨0, Nat.zero_le _, rfl, rfl, by simp [keysL]⟩
  case round =>
    obtain ⟨j, hj, rfl, rfl, hk⟩ := hrel
    have Hk := Lib.hid hk
    clear hk
    by_cases hlt : j < L.length
    · have hne : L ≠ [] := fun e => by rw [e] at hlt; simp at hlt
      obtain ⟨g, c', e, hc1, hc2, _, hcell⟩ := H2.out.some_ hne
      injection e with e1 e2 e3
      subst e1; subst e3
      obtain ⟨x, hx⟩ : ∃ x, L[j]? = some x := ⟨_, List.getElem?_eq_getElem hlt⟩
      have hx1 := hcell _ _ (flatP_at L j x hx).1
      have Hx := Lib.hid hx
      unfold maxLen at hc2
      clear hcell hne hx
      by_cases he : x.1 = k
      · have hq := ks_yes he
        have hres : Hid (r = (j : Int)) := Lib.hid (by
          have hsplit : L = L.take j ++ x :: L.drop (j + 1) := by
            have := Hx.out
            have hg : L[j] = x := by rw [List.getElem?_eq_getElem hlt] at this; injection this
            rw [← hg, List.getElem_cons_drop, List.take_append_drop]
          rcases Hr.out with ⟨l1, v, l2, e, hn, er⟩ | ⟨hn, _⟩
          · have hjl : l1.length = j := by
              rcases Nat.lt_trichotomy l1.length j with hlt1 | e1 | hlt1
              · exfalso
                apply Hk.out
                refine List.mem_map.2 ⟨(k, v), ?_, rfl⟩
                rw [e]
                rw [List.take_append]
                refine List.mem_append_right _ ?_
                rw [show j - l1.length = (j - l1.length - 1) + 1 by omega, List.take_succ_cons]
                simp
              · exact e1
              · exfalso
                apply hn
                refine List.mem_map.2 ⟨x, ?_, he⟩
                have := Hx.out
                rw [e, List.getElem?_append_left hlt1] at this
                exact List.mem_of_getElem? this
            omega
          · exact absurd (List.mem_map.2 ⟨x, List.mem_of_getElem? Hx.out, he⟩) hn)
        obtain rfl := hres.out
        clear hres Hr Hx Hk he
        go_wp2
        go_ret
        exact ⟨rfl, rfl⟩
      · have hq := ks_no he
        have Hk' : Hid (k ∉ keysL (L.take (j + 1))) := Lib.hid (by
          rw [List.take_add_one, Hx.out]
          unfold keysL
          rw [List.map_append, List.mem_append]
          rintro (hc | hc)
          · exact Hk.out hc
          · simp at hc; exact he hc.symm)
        clear Hx
        go_wp2
        go_roundw
        case rel => exact ⟨j + 1, by omega, by go_num, by trivial, Hk'.out⟩
        case measure => simp [intOf]; omega
    · obtain rfl : j = L.length := by omega
      have hres : Hid (r = -1) := Lib.hid (by
        have hk := Hk.out
        rw [List.take_length] at hk
        rcases Hr.out with ⟨l1, v, l2, e, hn, er⟩ | ⟨_, e⟩
        · exact absurd (by rw [e]; simp [keysL]) hk
        · exact e)
      obtain rfl := hres.out
      clear hres Hr Hk
      go_wp2
      go_ret
      exact ⟨rfl, rfl⟩
end Go.Proofs.Ytiipepiabeccpaa
