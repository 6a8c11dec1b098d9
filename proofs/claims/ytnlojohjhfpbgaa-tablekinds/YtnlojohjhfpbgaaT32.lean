import Derived.Test.YtnlojohjhfpbgaaT29
import Derived.Test.YtnlojohjhfpbgaaQW
import Derived.Sort.CutIn
/-
  Tables: all the entries of an LRU.
-/
namespace Go.Proofs.Ytnlojohjhfpbgaa
open Go.RowKit Go.Deep Go.Shelf
set_option linter.all false
attribute [local go_sem] Oper.semAt_some

/-- append of entries, in a plain region of a round. -/
theorem round_append_ents {l n : Nat} {w : World} {ops : Array Oper} {rest : List Oper} {o : Oper} {a : Act} {Q : Exit → Act → World → Prop} (hgd : o.guard = none) (s x : Operand)
    (ho : o.op = .call { callee := .builtin .append, args := #[s, x], argTypes := #[133, 133] })
    (base : Nat) (v : Value) (xs : List KE) (hs : a.eval s = v) (hown : OwnE w base v xs) (ad : Addr) (m c : Nat) (ys : List KE) (hx : a.eval x = .slice (some ad) m c) (hm : ys.length = m)
    (hc : ∀ j u, (flatE ys)[j]? = some u → w.cell? (ad.add j) = some u) (hlen : xs.length + m ≤ 100000) (hbase : base ≤ w.heap.size) (N : Nat) (hN : (xs ++ ys).length = N)
    (h : ∀ A c' w', OwnE w' base (.slice A N c') (xs ++ ys) → w.grownBy w' v.ownBlock → (∀ g, (Value.slice A N c').ownBlock = some g → v.ownBlock = some g ∨ w.heap.size ≤ g) → wpListIn (Fence.wide.inRound l) n Try.prog ops Q rest (a.put o.dst (.slice A N c')) w') :
    wpListIn (Fence.wide.inRound l) n Try.prog ops Q (o :: rest) a w := by
  refine wpListIn_plain hgd fun K hK => ?_
  refine oper_inRound (fun c e => by rw [ho] at e; cases e) ?_
  have := step_append_ents (ops := ops) (K := K) (Q := Q) (E := False) hgd s x ho base v xs hs hown ad m c ys hx hm hc hlen hbase N hN (fun A c' w' a1 a2 a3 => hK _ _ (h A c' w' a1 a2 a3))
  rwa [if_pos (by simp [Region.wanted, hgd])] at this

theorem OwnE.isRow {w : World} {base g : Nat} {v : Value} {l : List KE} (h : OwnE w base v l) (hg : v.ownBlock = some g) {o : Obj} (ho : w.heap[g]? = some o) : o.isCells = true := by
  rcases h.2 with ⟨e0, _⟩ | ⟨g', cap, cur, e1, _, h1, _⟩
  · subst e0; cases hg
  · subst e1
    have hv : some g' = some g := hg
    injection hv with hv
    subst hv
    rw [h1] at ho
    injection ho with ho
    subst ho
    rfl
/-- Between two rounds: what was told lies in the row. -/
def EJ (w W5 : World) (T0 : Nat) (es : List KE) (pre : List {x // x ∈ es}) (W : World) : Prop :=
  Calm w W ∧ W5.heap.size ≤ W.heap.size ∧ ∃ v, W.cell? ⟨T0, 0, none⟩ = some v ∧ W.frozen? ⟨T0, 0, none⟩ = false ∧ OwnE W W5.heap.size v (pre.map (·.1))
theorem EJ.own {w W5 : World} {T0 : Nat} {es : List KE} (hz : w.heap.size ≤ W5.heap.size) : OwnFrom W5.heap.size (EJ w W5 T0 es) := by
  rintro s A B row ⟨h2, h3, v, h7, h8, ho⟩ hg hr
  have hr' : ∀ r, row = some r → ∃ o : Obj, A.heap[r]? = some o ∧ o.isCells = false := fun r e => (hr r e).2
  refine ⟨calm_ownT h2 hz hg (fun r e => (hr r e).1), Nat.le_trans h3 hg.size, v, cell_kept h7 hg hr', (frozen_kept h7 hg hr').trans h8, ?_⟩
  refine ho.move (fun g hv hl => hg.block g hl (fun e => ?_))
  obtain ⟨_, o, h, hc⟩ := hr g e.symm
  rcases ho.2 with ⟨e0, _⟩ | ⟨g', cap, cur, e1, _, h1, _⟩
  · subst e0; cases hv
  · subst e1
    have hv : some g' = some g := hv
    injection hv with hv
    subst hv
    rw [h1] at h
    injection h with h
    subst h
    cases hc

set_option maxRecDepth 100000 in
set_option maxHeartbeats 4000000 in
theorem all_lru_in {w : World} {b mx vl : Nat} {R : Nat → Prop} {kb : KB} (h : LruIs syT w R b mx (mapv (lv vl) kb)) (hl : kb.length ≤ 1100) :
    CallsIn Fence.wide 4 Try.prog 146 #[.agg #[.pointer (some ⟨b, 0, none⟩)]] w (AllIs w vl kb) := by
  have HH := Lib.hid h
  have HL := Lib.hid hl
  clear h hl
  refine callsIn_of_wp_marks Try.func146 rfl trivial ?_ rfl
  simp only [Try.ntmps146, List.size_toArray, List.length_cons, List.length_nil, Nat.reduceAdd, Nat.reduceSub, Array.replicate_succ, Array.replicate_zero, List.push_toArray, List.append_toArray, List.nil_append, List.cons_append]
  gi_wp2_with fail
  have A2 := Row.made (w.alloc (.cells #[.pointer (some ⟨b, 0, none⟩)] 147)) 133 #[.slice none 0 0]
  rw [World.size_alloc] at A2
  have hC : Calm w ((w.alloc (.cells #[.pointer (some ⟨b, 0, none⟩)] 147)).alloc (.cells #[.slice none 0 0] 133)) := ((Keep.refl _ w).alloc _).alloc _
  have hz : ((w.alloc (.cells #[.pointer (some ⟨b, 0, none⟩)] 147)).alloc (.cells #[.slice none 0 0] 133)).heap.size = w.heap.size + 2 := by simp
  generalize (w.alloc (.cells #[.pointer (some ⟨b, 0, none⟩)] 147)).alloc (.cells #[.slice none 0 0] 133) = W0 at *
  refine ⟨trivial, ?_⟩
  refine (callsIn_wide.2 (sy_all b W0)).mono ?_
  rintro e W5 ⟨rfl, hw5⟩
  have A1 := A2.alloc (.cells #[.pointer (some ⟨b, 0, none⟩)] 144)
  have A3 := Row.made W0 144 #[.pointer (some ⟨b, 0, none⟩)]
  have hC5 : Calm W0 (W0.alloc (.cells #[.pointer (some ⟨b, 0, none⟩)] 144)) := (Keep.refl _ W0).alloc _
  have hz5 : (W0.alloc (.cells #[.pointer (some ⟨b, 0, none⟩)] 144)).heap.size = w.heap.size + 3 := by simp [hz]
  rw [hw5] at A1 A3 hC5 hz5
  have s1 : W5.cell? ⟨w.heap.size + 1, 0, none⟩ = some (.slice none 0 0) := (A1.cell 0).trans rfl
  have s1f := A1.soft 0
  have s2 : W5.cell? ⟨W0.heap.size, 0, none⟩ = some (.pointer (some ⟨b, 0, none⟩)) := (A3.cell 0).trans rfl
  have hRl := HH.out.lt
  obtain ⟨m, nx, pv, D, es, hAt, hes, hle⟩ := HH.out.calm (hC.trans hC5)
  have HAt := Lib.hid hAt
  have Hes := Lib.hid hes
  have HC5 := Lib.hid (hC.trans hC5)
  have Hz := Lib.hid (And.intro hz hz5)
  have HRl := Lib.hid hRl
  clear hAt hes hle hC hC5 hz hz5 A1 A2 A3 hw5 hRl HH
  gi_wp2_with fail
  have hlen5 : (es.map (·.2)).length = kb.length := by rw [Hes.out]; simp [mapv]
  have HLn := Lib.hid hlen5
  clear hlen5
  refine wpIn_rangeFunc_ownG (F := Fence.wide) (α := {x // x ∈ es.map (·.2)}) rfl (by omega) (gf := 153) (lb := #[.pointer (some ⟨W0.heap.size, 0, none⟩)]) rfl trivial (enters_of Try.func153 (by kernel_rfl) rfl)
    (sy_stops (4 - 1) (by omega) W0.heap.size b m mx HAt.out (by have := Hz.out; omega) s2)
    (fun h k i hi => (k i hi).trans (h i hi)) (fun W l o o' hl _ _ _ k hk => World.putObj_heap_other (by
      have := Hz.out
      rcases hk with hk | hk
      · have := HRl.out k hk; omega
      · omega)) (Below.refl _ _) (fun _ => rfl)
    (EJ w W5 (w.heap.size + 1) (es.map (·.2))) (fun _ _ _ => False) (EJ.own (by have := Hz.out; omega)) (fun _ _ _ _ _ h _ _ => h)
    ⟨HC5.out, Nat.le_refl _, _, s1, s1f, OwnE.nil _ _⟩ (fun xe => { tmps := #[.agg #[.pointer (some ⟨b, 0, none⟩)], .pointer (some ⟨w.heap.size, 0, none⟩), .slice none 0 0, .pointer (some ⟨w.heap.size + 1, 0, none⟩), .string (str xe.1.1), .slice xe.1.2.1 xe.1.2.2.1 xe.1.2.2.2, .pointer (some ⟨w.heap.size, 0, none⟩), .pointer (some ⟨b, 0, none⟩), .func (.func 153) #[] #[.pointer (some ⟨W0.heap.size, 0, none⟩)], .string (str xe.1.1), .slice xe.1.2.1 xe.1.2.2.1 xe.1.2.2.2, undef, undef, undef, undef, undef, undef, undef], defers := [] }) ?assign ?body ?done ?stop
  case assign =>
    intro l x W K hK
    have HK := Lib.hid hK
    clear hK
    unfold sy_enc
    gi_wp2
    exact HK.out
  case stop =>
    rintro D c pre W hD _ hn hK
    exact hn.elim
  case body =>
    rintro l pre ⟨⟨xk, xA, xn, xc⟩, hx⟩ W ⟨p2, p3, v, t3, t3f, ho⟩ hlen
    obtain ⟨A, c, rfl⟩ := ho.form
    obtain ⟨N, hN⟩ : ∃ N, N = (pre.map (·.1)).length := ⟨_, rfl⟩
    rw [← hN] at ho t3
    have hNl : N ≤ 1100 := by
      have h1 := HLn.out
      have h2 := HL.out
      have h3 : pre.length < es.length := by simpa using hlen
      rw [hN, List.length_map]
      simp only [List.length_map] at h1
      omega
    have HN : Hid (∀ i u, (flatE [(xk, xA, xn, xc)])[i]? = some u → (W.alloc (.cells #[.string (str xk), .slice xA xn xc] 72)).cell? ((⟨W.heap.size, 0, none⟩ : Addr).add i) = some u) := Lib.hid (fun i u hi => by
      rw [addr_mid, Nat.zero_add, (Row.made W 72 #[.string (str xk), .slice xA xn xc]).cell]
      simpa [flatE] using hi)
    have hkA : Calm W (W.alloc (.cells #[.string (str xk), .slice xA xn xc] 72)) := (Keep.refl _ W).alloc _
    have HO2 := Lib.hid (ho.calm hkA)
    have HKA := Lib.hid hkA
    have HT : Hid (w.heap.size + 1 < W.heap.size ∧ W5.heap.size ≤ W.heap.size) := Lib.hid ⟨by have := Hz.out; omega, p3⟩
    have HX := Lib.hid (And.intro hN hNl)
    have P2 := Lib.hid p2
    have HTC := Lib.hid (And.intro t3 t3f)
    have HO := Lib.hid ho
    have STEP : ∀ (A2 : Option Addr) (c2 : Nat) (w2 : World), OwnE w2 W5.heap.size (.slice A2 (N + 1) c2) ((pre.map (·.1)) ++ [(xk, xA, xn, xc)]) → (W.alloc (.cells #[.string (str xk), .slice xA xn xc] 72)).grownBy w2 (Value.slice A N c).ownBlock →
        (w2.cell? ⟨w.heap.size + 1, 0, none⟩ = some (.slice A N c) ∧ w2.frozen? ⟨w.heap.size + 1, 0, none⟩ = false) ∧ Keep (fun i => (Value.slice A N c).ownBlock = some i) W w2 := by
      intro A2 c2 w2 _ hg
      have hK : Keep (fun i => (Value.slice A N c).ownBlock = some i) W w2 := (hkA.keep _).trans (keep_grownT hg)
      have hnd : ¬ (Value.slice A N c).ownBlock = some (w.heap.size + 1) := fun e => by have := (ho.block e).1; have := Hz.out; omega
      exact ⟨⟨(hK.cell (p := ⟨w.heap.size + 1, 0, none⟩) HT.out.1 hnd).trans t3, (hK.soft (p := ⟨w.heap.size + 1, 0, none⟩) HT.out.1 hnd).trans t3f⟩, hK⟩
    have HST := Lib.hid STEP
    clear ho hN hNl hkA p2 p3 hlen t3f STEP s1 s1f s2
    gi_wp2_with (gi_at_builtin; go_loud (refine round_append_ents rfl (.tmp 11) (.tmp 15) rfl W5.heap.size (.slice A N c) (pre.map (·.1)) rfl HO2.out ⟨W.heap.size, 0, none⟩ 1 1 [(xk, xA, xn, xc)] rfl rfl HN.out (by rw [← HX.out.1]; have := HX.out.2; omega) (Nat.le_trans HT.out.2 HKA.out.size) (N + 1) (by have := HX.out.1; simp at this ⊢; omega) ?_); intro A2 c2 w2 ho2 hg2 hb2; obtain ⟨⟨t4, t4f⟩, hk2⟩ := HST.out A2 c2 w2 ho2 hg2; have HO3 := Lib.hid ho2; have HK2 := Lib.hid hk2; clear ho2 hg2 hb2 hk2)
    have hT0 : w.heap.size + 1 < W5.heap.size := by have := Hz.out; omega
    have hrow : ∀ k, (Value.slice A N c).ownBlock = some k → W5.heap.size ≤ k := fun k e => (HO.out.block e).1
    have hs2 : (w2.setCell ⟨w.heap.size + 1, 0, none⟩ (.slice A2 (N + 1) c2)).heap.size = w2.heap.size := by simp [World.setCell]
    refine ⟨⟨by rw [hs2]; exact HK2.out.size, fun k o hB hk hc => ?_⟩, fun k hk => ?_, ?_⟩
    · refine (Below.heap_setCell _ _ _ _ (by show k ≠ w.heap.size + 1; omega)).trans ((HK2.out.block k (Array.getElem?_eq_some_iff.1 hk).1 (fun e => ?_)).trans hk)
      rw [HO.out.isRow e hk] at hc
      cases hc
    · have hk5 : k < W5.heap.size ∧ k ≠ w.heap.size + 1 := by
        have := Hz.out
        rcases hk with hk | hk
        · have := HRl.out k hk; omega
        · omega
      exact (Below.heap_setCell _ _ _ _ hk5.2).trans (HK2.out.block k (Nat.lt_of_lt_of_le hk5.1 HT.out.2) (fun e => by have := hrow k e; omega))
    · refine ⟨(P2.out.then_ HK2.out (fun i hi e => by have := hrow i e; omega)).store (p := ⟨w.heap.size + 1, 0, none⟩) (fun h => by have h' : w.heap.size + 1 < w.heap.size := h; omega) _, by rw [hs2]; exact Nat.le_trans HT.out.2 HK2.out.size, _, World.cell?_setCell_same' _ _ _ (by rw [t4]; rfl), (World.frozen?_setCell _ _ _ _).trans t4f, ?_⟩
      rw [List.map_append]
      refine (show OwnE _ _ (.slice A2 (N + 1) c2) _ from HO3.out.move (fun g hv hl => Below.heap_setCell _ _ _ _ ?_))
      have := (HO3.out.block hv).1
      show g ≠ w.heap.size + 1
      omega
  case done =>
    rintro D ys W hD rfl ⟨p2, p3, v, t3, t3f, ho⟩ hK
    have HO := Lib.hid ho
    have P2 := Lib.hid p2
    have HK := Lib.hid hK
    have HDl : Hid (w.heap.size ≤ D) := Lib.hid (by have := Hz.out; omega)
    clear ho p2 p3 hK s1 s1f s2
    gi_wp2
    refine ⟨by simp, .inl ⟨_, _, rfl, run_takeDeferred HK.out, ?_⟩⟩
    refine ⟨v, by simp [results, Try.f146, go_sem], v, rfl, ?_, calm_putT P2.out HDl.out _⟩
    have e : (es.map (·.2)).attach.map (·.1) = kes vl kb := by rw [List.attach_map_subtype_val]; exact Hes.out
    rw [← e]
    refine OwnE.wider (HO.out.move (fun g hv hl => World.putObj_heap_other (fun e => ?_))) (by have := Hz.out; omega)
    subst e
    have := HO.out.isRow hv HK.out
    cases this
theorem all_lru {w : World} {b mx vl : Nat} {R : Nat → Prop} {kb : KB} (h : LruIs syT w R b mx (mapv (lv vl) kb)) (hl : kb.length ≤ 1100) :
    Calls Try.prog 146 #[.agg #[.pointer (some ⟨b, 0, none⟩)]] w (AllIs w vl kb) := callsIn_wide.1 (all_lru_in h hl)
end Go.Proofs.Ytnlojohjhfpbgaa

/-
  Tables: a range over an LRU.
-/
namespace Go.Proofs.Ytnlojohjhfpbgaa
open Go.RowKit Go.Deep Go.Shelf
set_option linter.all false

/-- As tab_allnow, of an LRU. -/
theorem tab_allnow3 {w0 w : World} {S : Nat → Prop} {tb : Nat} {q : MN} {E : List Ent} (h : Tab w0 w S tb q E) (hk : q.kind = 3) : ∃ ev, w.cell? ⟨tb, 5, none⟩ = some ev ∧ tb < w.heap.size ∧ ∀ W, Below w.heap.size w W → AllNow ev (rows q.val E) W := by
  obtain ⟨R, h1, _, _, _⟩ := h
  obtain ⟨ev, hr, hK⟩ := h1.top
  refine ⟨ev, (hr.cell 5).trans rfl, hr.lt, fun W hW => ?_⟩
  cases hK with
  | arr A hkd => omega
  | hash b D hkd => omega
  | lru b tb' R0 hkd hR hL =>
    refine ⟨_, _, _, rfl, m_rk_all _, cf_rk_all, (all_lru (hL.calm (below_calm hW)) ?_).mono ?_⟩
    · have h2 := h1.few
      have h3 := h1.ok.max.2
      simp only [kbs, mapv, List.length_map]
      omega
    · rintro e w' ⟨v, rfl, ho, hc⟩
      exact ⟨v, rfl, ho, calm_grown hc⟩
end Go.Proofs.Ytnlojohjhfpbgaa

