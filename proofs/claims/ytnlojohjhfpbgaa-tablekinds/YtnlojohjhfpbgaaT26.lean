import Derived.Test.YtnlojohjhfpbgaaT23
import Derived.Test.YtnlojohjhfpbgaaLsy5
import Derived.BigFrameIn
/-
  Tables: All, and the iterator that it hands back.
-/
namespace Go.Proofs.Ytnlojohjhfpbgaa
open Go.RowKit Go.Deep Go.Shelf
set_option linter.all false
attribute [local go_sem] Oper.semAt_some

/-- What a round of the iterator must leave as it is: rows of entries. -/
def TKp (n0 : Nat) (W W' : World) : Prop := ∀ g cs, n0 ≤ g → Row W g 72 cs → Row W' g 72 cs
noncomputable def encE (L : List KE) (x : {x // x ∈ L}) : Array Value := #[.string (str x.1.1), .slice x.1.2.1 x.1.2.2.1 x.1.2.2.2]

theorem tall_c (tb : Nat) (w : World) : Calls Try.prog 37 #[.pointer (some ⟨tb, 0, none⟩)] w fun e w' => e = .returned (.func (.func 62) #[] #[.pointer (some ⟨w.heap.size, 0, none⟩)]) ∧ w.alloc (.cells #[.pointer (some ⟨tb, 0, none⟩)] 54) = w' := by
  have hmf : ∀ (fn : Fn) (first cap : Array Value) (w : World), (Instr.makeFunc fn first cap).run Try.prog w = .ok (.func fn first cap) w := fun _ _ _ _ => rfl
  go_enter Try.func37, Try.ntmps37
  go_wp2
  go_ret
  exact ⟨rfl, rfl⟩

theorem OwnE.rows {w : World} {base : Nat} {v : Value} {es : List KE} (h : OwnE w base v es) : ∃ A cap g cur, v = .slice A es.length cap ∧ (0 < es.length → A = some ⟨g, 0, none⟩ ∧ base ≤ g ∧ Row w g 72 cur ∧ (∀ (j : Nat) (x : KE), es[j]? = some x → cur[j * 2]? = some (.string (str x.1)) ∧ cur[j * 2 + 1]? = some (.slice x.2.1 x.2.2.1 x.2.2.2))) := by
  rcases h.2 with ⟨rfl, h0⟩ | ⟨g, cap, cur, rfl, h1, h2, h3, h4, h5, h6⟩
  · exact ⟨none, 0, 0, #[], by rw [h0], fun hp => by omega⟩
  · refine ⟨_, cap, g, cur, rfl, fun _ => ⟨rfl, h1, h2, fun j x hx => ?_⟩⟩
    have hj : j < es.length := (List.getElem?_eq_some_iff.1 hx).1
    obtain ⟨a, b⟩ := flatE_at es j x hx
    rw [← h6, List.getElem?_take, if_pos (by omega)] at a
    rw [← h6, List.getElem?_take, if_pos (by omega)] at b
    exact ⟨by simpa using a, by simpa using b⟩

/-- What all() of the table's kind answers, here and now. -/
def AllNow (ev : Value) (es : List KE) (W : World) : Prop := Meth ev "swingbridge/table.all" [] W fun e w' => ∃ v, e = .returned v ∧ OwnE w' W.heap.size v es ∧ W.grownBy w' none

set_option maxRecDepth 100000 in
set_option maxHeartbeats 2000000 in
theorem tall1_in (n : Nat) (hn : 2 ≤ n) (l n0 B tb : Nat) (ev : Value) {es : List KE} (hes : es.length ≤ 1100)
    (J Jx : List {x // x ∈ es} → World → Prop)
    (hY : ∀ pre x W, J pre W → pre.length < es.length → YieldAt Fence.wide (n - 1) Try.prog l (encE es x) W fun e W' =>
      (e = .returned (.bool true) ∧ J (pre ++ [x]) W' ∧ TKp n0 W W') ∨ (e = .returned (.bool false) ∧ Jx (pre ++ [x]) W'))
    (hJ : ∀ pre W W', J pre W → W.grownBy W' none → J pre W') (W : World) (hn0 : n0 ≤ W.heap.size) (hB : W.cell? ⟨B, 0, none⟩ = some (.pointer (some ⟨tb, 0, none⟩))) (hE : W.cell? ⟨tb, 5, none⟩ = some ev)
    (hA : AllNow ev es W) (h0 : J [] W) :
    CallsIn Fence.wide n Try.prog 62 #[.func (.yield l) #[] #[], .pointer (some ⟨B, 0, none⟩)] W fun e W' => (∃ v, e = .returned v) ∧
      ((∃ ys, ys = es.attach ∧ J ys W') ∨ (∃ pre, (∃ k, k ≤ es.length ∧ pre = es.attach.take k) ∧ Jx pre W')) := by
  refine callsIn_of_wp Try.func62 rfl trivial ?_ rfl
  simp only [Try.ntmps62, List.size_toArray, List.length_cons, List.length_nil, Nat.reduceAdd, Nat.reduceSub, Array.replicate_succ, Array.replicate_zero, List.push_toArray, List.append_toArray, List.nil_append, List.cons_append]
  obtain ⟨t, v, F, rfl, hm, hcf, hA⟩ := hA
  have HY := Lib.hid hY
  have HJ := Lib.hid hJ
  have HA := Lib.hid hA
  have H0 := Lib.hid h0
  clear hY hJ hA h0
  gi_wp2_with fail
  refine ⟨trivial, fun _ => by omega, ?_⟩
  refine (callsIn_wide.2 HA.out).mono ?_
  rintro e w1 ⟨v1, rfl, ho, hg⟩
  obtain ⟨A, cap, g, cur, rfl, hrow⟩ := ho.rows
  have HR : Hid (0 < es.length → A = some ⟨g, 0, none⟩ ∧ n0 ≤ g ∧ Row w1 g 72 cur ∧ (∀ (j : Nat) (x : KE), es[j]? = some x → cur[j * 2]? = some (.string (str x.1)) ∧ cur[j * 2 + 1]? = some (.slice x.2.1 x.2.2.1 x.2.2.2))) := Lib.hid (fun hp => by
    obtain ⟨a, b, c, d⟩ := hrow hp
    exact ⟨a, Nat.le_trans hn0 b, c, d⟩)
  have H1 := Lib.hid (HJ.out _ _ _ H0.out hg)
  have HES := Lib.hid hes
  clear ho hg hrow hn0 hB hE hm hcf HA H0 hes
  gi_wp2_with fail
  gi_loopw [11] (fun i wr => ∃ j : Nat, j ≤ es.length ∧ i = .int .i64 (j : Int) ∧ J (es.attach.take j) wr ∧ (0 < es.length → Row wr g 72 cur)) (fun i _ => es.length - (intOf i).toNat)
  case atStart => exact ⟨0, Nat.zero_le _, rfl, H1.out, fun hp => (HR.out hp).2.2.1⟩
  case round =>
    obtain ⟨j, hj, rfl, hjs, hrr⟩ := hrel
    by_cases hlt : j < es.length
    · obtain ⟨rfl, hg0, _, hcur⟩ := HR.out (by omega)
      have hr := hrr (by omega)
      obtain ⟨x, hx⟩ : ∃ x, es[j]? = some x := ⟨_, List.getElem?_eq_getElem hlt⟩
      have hxm : x ∈ es := List.mem_of_getElem? hx
      have hatt : es.attach.take (j + 1) = es.attach.take j ++ [⟨x, hxm⟩] := by
        have hx' := hx
        rw [List.getElem?_eq_getElem hlt] at hx'
        injection hx' with hx'
        rw [List.take_add_one]
        congr 1
        rw [List.getElem?_eq_getElem (by simpa using hlt)]
        simp [hx']
      obtain ⟨c0, c1⟩ := hcur j x hx
      have q0 : wr.cell? ⟨g, j * 2, none⟩ = some (.string (str x.1)) := (hr.cell _).trans c0
      have q1 : wr.cell? ⟨g, j * 2 + 1, none⟩ = some (.slice x.2.1 x.2.2.1 x.2.2.2) := (hr.cell _).trans c1
      have hjn : (j : Int) < (es.length : Int) := by omega
      have HATT := Lib.hid hatt
      have HX := Lib.hid (And.intro hlt (And.intro hg0 hr))
      have HJS := Lib.hid hjs
      have hW2 : wr.grownBy (wr.alloc (.cells #[.string (str x.1), .slice x.2.1 x.2.2.1 x.2.2.2] 72)) none := (Keep.refl (fun _ => False) wr).alloc (.cells #[.string (str x.1), .slice x.2.1 x.2.2.1 x.2.2.2] 72) |> fun k => ⟨k.os, k.tape, k.output, k.size, fun i hi _ => k.block i hi (fun e => e)⟩
      have hr2 := hr.alloc (.cells #[.string (str x.1), .slice x.2.1 x.2.2.1 x.2.2.2] 72)
      obtain ⟨fn, tmps, assign, body, hy, hR⟩ := HY.out _ ⟨x, hxm⟩ _ (HJ.out _ _ _ hjs hW2) (by simp; omega)
      have hy : Sem.run Try.prog (Instr.yield l #[.string (str x.1), .slice x.2.1 x.2.2.1 x.2.2.2]) _ = _ := hy
      have HR2 := Lib.hid hr2
      have HRo := Lib.hid hR
      clear hatt hlt hg0 hr hjs hcur hx c0 c1 hrr hj HR hW2 hr2 hR
      gi_wp2_with fail
      refine ⟨fun _ => by omega, ?_⟩
      refine HRo.out.mono ?_
      have hwr : wrap64 ((j : Int) + 1) = ((j + 1 : Nat) : Int) := by
        have := HES.out
        have := HX.out.1
        unfold wrap64
        omega
      have HW := Lib.hid hwr
      clear hwr
      rintro e W3 (⟨rfl, hJ3, hk3⟩ | ⟨rfl, hJ3⟩)
      · have HR3 : Hid (Row W3 g 72 cur) := Lib.hid (hk3 g cur HX.out.2.1 HR2.out)
        have HJ3 := Lib.hid hJ3
        clear hJ3 hk3 HRo HY HJ HJS HR2
        gi_wp2_with fail
        refine ⟨⟨j + 1, HX.out.1, by rw [HW.out], by rw [HATT.out]; exact HJ3.out, fun _ => HR3.out⟩, ?_⟩
        rw [HW.out]
        have := HX.out.1
        simp only [intOf]
        omega
      · have HJ3 := Lib.hid hJ3
        clear hJ3 HRo HY HJ HJS HR2
        gi_wp2_with fail
        refine bodyPost_ret (results_none rfl _ _ _) rfl ?_
        exact ⟨⟨_, rfl⟩, .inr ⟨_, ⟨j + 1, HX.out.1, by rw [HATT.out]⟩, HJ3.out⟩⟩
    · have ej : j = es.length := by omega
      subst ej
      have hjn : ¬ (es.length : Int) < (es.length : Int) := by omega
      have hJe : J es.attach wr := by rwa [List.take_of_length_le (by simp)] at hjs
      have HJE := Lib.hid hJe
      clear hj hlt hjs hJe hrr HY HJ HR H1
      gi_wp2_with fail
      go_end0
      exact ⟨⟨_, rfl⟩, .inl HJE.out⟩
end Go.Proofs.Ytnlojohjhfpbgaa

/-
  Tables: a range over an Array.
-/
namespace Go.Proofs.Ytnlojohjhfpbgaa
open Go.RowKit Go.Deep Go.Shelf
set_option linter.all false

theorem calm_grown {w w' : World} (k : Calm w w') : w.grownBy w' none := ⟨k.os, k.tape, k.output, k.size, fun i hi _ => k.block i hi (fun e => e)⟩
theorem below_calm {w w' : World} (k : Below w.heap.size w w') : Calm w w' := ⟨k.os, k.tape, k.output, k.size, fun i hi _ => k.block i hi⟩
/-- The entries of a table, as its all() has them. -/
def rows (vl : Nat) (E : List Ent) : List KE := kes vl (kbs E)
theorem rows_len (vl : Nat) (E : List Ent) : (rows vl E).length = E.length := by simp [rows, kes_len, kbs, mapv]
theorem rows_at (vl : Nat) (E : List Ent) (i : Nat) : (rows vl E)[i]? = (E[i]?).map (fun x => (x.1, lv vl x.2.1)) := by
  simp [rows, kes, kbs, mapv, Function.comp_def]
theorem tab_allnow {w0 w : World} {S : Nat → Prop} {tb : Nat} {q : MN} {E : List Ent} (h : Tab w0 w S tb q E) (hk : q.kind = 1) : ∃ ev, w.cell? ⟨tb, 5, none⟩ = some ev ∧ tb < w.heap.size ∧ ∀ W, Below w.heap.size w W → AllNow ev (rows q.val E) W := by
  obtain ⟨R, h1, _, _, _⟩ := h
  obtain ⟨ev, hr, hK⟩ := h1.top
  refine ⟨ev, (hr.cell 5).trans rfl, hr.lt, fun W hW => ?_⟩
  cases hK with
  | arr A hkd hR hrow hkeys =>
    refine ⟨_, _, _, rfl, m_ak_all _, cf_ak_all, (all_arr h1.ok.max.2 (hrow.keep (below_calm hW) (fun e => e)) hkeys).mono ?_⟩
    rintro e w' ⟨v, rfl, ho, hc⟩
    exact ⟨v, rfl, ho, calm_grown hc⟩
  | hash b D hkd => omega
  | lru b tb' R0 hkd => omega
theorem tall_stops (n : Nat) (hn : 2 ≤ n) (B tb : Nat) {w : World} {es : List KE} (hes : es.length ≤ 1100) {ev : Value} (hBl : B < w.heap.size) (hB : w.cell? ⟨B, 0, none⟩ = some (.pointer (some ⟨tb, 0, none⟩)))
    (hE : w.cell? ⟨tb, 5, none⟩ = some ev) (htl : tb < w.heap.size) (hA : ∀ W, Below w.heap.size w W → AllNow ev es W) :
    SeqStopsK Fence.wide n Try.prog 62 #[.pointer (some ⟨B, 0, none⟩)] (encE es) (TKp w.heap.size) (fun ys => ys = es.attach) (fun pre => ∃ k, k ≤ es.length ∧ pre = es.attach.take k) es.length w := fun l J Jx W hW hJ _ hY h0 =>
  tall1_in n hn l w.heap.size B tb ev hes J Jx hY (fun pre X X' hX hg => hJ pre X X' none hX hg (fun r e => by cases e)) W hW.size ((hW.cell (p := ⟨B, 0, none⟩) hBl).trans hB) ((hW.cell (p := ⟨tb, 5, none⟩) htl).trans hE) (hA W hW) h0
theorem tkp_t {n0 : Nat} {A B C : World} (h : TKp n0 A B) (k : TKp n0 B C) : TKp n0 A C := fun g cs h0 hr => k g cs h0 (h g cs h0 hr)
theorem tkp_b {n0 : Nat} (W : World) (l : Nat) (o o' : Obj) (h : W.heap[l]? = some o) (hc : o.isCells = false) : TKp n0 W (W.putObj l o') := fun g cs _ hr => by
  have e : g ≠ l := fun e => by
    subst e
    have h' : W.heap[g]? = some (.cells cs 72 (0, 0)) := hr
    rw [h'] at h
    injection h with h
    subst h
    cases hc
  exact (World.putObj_heap_other e).trans hr
end Go.Proofs.Ytnlojohjhfpbgaa

