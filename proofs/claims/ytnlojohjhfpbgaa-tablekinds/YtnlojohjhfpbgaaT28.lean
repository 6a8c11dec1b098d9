import Derived.Test.YtnlojohjhfpbgaaT22
import Derived.Test.YtnlojohjhfpbgaaLConv
/-
  Tables: an Array's entries by their numbers; blocks that a table leaves alone.
-/
namespace Go.Proofs.Ytnlojohjhfpbgaa
open Go.RowKit Go.Deep
set_option linter.all false

section
variable {w0 w w' : World} {S : Nat → Prop} {tb : Nat} {q : MN} {E : List Ent}
theorem Rd.held {bs : List UInt8} {g n c : Nat} (h : Rd w (.slice (some ⟨g, 0, none⟩) n c) bs) (hh : Held S w w') (hg : S g) : Rd w' (.slice (some ⟨g, 0, none⟩) n c) bs := by
  rcases h with ⟨e, rfl⟩ | ⟨ad, cap, e, h1, h2, h4⟩
  · cases e
  · injection e with e1 e2 e3
    injection e1 with e1
    subst e1; subst e3
    refine .inr ⟨_, _, by rw [e2], h1, h2, fun i b hi => ?_⟩
    rw [← h4 i b hi]
    exact World.cell?_of_block (hh _ (by rw [Addr.add_block]; exact hg))
theorem Tab.nums (h : Tab w0 w S tb q E) (hk : q.kind = 1) : keysL E = (List.range q.max).map numK := by
  obtain ⟨R, h1, _⟩ := h
  obtain ⟨ev, _, hK⟩ := h1.top
  cases hK with
  | arr A hkd hR hr hkeys => rw [keys_kbs] at hkeys; exact hkeys
  | hash b D hkd => omega
  | lru b tb' R0 hkd => omega
theorem Tab.num_yes (h : Tab w0 w S tb q E) (hk : q.kind = 1) {i : Nat} (hi : i < q.max) : ∃ g bs, getL (numK i) E = some (g, bs) := by
  have hn := h.nums hk
  cases hg : getL (numK i) E with
  | some x => exact ⟨x.1, x.2, rfl⟩
  | none =>
    refine absurd ?_ (getL_none hg)
    rw [hn]
    exact List.mem_map.2 ⟨i, List.mem_range.2 hi, rfl⟩
theorem Tab.num_no (h : Tab w0 w S tb q E) (hk : q.kind = 1) (hm : q.max ≤ 1024) {i : Nat} (hi : i < 65536) (hq : ¬ i < q.max) : getL (numK i) E = none := by
  refine get_no ?_
  rw [h.nums hk]
  exact fun hc => hq ((num_mem (by omega) hi).1 hc)
theorem useN_one (k : List UInt8) (E : List Ent) (hk : q.kind = 1) : useN q.kind k E = E := if_neg (by omega)
theorem setT_none {k v : List UInt8} (h : getL k E = none) : setT k v E = E := by
  have hk := getL_none h
  unfold setT
  conv => rhs; rw [← List.map_id E]
  refine List.map_congr_left (fun x hx => ?_)
  rw [if_neg (fun e => hk (by rw [← e]; exact List.mem_map.2 ⟨x, hx, rfl⟩))]
  rfl
theorem setT_twice (k v : List UInt8) (E : List Ent) : setT k v (setT k v E) = setT k v E := by
  unfold setT
  rw [List.map_map]
  refine List.map_congr_left (fun x _ => ?_)
  simp only [Function.comp]
  split
  · simp
  · rfl

/-- What Lookup answers of a number. -/
def ArP (q : MN) (E : List Ent) (i : Nat) (p : Value) (w' : World) : Prop :=
  (i < q.max ∧ ∃ x g bs, p = .pointer (some ⟨x, 0, none⟩) ∧ getL (numK i) E = some (g, bs) ∧ Row w' x 72 #[.string (str (numK i)), slv q.val g]) ∨ (¬ i < q.max ∧ p = .pointer none)
theorem ar_lookup (h : Tab w0 w S tb q E) (hk1 : q.kind = 1) (hm : q.max ≤ 1024) {i : Nat} (hi : i < 65536) {kv : Value} (hk : Rd w kv (numK i)) :
    Calls Try.prog 31 #[.pointer (some ⟨tb, 0, none⟩), kv] w fun e w' => (∃ p, e = .returned (.tuple #[p, .bool (decide (i < q.max))]) ∧ ArP q E i p w') ∧ Tab w0 w' S tb q E ∧ Held S w w' := by
  by_cases hq : i < q.max
  · obtain ⟨g, bs, hg⟩ := h.num_yes hk1 hq
    refine (lookup_yes h hk hg).mono ?_
    rintro e w' ⟨x, rfl, _, r, t, hh, _⟩
    rw [useN_one _ _ hk1] at t
    exact ⟨⟨_, by rw [decide_eq_true hq], .inl ⟨hq, x, g, bs, rfl, hg, r⟩⟩, t.less (fun i hi => .inl hi), hh⟩
  · refine (lookup_no h hk (h.num_no hk1 hm hi hq)).mono ?_
    rintro e w' ⟨rfl, t, hh⟩
    exact ⟨⟨_, by rw [decide_eq_false hq], .inr ⟨hq, rfl⟩⟩, t, hh⟩
/-- .. and the entry that it hands out is left alone from then on. -/
theorem ar_look2 (h : Tab w0 w S tb q E) (hk1 : q.kind = 1) (hm : q.max ≤ 1024) {i : Nat} (hi : i < 65536) {kv : Value} (hk : Rd w kv (numK i)) :
    Calls Try.prog 31 #[.pointer (some ⟨tb, 0, none⟩), kv] w fun e w' => ∃ S' : Nat → Prop, ((∀ i, S i → S' i) ∧ ∀ i, S' i → S i ∨ w.heap.size ≤ i) ∧ (∃ p, e = .returned (.tuple #[p, .bool (decide (i < q.max))]) ∧ ((i < q.max ∧ ∃ x g bs, p = .pointer (some ⟨x, 0, none⟩) ∧ getL (numK i) E = some (g, bs) ∧ S' x ∧ Row w' x 72 #[.string (str (numK i)), slv q.val g]) ∨ (¬ i < q.max ∧ p = .pointer none))) ∧ Tab w0 w' S' tb q E ∧ Held S w w' := by
  by_cases hq : i < q.max
  · obtain ⟨g, bs, hg⟩ := h.num_yes hk1 hq
    refine (lookup_yes h hk hg).mono ?_
    rintro e w' ⟨x, rfl, hx, r, t, hh, hx2⟩
    rw [useN_one _ _ hk1] at t
    exact ⟨_, ⟨fun i hi => .inl hi, fun i hi => hi.imp id (fun e => e.1)⟩, ⟨_, by rw [decide_eq_true hq], .inl ⟨hq, x, g, bs, rfl, hg, .inr ⟨hx, hx2⟩, r⟩⟩, t, hh⟩
  · refine (lookup_no h hk (h.num_no hk1 hm hi hq)).mono ?_
    rintro e w' ⟨rfl, t, hh⟩
    exact ⟨S, ⟨fun _ h => h, fun _ h => .inl h⟩, ⟨_, by rw [decide_eq_false hq], .inr ⟨hq, rfl⟩⟩, t, hh⟩
theorem ar_new (h : Tab w0 w S tb q E) (hk1 : q.kind = 1) (hm : q.max ≤ 1024) {i : Nat} (hi : i < 65536) {kv vv : Value} {v : List UInt8} (hk : Rd w kv (numK i)) (hv : Rd w vv v) (hb : ¬ BadU q (numK i) v 1) (n : Int) (hn : n = if i < q.max then 4 else 3) :
    Calls Try.prog 33 #[.pointer (some ⟨tb, 0, none⟩), kv, vv, .int .i64 1] w fun e w' => e = .returned (.int .i64 n) ∧ Tab w0 w' S tb q E ∧ Held S w w' := by
  subst hn
  by_cases hq : i < q.max
  · obtain ⟨g, bs, hg⟩ := h.num_yes hk1 hq
    rw [if_pos hq]
    exact update_refused h hk hv 1 hb 4 (.inl ⟨by rw [hg]; rfl, rfl, rfl⟩)
  · rw [if_neg hq]
    exact update_new h hk hv 1 hb (h.num_no hk1 hm hi hq) (by decide) 3 (LookNo w0 w S tb q E) (.inl ⟨.inl ⟨hk1, rfl⟩, fun _ a => a⟩)
theorem ar_put (h : Tab w0 w S tb q E) (hk1 : q.kind = 1) (hm : q.max ≤ 1024) {i : Nat} (hi : i < 65536) {kv vv : Value} {v : List UInt8} (hk : Rd w kv (numK i)) (hv : Rd w vv v) (fl : Int) (hf : fl = 0 ∨ fl = 2) (hb : ¬ BadU q (numK i) v fl) (n : Int) (hn : n = if i < q.max then 0 else 3) :
    Calls Try.prog 33 #[.pointer (some ⟨tb, 0, none⟩), kv, vv, .int .i64 fl] w fun e w' => e = .returned (.int .i64 n) ∧ Tab w0 w' S tb q (setT (numK i) v E) ∧ Held S w w' := by
  subst hn
  by_cases hq : i < q.max
  · obtain ⟨g, bs, hg⟩ := h.num_yes hk1 hq
    rw [if_pos hq]
    refine (update_over h hk hv fl hb hg (by omega)).mono ?_
    rintro e w' ⟨rfl, t, hh⟩
    rw [useN_one _ _ hk1] at t
    exact ⟨rfl, t, hh⟩
  · have hg := h.num_no hk1 hm hi hq
    rw [if_neg hq, setT_none hg]
    rcases hf with rfl | rfl
    · exact update_new h hk hv 0 hb hg (by decide) 3 (LookNo w0 w S tb q E) (.inl ⟨.inl ⟨hk1, rfl⟩, fun _ a => a⟩)
    · exact update_refused h hk hv 2 hb 3 (.inr ⟨hg, rfl, rfl⟩)
/-- An Array's entries behind the writes: number j holds v, if it is the one, zeros else. -/
theorem arr_at {vl n : Nat} {gs : List Nat} {v : List UInt8} (hn : n < 65536) (hl : gs.length ≤ 1024) {j : Nat} (hj : j < gs.length) : ∃ g, (setT (numK n) v (arrE vl gs))[j]? = some (numK j, g, if j = n then v else List.replicate vl 0) := by
  refine ⟨gs.getD j 0, ?_⟩
  unfold setT arrE
  rw [List.getElem?_map, List.getElem?_map, List.getElem?_range hj]
  simp only [Option.map_some]
  by_cases e : j = n
  · subst e; simp
  · rw [if_neg (fun h => e (numK_inj (by omega) hn h)), if_neg e]
end
end Go.Proofs.Ytnlojohjhfpbgaa

/-
  Tables: boxes of the caller's that turn behind a table.
-/
namespace Go.Proofs.Ytnlojohjhfpbgaa
open Go.RowKit Go.Deep
set_option linter.all false

theorem calm_both {w w' : World} (h : Calm w w') (p : Addr) (u : Value) (hp : p.block < w.heap.size) : Calm (w.setCell p u) (w'.setCell p u) := by
  refine ⟨h.os, h.tape, h.output, by simpa [World.setCell] using h.size, fun i hi hn => ?_⟩
  have hi' : i < w.heap.size := by simpa [World.setCell] using hi
  have e := h.block i hi' hn
  simp only [World.setCell, Array.getElem?_modify, e]
theorem tab_box {w0 w : World} {S : Nat → Prop} {tb : Nat} {q : MN} {E : List Ent} (h : Tab w0 w S tb q E) (p : Addr) (u : Value) (hp : p.block < w0.heap.size) : Tab (w0.setCell p u) (w.setCell p u) S tb q E := by
  obtain ⟨R, h1, h2, h3, h4⟩ := h
  have k : Keep (fun i => i = p.block) w (w.setCell p u) := (Keep.refl (fun i => i = p.block) w).store (p := p) (fun _ => rfl) u
  have hs : (w0.setCell p u).heap.size = w0.heap.size := by simp [World.setCell]
  have hs2 : (w.setCell p u).heap.size = w.heap.size := by simp [World.setCell]
  refine ⟨R, h1.keep k (fun i hi e => ?_) (fun x hx e => ?_), fun i hi => by rw [hs]; exact h2 i hi, fun i hi => by rw [hs2]; exact h3 i hi, calm_both h4 p u hp⟩
  · have e : i = p.block := e
    have := (h2 i (.inl hi)).1
    omega
  · have e : x.2.1 = p.block := e
    have := (h2 x.2.1 (.inr (List.mem_map.2 ⟨x, hx, rfl⟩))).1
    omega
theorem held_box (S : Nat → Prop) (w : World) (p : Addr) (u : Value) (h : ¬ S p.block) : Held S w (w.setCell p u) := ⟨fun i hi => Below.heap_setCell _ _ _ _ (fun e => h (by rw [← e]; exact hi)), by simp [World.setCell]⟩
/-- The law's own variables: n, v, the answer, the map. -/
structure Bx (W : World) (b mb : Nat) (nv vv : Value) (cs : Array Value) : Prop where
  n : Row W b 3 #[nv]
  v : Row W (b + 1) 9 #[vv]
  r : Row W (b + 1 + 1) 4 #[.bool false]
  m : Row W mb 52 cs
  apart : b + 3 ≤ mb
section
variable {W W' : World} {b mb : Nat} {nv vv u : Value} {cs : Array Value}
theorem Bx.calm (h : Bx W b mb nv vv cs) (k : Calm W W') : Bx W' b mb nv vv cs := ⟨h.n.keep k (fun e => e), h.v.keep k (fun e => e), h.r.keep k (fun e => e), h.m.keep k (fun e => e), h.apart⟩
theorem Bx.setN (h : Bx W b mb nv vv cs) (u : Value) : Bx (W.setCell ⟨b, 0, none⟩ u) b mb u vv cs := by
  have k : Keep (fun i => i = b) W (W.setCell ⟨b, 0, none⟩ u) := (Keep.refl (fun i => i = b) W).store (p := ⟨b, 0, none⟩) (fun _ => rfl) u
  have ha := h.apart
  exact ⟨by simpa using h.n.store 0 u, h.v.keep k (fun e => by omega), h.r.keep k (fun e => by omega), h.m.keep k (fun e => by omega), ha⟩
theorem Bx.setV (h : Bx W b mb nv vv cs) (u : Value) : Bx (W.setCell ⟨b + 1, 0, none⟩ u) b mb nv u cs := by
  have k : Keep (fun i => i = b + 1) W (W.setCell ⟨b + 1, 0, none⟩ u) := (Keep.refl (fun i => i = b + 1) W).store (p := ⟨b + 1, 0, none⟩) (fun _ => rfl) u
  have ha := h.apart
  exact ⟨h.n.keep k (fun e => by omega), by simpa using h.v.store 0 u, h.r.keep k (fun e => by omega), h.m.keep k (fun e => by omega), ha⟩
theorem Bx.cn (h : Bx W b mb nv vv cs) : W.cell? ⟨b, 0, none⟩ = some nv := (h.n.cell 0).trans rfl
theorem Bx.cv (h : Bx W b mb nv vv cs) : W.cell? ⟨b + 1, 0, none⟩ = some vv := (h.v.cell 0).trans rfl
theorem Bx.cr (h : Bx W b mb nv vv cs) : W.cell? ⟨b + 1 + 1, 0, none⟩ = some (.bool false) := (h.r.cell 0).trans rfl
end
end Go.Proofs.Ytnlojohjhfpbgaa

