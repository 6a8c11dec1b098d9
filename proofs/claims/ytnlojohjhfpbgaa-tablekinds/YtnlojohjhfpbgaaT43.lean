/-
  Tables: two tables beside one another; what a call does with what keys have.
-/
import Derived.Test.YtnlojohjhfpbgaaT42
namespace Go.Proofs.Ytnlojohjhfpbgaa
open Go.RowKit Go.Deep
set_option linter.all false

theorem ok_most {nm : List UInt8} {kd ky vl mx : Nat} (h : (⟨nm, kd, ky, vl, mx⟩ : MN).Ok) (m : Nat) (hm : 1 ≤ m ∧ m ≤ 1024) : (⟨nm, kd, ky, vl, m⟩ : MN).Ok := by
  have hr := h.right
  refine ⟨?_, h.name, h.kind, h.key, h.val, hm⟩
  simp only [MP.right, MN.mp, Bool.and_eq_true] at hr ⊢
  exact ⟨hr.1, hr.2.1, hr.2.2.1, hr.2.2.2.1, by simp only [wi]; exact decide_eq_true (by omega)⟩
def Reg (R : Nat → Prop) (E : List Ent) (i : Nat) : Prop := R i ∨ i ∈ blks E
theorem TabAt.kept {w w' : World} {R : Nat → Prop} {tb : Nat} {q : MN} {E : List Ent} (h : TabAt w R tb q E) {w0 : World} (c : Calm w0 w) (c' : Calm w0 w') {S : Nat → Prop} (hh : Held S w w') (hS : ∀ i, Reg R E i → S i) : TabAt w' R tb q E := by
  have k : Keep (fun i => ¬ S i) w w' := ⟨c'.os.trans c.os.symm, c'.tape.trans c.tape.symm, c'.output.trans c.output.symm, hh.size, fun i _ hi => hh i (Classical.byContradiction hi)⟩
  exact h.keep k (fun i hi hn => hn (hS i (.inl hi))) (fun x hx hn => hn (hS _ (.inr (List.mem_map.2 ⟨x, hx, rfl⟩))))
/-- Two tables, apart from one another, and from what the caller has. -/
def Duo (w0 w : World) (S : Nat → Prop) (t1 : Nat) (q1 : MN) (E1 : List Ent) (t2 : Nat) (q2 : MN) (E2 : List Ent) : Prop :=
  ∃ R1 R2, TabAt w R1 t1 q1 E1 ∧ TabAt w R2 t2 q2 E2 ∧ (∀ i, Reg R1 E1 i → ¬ Reg R2 E2 i) ∧ (∀ i, Reg R1 E1 i ∨ Reg R2 E2 i → w0.heap.size ≤ i ∧ ¬ S i) ∧ (∀ i, S i → i < w.heap.size) ∧ Calm w0 w
theorem TabAt.reg_lt {w : World} {R : Nat → Prop} {tb : Nat} {q : MN} {E : List Ent} (h : TabAt w R tb q E) : ∀ i, Reg R E i → i < w.heap.size := by
  rintro i (hi | hi)
  · exact h.lt i hi
  · obtain ⟨x, hx, rfl⟩ := List.mem_map.1 hi
    exact h.blt x hx
section
variable {w0 w w' : World} {S : Nat → Prop} {t1 t2 : Nat} {q1 q2 : MN} {E1 E2 : List Ent}
theorem Duo.swap (h : Duo w0 w S t1 q1 E1 t2 q2 E2) : Duo w0 w S t2 q2 E2 t1 q1 E1 := by
  obtain ⟨R1, R2, a, b, c, d, e, f⟩ := h
  exact ⟨R2, R1, b, a, fun i h1 h2 => c i h2 h1, fun i hi => d i hi.symm, e, f⟩
theorem Duo.calm_ (h : Duo w0 w S t1 q1 E1 t2 q2 E2) : Calm w0 w := by obtain ⟨_, _, _, _, _, _, _, f⟩ := h; exact f
theorem Duo.slt (h : Duo w0 w S t1 q1 E1 t2 q2 E2) : ∀ i, S i → i < w.heap.size := by obtain ⟨_, _, _, _, _, _, f, _⟩ := h; exact f
theorem Duo.rest (h : Duo w0 w S t1 q1 E1 t2 q2 E2) (k : Calm w w') : Duo w0 w' S t1 q1 E1 t2 q2 E2 := by
  obtain ⟨R1, R2, a, b, c, d, e, f⟩ := h
  exact ⟨R1, R2, a.calm k, b.calm k, c, d, fun i hi => Nat.lt_of_lt_of_le (e i hi) k.size, f.trans k⟩
theorem Duo.less {S' : Nat → Prop} (h : Duo w0 w S t1 q1 E1 t2 q2 E2) (hS : ∀ i, S' i → S i) : Duo w0 w S' t1 q1 E1 t2 q2 E2 := by
  obtain ⟨R1, R2, a, b, c, d, e, f⟩ := h
  exact ⟨R1, R2, a, b, c, fun i hi => ⟨(d i hi).1, fun hs => (d i hi).2 (hS i hs)⟩, fun i hi => e i (hS i hi), f⟩
theorem Duo.room (h : Duo w0 w S t1 q1 E1 t2 q2 E2) (k : Calm w w') : Duo w0 w' (fun i => S i ∨ Btw w.heap.size w'.heap.size i) t1 q1 E1 t2 q2 E2 := by
  obtain ⟨R1, R2, a, b, c, d, e, f⟩ := h
  refine ⟨R1, R2, a.calm k, b.calm k, c, fun i hi => ⟨(d i hi).1, ?_⟩, ?_, f.trans k⟩
  · rintro (hs | hs)
    · exact (d i hi).2 hs
    · have : i < w.heap.size := hi.elim (a.reg_lt i) (b.reg_lt i)
      have := hs.1
      omega
  · rintro i (hs | hs)
    · exact Nat.lt_of_lt_of_le (e i hs) k.size
    · exact hs.2
theorem Duo.fst (h : Duo w0 w S t1 q1 E1 t2 q2 E2) : Tab w0 w S t1 q1 E1 := by
  obtain ⟨R1, R2, a, b, c, d, e, f⟩ := h
  exact ⟨R1, a, fun i hi => d i (.inl hi), e, f⟩
theorem Duo.snd (h : Duo w0 w S t1 q1 E1 t2 q2 E2) : Tab w0 w S t2 q2 E2 := h.swap.fst
/-- A call on the first one. -/
theorem Duo.on1 (h : Duo w0 w S t1 q1 E1 t2 q2 E2) {F : Nat} {args : Array Value} {Z : Ending → List Ent → World → Prop}
    (hc : ∀ S' : Nat → Prop, (∀ i, S i → S' i) → Tab w0 w S' t1 q1 E1 → Calls Try.prog F args w fun e w' => ∃ E', Z e E' w' ∧ Tab w0 w' S' t1 q1 E' ∧ Held S' w w') :
    Calls Try.prog F args w fun e w' => ∃ E', Z e E' w' ∧ Duo w0 w' S t1 q1 E' t2 q2 E2 ∧ Held S w w' := by
  obtain ⟨R1, R2, a, b, c, d, e, f⟩ := h
  refine (hc (fun i => S i ∨ Reg R2 E2 i) (fun i hi => .inl hi) ⟨R1, a, fun i hi => ⟨(d i (.inl hi)).1, fun hs => hs.elim (d i (.inl hi)).2 (c i hi)⟩, fun i hi => hi.elim (e i) (b.reg_lt i), f⟩).mono ?_
  rintro x w' ⟨E', hz, ht, hh⟩
  obtain ⟨R, g1, g2, g3, g4⟩ := ht
  exact ⟨E', hz, ⟨R, R2, g1, b.kept f g4 hh (fun i hi => .inr hi), fun i h1 h2 => (g2 i h1).2 (.inr h2), fun i hi => hi.elim (fun h1 => ⟨(g2 i h1).1, fun hs => (g2 i h1).2 (.inl hs)⟩) (fun h2 => d i (.inr h2)), fun i hi => g3 i (.inl hi), g4⟩, hh.less (fun i hi => .inl hi)⟩
theorem Duo.on2 (h : Duo w0 w S t1 q1 E1 t2 q2 E2) {F : Nat} {args : Array Value} {Z : Ending → List Ent → World → Prop}
    (hc : ∀ S' : Nat → Prop, (∀ i, S i → S' i) → Tab w0 w S' t2 q2 E2 → Calls Try.prog F args w fun e w' => ∃ E', Z e E' w' ∧ Tab w0 w' S' t2 q2 E' ∧ Held S' w w') :
    Calls Try.prog F args w fun e w' => ∃ E', Z e E' w' ∧ Duo w0 w' S t1 q1 E1 t2 q2 E' ∧ Held S w w' := by
  refine (h.swap.on1 hc).mono ?_
  rintro x w' ⟨E', hz, hd, hh⟩
  exact ⟨E', hz, hd.swap, hh⟩
theorem Duo.made {wm : World} (h1 : Tab w0 wm No t1 q1 E1) (h2 : Tab wm w No t2 q2 E2) : Duo w0 w No t1 q1 E1 t2 q2 E2 := by
  obtain ⟨R1, a, b, c, d⟩ := h1
  obtain ⟨R2, a', b', c', d'⟩ := h2
  refine ⟨R1, R2, a.calm d', a', fun i h1 h2 => ?_, ?_, fun i hi => hi.elim, d.trans d'⟩
  · have := a.reg_lt i h1
    have := (b' i h2).1
    omega
  · rintro i (hi | hi)
    · exact ⟨(b i hi).1, fun e => e.elim⟩
    · exact ⟨Nat.le_trans d.size (b' i hi).1, fun e => e.elim⟩
end
/-- What a key has. -/
def vaL (k : List UInt8) (E : List Ent) : Option (List UInt8) := (getL k E).map (·.2)
theorem vaL_none {k : List UInt8} {E : List Ent} (h : vaL k E = none) : getL k E = none := by
  unfold vaL at h
  cases hg : getL k E with
  | none => rfl
  | some x => rw [hg] at h; cases h
theorem vaL_some {k bs : List UInt8} {E : List Ent} (h : vaL k E = some bs) : ∃ g, getL k E = some (g, bs) := by
  unfold vaL at h
  cases hg : getL k E with
  | none => rw [hg] at h; cases h
  | some x => rw [hg] at h; injection h with h; exact ⟨x.1, by rw [← h]⟩
/-- What Update answers, by what the key has. -/
def ansU (o : Option (List UInt8)) (fl : Int) : Int := if fl < 0 ∨ 2 < fl then 1 else if o.isSome then (if fl = 1 then 4 else 0) else (if fl = 2 then 3 else 0)
def ansD (o : Option (List UInt8)) : Int := if o.isSome then 0 else 3
def updV (k v : List UInt8) (n : Int) (f : List UInt8 → Option (List UInt8)) (k' : List UInt8) : Option (List UInt8) := if n = 0 ∧ k' = k then some v else f k'
def delV (k : List UInt8) (f : List UInt8 → Option (List UInt8)) (k' : List UInt8) : Option (List UInt8) := if k' = k then none else f k'
theorem get_set' {k bs' : List UInt8} {E : List Ent} (k' : List UInt8) : vaL k' (setT k bs' E) = if k' = k then (vaL k E).map (fun _ => bs') else vaL k' E := by
  unfold vaL
  rw [getL_set]
  split
  · rename_i h; subst h; cases getL k' E <;> rfl
  · rfl
theorem get_drop' {k : List UInt8} {E : List Ent} (k' : List UInt8) : vaL k' (dropL k E) = if k' = k then none else vaL k' E := by
  unfold vaL
  split
  · rename_i h; subst h; rw [get_gone]; rfl
  · rename_i h
    unfold getL dropL
    rw [List.find?_filter]
    congr 2
    refine congrFun (congrArg List.find? ?_) E
    funext x
    by_cases e : x.1 = k'
    · simp [e, h]
    · simp [e]
theorem get_app' {k bs : List UInt8} {g : Nat} {E : List Ent} (hk : k ∉ keysL E) (k' : List UInt8) : vaL k' (E ++ [(k, g, bs)]) = if k' = k then some bs else vaL k' E := by
  unfold vaL getL
  rw [List.find?_append]
  split
  · rename_i h
    subst h
    have : E.find? (fun x => decide (x.1 = k')) = none := by
      rw [List.find?_eq_none]
      intro x hx
      have : x.1 ≠ k' := fun e => hk (List.mem_map.2 ⟨x, hx, e⟩)
      simp [this]
    rw [this]
    simp
  · rename_i h
    have h' : ¬ k = k' := fun e => h e.symm
    cases E.find? (fun x => decide (x.1 = k')) <;> simp [h']
section
variable {w0 w : World} {S : Nat → Prop} {tb : Nat} {q : MN} {E : List Ent}
/-- Update of a Hash or an LRU that has room. -/
theorem kU (h : Tab w0 w S tb q E) {kv vv : Value} {k v : List UInt8} (hk : Rd w kv k) (hv : Rd w vv v) (fl : Int) (hkl : k.length = q.key) (hvl : v.length = q.val) (h1 : q.kind ≠ 1) (hl : E.length < q.max) :
    Calls Try.prog 33 #[.pointer (some ⟨tb, 0, none⟩), kv, vv, .int .i64 fl] w fun e w' => ∃ E', (e = .returned (.int .i64 (ansU (vaL k E) fl)) ∧ (∀ k', vaL k' E' = updV k v (ansU (vaL k E) fl) (fun k => vaL k E) k') ∧ E'.length = E.length + (if ansU (vaL k E) fl = 0 ∧ vaL k E = none then 1 else 0)) ∧ Tab w0 w' S tb q E' ∧ Held S w w' := by
  by_cases hf : fl < 0 ∨ 2 < fl
  · have hb : BadU q k v fl := .inr (.inr (by omega))
    have ha : ansU (vaL k E) fl = 1 := if_pos hf
    refine (update_bad h hk hv fl hb).mono ?_
    rintro e w' ⟨rfl, a, b⟩
    exact ⟨E, ⟨by rw [ha], fun k' => by rw [ha]; rfl, by rw [ha]; rfl⟩, a, b⟩
  · have hb : ¬ BadU q k v fl := by
      simp only [BadU, not_or, Decidable.not_not]
      exact ⟨hkl, hvl, by omega⟩
    have ha : ansU (vaL k E) fl = if (vaL k E).isSome then (if fl = 1 then 4 else 0) else (if fl = 2 then 3 else 0) := if_neg hf
    cases hv' : vaL k E with
    | none =>
      have hg := vaL_none hv'
      rw [hv'] at ha
      by_cases hf2 : fl = 2
      · have ha : ansU none fl = 3 := by rw [ha]; simp [hf2]
        refine (update_refused h hk hv fl hb 3 (.inr ⟨hg, hf2, rfl⟩)).mono ?_
        rintro e w' ⟨rfl, a, b⟩
        exact ⟨E, ⟨by rw [ha], fun k' => by rw [ha]; rfl, by rw [ha]; rfl⟩, a, b⟩
      · have ha : ansU none fl = 0 := by rw [ha]; simp [hf2]
        have h23 : q.kind = 2 ∨ q.kind = 3 := by
          rcases h.kinds' with h | h | h
          · exact absurd h h1
          · exact .inl h
          · exact .inr h
        have hm : k ∉ keysL E := fun hm => by obtain ⟨g, bs, e⟩ := get_key hm; rw [hg] at e; cases e
        refine (update_new h hk hv fl hb hg hf2 0 (fun w' => ∃ E', ((∀ k', vaL k' E' = updV k v 0 (fun k => vaL k E) k') ∧ E'.length = E.length + 1) ∧ Tab w0 w' S tb q E' ∧ Held S w w') (.inr ⟨h23.imp (fun h => ⟨h, hl⟩) id, rfl, fun w' a => ?_⟩)).mono ?_
        · obtain ⟨g, _, a, b⟩ := a
          have hap : addE q.kind q.max k g v E = E ++ [(k, g, v)] := by
            unfold addE putL
            rw [if_neg hm, if_pos hl]
            split <;> rfl
          refine ⟨_, ⟨fun k' => ?_, len_addE hm hl⟩, a.less (fun i hi => .inl hi), b.less (fun i hi => .inl hi)⟩
          rw [hap, get_app' hm]
          simp [updV]
        · rintro e w' ⟨rfl, E', ⟨a1, a2⟩, a3⟩
          exact ⟨E', ⟨by rw [ha], fun k' => by rw [ha]; exact a1 k', by rw [ha, a2]; rfl⟩, a3⟩
    | some bs =>
      obtain ⟨g, hg⟩ := vaL_some hv'
      rw [hv'] at ha
      by_cases hf1 : fl = 1
      · have ha : ansU (some bs) fl = 4 := by rw [ha]; simp [hf1]
        refine (update_refused h hk hv fl hb 4 (.inl ⟨by rw [hg]; rfl, hf1, rfl⟩)).mono ?_
        rintro e w' ⟨rfl, a, b⟩
        exact ⟨E, ⟨by rw [ha], fun k' => by rw [ha]; rfl, by rw [ha]; rfl⟩, a, b⟩
      · have ha : ansU (some bs) fl = 0 := by rw [ha]; simp [hf1]
        refine (update_over h hk hv fl hb hg hf1).mono ?_
        rintro e w' ⟨rfl, a, b⟩
        have hn : (keysL (setT k v E)).Nodup := by rw [keys_set]; exact h.keys
        refine ⟨_, ⟨by rw [ha], fun k' => ?_, by rw [ha, len_use hn, len_set]; simp⟩, a, b⟩
        unfold vaL
        rw [get_use hn]
        have := get_set' (k := k) (bs' := v) (E := E) k'
        unfold vaL at this
        rw [this]
        rw [ha]
        simp only [updV, hg]
        split <;> simp_all
theorem kD (h : Tab w0 w S tb q E) {kv : Value} {k : List UInt8} (hk : Rd w kv k) (hkl : k.length = q.key) (h1 : q.kind ≠ 1) :
    Calls Try.prog 35 #[.pointer (some ⟨tb, 0, none⟩), kv] w fun e w' => ∃ E', (e = .returned (.int .i64 (ansD (vaL k E))) ∧ (∀ k', vaL k' E' = delV k (fun k => vaL k E) k') ∧ E'.length = E.length - (if (vaL k E).isSome then 1 else 0)) ∧ Tab w0 w' S tb q E' ∧ Held S w w' := by
  cases hv' : vaL k E with
  | none =>
    have hg := vaL_none hv'
    refine (delete_c h hk hkl 3 (fun w' => Tab w0 w' S tb q E ∧ Held S w w') (.inl ⟨.inr ⟨h1, hg, rfl⟩, fun w' a => a⟩)).mono ?_
    rintro e w' ⟨rfl, a⟩
    refine ⟨E, ⟨rfl, fun k' => ?_, rfl⟩, a⟩
    unfold delV
    split
    · rename_i e; subst e; exact hv'
    · rfl
  | some bs =>
    obtain ⟨g, hg⟩ := vaL_some hv'
    have hm : k ∈ keysL E := List.mem_map.2 ⟨_, getL_some hg, rfl⟩
    refine (delete_c h hk hkl 0 (fun w' => Tab w0 w' S tb q (dropL k E) ∧ Held S w w') (.inr ⟨h1, by rw [hg]; rfl, rfl, fun w' a => ⟨a.1.less (fun i hi => .inl hi), a.2.less (fun i hi => .inl hi)⟩⟩)).mono ?_
    rintro e w' ⟨rfl, a⟩
    refine ⟨_, ⟨rfl, fun k' => get_drop' k', ?_⟩, a⟩
    have := len_dropE h.keys hm
    simp
    omega
end
end Go.Proofs.Ytnlojohjhfpbgaa
