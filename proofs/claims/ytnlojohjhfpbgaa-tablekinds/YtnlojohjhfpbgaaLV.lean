/-
  Lists in order of use: what a list is in memory, whole; how its steps turn it.
-/
import Derived.Test.YtnlojohjhfpbgaaLU
namespace Go.Proofs.Ytnlojohjhfpbgaa
open Go.RowKit
open Go.Maps (Keyed)
set_option linter.all false

theorem owns_keep {w w' : World} {k : TypeId} {b n : Nat} {D : DataW Unit} (h : w.ownsMap Try.prog k pe b n D) (e : w'.heap[b]? = w.heap[b]?) : w'.ownsMap Try.prog k pe b n D := by
  obtain ⟨es, clock, hb, r⟩ := h
  exact ⟨es, clock, e.trans hb, r⟩
theorem owns_tight {w : World} {k : TypeId} {b n : Nat} {D : DataW Unit} (h : w.ownsMap Try.prog k pe b n D) : w.ownsMap Try.prog k pe b (Maps.size D) D := by
  obtain ⟨es, clock, hb, F, hs, rfl⟩ := h
  exact ⟨es, clock, hb, F, by simp [Maps.size, length_sorted], rfl⟩
def nilD : DataW Unit := .lit (.int .i64 (-1))

section
variable {κ ν : Type} {T : Ty κ ν} {w w' : World} {b m most cnt : Nat} {nx pv : Option Nat → Option Nat} {es es' : List (Nat × κ × ν)} {D : DataW Unit} {R R' : Nat → Prop}

theorem MemL.leaveW (h : MemL T w b m most cnt nx pv es) {p s : Option Nat} (hp : At es p) (hs : At es s) :
    MemL T ((w.drew.setCell ⟨nb b p, no p + 3, none⟩ (pp b s)).setCell ⟨nb b s, no s + 2, none⟩ (pp b p)) b m most cnt (upd nx p s) (upd pv s p) es := (h.drew.setNx p s hp).setPv s p hs
theorem MemL.put (h : MemL T w b m most cnt nx pv es) {g : Nat} {k : κ} {v : ν} {u2 u3 : Value} (hg : Row w g T.E #[T.kv k, T.vv v, u2, u3]) (p s : Option Nat) :
    MemL T ((w.setCell ⟨g, 2, none⟩ (pp b p)).setCell ⟨g, 3, none⟩ (pp b s)) b m most cnt (upd nx (some g) s) (upd pv (some g) p) ((g, k, v) :: es) := by
  have hbg : b ≠ g := Row.ne h.top hg h.ne
  have hr : Row ((w.setCell ⟨g, 2, none⟩ (pp b p)).setCell ⟨g, 3, none⟩ (pp b s)) g T.E #[T.kv k, T.vv v, pp b p, pp b s] := by simpa using (hg.store 2 (pp b p)).store 3 (pp b s)
  refine ⟨h.ne, ?_, fun y hy => ?_⟩
  · have := (h.top.far (p := ⟨g, 2, none⟩) hbg (pp b p)).far (p := ⟨g, 3, none⟩) hbg (pp b s)
    simpa [upd] using this
  · rcases List.mem_cons.1 hy with rfl | hy
    · simpa [upd] using hr
    · have hy0 := h.ent y hy
      by_cases e : y.1 = g
      · rw [e] at hy0
        have e2 := Row.one hy0 hg
        simp only [Array.mk.injEq, List.cons.injEq] at e2
        rw [e, e2.1, e2.2.1]
        simpa [upd] using hr
      · have := (hy0.far (p := ⟨g, 2, none⟩) e (pp b p)).far (p := ⟨g, 3, none⟩) e (pp b s)
        simpa [upd, e] using this
theorem MemL.standW (h : MemL T w b m most cnt nx pv es) {g : Nat} {k : κ} {v : ν} {u2 u3 : Value} (hg : Row w g T.E #[T.kv k, T.vv v, u2, u3]) {p : Option Nat} (hp : At es p) :
    MemL T (((((w.setCell ⟨g, 2, none⟩ (pp b p)).setCell ⟨g, 3, none⟩ (pp b none)).drew).setCell ⟨nb b p, no p + 3, none⟩ (pp b (some g))).setCell ⟨b, 5, none⟩ (pp b (some g))) b m most cnt
      (upd (upd nx (some g) none) p (some g)) (upd (upd pv (some g) p) none (some g)) ((g, k, v) :: es) := by
  have h1 := (h.put hg p none).drew.setNx p (some g) (by
    rcases hp with h0 | ⟨e, he, h0⟩
    · exact .inl h0
    · exact .inr ⟨e, List.mem_cons_of_mem _ he, h0⟩)
  exact h1.setPv none (some g) (.inl rfl)

/-- A list, whole. R: where it lies. -/
structure LruAt (T : Ty κ ν) (w : World) (R : Nat → Prop) (b m most : Nat) (nx pv : Option Nat → Option Nat) (D : DataW Unit) (es : List (Nat × κ × ν)) : Prop where
  mem : MemL T w b m most es.length nx pv es
  ring : Lk nx pv (rg (es.map (·.1)))
  nod : (es.map (·.1)).Nodup
  keys : (es.map (·.2.1)).Nodup
  oks : ∀ x ∈ es, T.ok x.2.1
  map : w.ownsMap Try.prog T.K pe m (Maps.size D) D
  sz : Maps.size D = es.length
  look : ∀ x ∈ es, D.atKey (T.kl x.2.1) nilD = .lit (.int .i64 (x.1 : Int)) ∧ Maps.has D (T.kl x.2.1) = true
  miss : ∀ k, T.ok k → k ∉ es.map (·.2.1) → Maps.has D (T.kl k) = false
  rb : R b
  rm : R m
  re : ∀ x ∈ es, R x.1
  lt : ∀ k, R k → k < w.heap.size
  few : es.length ≤ 1101
  pos : 1 ≤ most
  top : most ≤ 1100

theorem LruAt.keep (h : LruAt T w R b m most nx pv D es) {Q : Nat → Prop} (k : Keep Q w w') (hQ : ∀ i, R i → ¬ Q i) : LruAt T w' R b m most nx pv D es :=
  ⟨h.mem.keep k (hQ b h.rb) (fun x hx => hQ _ (h.re x hx)), h.ring, h.nod, h.keys, h.oks, owns_keep h.map (k.block m (h.lt m h.rm) (hQ m h.rm)), h.sz, h.look, h.miss, h.rb, h.rm, h.re, fun i hi => Nat.lt_of_lt_of_le (h.lt i hi) k.size, h.few, h.pos, h.top⟩
theorem LruAt.calm (h : LruAt T w R b m most nx pv D es) (k : Calm w w') : LruAt T w' R b m most nx pv D es := h.keep k (fun _ _ e => e)
theorem LruAt.mb (h : LruAt T w R b m most nx pv D es) : m ≠ b := by
  intro e
  obtain ⟨es', c, hb, _⟩ := h.map
  have ht := h.mem.top
  unfold Row at ht
  rw [← e, hb] at ht
  cases ht
theorem LruAt.me (h : LruAt T w R b m most nx pv D es) {x : Nat × κ × ν} (hx : x ∈ es) : m ≠ x.1 := by
  intro e
  obtain ⟨es', c, hb, _⟩ := h.map
  have ht := h.mem.ent x hx
  unfold Row at ht
  rw [← e, hb] at ht
  cases ht
/-- The blocks of the nodes. -/
def Nodes (b : Nat) (es : List (Nat × κ × ν)) (k : Nat) : Prop := k = b ∨ ∃ y ∈ es, k = y.1
theorem At.node {x : Option Nat} (h : At es x) : Nodes b es (nb b x) := by
  rcases h with rfl | ⟨e, he, rfl⟩
  · exact .inl rfl
  · exact .inr ⟨e, he, rfl⟩
theorem keep_set {w0 : World} {Q : Nat → Prop} (h : Keep Q w0 w) (p : Addr) (hp : Q p.block) (v : Value) : Keep Q w0 (w.setCell p v) := h.store (fun _ => hp) v

/-- One among them, those ahead of it and behind it. -/
theorem split_mem {x : Nat × κ × ν} (hx : x ∈ es) : ∃ l1 l2, es = l1 ++ x :: l2 := by
  obtain ⟨l1, l2, h⟩ := List.append_of_mem hx
  exact ⟨l1, l2, h⟩
theorem LruAt.nbrs (h : LruAt T w R b m most nx pv D es) {l1 l2 : List (Nat × κ × ν)} {x : Nat × κ × ν} (e : es = l1 ++ x :: l2) :
    At es (pv (some x.1)) ∧ At es (nx (some x.1)) ∧ pv (some x.1) ≠ some x.1 ∧ nx (some x.1) ≠ some x.1 ∧ Lk (upd nx (pv (some x.1)) (nx (some x.1))) (upd pv (nx (some x.1)) (pv (some x.1))) (rg ((l1 ++ l2).map (·.1))) := by
  have hn := h.nod
  have hr := h.ring
  subst e
  rw [List.map_append, List.map_cons] at hn hr
  obtain ⟨a, c, d⟩ := Lk.leave hn hr
  have hd := (List.nodup_append.1 hn).2.2
  have hn2 := (List.nodup_cons.1 (List.nodup_append.1 hn).2.1).1
  refine ⟨?_, ?_, ?_, ?_, by rw [List.map_append]; exact d⟩
  · rcases a with a | ⟨y, hy, a⟩
    · exact .inl a
    · obtain ⟨z, hz, rfl⟩ := List.mem_map.1 hy
      exact .inr ⟨z, by simp [hz], a⟩
  · rcases c with a | ⟨y, hy, a⟩
    · exact .inl a
    · obtain ⟨z, hz, rfl⟩ := List.mem_map.1 hy
      exact .inr ⟨z, by simp [hz], a⟩
  · rcases a with a | ⟨y, hy, a⟩
    · rw [a]; simp
    · rw [a]; intro e; cases e; exact hd _ hy _ (by simp) rfl
  · rcases c with a | ⟨y, hy, a⟩
    · rw [a]; simp
    · rw [a]; intro e; cases e; exact hn2 hy
theorem LruAt.last (h : LruAt T w R b m most nx pv D es) : At es (pv none) := by
  by_cases he : es = []
  · subst he
    have hr := h.ring
    exact .inl hr.1.2
  · have hr := h.ring
    obtain ⟨l, x, rfl⟩ : ∃ l x, es = l ++ [x] := ⟨es.dropLast, es.getLast he, (List.dropLast_concat_getLast he).symm⟩
    have e : rg ((l ++ [x]).map (·.1)) = (none :: (l.map (·.1)).map some) ++ [some x.1, none] := by unfold rg; simp
    rw [e] at hr
    have := ((Lk.app _ _ _).1 hr).2.1.2
    exact .inr ⟨x, by simp, this⟩

theorem LruAt.used (h : LruAt T w R b m most nx pv D es) {l1 l2 : List (Nat × κ × ν)} {x : Nat × κ × ν} (e : es = l1 ++ x :: l2) (hs : w'.heap.size ≥ w.heap.size) (hmm : w'.heap[m]? = w.heap[m]?)
    (hm : MemL T w' b m most es.length
      (upd (upd (upd nx (pv (some x.1)) (nx (some x.1))) (some x.1) none) (upd pv (nx (some x.1)) (pv (some x.1)) none) (some x.1))
      (upd (upd (upd pv (nx (some x.1)) (pv (some x.1))) (some x.1) (upd pv (nx (some x.1)) (pv (some x.1)) none)) none (some x.1)) (x :: es)) :
    ∃ nx' pv', LruAt T w' R b m most nx' pv' D (l1 ++ l2 ++ [x]) := by
  obtain ⟨_, _, _, _, hl⟩ := h.nbrs e
  have hmem : ∀ y, y ∈ l1 ++ l2 ++ [x] → y ∈ es := by intro y hy; subst e; simp at hy ⊢; rcases hy with h | h | h <;> simp [h]
  have hmem' : ∀ y, y ∈ es → y ∈ l1 ++ l2 ++ [x] := by intro y hy; subst e; simp at hy ⊢; rcases hy with h | h | h <;> simp [h]
  have hlen : (l1 ++ l2 ++ [x]).length = es.length := by subst e; simp <;> omega
  have perm : List.Perm (l1 ++ l2 ++ [x]) es := by subst e; exact (List.perm_append_singleton x (l1 ++ l2)).trans (List.perm_middle.symm)
  have hnod := h.nod
  subst e
  rw [List.map_append, List.map_cons] at hnod
  have hg : x.1 ∉ (l1 ++ l2).map (·.1) := by
    rw [List.map_append]
    have hd := (List.nodup_append.1 hnod).2.2
    have hn2 := (List.nodup_cons.1 (List.nodup_append.1 hnod).2.1).1
    intro hc
    rcases List.mem_append.1 hc with hc | hc
    · exact hd _ hc _ (by simp) rfl
    · exact hn2 hc
  have hn' : ((l1 ++ l2).map (·.1)).Nodup := by
    have := (perm.map (·.1)).nodup_iff.2 h.nod
    rw [List.map_append] at this
    exact (List.nodup_append.1 this).1
  have st := (Lk.stand hg hn' hl).2
  refine ⟨_, _, ⟨?_, by simpa using st, (perm.map _).nodup_iff.2 h.nod, (perm.map _).nodup_iff.2 h.keys, fun y hy => h.oks y (hmem y hy), owns_keep h.map hmm, h.sz.trans hlen.symm, fun y hy => h.look y (hmem y hy), fun k hk hn => h.miss k hk (fun hc => hn ((perm.map (·.2.1)).mem_iff.2 hc)), h.rb, h.rm, fun y hy => h.re y (hmem y hy), fun i hi => Nat.lt_of_lt_of_le (h.lt i hi) hs, by rw [hlen]; exact h.few, h.pos, h.top⟩⟩
  rw [hlen]
  exact hm.sub (fun y hy => List.mem_cons_of_mem _ (hmem y hy))

theorem isKey (hT : T.Good) {k : κ} (hk : T.ok k) : WideAt.IsKeyLit (T.kl k) := hT.law.key (hT.key k hk)

theorem LruAt.added (hT : T.Good) (h : LruAt T w R b m most nx pv D es) {g : Nat} {k : κ} {v : ν} (hgR : ¬ R g) (hgl : g < w'.heap.size) (hk : T.ok k) (hkn : k ∉ es.map (·.2.1)) (hfew : es.length ≤ 1100) (hs : w'.heap.size ≥ w.heap.size)
    (hmap : w'.ownsMap Try.prog T.K pe m (Maps.size D + 1) (D.put (T.kl k) (.lit (.int .i64 (g : Int)))))
    (hm : MemL T w' b m most (es.length + 1) (upd (upd nx (some g) none) (pv none) (some g)) (upd (upd pv (some g) (pv none)) none (some g)) ((g, k, v) :: es)) :
    ∃ nx' pv' D', LruAt T w' (fun i => R i ∨ i = g) b m most nx' pv' D' (es ++ [(g, k, v)]) := by
  have hge : g ∉ es.map (·.1) := by
    intro hc
    obtain ⟨y, hy, rfl⟩ := List.mem_map.1 hc
    exact hgR (h.re y hy)
  have st := (Lk.stand hge h.nod h.ring).2
  have hmi := h.miss k hk hkn
  have hti := h.map.tidy hT.law
  have hsz : Maps.size (D.put (T.kl k) (.lit (.int .i64 (g : Int)))) = es.length + 1 := by rw [Maps.size_put hti, hmi]; simp [h.sz]
  have hkey := isKey hT hk
  have hmem : ∀ y, y ∈ es ++ [(g, k, v)] → y ∈ (g, k, v) :: es := by intro y hy; simp at hy ⊢; exact hy.symm
  refine ⟨_, _, _, ⟨?_, by simpa using st, ?_, ?_, ?_, owns_tight hmap, by simp [hsz], ?_, ?_, .inl h.rb, .inl h.rm, ?_, ?_, by simp; omega, h.pos, h.top⟩⟩
  · simpa using hm.sub hmem
  · simp only [List.map_append, List.map_cons, List.map_nil]
    rw [List.nodup_append]
    exact ⟨h.nod, by simp, fun a ha c hc => by simp only [List.mem_singleton] at hc; subst hc; intro e; subst e; exact hge ha⟩
  · simp only [List.map_append, List.map_cons, List.map_nil]
    rw [List.nodup_append]
    exact ⟨h.keys, by simp, fun a ha c hc => by simp only [List.mem_singleton] at hc; subst hc; intro e; subst e; exact hkn ha⟩
  · intro y hy
    rcases List.mem_append.1 hy with hy | hy
    · exact h.oks y hy
    · simp only [List.mem_singleton] at hy; subst hy; exact hk
  · intro y hy
    rcases List.mem_append.1 hy with hy | hy
    · have hne : T.kl y.2.1 ≠ T.kl k := fun e => hkn (by rw [← hT.inj _ _ (h.oks y hy) hk e]; exact List.mem_map.2 ⟨y, hy, rfl⟩)
      rw [Maps.atKey_put_other hne, Maps.has_put_other hne]
      exact h.look y hy
    · simp only [List.mem_singleton] at hy
      subst hy
      exact ⟨Maps.atKey_put_same hti.isMap hkey _ _, Maps.has_put_same hti.isMap hkey _⟩
  · intro k' hk' hn'
    have h1 : k' ∉ es.map (·.2.1) := fun hc => hn' (by simp only [List.map_append, List.mem_append]; exact .inl hc)
    have h2 : k' ≠ k := fun e => hn' (by subst e; simp)
    rw [Maps.has_put_other (fun e => h2 (hT.inj _ _ hk' hk e))]
    exact h.miss k' hk' h1
  · intro y hy
    rcases List.mem_append.1 hy with hy | hy
    · exact .inl (h.re y hy)
    · simp only [List.mem_singleton] at hy; subst hy; exact .inr rfl
  · intro i hi
    rcases hi with hi | rfl
    · exact Nat.lt_of_lt_of_le (h.lt i hi) hs
    · exact hgl

theorem LruAt.removed (hT : T.Good) (h : LruAt T w R b m most nx pv D es) {l1 l2 : List (Nat × κ × ν)} {x : Nat × κ × ν} (e : es = l1 ++ x :: l2) (hs : w'.heap.size ≥ w.heap.size)
    (hmap : w'.ownsMap Try.prog T.K pe m (Maps.size D) (D.del (T.kl x.2.1)))
    (hm : MemL T w' b m most (es.length - 1) (upd nx (pv (some x.1)) (nx (some x.1))) (upd pv (nx (some x.1)) (pv (some x.1))) es) :
    ∃ nx' pv' D', LruAt T w' R b m most nx' pv' D' (l1 ++ l2) := by
  obtain ⟨_, _, _, _, hl⟩ := h.nbrs e
  have hx : x ∈ es := by subst e; simp
  have hmem : ∀ y, y ∈ l1 ++ l2 → y ∈ es := by intro y hy; subst e; simp at hy ⊢; rcases hy with h | h <;> simp [h]
  have hlen : (l1 ++ l2).length = es.length - 1 := by subst e; simp <;> omega
  have hel : es.length ≠ 0 := by subst e; simp
  have perm : List.Perm (x :: (l1 ++ l2)) es := by subst e; exact List.perm_middle.symm
  have nk := List.nodup_cons.1 ((perm.map (·.2.1)).nodup_iff.2 h.keys)
  have ng := List.nodup_cons.1 ((perm.map (·.1)).nodup_iff.2 h.nod)
  have hti := h.map.tidy hT.law
  have hhas := (h.look x hx).2
  have hsz : Maps.size (D.del (T.kl x.2.1)) = es.length - 1 := by
    have := Maps.size_del (k := T.kl x.2.1) hti
    rw [hhas, h.sz] at this
    simp at this
    omega
  have hkx : ∀ y ∈ l1 ++ l2, y.2.1 ≠ x.2.1 := fun y hy e => nk.1 (List.mem_map.2 ⟨y, hy, e⟩)
  refine ⟨_, _, _, ⟨?_, hl, ng.2, nk.2, fun y hy => h.oks y (hmem y hy), owns_tight hmap, by rw [hsz, hlen], ?_, ?_, h.rb, h.rm, fun y hy => h.re y (hmem y hy), fun i hi => Nat.lt_of_lt_of_le (h.lt i hi) hs, by have := h.few; omega, h.pos, h.top⟩⟩
  · rw [hlen]; exact hm.sub hmem
  · intro y hy
    have hne : T.kl y.2.1 ≠ T.kl x.2.1 := fun e => hkx y hy (hT.inj _ _ (h.oks y (hmem y hy)) (h.oks x hx) e)
    rw [Maps.atKey_del_other hne, Maps.has_del_other hne]
    exact h.look y (hmem y hy)
  · intro k hk hn
    by_cases hkk : k = x.2.1
    · rw [hkk]; exact Maps.has_del_same
    · rw [Maps.has_del_other (fun e => hkk (hT.inj _ _ hk (h.oks x hx) e))]
      refine h.miss k hk (fun hc => ?_)
      have := (perm.map (·.2.1)).mem_iff.2 hc
      simp only [List.map_cons, List.mem_cons] at this
      rcases this with h1 | h1
      · exact hkk h1
      · exact hn h1

/-- The value of the last one is written. -/
theorem LruAt.value {l : List (Nat × κ × ν)} {g : Nat} {k : κ} {v : ν} (h : LruAt T w R b m most nx pv D (l ++ [(g, k, v)])) (v' : ν) : LruAt T (w.setCell ⟨g, 1, none⟩ (T.vv v')) R b m most nx pv D (l ++ [(g, k, v')]) := by
  have hx : (g, k, v) ∈ l ++ [(g, k, v)] := by simp
  have hbg := h.mem.apart hx
  have hmg := h.me hx
  have hn := h.nod
  rw [List.map_append, List.nodup_append] at hn
  have hr := h.mem.ent _ hx
  refine ⟨⟨h.mem.ne, ?_, ?_⟩, by simpa using h.ring, by simpa using h.nod, by simpa using h.keys, ?_, owns_keep h.map (Below.heap_setCell _ _ _ _ hmg), by simpa using h.sz, ?_, ?_, h.rb, h.rm, ?_, fun i hi => by simpa [World.setCell] using h.lt i hi, by simpa using h.few, h.pos, h.top⟩
  · simpa using h.mem.top.far (p := ⟨g, 1, none⟩) hbg (T.vv v')
  · intro y hy
    rcases List.mem_append.1 hy with hy | hy
    · have : y.1 ≠ g := fun e => hn.2.2 _ (List.mem_map.2 ⟨y, hy, rfl⟩) g (by simp) e
      exact (h.mem.ent y (List.mem_append_left _ hy)).far (p := ⟨g, 1, none⟩) this _
    · simp only [List.mem_singleton] at hy
      subst hy
      simpa using hr.store 1 (T.vv v')
  · intro y hy
    rcases List.mem_append.1 hy with hy | hy
    · exact h.oks y (List.mem_append_left _ hy)
    · simp only [List.mem_singleton] at hy; subst hy; exact h.oks (g, k, v) hx
  · intro y hy
    rcases List.mem_append.1 hy with hy | hy
    · exact h.look y (List.mem_append_left _ hy)
    · simp only [List.mem_singleton] at hy; subst hy; exact h.look (g, k, v) hx
  · intro k' hk' hn'
    exact h.miss k' hk' (by simpa using hn')
  · intro y hy
    rcases List.mem_append.1 hy with hy | hy
    · exact h.re y (List.mem_append_left _ hy)
    · simp only [List.mem_singleton] at hy; subst hy; exact h.re (g, k, v) hx
end
end Go.Proofs.Ytnlojohjhfpbgaa
