import Derived.Test.YtnlojohjhfpbgaaT35
import Derived.Test.YtnlojohjhfpbgaaT32
import Derived.Test.YtnlojohjhfpbgaaT37
/-
  Tables: a Hash's entries in order: there is one such row.
-/
namespace Go.Proofs.Ytnlojohjhfpbgaa
open Go.RowKit Go.Deep
set_option linter.all false

def leK (a b : List UInt8) : Prop := Op.bytesLess b a = false
theorem leK_anti {a b : List UInt8} (h1 : leK a b) (h2 : leK b a) : a = b := by
  rcases bl_tri a b with h | h | h
  · rw [leK, h] at h2; cases h2
  · exact h
  · rw [leK, h] at h1; cases h1
theorem key_one {L : KB} (hn : (keysL L).Nodup) {x y : List UInt8 × Nat} (hx : x ∈ L) (hy : y ∈ L) (e : x.1 = y.1) : x = y := by
  have h1 := getL_mem (k := x.1) (v := x.2) hn hx
  have h2 := getL_mem (k := y.1) (v := y.2) hn hy
  rw [e, h2] at h1
  injection h1 with h1
  exact Prod.ext e h1.symm
theorem sorted_one : ∀ {L L' : KB}, L.Perm L' → (keysL L).Nodup → (keysL L).Pairwise leK → (keysL L').Pairwise leK → L = L'
  | [], L', hp, _, _, _ => (List.nil_perm.1 hp).symm
  | x :: l, [], hp, _, _, _ => by have := hp.length_eq; simp at this
  | x :: l, y :: l', hp, hn, s1, s2 => by
    have s1' := List.pairwise_cons.1 (show (x.1 :: keysL l).Pairwise leK from s1)
    have s2' := List.pairwise_cons.1 (show (y.1 :: keysL l').Pairwise leK from s2)
    have hxy : x = y := by
      refine Decidable.byContradiction (fun hne => hne ?_)
      have hx : x ∈ l' := by
        rcases List.mem_cons.1 (hp.mem_iff.1 List.mem_cons_self) with e | h
        · exact absurd e hne
        · exact h
      have hy : y ∈ l := by
        rcases List.mem_cons.1 (hp.mem_iff.2 List.mem_cons_self) with e | h
        · exact absurd e.symm hne
        · exact h
      exact key_one hn List.mem_cons_self (List.mem_cons_of_mem _ hy) (leK_anti (s1'.1 _ (List.mem_map.2 ⟨y, hy, rfl⟩)) (s2'.1 _ (List.mem_map.2 ⟨x, hx, rfl⟩)))
    subst hxy
    rw [sorted_one (List.perm_cons _ |>.1 hp) (List.nodup_cons.1 (show (x.1 :: keysL l).Nodup from hn)).2 s1'.2 s2'.2]
end Go.Proofs.Ytnlojohjhfpbgaa

/-
  Tables: a range over a Hash.
-/
namespace Go.Proofs.Ytnlojohjhfpbgaa
open Go.RowKit Go.Deep Go.Shelf
set_option linter.all false

theorem sorted_is (kb : KB) : ∃ kb' : KB, kb'.Perm kb ∧ (keysL kb').Pairwise leK := by
  refine ⟨kb.mergeSort (fun x y => !Op.bytesLess y.1 x.1), List.mergeSort_perm _ _, ?_⟩
  have h := List.pairwise_mergeSort (le := fun x y : List UInt8 × Nat => !Op.bytesLess y.1 x.1) (fun a b c h1 h2 => by
    simp only [Bool.not_eq_true'] at h1 h2 ⊢
    exact bl_ntrans _ _ _ h2 h1) (fun a b => by
    simp only [Bool.or_eq_true, Bool.not_eq_true']
    rcases bl_tri a.1 b.1 with h | h | h
    · refine .inl ?_
      cases e : Op.bytesLess b.1 a.1 with
      | false => rfl
      | true => have := bl_trans _ _ _ h e; rw [bl_irrefl] at this; cases this
    · exact .inl (by rw [h]; exact bl_irrefl _)
    · refine .inr ?_
      cases e : Op.bytesLess a.1 b.1 with
      | false => rfl
      | true => have := bl_trans _ _ _ h e; rw [bl_irrefl] at this; cases this) kb
  unfold keysL
  refine List.pairwise_map.2 (h.imp (fun {a b} h => ?_))
  simpa [leK] using h
/-- As tab_allnow, of a Hash: the entries in the order of their keys. -/
theorem tab_allnow2 {w0 w : World} {S : Nat → Prop} {tb : Nat} {q : MN} {E : List Ent} (h : Tab w0 w S tb q E) (hk : q.kind = 2) (hS : SortsE q.val) : ∃ kb', kb'.Perm (kbs E) ∧ (keysL kb').Pairwise leK ∧ ∃ ev, w.cell? ⟨tb, 5, none⟩ = some ev ∧ tb < w.heap.size ∧ ∀ W, Below w.heap.size w W → AllNow ev (kes q.val kb') W := by
  obtain ⟨R, h1, _, _, _⟩ := h
  obtain ⟨ev, hr, hK⟩ := h1.top
  obtain ⟨kb', p1, p2⟩ := sorted_is (kbs E)
  refine ⟨kb', p1, p2, ev, (hr.cell 5).trans rfl, hr.lt, fun W hW => ?_⟩
  cases hK with
  | arr A hkd => omega
  | lru b tb' R0 hkd => omega
  | hash b D hkd hR hm hD =>
    have hn : (keysL (kbs E)).Nodup := by rw [keys_kbs]; exact h1.keys
    refine ⟨_, _, _, rfl, m_hk_all _, cf_hk_all, (all_hash _ (owns_keep' hm (hW.block b hm.lt)) hD hn ?_ hS).mono ?_⟩
    · have h2 := h1.few
      have h3 := h1.ok.max.2
      simp only [kbs, mapv, List.length_map]
      omega
    · rintro e w' ⟨kb2, p3, p4, v, rfl, ho, hc⟩
      have e2 : kb2 = kb' := sorted_one (p3.trans p1.symm) (by
        have hp : (keysL kb2).Perm (keysL (kbs E)) := p3.map _
        exact (List.Perm.nodup_iff hp).2 hn) p4 p2
      subst e2
      exact ⟨v, rfl, ho, calm_grown hc⟩
end Go.Proofs.Ytnlojohjhfpbgaa

/-
  Tables: a range over any table.
-/
namespace Go.Proofs.Ytnlojohjhfpbgaa
open Go.RowKit Go.Deep Go.Shelf
set_option linter.all false

/-- Keys and blocks in the order of All. -/
noncomputable def ordK (q : MN) (E : List Ent) : KB := if q.kind = 2 then Classical.choose (sorted_is (kbs E)) else kbs E
theorem ordK_perm (q : MN) (E : List Ent) : (ordK q E).Perm (kbs E) := by
  unfold ordK
  split
  · exact (Classical.choose_spec (sorted_is (kbs E))).1
  · exact List.Perm.refl _
theorem ordK_sorted {q : MN} {E : List Ent} (h : q.kind = 2) : (keysL (ordK q E)).Pairwise leK := by
  unfold ordK
  rw [if_pos h]
  exact (Classical.choose_spec (sorted_is (kbs E))).2
theorem ordK_same {q : MN} {E : List Ent} (h : q.kind ≠ 2) : ordK q E = kbs E := if_neg h
theorem ordK_len (q : MN) (E : List Ent) : (ordK q E).length = E.length := by rw [(ordK_perm q E).length_eq]; simp [kbs, mapv]
theorem ordK_keys (q : MN) (E : List Ent) : (keysL (ordK q E)).Perm (keysL E) := by
  rw [← keys_kbs E]
  exact (ordK_perm q E).map _
theorem ordK_nodup {q : MN} {E : List Ent} (hn : (keysL E).Nodup) : (keysL (ordK q E)).Nodup := (List.Perm.nodup_iff (ordK_keys q E)).2 hn
theorem ordK_mem {q : MN} {E : List Ent} {x : List UInt8 × Nat} : x ∈ ordK q E ↔ ∃ bs, (x.1, x.2, bs) ∈ E := by
  rw [(ordK_perm q E).mem_iff]
  unfold kbs mapv
  rw [List.mem_map]
  constructor
  · rintro ⟨⟨k, g, bs⟩, h, rfl⟩
    exact ⟨bs, h⟩
  · rintro ⟨bs, h⟩
    exact ⟨_, h, rfl⟩
/-- The entries as the range tells them. -/
noncomputable def told (q : MN) (E : List Ent) : List KE := kes q.val (ordK q E)
theorem told_len (q : MN) (E : List Ent) : (told q E).length = E.length := by rw [told, kes_len, ordK_len]
theorem told_keys (q : MN) (E : List Ent) : (told q E).map (·.1) = keysL (ordK q E) := by
  exact keys_mapv (lv q.val) (ordK q E)
theorem told_at {q : MN} {E : List Ent} {i : Nat} {x : KE} (h : (told q E)[i]? = some x) : ∃ g bs, (x.1, g, bs) ∈ E ∧ x.2 = lv q.val g ∧ (keysL (ordK q E))[i]? = some x.1 := by
  have h' : ((ordK q E).map (fun x => (x.1, lv q.val x.2)))[i]? = some x := h
  rw [List.getElem?_map] at h'
  obtain ⟨y, hy, e⟩ := Option.map_eq_some_iff.1 h'
  subst e
  obtain ⟨bs, hb⟩ := ordK_mem.1 (List.mem_of_getElem? hy)
  refine ⟨y.2, bs, hb, rfl, ?_⟩
  unfold keysL
  rw [List.getElem?_map, hy]
  rfl
theorem told_key {q : MN} {E : List Ent} (hn : (keysL E).Nodup) {x y : KE} (hx : x ∈ told q E) (hy : y ∈ told q E) (e : x.1 = y.1) : x = y := by
  obtain ⟨i, hi⟩ := List.getElem?_of_mem hx
  obtain ⟨j, hj⟩ := List.getElem?_of_mem hy
  obtain ⟨g, bs, h1, h2, _⟩ := told_at hi
  obtain ⟨g', bs', h1', h2', _⟩ := told_at hj
  have := uniq_key hn h1 h1' e
  simp only [Prod.mk.injEq] at this
  exact Prod.ext e (by rw [h2, h2', this.2.1])
theorem told_few {w0 w : World} {S : Nat → Prop} {tb : Nat} {q : MN} {E : List Ent} (h : Tab w0 w S tb q E) : (told q E).length ≤ 1024 := by
  rw [told_len]
  have h1 := h.few
  have h2 := h.ok.max.2
  omega
/-- A range over any table, here and now. -/
theorem tab_all {w0 w : World} {S : Nat → Prop} {tb : Nat} {q : MN} {E : List Ent} (h : Tab w0 w S tb q E) : ∃ ev, w.cell? ⟨tb, 5, none⟩ = some ev ∧ tb < w.heap.size ∧ ∀ W, Below w.heap.size w W → AllNow ev (told q E) W := by
  have hk := h.ok.kind
  by_cases h2 : q.kind = 2
  · obtain ⟨kb', p1, p2, r⟩ := tab_allnow2 h h2 (sortsE q.val)
    have e : kb' = ordK q E := sorted_one (p1.trans (ordK_perm q E).symm) (by
      have hp : (keysL kb').Perm (keysL (kbs E)) := p1.map _
      refine (List.Perm.nodup_iff hp).2 ?_
      rw [keys_kbs]
      exact h.keys) p2 (ordK_sorted h2)
    subst e
    exact r
  · have e : told q E = rows q.val E := by unfold told rows; rw [ordK_same h2]
    rw [e]
    rcases hk with hk | hk | hk
    · exact tab_allnow h hk.1
    · exact absurd hk h2
    · exact tab_allnow3 h hk
end Go.Proofs.Ytnlojohjhfpbgaa

