/-
  Tables: Update: an entry is written over, one is added; Delete.
-/
import Derived.Test.YtiipepiabeccpaaT13
namespace Go.Proofs.Ytiipepiabeccpaa
open Go.RowKit Go.Deep
open Go.Maps (Keyed)
set_option linter.all false
attribute [local go_sem] Oper.semAt_some

theorem KindIs.mono {w : World} {R R' : Nat → Prop} {q : MN} {kb : KB} {ev : Value} (h : KindIs w R q kb ev) (hR : ∀ i, R i → R' i) : KindIs w R' q kb ev := by
  cases h with
  | arr A a b c d => exact .arr A a (hR _ b) c d
  | hash b D a c d e => exact .hash b D a (hR _ c) d e
  | lru b tb R0 a c d => exact .lru b tb R0 a (fun i hi => hR _ (c i hi)) d
theorem addE_form {kind mx : Nat} {k : List UInt8} {g : Nat} {bs : List UInt8} {E : List Ent} (hk : k ∉ keysL E) (hl : E.length ≤ mx) (h2 : kind ≠ 3 → E.length < mx) (hp : 1 ≤ mx) :
    ∃ E0, E0.Sublist E ∧ addE kind mx k g bs E = E0 ++ [(k, g, bs)] ∧ E0.length < mx := by
  unfold addE
  split
  · unfold putL
    rw [if_neg hk]
    split
    · exact ⟨E, List.Sublist.refl _, rfl, by assumption⟩
    · refine ⟨E.tail, List.tail_sublist _, rfl, ?_⟩
      rw [List.length_tail]
      omega
  · exact ⟨E, List.Sublist.refl _, rfl, h2 (by assumption)⟩

theorem sub_keys {E0 E : List Ent} (h : E0.Sublist E) : (keysL E0).Sublist (keysL E) := by unfold keysL; exact h.map _
theorem sub_blks {E0 E : List Ent} (h : E0.Sublist E) : (blks E0).Sublist (blks E) := by unfold blks; exact h.map _
/-- What is gone is left alone too. -/
def Gone (S : Nat → Prop) (E E' : List Ent) (i : Nat) : Prop := S i ∨ (i ∈ blks E ∧ i ∉ blks E')

section
variable {w0 w w' : World} {S R : Nat → Prop} {tb : Nat} {q : MN} {E E' : List Ent} {ev : Value}
theorem tab_less (h1 : TabAt w R tb q E) (h2 : ∀ i, R i ∨ i ∈ blks E → w0.heap.size ≤ i ∧ ¬ S i) (h3 : ∀ i, S i → i < w.heap.size) (h4 : Calm w0 w) (hs : E'.Sublist E)
    (t1 : Row w tb 128 #[.string (str q.name), .int .i64 (q.kind : Int), .int .i64 (q.key : Int), .int .i64 (q.val : Int), .int .i64 (q.max : Int), ev])
    (kk : KindIs w' (fun i => R i ∧ i ≠ tb) q (kbs E') ev) (kp : Keep (fun i => R i ∧ i ≠ tb) w w') : Tab w0 w' (Gone S E E') tb q E' ∧ Held (Gone S E E') w w' := by
  have hb : ∀ i, i ∈ blks E → i < w.heap.size := fun i hi => by obtain ⟨x, hx, rfl⟩ := List.mem_map.1 hi; exact h1.blt x hx
  have hRb : ∀ i, i ∈ blks E → ¬ R i := fun i hi => by obtain ⟨x, hx, rfl⟩ := List.mem_map.1 hi; exact h1.off x hx
  have hsb : ∀ i, i ∈ blks E' → i ∈ blks E := fun i hi => (hs.map (·.2.1)).subset hi
  refine ⟨⟨R, h1.turn (fun x hx => hs.subset hx) ((sub_keys hs).nodup h1.keys) ((sub_blks hs).nodup h1.nod) (Nat.le_trans hs.length_le h1.few) t1 kk kp, ?_, ?_, h4.then_ kp (fun i hi hr => ?_)⟩, ?_⟩
  · rintro i hi
    have := h2 i (hi.imp id (hsb i))
    refine ⟨this.1, ?_⟩
    rintro (e | ⟨e1, e2⟩)
    · exact this.2 e
    · exact hi.elim (hRb i e1) e2
  · rintro i (hi | hi)
    · exact Nat.lt_of_lt_of_le (h3 i hi) kp.size
    · exact Nat.lt_of_lt_of_le (hb i hi.1) kp.size
  · have := (h2 i (.inl hr.1)).1
    omega
  · rintro i (hi | hi)
    · exact kp.block i (h3 i hi) (fun e => (h2 i (.inl e.1)).2 hi)
    · exact kp.block i (hb i hi.1) (fun e => hRb i hi.1 e.1)
theorem tab_more (h1 : TabAt w R tb q E) (h2 : ∀ i, R i ∨ i ∈ blks E → w0.heap.size ≤ i ∧ ¬ S i) (h3 : ∀ i, S i → i < w.heap.size) (h4 : Calm w0 w)
    (t1 : Row w tb 128 #[.string (str q.name), .int .i64 (q.kind : Int), .int .i64 (q.key : Int), .int .i64 (q.val : Int), .int .i64 (q.max : Int), ev])
    {k v : List UInt8} (hk : k ∉ keysL E) (hkl : k.length = q.key) (hvl : v.length = q.val) (hf : q.kind ≠ 3 → E.length < q.max) (ha : AddK w (fun i => R i ∧ i ≠ tb) q v k (kbs E) ev w') :
    ∃ g, w.heap.size ≤ g ∧ Tab w0 w' (Gone S E (addE q.kind q.max k g v E)) tb q (addE q.kind q.max k g v E) ∧ Held (Gone S E (addE q.kind q.max k g v E)) w w' := by
  obtain ⟨g, R', a1, a2, a3, a4, a5, a6, a7⟩ := ha
  obtain ⟨E0, e1, e2, e3⟩ := addE_form (kind := q.kind) (g := g) (bs := v) hk h1.few hf h1.ok.max.1
  have hb : ∀ i, i ∈ blks E → i < w.heap.size := fun i hi => by obtain ⟨x, hx, rfl⟩ := List.mem_map.1 hi; exact h1.blt x hx
  have hRb : ∀ i, i ∈ blks E → ¬ R i := fun i hi => by obtain ⟨x, hx, rfl⟩ := List.mem_map.1 hi; exact h1.off x hx
  have hsb : ∀ i, i ∈ blks E0 → i ∈ blks E := fun i hi => (e1.map (·.2.1)).subset hi
  have hb' : ∀ i, i ∈ blks (addE q.kind q.max k g v E) ↔ i ∈ blks E0 ∨ i = g := fun i => by rw [e2]; simp [blks]
  have htb := h1.lt tb h1.rt
  have hRt : ∀ i, R' i → i ≠ tb := fun i hi e => by
    subst e
    rcases a5 i hi with h | h
    · exact h.2 rfl
    · omega
  have hR0 : ∀ i, R' i → R i ∨ w.heap.size ≤ i := fun i hi => (a5 i hi).imp (fun h => h.1) id
  refine ⟨g, a1, ⟨fun i => R' i ∨ i = tb, ⟨h1.ok, ⟨ev, t1.keep a6 (fun e => e.2 rfl), ?_⟩, .inr rfl, ?_, ?_, ?_, ?_, ?_, ?_, ?_⟩, ?_, ?_, h4.then_ a6 (fun i hi hr => ?_)⟩, ?_⟩
  · rw [kbs_add]
    exact a4.mono (fun i hi => ⟨.inl hi, hRt i hi⟩)
  · rintro i (hi | rfl)
    · exact a7 i hi
    · exact Nat.lt_of_lt_of_le htb a6.size
  · intro x hx
    rw [e2] at hx
    rcases List.mem_append.1 hx with hx | hx
    · have hx' := e1.subset hx
      exact ⟨(h1.ent x hx').1.keep a6 (fun e => h1.off x hx' e.1), (h1.ent x hx').2⟩
    · simp only [List.mem_singleton] at hx
      subst hx
      exact ⟨a3, hvl⟩
  · intro x hx
    rw [e2] at hx
    rcases List.mem_append.1 hx with hx | hx
    · have hx' := e1.subset hx
      have := h1.blt x hx'
      rintro (e | e)
      · rcases hR0 _ e with h | h
        · exact h1.off x hx' h
        · omega
      · exact h1.off x hx' (by rw [e]; exact h1.rt)
    · simp only [List.mem_singleton] at hx
      subst hx
      rintro (e | e)
      · exact a2 e
      · simp only at e; omega
  · rw [e2]
    unfold blks
    rw [List.map_append, List.nodup_append]
    refine ⟨(sub_blks e1).nodup h1.nod, by simp, ?_⟩
    intro a ha c hc
    simp only [List.map_cons, List.map_nil, List.mem_singleton] at hc
    subst hc
    have := hb a (hsb a ha)
    omega
  · rw [e2]
    unfold keysL
    rw [List.map_append, List.nodup_append]
    refine ⟨(sub_keys e1).nodup h1.keys, by simp, ?_⟩
    intro a ha c hc
    simp only [List.map_cons, List.map_nil, List.mem_singleton] at hc
    subst hc
    intro e
    subst e
    exact hk ((e1.map (·.1)).subset ha)
  · intro x hx
    rw [e2] at hx
    rcases List.mem_append.1 hx with hx | hx
    · exact h1.klen x (e1.subset hx)
    · simp only [List.mem_singleton] at hx
      subst hx
      exact hkl
  · rw [e2]
    simp
    omega
  · rintro i hi
    rw [hb'] at hi
    have hnew : w.heap.size ≤ i → w0.heap.size ≤ i ∧ ¬ Gone S E (addE q.kind q.max k g v E) i := fun h => by
      have := h4.size
      refine ⟨by omega, ?_⟩
      rintro (e | e)
      · have := h3 i e; omega
      · have := hb i e.1; omega
    have hold : R i ∨ i ∈ blks E0 → w0.heap.size ≤ i ∧ ¬ Gone S E (addE q.kind q.max k g v E) i := fun h => by
      have := h2 i (h.imp id (hsb i))
      refine ⟨this.1, ?_⟩
      rintro (e | e)
      · exact this.2 e
      · rw [hb'] at e
        rcases h with h | h
        · exact hRb i e.1 h
        · exact e.2 (.inl h)
    rcases hi with (hi | rfl) | hi | rfl
    · rcases hR0 i hi with h | h
      · exact hold (.inl h)
      · exact hnew h
    · exact hold (.inl h1.rt)
    · exact hold (.inr hi)
    · exact hnew a1
  · rintro i (hi | hi)
    · exact Nat.lt_of_lt_of_le (h3 i hi) a6.size
    · exact Nat.lt_of_lt_of_le (hb i hi.1) a6.size
  · have := (h2 i (.inl hr.1)).1
    omega
  · rintro i (hi | hi)
    · exact a6.block i (h3 i hi) (fun e => (h2 i (.inl e.1)).2 hi)
    · exact a6.block i (hb i hi.1) (fun e => hRb i hi.1 e.1)
end
end Go.Proofs.Ytiipepiabeccpaa
