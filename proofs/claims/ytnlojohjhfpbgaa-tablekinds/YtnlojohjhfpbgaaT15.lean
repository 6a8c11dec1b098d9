import Derived.Test.YtnlojohjhfpbgaaT13
/-
  Tables: Update: an entry is written over, one is added; Delete.
-/
namespace Go.Proofs.Ytnlojohjhfpbgaa
open Go.RowKit Go.Deep
open Go.Maps (Keyed)
set_option linter.all false
attribute [local go_sem] Oper.semAt_some

theorem KindIs.mono {w : World} {R R' : Nat → Prop} {q : MN} {kb : KB} {ev : Value} (h : KindIs w R q kb ev) (hR : ∀ i, R i → R' i) : KindIs w R' q kb ev := by
  cases h with
  | arr A a b c d => exact .arr A a (hR _ b) c d
  | hash b D a c d e => exact .hash b D a (hR _ c) d e
  | lru b tb R0 a c d => exact .lru b tb R0 a (fun i hi => hR _ (c i hi)) d
theorem addE_form {kind mx : Nat} {k : List UInt8} {g : Nat} {bs : List UInt8} {E : List Ent} (hk : k ∉ keysL E) (hl : E.length ≤ mx) (h2 : kind ≠ 3 → E.length < mx) (hp : 1 ≤ mx) :
    ∃ E0, E0.Sublist E ∧ addE kind mx k g bs E = E0 ++ [(k, g, bs)] ∧ E0.length < mx := by
  unfold addE
  split
  · unfold putL
    rw [if_neg hk]
    split
    · exact ⟨E, List.Sublist.refl _, rfl, by assumption⟩
    · refine ⟨E.tail, List.tail_sublist _, rfl, ?_⟩
      rw [List.length_tail]
      omega
  · exact ⟨E, List.Sublist.refl _, rfl, h2 (by assumption)⟩

theorem sub_keys {E0 E : List Ent} (h : E0.Sublist E) : (keysL E0).Sublist (keysL E) := by unfold keysL; exact h.map _
theorem sub_blks {E0 E : List Ent} (h : E0.Sublist E) : (blks E0).Sublist (blks E) := by unfold blks; exact h.map _
/-- What is gone is left alone too. -/
def Gone (S : Nat → Prop) (E E' : List Ent) (i : Nat) : Prop := S i ∨ (i ∈ blks E ∧ i ∉ blks E')

section
variable {w0 w w' : World} {S R : Nat → Prop} {tb : Nat} {q : MN} {E E' : List Ent} {ev : Value}
theorem tab_less (h1 : TabAt w R tb q E) (h2 : ∀ i, R i ∨ i ∈ blks E → w0.heap.size ≤ i ∧ ¬ S i) (h3 : ∀ i, S i → i < w.heap.size) (h4 : Calm w0 w) (hs : E'.Sublist E)
    (t1 : Row w tb 122 #[.string (str q.name), .int .i64 (q.kind : Int), .int .i64 (q.key : Int), .int .i64 (q.val : Int), .int .i64 (q.max : Int), ev])
    (kk : KindIs w' (fun i => R i ∧ i ≠ tb) q (kbs E') ev) (kp : Keep (fun i => R i ∧ i ≠ tb) w w') : Tab w0 w' (Gone S E E') tb q E' ∧ Held (Gone S E E') w w' := by
  have hb : ∀ i, i ∈ blks E → i < w.heap.size := fun i hi => by obtain ⟨x, hx, rfl⟩ := List.mem_map.1 hi; exact h1.blt x hx
  have hRb : ∀ i, i ∈ blks E → ¬ R i := fun i hi => by obtain ⟨x, hx, rfl⟩ := List.mem_map.1 hi; exact h1.off x hx
  have hsb : ∀ i, i ∈ blks E' → i ∈ blks E := fun i hi => (hs.map (·.2.1)).subset hi
  refine ⟨⟨R, h1.turn (fun x hx => hs.subset hx) ((sub_keys hs).nodup h1.keys) ((sub_blks hs).nodup h1.nod) (Nat.le_trans hs.length_le h1.few) t1 kk kp, ?_, ?_, h4.then_ kp (fun i hi hr => ?_)⟩, ?_⟩
  · rintro i hi
    have := h2 i (hi.imp id (hsb i))
    refine ⟨this.1, ?_⟩
    rintro (e | ⟨e1, e2⟩)
    · exact this.2 e
    · exact hi.elim (hRb i e1) e2
  · rintro i (hi | hi)
    · exact Nat.lt_of_lt_of_le (h3 i hi) kp.size
    · exact Nat.lt_of_lt_of_le (hb i hi.1) kp.size
  · have := (h2 i (.inl hr.1)).1
    omega
  · refine ⟨?_, kp.size⟩
    rintro i (hi | hi)
    · exact kp.block i (h3 i hi) (fun e => (h2 i (.inl e.1)).2 hi)
    · exact kp.block i (hb i hi.1) (fun e => hRb i hi.1 e.1)
theorem tab_more (h1 : TabAt w R tb q E) (h2 : ∀ i, R i ∨ i ∈ blks E → w0.heap.size ≤ i ∧ ¬ S i) (h3 : ∀ i, S i → i < w.heap.size) (h4 : Calm w0 w)
    (t1 : Row w tb 122 #[.string (str q.name), .int .i64 (q.kind : Int), .int .i64 (q.key : Int), .int .i64 (q.val : Int), .int .i64 (q.max : Int), ev])
    {k v : List UInt8} (hk : k ∉ keysL E) (hkl : k.length = q.key) (hvl : v.length = q.val) (hf : q.kind ≠ 3 → E.length < q.max) (ha : AddK w (fun i => R i ∧ i ≠ tb) q v k (kbs E) ev w') :
    ∃ g, w.heap.size ≤ g ∧ Tab w0 w' (Gone S E (addE q.kind q.max k g v E)) tb q (addE q.kind q.max k g v E) ∧ Held (Gone S E (addE q.kind q.max k g v E)) w w' := by
  obtain ⟨g, R', a1, a2, a3, a4, a5, a6, a7⟩ := ha
  obtain ⟨E0, e1, e2, e3⟩ := addE_form (kind := q.kind) (g := g) (bs := v) hk h1.few hf h1.ok.max.1
  have hb : ∀ i, i ∈ blks E → i < w.heap.size := fun i hi => by obtain ⟨x, hx, rfl⟩ := List.mem_map.1 hi; exact h1.blt x hx
  have hRb : ∀ i, i ∈ blks E → ¬ R i := fun i hi => by obtain ⟨x, hx, rfl⟩ := List.mem_map.1 hi; exact h1.off x hx
  have hsb : ∀ i, i ∈ blks E0 → i ∈ blks E := fun i hi => (e1.map (·.2.1)).subset hi
  have hb' : ∀ i, i ∈ blks (addE q.kind q.max k g v E) ↔ i ∈ blks E0 ∨ i = g := fun i => by rw [e2]; simp [blks]
  have htb := h1.lt tb h1.rt
  have hRt : ∀ i, R' i → i ≠ tb := fun i hi e => by
    subst e
    rcases a5 i hi with h | h
    · exact h.2 rfl
    · omega
  have hR0 : ∀ i, R' i → R i ∨ w.heap.size ≤ i := fun i hi => (a5 i hi).imp (fun h => h.1) id
  refine ⟨g, a1, ⟨fun i => R' i ∨ i = tb, ⟨h1.ok, ⟨ev, t1.keep a6 (fun e => e.2 rfl), ?_⟩, .inr rfl, ?_, ?_, ?_, ?_, ?_, ?_, ?_⟩, ?_, ?_, h4.then_ a6 (fun i hi hr => ?_)⟩, ?_⟩
  · rw [kbs_add]
    exact a4.mono (fun i hi => ⟨.inl hi, hRt i hi⟩)
  · rintro i (hi | rfl)
    · exact a7 i hi
    · exact Nat.lt_of_lt_of_le htb a6.size
  · intro x hx
    rw [e2] at hx
    rcases List.mem_append.1 hx with hx | hx
    · have hx' := e1.subset hx
      exact ⟨(h1.ent x hx').1.keep a6 (fun e => h1.off x hx' e.1), (h1.ent x hx').2⟩
    · simp only [List.mem_singleton] at hx
      subst hx
      exact ⟨a3, hvl⟩
  · intro x hx
    rw [e2] at hx
    rcases List.mem_append.1 hx with hx | hx
    · have hx' := e1.subset hx
      have := h1.blt x hx'
      rintro (e | e)
      · rcases hR0 _ e with h | h
        · exact h1.off x hx' h
        · omega
      · exact h1.off x hx' (by rw [e]; exact h1.rt)
    · simp only [List.mem_singleton] at hx
      subst hx
      rintro (e | e)
      · exact a2 e
      · simp only at e; omega
  · rw [e2]
    unfold blks
    rw [List.map_append, List.nodup_append]
    refine ⟨(sub_blks e1).nodup h1.nod, by simp, ?_⟩
    intro a ha c hc
    simp only [List.map_cons, List.map_nil, List.mem_singleton] at hc
    subst hc
    have := hb a (hsb a ha)
    omega
  · rw [e2]
    unfold keysL
    rw [List.map_append, List.nodup_append]
    refine ⟨(sub_keys e1).nodup h1.keys, by simp, ?_⟩
    intro a ha c hc
    simp only [List.map_cons, List.map_nil, List.mem_singleton] at hc
    subst hc
    intro e
    subst e
    exact hk ((e1.map (·.1)).subset ha)
  · intro x hx
    rw [e2] at hx
    rcases List.mem_append.1 hx with hx | hx
    · exact h1.klen x (e1.subset hx)
    · simp only [List.mem_singleton] at hx
      subst hx
      exact hkl
  · rw [e2]
    simp
    omega
  · rintro i hi
    rw [hb'] at hi
    have hnew : w.heap.size ≤ i → w0.heap.size ≤ i ∧ ¬ Gone S E (addE q.kind q.max k g v E) i := fun h => by
      have := h4.size
      refine ⟨by omega, ?_⟩
      rintro (e | e)
      · have := h3 i e; omega
      · have := hb i e.1; omega
    have hold : R i ∨ i ∈ blks E0 → w0.heap.size ≤ i ∧ ¬ Gone S E (addE q.kind q.max k g v E) i := fun h => by
      have := h2 i (h.imp id (hsb i))
      refine ⟨this.1, ?_⟩
      rintro (e | e)
      · exact this.2 e
      · rw [hb'] at e
        rcases h with h | h
        · exact hRb i e.1 h
        · exact e.2 (.inl h)
    rcases hi with (hi | rfl) | hi | rfl
    · rcases hR0 i hi with h | h
      · exact hold (.inl h)
      · exact hnew h
    · exact hold (.inl h1.rt)
    · exact hold (.inr hi)
    · exact hnew a1
  · rintro i (hi | hi)
    · exact Nat.lt_of_lt_of_le (h3 i hi) a6.size
    · exact Nat.lt_of_lt_of_le (hb i hi.1) a6.size
  · have := (h2 i (.inl hr.1)).1
    omega
  · refine ⟨?_, a6.size⟩
    rintro i (hi | hi)
    · exact a6.block i (h3 i hi) (fun e => (h2 i (.inl e.1)).2 hi)
    · exact a6.block i (hb i hi.1) (fun e => hRb i hi.1 e.1)
end
end Go.Proofs.Ytnlojohjhfpbgaa

/-
  Tables: Update that does something; Delete.
-/
namespace Go.Proofs.Ytnlojohjhfpbgaa
open Go.RowKit Go.Deep
open Go.Maps (Keyed)
set_option linter.all false
attribute [local go_sem] Oper.semAt_some

section
variable {w0 w w' : World} {S : Nat → Prop} {tb : Nat} {q : MN} {E : List Ent}
def Over (w0 w : World) (S : Nat → Prop) (tb : Nat) (q : MN) (E : List Ent) (k v : List UInt8) (w' : World) : Prop := Tab w0 w' S tb q (useN q.kind k (setT k v E)) ∧ Held S w w'
set_option maxRecDepth 20000 in
set_option maxHeartbeats 2000000 in
theorem update_over (h : Tab w0 w S tb q E) {kv vv : Value} {k v bs : List UInt8} {g : Nat} (hk : Rd w kv k) (hv : Rd w vv v) (fl : Int) (hb : ¬ BadU q k v fl) (hg : getL k E = some (g, bs)) (hf : fl ≠ 1) :
    Calls Try.prog 33 #[.pointer (some ⟨tb, 0, none⟩), kv, vv, .int .i64 fl] w fun e w' => e = .returned (.int .i64 0) ∧ Over w0 w S tb q E k v w' := by
  obtain ⟨R, h1, h2, h3, h4⟩ := h
  obtain ⟨ev, t1, t2⟩ := h1.top
  have c2 : w.cell? ⟨tb, 2, none⟩ = some (.int .i64 (q.key : Int)) := (t1.cell 2).trans rfl
  have c3 : w.cell? ⟨tb, 3, none⟩ = some (.int .i64 (q.val : Int)) := (t1.cell 3).trans rfl
  have c5 : w.cell? ⟨tb, 5, none⟩ = some ev := (t1.cell 5).trans rfl
  obtain ⟨t, u, F, rfl, hm, hcf, hc⟩ := kfind_c h1.ok t2 (by rw [keys_kbs]; exact h1.keys) k hk.len
  rw [getL_kbs, hg] at hc
  simp only [Option.map_some, Option.isSome_some, fv, slv] at hc
  have hcv := conv_rd hk
  have hkl := hk.len
  obtain ⟨A, cap, rfl, _, _⟩ := hk.form
  obtain ⟨B, cap2, rfl, _, _⟩ := hv.form
  simp only [BadU, not_or, Decidable.not_not] at hb
  obtain ⟨g1, g2, g3⟩ := hb
  have hgm := getL_some hg
  have hvq := h1.ok.val
  have HS : Hid (∀ w1, Calm w w1 → w1.cell? ⟨tb, 5, none⟩ = some (.iface t u) ∧ ∃ w2, (Builtin.copy_ #[22, 22] 3 #[.slice (some ⟨g, 0, none⟩) q.val q.val, .slice B v.length cap2]).run Try.prog w1 = .ok (.int .i64 (q.val : Int)) w2 ∧ w2.cell? ⟨tb, 5, none⟩ = some (.iface t u) ∧
      Meth (.iface t u) "swingbridge/table.use" [.string (str k)] w2 fun e w' => e = .returned (.tuple #[]) ∧ Over w0 w S tb q E k v w') := Lib.hid (fun w1 c => by
    have hr := (h1.calm c).ent _ hgm
    obtain ⟨w2, m1, m2, m3⟩ := copy_rd hr.1 (by simpa using hr.2) (by rw [← g2]; exact hv.calm c) g2 hvq.1 q.val
    have ht := h1.calm c
    have hR : ∀ i, R i → ¬ i = g := fun i hi e => h1.off _ hgm (by simp only; rw [← e]; exact hi)
    have ht2 := ht.set hgm m3 m2 g2
    have tt1 := (t1.keep c (fun e => e)).keep m3 (hR tb h1.rt)
    have tt2 := (t2.keep (fun i hi => h1.lt i hi.1) c (fun _ _ e => e)).keep (fun i hi => ht.lt i hi.1) m3 (fun i hi => hR i hi.1)
    refine ⟨((t1.keep c (fun e => e)).cell 5).trans rfl, w2, by rw [g2]; exact m1, (tt1.cell 5).trans rfl, ?_⟩
    obtain ⟨t', u', F', e1, e2, e3, e4⟩ := kuse_c (fun i hi => ht2.lt i hi.1) tt2 k hkl
    refine ⟨t', u', F', e1, e2, e3, e4.mono ?_⟩
    rintro e w' ⟨rfl, ha, hb⟩
    refine ⟨rfl, ?_⟩
    have hbl : blks (setT k v E) = blks E := blks_set k v E
    have hSg : ∀ i, S i → ¬ i = g := fun i hi e => (h2 g (.inr (List.mem_map.2 ⟨_, hgm, rfl⟩))).2 (by rw [← e]; exact hi)
    have h40 : w0.heap.size ≤ g := (h2 g (.inr (List.mem_map.2 ⟨_, hgm, rfl⟩))).1
    have p := Tab.perm ht2 (fun i hi => h2 i (by rw [hbl] at hi; exact hi)) (fun i hi => Nat.lt_of_lt_of_le (h3 i hi) (Nat.le_trans c.size m3.size)) ((h4.trans c).then_ m3 (fun i hi e => by have e' : i = g := e; omega)) (perm_useN (kind := q.kind) (k := k) ht2.keys) tt1 (by rw [kbs_use, kbs_set]; exact ha) hb
    exact ⟨p.1, ((Held.calm h3 c).trans ⟨fun i hi => m3.block i (Nat.lt_of_lt_of_le (h3 i hi) c.size) (hSg i hi), m3.size⟩).trans p.2⟩)
  clear h1 h2 h3 h4 t1 t2 hk hv hg hgm hvq
  have e1 : ((k.length : Int) != (q.key : Int)) = false := by rw [bne_eq_false_iff_eq]; omega
  have e2 : ((v.length : Int) != (q.val : Int)) = false := by rw [bne_eq_false_iff_eq]; omega
  have e3 : decide (0 ≤ fl ∧ fl ≤ 2) = true := decide_eq_true g3
  have hkn := fun W => known_c fl W
  rw [e3] at hkn
  have HK := Lib.hid hkn
  have hf1 : (fl == 1) = false := by rw [beq_eq_false_iff_ne]; exact hf
  have HC := Lib.hid hc
  clear hkn e3 g1 g2 g3 hc
  go_enter Try.func33, Try.ntmps33
  go_wp2_with fail
  refine (HK.out _).mono ?_
  rintro e w1 ⟨rfl, rfl⟩
  go_wp2_with fail
  refine HC.out.mono ?_
  rintro e w1 ⟨rfl, hcc⟩
  obtain ⟨c6, w2, hrun, c7, t', u', F', heq, hm', hcf', hu⟩ := HS.out w1 hcc
  injection heq with he1 he2
  subst he1
  subst he2
  have HU := Lib.hid hu
  clear hcc HS HC HK hu hm hcf c2 c3 c5
  go_wp2_with fail
  refine HU.out.mono ?_
  rintro e w3 ⟨rfl, hX⟩
  have HX := Lib.hid hX
  clear hX HU
  go_wp2
  go_ret
  exact ⟨rfl, HX.out⟩

def AddT (w0 w : World) (S : Nat → Prop) (tb : Nat) (q : MN) (E : List Ent) (k v : List UInt8) (w' : World) : Prop :=
  ∃ g, w.heap.size ≤ g ∧ Tab w0 w' (Gone S E (addE q.kind q.max k g v E)) tb q (addE q.kind q.max k g v E) ∧ Held (Gone S E (addE q.kind q.max k g v E)) w w'
set_option maxRecDepth 20000 in
set_option maxHeartbeats 2000000 in
/-- Behind the look-up that has found nothing: what add answers. -/
theorem update_new (h : Tab w0 w S tb q E) {kv vv : Value} {k v : List UInt8} (hk : Rd w kv k) (hv : Rd w vv v) (fl : Int) (hb : ¬ BadU q k v fl) (hg : getL k E = none) (hf : fl ≠ 2) (n : Int) (Q : World → Prop)
    (hQ : ((((q.kind = 1 ∧ n = 3) ∨ (q.kind = 2 ∧ q.max ≤ E.length ∧ n = 5)) ∧ ∀ w', LookNo w0 w S tb q E w' → Q w') ∨ (((q.kind = 2 ∧ E.length < q.max) ∨ q.kind = 3) ∧ n = 0 ∧ ∀ w', AddT w0 w S tb q E k v w' → Q w'))) :
    Calls Try.prog 33 #[.pointer (some ⟨tb, 0, none⟩), kv, vv, .int .i64 fl] w fun e w' => e = .returned (.int .i64 n) ∧ Q w' := by
  obtain ⟨R, h1, h2, h3, h4⟩ := h
  obtain ⟨ev, t1, t2⟩ := h1.top
  have c2 : w.cell? ⟨tb, 2, none⟩ = some (.int .i64 (q.key : Int)) := (t1.cell 2).trans rfl
  have c3 : w.cell? ⟨tb, 3, none⟩ = some (.int .i64 (q.val : Int)) := (t1.cell 3).trans rfl
  have c5 : w.cell? ⟨tb, 5, none⟩ = some ev := (t1.cell 5).trans rfl
  obtain ⟨t, u, F, rfl, hm, hcf, hc⟩ := kfind_c h1.ok t2 (by rw [keys_kbs]; exact h1.keys) k hk.len
  rw [getL_kbs, hg] at hc
  simp only [Option.map_none, Option.isSome_none, fv] at hc
  have hcv := conv_rd hk
  have hkl := hk.len
  obtain ⟨A, cap, rfl, _, _⟩ := hk.form
  obtain ⟨B, cap2, rfl, _, _⟩ := hv.form
  simp only [BadU, not_or, Decidable.not_not] at hb
  obtain ⟨g1, g2, g3⟩ := hb
  have hkn := getL_none hg
  have hkb : (kbs E).length = E.length := by simp [kbs, mapv]
  have HS : Hid (∀ w1, Calm w w1 → w1.cell? ⟨tb, 5, none⟩ = some (.iface t u) ∧ Meth (.iface t u) "swingbridge/table.add" [.string (str k), .slice B v.length cap2] w1 fun e w' => e = .returned (.int .i64 n) ∧ Q w') := Lib.hid (fun w1 c => by
    have ht := h1.calm c
    have tt1 := t1.keep c (fun e => e)
    have tt2 := t2.keep (fun i hi => h1.lt i hi.1) c (fun _ _ e => e)
    have hh3 : ∀ i, S i → i < w1.heap.size := fun i hi => Nat.lt_of_lt_of_le (h3 i hi) c.size
    refine ⟨(tt1.cell 5).trans rfl, ?_⟩
    rcases hQ with ⟨hc, hQ⟩ | ⟨hc, rfl, hQ⟩
    · obtain ⟨t', u', F', e1, e2, e3, e4⟩ := kadd_no (fun i hi => ht.lt i hi.1) tt2 k (.slice B v.length cap2) n (by rw [hkb]; exact hc)
      refine ⟨t', u', F', e1, e2, e3, e4.mono ?_⟩
      rintro e w' ⟨rfl, hcc⟩
      exact ⟨rfl, hQ _ ⟨⟨R, ht.calm hcc, h2, fun i hi => Nat.lt_of_lt_of_le (hh3 i hi) hcc.size, (h4.trans c).trans hcc⟩, (Held.calm h3 c).trans (Held.calm hh3 hcc)⟩⟩
    · obtain ⟨t', u', F', e1, e2, e3, e4⟩ := kadd_yes h1.ok (fun i hi => ht.lt i hi.1) tt2 (hv.calm c) g2 k hkl (by rw [keys_kbs]; exact hkn) (by rw [hkb]; exact hc)
      refine ⟨t', u', F', e1, e2, e3, e4.mono ?_⟩
      rintro e w' ⟨rfl, ha⟩
      obtain ⟨g, p1, p2, p3⟩ := tab_more ht h2 hh3 (h4.trans c) tt1 hkn g1 g2 (fun h => by omega) ha
      refine ⟨rfl, hQ _ ⟨g, Nat.le_trans c.size p1, p2, ?_⟩⟩
      have hb' : ∀ i, i ∈ blks E → i < w.heap.size := fun i hi => by obtain ⟨x, hx, rfl⟩ := List.mem_map.1 hi; exact h1.blt x hx
      exact Held.trans ⟨fun i hi => c.block i (hi.elim (h3 i) (fun h => hb' i h.1)) (fun e => e), c.size⟩ p3)
  have hf1 : (fl == 2) = false := by rw [beq_eq_false_iff_ne]; exact hf
  clear h1 h2 h3 h4 t1 t2 hk hv hg hkn hkb hQ
  have e1 : ((k.length : Int) != (q.key : Int)) = false := by rw [bne_eq_false_iff_eq]; omega
  have e2 : ((v.length : Int) != (q.val : Int)) = false := by rw [bne_eq_false_iff_eq]; omega
  have e3 : decide (0 ≤ fl ∧ fl ≤ 2) = true := decide_eq_true g3
  have hkn := fun W => known_c fl W
  rw [e3] at hkn
  have HK := Lib.hid hkn
  have HC := Lib.hid hc
  clear hkn e3 g1 g2 g3 hc
  go_enter Try.func33, Try.ntmps33
  go_wp2_with fail
  refine (HK.out _).mono ?_
  rintro e w1 ⟨rfl, rfl⟩
  go_wp2_with fail
  refine HC.out.mono ?_
  rintro e w1 ⟨rfl, hcc⟩
  obtain ⟨c6, t', u', F', heq, hm', hcf', hu⟩ := HS.out w1 hcc
  injection heq with he1 he2
  subst he1
  subst he2
  have HU := Lib.hid hu
  clear hcc HS HC HK hu hm hcf c2 c3 c5
  go_wp2_with fail
  refine HU.out.mono ?_
  rintro e w3 ⟨rfl, hX⟩
  have HX := Lib.hid hX
  clear hX HU
  go_wp2
  go_ret
  exact ⟨rfl, HX.out⟩
end
end Go.Proofs.Ytnlojohjhfpbgaa

