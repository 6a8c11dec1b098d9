import Derived.Test.YtnlojohjhfpbgaaT28
/-
  Tables: which keys there are, beside what the caller has.
-/
namespace Go.Proofs.Ytnlojohjhfpbgaa
open Go.RowKit Go.Deep
set_option linter.all false

theorem bytes_box (w : World) (k : List UInt8) (n : Nat) (hk : k.length = n) (hn : n ≤ 1000) : ∃ c W, Sem.run Try.prog (convert 9 22 (.string (str k))) w = .ok (.slice (some ⟨w.heap.size, 0, none⟩) n c) W ∧ Rd W (.slice (some ⟨w.heap.size, 0, none⟩) n c) k ∧ Calm w W ∧ W.heap.size = w.heap.size + 1 := by
  obtain ⟨c, W, h1, h2, h3, h4⟩ := conv_bytes w k (by unfold maxLen; omega)
  rw [hk] at h1 h2
  exact ⟨c, W, h1, h2, h3, h4⟩
theorem drop_next {l : List (List UInt8)} (hn : l.Nodup) {j : Nat} {k : List UInt8} (hk : l[j]? = some k) (k' : List UInt8) : (k' ∈ l.drop j ∧ k' ≠ k) ↔ k' ∈ l.drop (j + 1) := by
  obtain ⟨hj, e⟩ := List.getElem?_eq_some_iff.1 hk
  have hd : l.drop j = k :: l.drop (j + 1) := by rw [List.drop_eq_getElem_cons hj, e]
  have hn' : (l.drop j).Nodup := hn.sublist (List.drop_sublist _ _)
  rw [hd] at hn' ⊢
  have := (List.nodup_cons.1 hn').1
  constructor
  · rintro ⟨h, hne⟩
    exact (List.mem_cons.1 h).resolve_left hne
  · intro h
    exact ⟨List.mem_cons_of_mem _ h, fun e => this (e ▸ h)⟩
/-- A key that begins with a number. -/
def keyN (n i : Nat) : List UInt8 := (List.replicate n 0).set 0 (UInt8.ofNat i)
theorem keyN_len (n i : Nat) : (keyN n i).length = n := by simp [keyN]
theorem keyN_inj {n i j : Nat} (hn : 1 ≤ n) (hi : i < 256) (hj : j < 256) (h : keyN n i = keyN n j) : i = j := by
  obtain ⟨m, rfl⟩ : ∃ m, n = m + 1 := ⟨n - 1, by omega⟩
  simp only [keyN, List.replicate_succ, List.set_cons_zero, List.cons.injEq] at h
  have h1 := congrArg UInt8.toNat h.1
  simp only [UInt8.toNat_ofNat'] at h1
  omega
def KSet (w0 : World) (S : Nat → Prop) (tb : Nat) (q : MN) (n : Nat) (P : List UInt8 → Prop) (w : World) : Prop := ∃ E, Tab w0 w S tb q E ∧ E.length = n ∧ ∀ k, k ∈ keysL E ↔ P k
theorem len_addE {kind mx : Nat} {k bs : List UInt8} {g : Nat} {E : List Ent} (hk : k ∉ keysL E) (h : E.length < mx) : (addE kind mx k g bs E).length = E.length + 1 := by
  rw [← len_keys, keys_add hk (.inr h)]
  simp [len_keys]
theorem len_dropE {k : List UInt8} {E : List Ent} (hn : (keysL E).Nodup) (hk : k ∈ keysL E) : (dropL k E).length + 1 = E.length := by
  obtain ⟨l1, x, l2, rfl, rfl⟩ := split_key hk
  rw [dropL_mid hn]
  simp
  omega
theorem mem_dropE {k k' : List UInt8} {E : List Ent} : k' ∈ keysL (dropL k E) ↔ k' ∈ keysL E ∧ k' ≠ k := by
  unfold keysL dropL
  simp only [List.mem_map, List.mem_filter]
  constructor
  · rintro ⟨x, ⟨h1, h2⟩, rfl⟩
    exact ⟨⟨x, h1, rfl⟩, by simpa using h2⟩
  · rintro ⟨⟨x, h1, rfl⟩, h2⟩
    exact ⟨x, ⟨h1, by simpa using h2⟩, rfl⟩
section
variable {w0 w : World} {S : Nat → Prop} {tb : Nat} {q : MN} {n : Nat} {P : List UInt8 → Prop}
theorem KSet.calm_ (h : KSet w0 S tb q n P w) : Calm w0 w := by obtain ⟨_, h, _⟩ := h; exact h.calm_
theorem KSet.rest {w' : World} (h : KSet w0 S tb q n P w) (k : Calm w w') : KSet w0 S tb q n P w' := by obtain ⟨E, h, a⟩ := h; exact ⟨E, h.rest k, a⟩
theorem KSet.slt (h : KSet w0 S tb q n P w) : ∀ i, S i → i < w.heap.size := by obtain ⟨E, h, _⟩ := h; exact h.slt
theorem KSet.iff {P' : List UInt8 → Prop} (h : KSet w0 S tb q n P w) (hh : ∀ k, P k ↔ P' k) : KSet w0 S tb q n P' w := by
  obtain ⟨E, h, a, b⟩ := h
  exact ⟨E, h, a, fun k => (b k).trans (hh k)⟩
theorem KSet.room {w' : World} (h : KSet w0 S tb q n P w) (k : Calm w w') : KSet w0 (fun i => S i ∨ Btw w.heap.size w'.heap.size i) tb q n P w' := by
  obtain ⟨E, h, a⟩ := h
  exact ⟨E, h.room k, a⟩
theorem KSet.less {S' : Nat → Prop} (h : KSet w0 S tb q n P w) (hS : ∀ i, S' i → S i) : KSet w0 S' tb q n P w := by
  obtain ⟨E, h, a⟩ := h
  exact ⟨E, h.less hS, a⟩
theorem Held.less {S' : Nat → Prop} {w' : World} (h : Held S w w') (hS : ∀ i, S' i → S i) : Held S' w w' := ⟨fun i hi => h i (hS i hi), h.size⟩
theorem Held.cell_ {w' : World} (h : Held S w w') {g i : Nat} (hg : S g) {u : Value} (hc : w.cell? ⟨g, i, none⟩ = some u) : w'.cell? ⟨g, i, none⟩ = some u := (World.cell?_of_block (h g hg)).trans hc
theorem ks_miss (h : KSet w0 S tb q n P w) {kv : Value} {k : List UInt8} (hk : Rd w kv k) (hp : ¬ P k) :
    Calls Try.prog 31 #[.pointer (some ⟨tb, 0, none⟩), kv] w fun e w' => e = .returned (.tuple #[.pointer none, .bool false]) ∧ KSet w0 S tb q n P w' ∧ Held S w w' := by
  obtain ⟨E, h, rfl, hP⟩ := h
  refine (lookup_no h hk (get_no (fun hc => hp ((hP k).1 hc)))).mono ?_
  rintro e w' ⟨rfl, a, b⟩
  exact ⟨rfl, ⟨E, a, rfl, hP⟩, b⟩
theorem ks_len (h : KSet w0 S tb q n P w) : Calls Try.prog 38 #[.pointer (some ⟨tb, 0, none⟩)] w fun e w' => e = .returned (.int .i64 (n : Int)) ∧ KSet w0 S tb q n P w' ∧ Held S w w' := by
  obtain ⟨E, h, rfl, hP⟩ := h
  refine (len_c h).mono ?_
  rintro e w' ⟨rfl, a, b⟩
  exact ⟨rfl, ⟨E, a, rfl, hP⟩, b⟩
theorem ks_del (h : KSet w0 S tb q (n + 1) P w) {kv : Value} {k : List UInt8} (hk : Rd w kv k) (hl : k.length = q.key) (h1 : q.kind ≠ 1) (hp : P k) :
    Calls Try.prog 35 #[.pointer (some ⟨tb, 0, none⟩), kv] w fun e w' => e = .returned (.int .i64 0) ∧ KSet w0 S tb q n (fun k' => P k' ∧ k' ≠ k) w' ∧ Held S w w' := by
  obtain ⟨E, h, hn, hP⟩ := h
  have hm := (hP k).2 hp
  obtain ⟨g, bs, hg⟩ := get_key hm
  refine delete_c h hk hl 0 (fun w' => KSet w0 S tb q n (fun k' => P k' ∧ k' ≠ k) w' ∧ Held S w w') (.inr ⟨h1, by rw [hg]; rfl, rfl, fun w' a => ?_⟩)
  obtain ⟨a, b⟩ := a
  refine ⟨⟨_, a.less (fun i hi => .inl hi), ?_, fun k' => ?_⟩, ⟨fun i hi => b i (.inl hi), b.size⟩⟩
  · have := len_dropE h.keys hm
    omega
  · rw [mem_dropE, hP k']
theorem ks_del_no (h : KSet w0 S tb q n P w) {kv : Value} {k : List UInt8} (hk : Rd w kv k) (hl : k.length = q.key) (h1 : q.kind ≠ 1) (hp : ¬ P k) :
    Calls Try.prog 35 #[.pointer (some ⟨tb, 0, none⟩), kv] w fun e w' => e = .returned (.int .i64 3) ∧ KSet w0 S tb q n P w' ∧ Held S w w' := by
  obtain ⟨E, h, rfl, hP⟩ := h
  refine delete_c h hk hl 3 (fun w' => KSet w0 S tb q E.length P w' ∧ Held S w w') (.inl ⟨.inr ⟨h1, get_no (fun hc => hp ((hP k).1 hc)), rfl⟩, fun w' a => ?_⟩)
  exact ⟨⟨E, a.1, rfl, hP⟩, a.2⟩
theorem ks_put (h : KSet w0 S tb q n P w) {kv vv : Value} {k v : List UInt8} (hk : Rd w kv k) (hv : Rd w vv v) (fl : Int) (hkl : k.length = q.key) (hvl : v.length = q.val) (hf : 0 ≤ fl ∧ fl ≤ 1) (h1 : q.kind ≠ 1) (hp : ¬ P k) (hn : n < q.max) :
    Calls Try.prog 33 #[.pointer (some ⟨tb, 0, none⟩), kv, vv, .int .i64 fl] w fun e w' => e = .returned (.int .i64 0) ∧ KSet w0 S tb q (n + 1) (fun k' => P k' ∨ k' = k) w' ∧ Held S w w' := by
  obtain ⟨E, h, rfl, hP⟩ := h
  have hb : ¬ BadU q k v fl := by
    simp only [BadU, not_or, Decidable.not_not]
    exact ⟨hkl, hvl, by omega⟩
  have hm : k ∉ keysL E := fun hc => hp ((hP k).1 hc)
  have h23 : q.kind = 2 ∨ q.kind = 3 := by
    rcases h.kinds' with h | h | h
    · exact absurd h h1
    · exact .inl h
    · exact .inr h
  refine (update_new h hk hv fl hb (get_no hm) (by omega) 0 (fun w' => KSet w0 S tb q (E.length + 1) (fun k' => P k' ∨ k' = k) w' ∧ Held S w w') (.inr ⟨h23.imp (fun h => ⟨h, hn⟩) id, rfl, fun w' a => ?_⟩)).mono (fun e w' a => a)
  obtain ⟨g, _, a, b⟩ := a
  refine ⟨⟨_, a.less (fun i hi => .inl hi), len_addE hm hn, fun k' => ?_⟩, ⟨fun i hi => b i (.inl hi), b.size⟩⟩
  rw [keys_add hm (.inr hn), List.mem_append, hP k']
  simp
end
end Go.Proofs.Ytnlojohjhfpbgaa

