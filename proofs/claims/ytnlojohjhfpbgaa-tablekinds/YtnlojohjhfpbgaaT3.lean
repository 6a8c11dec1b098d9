/-
  Tables: what a table is in memory.
-/
import Derived.Test.YtnlojohjhfpbgaaT1
import Derived.Test.YtnlojohjhfpbgaaLsy4
namespace Go.Proofs.Ytnlojohjhfpbgaa
open Go.RowKit
open Go.Maps (Keyed)
set_option linter.all false

/-! ### Rows whose values are told another way -/
section
variable {κ ν μ : Type} [DecidableEq κ]
def mapv (f : ν → μ) (L : List (κ × ν)) : List (κ × μ) := L.map (fun x => (x.1, f x.2))
theorem keys_mapv (f : ν → μ) (L : List (κ × ν)) : keysL (mapv f L) = keysL L := by simp [keysL, mapv, Function.comp_def]
theorem getL_mapv (f : ν → μ) (k : κ) (L : List (κ × ν)) : getL k (mapv f L) = (getL k L).map f := by
  unfold getL mapv
  induction L with
  | nil => rfl
  | cons x l ih =>
    simp only [List.map_cons, List.find?_cons]
    by_cases h : x.1 = k
    · simp [h]
    · simp only [h, decide_false, ih]
theorem dropL_mapv (f : ν → μ) (k : κ) (L : List (κ × ν)) : dropL k (mapv f L) = mapv f (dropL k L) := by
  unfold dropL mapv
  rw [List.filter_map]
  rfl
theorem useL_mapv (f : ν → μ) (k : κ) (L : List (κ × ν)) : useL k (mapv f L) = mapv f (useL k L) := by
  unfold useL
  rw [getL_mapv]
  cases h : getL k L with
  | none => rfl
  | some v =>
    simp [mapv]
    exact dropL_mapv f k L
theorem putL_mapv (f : ν → μ) (n : Nat) (k : κ) (v : ν) (L : List (κ × ν)) : putL n k (f v) (mapv f L) = ((putL n k v L).1, mapv f (putL n k v L).2) := by
  unfold putL
  rw [keys_mapv]
  split
  · simp [mapv]
    exact dropL_mapv f k L
  · rw [show (mapv f L).length = L.length by simp [mapv]]
    split
    · simp [mapv]
    · cases L <;> simp [mapv]
end

/-! ### A map of slices -/
/-- How a slice of n bytes at the beginning of its block reads in a map. -/
def se (n : Nat) : Value → Option (DataW Unit × List MemPlace)
  | .slice none 0 0 => some (.lit (.int .i64 (-1)), [])
  | .slice (some ⟨g, 0, none⟩) l c => if l = n ∧ c = n then some (.lit (.int .i64 (g : Int)), []) else none
  | _ => none
def slv (n g : Nat) : Value := .slice (some ⟨g, 0, none⟩) n n
theorem se_at (n g : Nat) : se n (slv n g) = some (.lit (.int .i64 (g : Int)), []) := by simp [se, slv]
theorem se_nil (n : Nat) : se n (.slice none 0 0) = some (.lit (.int .i64 (-1)), []) := rfl
theorem se_inv {n : Nat} {v : Value} {g : Nat} {ps : List MemPlace} (h : se n v = some (.lit (.int .i64 (g : Int)), ps)) : v = slv n g := by
  unfold se at h
  split at h
  · simp only [Option.some.injEq, Prod.mk.injEq, DataW.lit.injEq, Lit.int.injEq] at h
    omega
  · rename_i g' l c
    split at h
    · rename_i hc
      simp only [Option.some.injEq, Prod.mk.injEq, DataW.lit.injEq, Lit.int.injEq] at h
      have : g' = g := by omega
      rw [this, hc.1, hc.2]
      rfl
    · cases h
  · cases h
theorem se_inv_nil {n : Nat} {v : Value} {ps : List MemPlace} (h : se n v = some (.lit (.int .i64 (-1)), ps)) : v = .slice none 0 0 := by
  unfold se at h
  split at h
  · rfl
  · split at h
    · simp only [Option.some.injEq, Prod.mk.injEq, DataW.lit.injEq, Lit.int.injEq] at h
      omega
    · cases h
  · cases h
/-- Keys, and the blocks of their Data. -/
abbrev KB := List (List UInt8 × Nat)
structure HashD (D : DataW Unit) (kb : KB) : Prop where
  sz : Maps.size D = kb.length
  look : ∀ x ∈ kb, D.atKey (.string x.1) nilD = .lit (.int .i64 (x.2 : Int)) ∧ Maps.has D (.string x.1) = true
  miss : ∀ k, k ∉ keysL kb → Maps.has D (.string k) = false
theorem str_ne {a b : List UInt8} (h : a ≠ b) : Lit.string a ≠ Lit.string b := fun e => h (by injection e)
theorem HashD.put {D : DataW Unit} {kb : KB} (h : HashD D kb) (hti : Maps.Tidy D) {k : List UInt8} (hkey : WideAt.IsKeyLit (.string k)) (hk : k ∉ keysL kb) (g : Nat) : HashD (D.put (.string k) (.lit (.int .i64 (g : Int)))) (kb ++ [(k, g)]) := by
  have hmi := h.miss k hk
  refine ⟨by rw [Maps.size_put hti, hmi]; simp [h.sz], ?_, ?_⟩
  · intro y hy
    rcases List.mem_append.1 hy with hy | hy
    · have hne : Lit.string y.1 ≠ Lit.string k := str_ne (fun e => hk (by rw [← e]; exact List.mem_map.2 ⟨y, hy, rfl⟩))
      rw [Maps.atKey_put_other hne, Maps.has_put_other hne]
      exact h.look y hy
    · simp only [List.mem_singleton] at hy
      subst hy
      exact ⟨Maps.atKey_put_same hti.isMap hkey _ _, Maps.has_put_same hti.isMap hkey _⟩
  · intro k' hn
    have h1 : k' ∉ keysL kb := fun hc => hn (by simp only [keysL, List.map_append, List.mem_append]; exact .inl hc)
    have h2 : k' ≠ k := fun e => hn (by subst e; simp [keysL])
    rw [Maps.has_put_other (str_ne h2)]
    exact h.miss k' h1
theorem HashD.del {D : DataW Unit} {kb : KB} (h : HashD D kb) (hti : Maps.Tidy D) (hn : (keysL kb).Nodup) {k : List UInt8} {g : Nat} (hk : (k, g) ∈ kb) : HashD (D.del (.string k)) (dropL k kb) := by
  have hhas := (h.look (k, g) hk).2
  obtain ⟨l1, l2, e⟩ := List.append_of_mem hk
  have hd : dropL k kb = l1 ++ l2 := by subst e; exact dropL_mid (x := (k, g)) hn
  refine ⟨?_, ?_, ?_⟩
  · have := Maps.size_del (k := Lit.string k) hti
    rw [hhas, h.sz] at this
    rw [hd]
    subst e
    simp at this ⊢
    omega
  · intro y hy
    simp only [dropL, List.mem_filter, decide_eq_true_eq] at hy
    have hne : Lit.string y.1 ≠ Lit.string k := str_ne hy.2
    rw [Maps.atKey_del_other hne, Maps.has_del_other hne]
    exact h.look y hy.1
  · intro k' hk'
    by_cases hkk : k' = k
    · rw [hkk]; exact Maps.has_del_same
    · rw [Maps.has_del_other (str_ne hkk)]
      refine h.miss k' (fun hc => hk' ?_)
      obtain ⟨y, hy, e'⟩ := List.mem_map.1 hc
      exact List.mem_map.2 ⟨y, by simp only [dropL, List.mem_filter, decide_eq_true_eq]; exact ⟨hy, by rw [e']; exact hkk⟩, e'⟩
theorem owns_keep' {w w' : World} {k : TypeId} {b n : Nat} {D : DataW Unit} {r : Value → Option (DataW Unit × List MemPlace)} (h : w.ownsMap Try.prog k r b n D) (e : w'.heap[b]? = w.heap[b]?) : w'.ownsMap Try.prog k r b n D := by
  obtain ⟨es, clock, hb, r⟩ := h
  exact ⟨es, clock, e.trans hb, r⟩
theorem owns_tight' {w : World} {k : TypeId} {b n : Nat} {D : DataW Unit} {r : Value → Option (DataW Unit × List MemPlace)} (h : w.ownsMap Try.prog k r b n D) : w.ownsMap Try.prog k r b (Maps.size D) D := by
  obtain ⟨es, clock, hb, F, hs, rfl⟩ := h
  exact ⟨es, clock, hb, F, by simp [Maps.size, length_sorted], rfl⟩

/-! ### Tables -/
/-- A right map: its numbers are small. -/
structure MN where
  name : List UInt8
  kind : Nat
  key : Nat
  val : Nat
  max : Nat
def MN.mp (q : MN) : MP := ⟨q.name, (q.kind : Int), (q.key : Int), (q.val : Int), (q.max : Int)⟩
structure MN.Ok (q : MN) : Prop where
  right : q.mp.right = true
  name : q.name.length ≤ 16
  kind : (q.kind = 1 ∧ q.key = 4) ∨ q.kind = 2 ∨ q.kind = 3
  key : 1 ≤ q.key ∧ q.key ≤ 64
  val : 1 ≤ q.val ∧ q.val ≤ 256
  max : 1 ≤ q.max ∧ q.max ≤ 1024
theorem MP.ok (m : MP) (h : m.right = true) : ∃ q : MN, m = q.mp ∧ q.Ok := by
  obtain ⟨nm, kd, ky, vl, mx⟩ := m
  have h0 := h
  simp only [MP.right, Bool.and_eq_true, nmOk, kdOk, wi, decide_eq_true_eq] at h
  obtain ⟨⟨_, h1⟩, h2, h3, h4, h5⟩ := h
  have e : (⟨nm, kd, ky, vl, mx⟩ : MP) = (⟨nm, kd.toNat, ky.toNat, vl.toNat, mx.toNat⟩ : MN).mp := by
    simp only [MN.mp, MP.mk.injEq, true_and]
    omega
  refine ⟨⟨nm, kd.toNat, ky.toNat, vl.toNat, mx.toNat⟩, e, ?_⟩
  rw [e] at h0
  exact ⟨h0, h1.2, by simp only; omega, by simp only; omega, by simp only; omega, by simp only; omega⟩

def kbs (E : List Ent) : KB := mapv (·.1) E
theorem keys_kbs (E : List Ent) : keysL (kbs E) = keysL E := keys_mapv _ _
theorem kbs_set (k bs : List UInt8) (E : List Ent) : kbs (setT k bs E) = kbs E := by
  unfold kbs setT mapv
  rw [List.map_map]
  exact List.map_congr_left (fun x _ => by simp only [Function.comp]; split <;> rfl)
def numK (n : Nat) : List UInt8 := [UInt8.ofNat (n % 256), UInt8.ofNat (n / 256 % 256), UInt8.ofNat (n / 65536 % 256), UInt8.ofNat (n / 16777216 % 256)]
def lv (vl : Nat) (g : Nat) : Option Addr × Nat × Nat := (some ⟨g, 0, none⟩, vl, vl)

inductive KindIs (w : World) (R : Nat → Prop) (q : MN) (kb : KB) : Value → Prop
  | arr (A : Nat) (hk : q.kind = 1) (hR : R A) (hr : Row w A 22 (kb.map (fun x => slv q.val x.2)).toArray) (hkeys : keysL kb = (List.range q.max).map numK) :
      KindIs w R q kb (.iface 139 (.agg #[.slice (some ⟨A, 0, none⟩) q.max q.max]))
  | hash (b : Nat) (D : DataW Unit) (hk : q.kind = 2) (hR : R b) (hm : w.ownsMap Try.prog 9 (se q.val) b (Maps.size D) D) (hD : HashD D kb) :
      KindIs w R q kb (.iface 143 (.agg #[.int .i64 (q.max : Int), .map (some b)]))
  | lru (b tb : Nat) (R0 : Nat → Prop) (hk : q.kind = 3) (hR : ∀ i, R0 i → R i) (hL : LruIs syT w R0 b q.max (mapv (lv q.val) kb)) :
      KindIs w R q kb (.iface 147 (.agg #[.pointer (some ⟨b, 0, none⟩)]))

def DataAt (w : World) (vl : Nat) (x : Ent) : Prop := Row w x.2.1 5 (x.2.2.map bv).toArray ∧ x.2.2.length = vl

/-- A table. R: where it lies (not its entries' Data). -/
structure TabAt (w : World) (R : Nat → Prop) (tb : Nat) (q : MN) (E : List Ent) : Prop where
  ok : q.Ok
  top : ∃ ev, Row w tb 122 #[.string (str q.name), .int .i64 (q.kind : Int), .int .i64 (q.key : Int), .int .i64 (q.val : Int), .int .i64 (q.max : Int), ev] ∧ KindIs w (fun i => R i ∧ i ≠ tb) q (kbs E) ev
  rt : R tb
  lt : ∀ i, R i → i < w.heap.size
  ent : ∀ x ∈ E, DataAt w q.val x
  off : ∀ x ∈ E, ¬ R x.2.1
  nod : (blks E).Nodup
  keys : (keysL E).Nodup
  klen : ∀ x ∈ E, x.1.length = q.key
  few : E.length ≤ q.max

theorem KindIs.keep {w w' : World} {R Q : Nat → Prop} {q : MN} {kb : KB} {ev : Value} (h : KindIs w R q kb ev) (hlt : ∀ i, R i → i < w.heap.size) (k : Keep Q w w') (hQ : ∀ i, R i → ¬ Q i) : KindIs w' R q kb ev := by
  cases h with
  | arr A hk hR hr hkeys => exact .arr A hk hR (hr.keep k (hQ A hR)) hkeys
  | hash b D hk hR hm hD => exact .hash b D hk hR (owns_keep' hm (k.block b (hlt b hR) (hQ b hR))) hD
  | lru b tb R0 hk hR hL => exact .lru b tb R0 hk hR (hL.keep k (fun i hi => hQ i (hR i hi)))
theorem TabAt.keep {w w' : World} {R Q : Nat → Prop} {tb : Nat} {q : MN} {E : List Ent} (h : TabAt w R tb q E) (k : Keep Q w w') (hQ : ∀ i, R i → ¬ Q i) (hE : ∀ x ∈ E, ¬ Q x.2.1) : TabAt w' R tb q E := by
  obtain ⟨ev, h1, h2⟩ := h.top
  exact ⟨h.ok, ⟨ev, h1.keep k (hQ tb h.rt), h2.keep (fun i hi => h.lt i hi.1) k (fun i hi => hQ i hi.1)⟩, h.rt, fun i hi => Nat.lt_of_lt_of_le (h.lt i hi) k.size, fun x hx => ⟨(h.ent x hx).1.keep k (hE x hx), (h.ent x hx).2⟩, h.off, h.nod, h.keys, h.klen, h.few⟩
theorem TabAt.calm {w w' : World} {R : Nat → Prop} {tb : Nat} {q : MN} {E : List Ent} (h : TabAt w R tb q E) (k : Calm w w') : TabAt w' R tb q E := h.keep k (fun _ _ e => e) (fun _ _ e => e)
theorem TabAt.blt {w : World} {R : Nat → Prop} {tb : Nat} {q : MN} {E : List Ent} (h : TabAt w R tb q E) : ∀ x ∈ E, x.2.1 < w.heap.size := fun x hx => (h.ent x hx).1.lt
theorem uniq_key {E : List Ent} (hn : (keysL E).Nodup) {x y : Ent} (hx : x ∈ E) (hy : y ∈ E) (e : x.1 = y.1) : x = y := by
  have h1 := getL_mem (k := x.1) (v := x.2) hn hx
  have h2 := getL_mem (k := y.1) (v := y.2) hn hy
  rw [e, h2] at h1
  injection h1 with h1
  exact Prod.ext e h1.symm
theorem uniq_blk {E : List Ent} (hn : (blks E).Nodup) : ∀ {x y : Ent}, x ∈ E → y ∈ E → x.2.1 = y.2.1 → x = y := by
  induction E with
  | nil => intro x y hx; cases hx
  | cons z l ih =>
    intro x y hx hy e
    have hn' := List.nodup_cons.1 (show (z.2.1 :: blks l).Nodup from hn)
    rcases List.mem_cons.1 hx with e1 | e1 <;> rcases List.mem_cons.1 hy with e2 | e2
    · exact e1.trans e2.symm
    · exact absurd (show z.2.1 ∈ blks l from List.mem_map.2 ⟨y, e2, by rw [← e, e1]⟩) hn'.1
    · exact absurd (show z.2.1 ∈ blks l from List.mem_map.2 ⟨x, e1, by rw [e, e2]⟩) hn'.1
    · exact ih hn'.2 e1 e2 e
/-- An entry's Data turn. -/
theorem TabAt.set {w w' : World} {R : Nat → Prop} {tb : Nat} {q : MN} {E : List Ent} (h : TabAt w R tb q E) {k bs bs' : List UInt8} {d : Nat} (hm : (k, d, bs) ∈ E) (kp : Keep (fun i => i = d) w w') (hr : Row w' d 5 (bs'.map bv).toArray) (hl : bs'.length = q.val) : TabAt w' R tb q (setT k bs' E) := by
  obtain ⟨ev, h1, h2⟩ := h.top
  have hd : ∀ i, R i → ¬ i = d := fun i hi e => h.off _ hm (by simp only; rw [← e]; exact hi)
  refine ⟨h.ok, ⟨ev, h1.keep kp (hd tb h.rt), by rw [kbs_set]; exact h2.keep (fun i hi => h.lt i hi.1) kp (fun i hi => hd i hi.1)⟩, h.rt, fun i hi => Nat.lt_of_lt_of_le (h.lt i hi) kp.size, ?_, ?_, by rw [blks_set]; exact h.nod, by rw [keys_set]; exact h.keys, ?_, by simpa [setT] using h.few⟩
  · intro x hx
    obtain ⟨y, hy, rfl⟩ := List.mem_map.1 hx
    by_cases e : y.1 = k
    · have := uniq_key h.keys hy hm e
      subst this
      simp only [if_true]
      exact ⟨hr, hl⟩
    · rw [if_neg e]
      refine ⟨(h.ent y hy).1.keep kp (fun e' => e ?_), (h.ent y hy).2⟩
      exact congrArg (·.1) (uniq_blk h.nod hy hm e')
  · intro x hx
    obtain ⟨y, hy, rfl⟩ := List.mem_map.1 hx
    split
    · exact h.off y hy
    · exact h.off y hy
  · intro x hx
    obtain ⟨y, hy, rfl⟩ := List.mem_map.1 hx
    split
    · exact h.klen y hy
    · exact h.klen y hy

/-- A table that was made since w0; S: blocks that it must leave alone. -/
def Tab (w0 w : World) (S : Nat → Prop) (tb : Nat) (q : MN) (E : List Ent) : Prop :=
  ∃ R, TabAt w R tb q E ∧ (∀ i, R i ∨ i ∈ blks E → w0.heap.size ≤ i ∧ ¬ S i) ∧ (∀ i, S i → i < w.heap.size) ∧ Calm w0 w
def Btw (a b i : Nat) : Prop := a ≤ i ∧ i < b
/-- What is in S stands. -/
structure Held (S : Nat → Prop) (w w' : World) : Prop where
  blk : ∀ i, S i → w'.heap[i]? = w.heap[i]?
  size : w.heap.size ≤ w'.heap.size
instance {S : Nat → Prop} {w w' : World} : CoeFun (Held S w w') (fun _ => ∀ i, S i → w'.heap[i]? = w.heap[i]?) := ⟨Held.blk⟩
section
variable {w0 w w' : World} {S : Nat → Prop} {tb : Nat} {q : MN} {E : List Ent}
theorem Tab.calm_ (h : Tab w0 w S tb q E) : Calm w0 w := by obtain ⟨_, _, _, _, h⟩ := h; exact h
theorem Tab.rest (h : Tab w0 w S tb q E) (k : Calm w w') : Tab w0 w' S tb q E := by
  obtain ⟨R, h1, h2, h3, h4⟩ := h
  exact ⟨R, h1.calm k, h2, fun i hi => Nat.lt_of_lt_of_le (h3 i hi) k.size, h4.trans k⟩
theorem Tab.less {S' : Nat → Prop} (h : Tab w0 w S tb q E) (hS : ∀ i, S' i → S i) : Tab w0 w S' tb q E := by
  obtain ⟨R, h1, h2, h3, h4⟩ := h
  exact ⟨R, h1, fun i hi => ⟨(h2 i hi).1, fun e => (h2 i hi).2 (hS i e)⟩, fun i hi => h3 i (hS i hi), h4⟩
theorem Held.refl (S : Nat → Prop) (w : World) : Held S w w := ⟨fun _ _ => rfl, Nat.le_refl _⟩
theorem Held.trans {w'' : World} (h : Held S w w') (k : Held S w' w'') : Held S w w'' := ⟨fun i hi => (k i hi).trans (h i hi), Nat.le_trans h.size k.size⟩
theorem Held.row {g : Nat} {t : TypeId} {cs : Array Value} (h : Held S w w') (hg : S g) (r : Row w g t cs) : Row w' g t cs := (h g hg).trans r
theorem Held.calm (hS : ∀ i, S i → i < w.heap.size) (k : Calm w w') : Held S w w' := ⟨fun i hi => k.block i (hS i hi) (fun e => e), k.size⟩
end
end Go.Proofs.Ytnlojohjhfpbgaa
