/-
  Lists in order of use, in memory: a ring of entries beside a map from keys to entries; what is pure of them. Nothing of one instance is named here.
-/
import Derived.Test.YtnlojohjhfpbgaaLStr
import Derived.Maps.OwnSet
namespace Go.Proofs.Ytnlojohjhfpbgaa
open Go.RowKit
open Go.Maps (Keyed)
set_option linter.all false

/-! ### The ring, pure: none is the ring itself, some g the entry in block g -/
def upd (f : Option Nat → Option Nat) (x y : Option Nat) : Option Nat → Option Nat := fun z => if z = x then y else f z
theorem upd_same (f : Option Nat → Option Nat) (x y : Option Nat) : upd f x y x = y := by simp [upd]
theorem upd_other (f : Option Nat → Option Nat) {x y z : Option Nat} (h : z ≠ x) : upd f x y z = f z := by simp [upd, h]

def Lk (nx pv : Option Nat → Option Nat) : List (Option Nat) → Prop
  | x :: y :: l => (nx x = y ∧ pv y = x) ∧ Lk nx pv (y :: l)
  | _ => True
theorem Lk.app {nx pv : Option Nat → Option Nat} : ∀ (l1 : List (Option Nat)) (x : Option Nat) (l2 : List (Option Nat)), Lk nx pv (l1 ++ x :: l2) ↔ Lk nx pv (l1 ++ [x]) ∧ Lk nx pv (x :: l2)
  | [], x, l2 => by simp [Lk]
  | [a], x, l2 => by simp [Lk]
  | a :: c :: l1, x, l2 => by
    have := Lk.app (nx := nx) (pv := pv) (c :: l1) x l2
    simp only [List.cons_append, Lk] at this ⊢
    rw [this]
    simp only [and_assoc]
theorem Lk.congr {nx pv nx' pv' : Option Nat → Option Nat} : ∀ (l : List (Option Nat)), (∀ x ∈ l.dropLast, nx' x = nx x) → (∀ y ∈ l.tail, pv' y = pv y) → Lk nx pv l → Lk nx' pv' l
  | [], _, _, _ => trivial
  | [_], _, _, _ => trivial
  | x :: y :: l, h1, h2, h => by
    refine ⟨⟨?_, ?_⟩, Lk.congr (y :: l) (fun z hz => h1 z ?_) (fun z hz => h2 z ?_) h.2⟩
    · rw [h1 x (by simp)]; exact h.1.1
    · rw [h2 y (by simp)]; exact h.1.2
    · simp at hz ⊢; exact .inr hz
    · simp at hz ⊢; exact .inr hz

/-- The nodes of a ring, the ring itself ahead of all and behind all. -/
def rg (gs : List Nat) : List (Option Nat) := (none :: gs.map some) ++ [none]
theorem split_last (A : List (Option Nat)) (h : A ≠ []) : ∃ A0 p, A = A0 ++ [p] := ⟨A.dropLast, A.getLast h, (List.dropLast_concat_getLast h).symm⟩

/-- One is taken out. -/
theorem Lk.leave {nx pv : Option Nat → Option Nat} {l1 l2 : List Nat} {g : Nat} (hn : (l1 ++ g :: l2).Nodup) (h : Lk nx pv (rg (l1 ++ g :: l2))) :
    (pv (some g) = none ∨ ∃ x ∈ l1, pv (some g) = some x) ∧ (nx (some g) = none ∨ ∃ x ∈ l2, nx (some g) = some x) ∧ Lk (upd nx (pv (some g)) (nx (some g))) (upd pv (nx (some g)) (pv (some g))) (rg (l1 ++ l2)) := by
  obtain ⟨A0, p, hA⟩ := split_last (none :: l1.map some) (by simp)
  obtain ⟨s, B0, hB⟩ : ∃ s B0, l2.map some ++ [none] = s :: B0 := by cases l2 <;> simp
  have e : rg (l1 ++ g :: l2) = A0 ++ p :: some g :: s :: B0 := by
    have e0 : rg (l1 ++ g :: l2) = (none :: l1.map some) ++ (some g :: (l2.map some ++ [none])) := by unfold rg; simp
    rw [e0, hB, hA]
    simp
  have e' : rg (l1 ++ l2) = A0 ++ p :: s :: B0 := by
    have e0 : rg (l1 ++ l2) = (none :: l1.map some) ++ (l2.map some ++ [none]) := by unfold rg; simp
    rw [e0, hB, hA]
    simp
  rw [e] at h
  have h1 := (Lk.app A0 p _).1 h
  have h2 : ((nx p = some g ∧ pv (some g) = p) ∧ (nx (some g) = s ∧ pv s = some g) ∧ Lk nx pv (s :: B0)) := h1.2
  obtain ⟨⟨a1, a2⟩, ⟨a3, a4⟩, a5⟩ := h2
  have hnA : (none :: l1.map some).Nodup := by
    have := (List.nodup_append.1 hn).1
    simp [List.nodup_cons, List.pairwise_map, List.Nodup] at this ⊢
    exact this
  have hn2 : (g :: l2).Nodup := (List.nodup_append.1 hn).2.1
  have hd := (List.nodup_append.1 hn).2.2
  have hnB : (l2.map some ++ [none]).Nodup := by
    have := (List.nodup_cons.1 hn2).2
    rw [List.nodup_append]
    refine ⟨by simpa [List.Nodup, List.pairwise_map] using this, by simp, ?_⟩
    intro a ha b hb
    simp at ha hb
    obtain ⟨y, _, rfl⟩ := ha
    subst hb
    simp
  have hpm : p = none ∨ ∃ x ∈ l1, p = some x := by
    have : p ∈ none :: l1.map some := by rw [hA]; simp
    simp at this
    rcases this with h | ⟨x, hx, rfl⟩
    · exact .inl h
    · exact .inr ⟨x, hx, rfl⟩
  have hsm : s = none ∨ ∃ x ∈ l2, s = some x := by
    have : s ∈ l2.map some ++ [none] := by rw [hB]; simp
    simp at this
    rcases this with ⟨x, hx, rfl⟩ | h
    · exact .inr ⟨x, hx, rfl⟩
    · exact .inl h
  rw [a2, a3]
  refine ⟨hpm, hsm, ?_⟩
  rw [e']
  rw [hA] at hnA
  rw [hB] at hnB
  have hpA : p ∉ A0 := fun hp => (List.nodup_append.1 hnA).2.2 p hp p (by simp) rfl
  have hsB : s ∉ B0 := (List.nodup_cons.1 hnB).1
  refine (Lk.app A0 p _).2 ⟨Lk.congr _ ?_ ?_ h1.1, ⟨upd_same _ _ _, upd_same _ _ _⟩, Lk.congr _ ?_ ?_ a5⟩
  · intro x hx
    rw [List.dropLast_concat] at hx
    exact upd_other _ (fun e => hpA (by rw [← e]; exact hx))
  · intro y hy
    refine upd_other _ (fun e => ?_)
    subst e
    have ht : (A0 ++ [p]).tail = l1.map some := by rw [← hA]; rfl
    rw [ht] at hy
    simp at hy
    obtain ⟨x, hx, rfl⟩ := hy
    rcases hsm with h | ⟨z, hz, h⟩
    · cases h
    · cases h
      exact hd x hx x (by simp [hz]) rfl
  · intro x hx
    refine upd_other _ (fun e => ?_)
    subst e
    rw [← hB, List.dropLast_concat] at hx
    simp at hx
    obtain ⟨z, hz, rfl⟩ := hx
    rcases hpm with h | ⟨z', hz', h⟩
    · cases h
    · cases h
      exact hd z hz' z (by simp [hz]) rfl
  · intro y hy
    exact upd_other _ (fun e => hsB (by rw [← e]; exact hy))

/-- One is put in at the end. -/
theorem Lk.stand {nx pv : Option Nat → Option Nat} {gs : List Nat} {g : Nat} (hg : g ∉ gs) (hn : gs.Nodup) (h : Lk nx pv (rg gs)) :
    (pv none = none ∨ ∃ x ∈ gs, pv none = some x) ∧ Lk (upd (upd nx (some g) none) (pv none) (some g)) (upd (upd pv (some g) (pv none)) none (some g)) (rg (gs ++ [g])) := by
  obtain ⟨A0, p, hA⟩ := split_last (none :: gs.map some) (by simp)
  have e : rg gs = A0 ++ p :: [none] := by unfold rg; rw [hA]; simp
  have e' : rg (gs ++ [g]) = A0 ++ p :: [some g, none] := by
    have e0 : rg (gs ++ [g]) = (none :: gs.map some) ++ [some g, none] := by (unfold rg; simp)
    rw [e0, hA]; simp
  rw [e] at h
  have h1 := (Lk.app A0 p _).1 h
  have h2 : ((nx p = none ∧ pv none = p) ∧ True) := h1.2
  obtain ⟨⟨a1, a2⟩, _⟩ := h2
  have hpm : p = none ∨ ∃ x ∈ gs, p = some x := by
    have : p ∈ none :: gs.map some := by rw [hA]; simp
    simp at this
    rcases this with h | ⟨x, hx, rfl⟩
    · exact .inl h
    · exact .inr ⟨x, hx, rfl⟩
  rw [a2]
  refine ⟨hpm, ?_⟩
  rw [e']
  have hpg : p ≠ some g := by
    rintro rfl
    rcases hpm with h | ⟨x, hx, h⟩
    · cases h
    · cases h; exact hg hx
  have hnA : (none :: gs.map some).Nodup := by
    simp [List.nodup_cons, List.pairwise_map, List.Nodup] at hn ⊢
    exact hn
  rw [hA] at hnA
  have hpA : p ∉ A0 := fun hp => (List.nodup_append.1 hnA).2.2 p hp p (by simp) rfl
  refine (Lk.app A0 p _).2 ⟨Lk.congr _ ?_ ?_ h1.1, ⟨upd_same _ _ _, ?_⟩, ⟨?_, upd_same _ _ _⟩, trivial⟩
  · intro x hx
    rw [List.dropLast_concat] at hx
    rw [upd_other _ (fun e => hpA (by rw [← e]; exact hx)), upd_other]
    rintro rfl
    have : some g ∈ none :: gs.map some := by rw [hA]; simp [hx]
    simp at this
    exact hg this
  · intro y hy
    have ht : (A0 ++ [p]).tail = gs.map some := by rw [← hA]; rfl
    rw [ht] at hy
    simp at hy
    obtain ⟨x, hx, rfl⟩ := hy
    rw [upd_other _ (by simp), upd_other]
    intro e
    cases e
    exact hg hx
  · rw [upd_other _ (by simp), upd_same]
  · rw [upd_other _ (fun e => hpg e.symm), upd_same]

/-- The first one behind the ring itself. -/
theorem Lk.first {nx pv : Option Nat → Option Nat} {gs : List Nat} (h : Lk nx pv (rg gs)) : nx none = gs.head? := by
  cases gs with
  | nil => exact h.1.1
  | cons g l => exact h.1.1
/-- What stands behind one. -/
theorem Lk.next {nx pv : Option Nat → Option Nat} {l1 l2 : List Nat} {g : Nat} (h : Lk nx pv (rg (l1 ++ g :: l2))) : nx (some g) = l2.head? := by
  have e : rg (l1 ++ g :: l2) = (none :: l1.map some) ++ some g :: (l2.map some ++ [none]) := by unfold rg; simp
  rw [e] at h
  have h2 := ((Lk.app _ _ _).1 h).2
  cases l2 with
  | nil => exact h2.1.1
  | cons y l => exact h2.1.1

/-! ### Memory -/
/-- What is known of one instance: its types, how keys and values look. -/
structure Ty (κ ν : Type) where
  L : TypeId
  E : TypeId
  M : TypeId
  K : TypeId
  pE : TypeId
  zk : Value
  zv : Value
  kv : κ → Value
  vv : ν → Value
  kl : κ → Lit
  ok : κ → Prop
structure Ty.Good {κ ν : Type} (T : Ty κ ν) : Prop where
  law : Keyed Try.prog T.K
  und : Try.prog.underlying T.M = some (.map T.K T.pE)
  key : ∀ k, T.ok k → keyOf Try.prog T.K (T.kv k) = some (T.kl k)
  inj : ∀ a b, T.ok a → T.ok b → T.kl a = T.kl b → a = b
  ne : T.L ≠ T.E
  zero : ∀ w, (zeroValue T.pE).run Try.prog w = .ok (.pointer none) w

def nb (b : Nat) : Option Nat → Nat
  | none => b
  | some g => g
def no : Option Nat → Nat
  | none => 3
  | some _ => 0
def pp (b : Nat) (x : Option Nat) : Value := .pointer (some ⟨nb b x, no x, none⟩)

/-- How an entry's place reads in the map. -/
def pe : Value → Option (DataW Unit × List MemPlace)
  | .pointer none => some (.lit (.int .i64 (-1)), [])
  | .pointer (some ⟨g, 0, none⟩) => some (.lit (.int .i64 (g : Int)), [])
  | _ => none
theorem pe_at (g : Nat) : pe (.pointer (some ⟨g, 0, none⟩)) = some (.lit (.int .i64 (g : Int)), []) := rfl
theorem pe_nil : pe (.pointer none) = some (.lit (.int .i64 (-1)), []) := rfl
theorem pe_inv {v : Value} {g : Nat} {ps : List MemPlace} (h : pe v = some (.lit (.int .i64 (g : Int)), ps)) : v = .pointer (some ⟨g, 0, none⟩) := by
  unfold pe at h
  split at h
  · simp only [Option.some.injEq, Prod.mk.injEq, DataW.lit.injEq, Lit.int.injEq] at h
    omega
  · rename_i g'
    simp only [Option.some.injEq, Prod.mk.injEq, DataW.lit.injEq, Lit.int.injEq] at h
    have : g' = g := by omega
    rw [this]
  · cases h
theorem pe_inv_nil {v : Value} {ps : List MemPlace} (h : pe v = some (.lit (.int .i64 (-1)), ps)) : v = .pointer none := by
  unfold pe at h
  split at h
  · rfl
  · simp only [Option.some.injEq, Prod.mk.injEq, DataW.lit.injEq, Lit.int.injEq] at h
    omega
  · cases h

section
variable {κ ν : Type} {T : Ty κ ν} {w w' : World} {b m most cnt : Nat} {nx pv : Option Nat → Option Nat} {es es' : List (Nat × κ × ν)}

/-- The list's own block, and its entries'. -/
structure MemL (T : Ty κ ν) (w : World) (b m most cnt : Nat) (nx pv : Option Nat → Option Nat) (es : List (Nat × κ × ν)) : Prop where
  ne : T.L ≠ T.E
  top : Row w b T.L #[.int .i64 (most : Int), .int .i64 (cnt : Int), .map (some m), T.zk, T.zv, pp b (pv none), pp b (nx none)]
  ent : ∀ x ∈ es, Row w x.1 T.E #[T.kv x.2.1, T.vv x.2.2, pp b (pv (some x.1)), pp b (nx (some x.1))]

theorem MemL.apart (h : MemL T w b m most cnt nx pv es) {x : Nat × κ × ν} (hx : x ∈ es) : b ≠ x.1 := Row.ne h.top (h.ent x hx) h.ne
theorem MemL.sub (h : MemL T w b m most cnt nx pv es) (hs : ∀ x ∈ es', x ∈ es) : MemL T w b m most cnt nx pv es' := ⟨h.ne, h.top, fun x hx => h.ent x (hs x hx)⟩
theorem MemL.keep (h : MemL T w b m most cnt nx pv es) {R : Nat → Prop} (hk : Keep R w w') (hb : ¬ R b) (he : ∀ x ∈ es, ¬ R x.1) : MemL T w' b m most cnt nx pv es :=
  ⟨h.ne, h.top.keep hk hb, fun x hx => (h.ent x hx).keep hk (he x hx)⟩
theorem MemL.calm (h : MemL T w b m most cnt nx pv es) (hk : Calm w w') : MemL T w' b m most cnt nx pv es := h.keep hk (fun e => e) (fun _ _ e => e)
theorem MemL.drew (h : MemL T w b m most cnt nx pv es) : MemL T w.drew b m most cnt nx pv es := ⟨h.ne, h.top, h.ent⟩
/-- A node of the ring. -/
def At (es : List (Nat × κ × ν)) (x : Option Nat) : Prop := x = none ∨ ∃ e ∈ es, x = some e.1

theorem MemL.setNx (h : MemL T w b m most cnt nx pv es) (x y : Option Nat) (hx : At es x) : MemL T (w.setCell ⟨nb b x, no x + 3, none⟩ (pp b y)) b m most cnt (upd nx x y) pv es := by
  rcases hx with rfl | ⟨e, he, rfl⟩
  · refine ⟨h.ne, ?_, fun z hz => ?_⟩
    · have := h.top.store 6 (pp b y)
      simpa [nb, no, upd] using this
    · have := (h.ent z hz).far (p := ⟨nb b none, no none + 3, none⟩) (fun e => h.apart hz e.symm) (pp b y)
      simpa [upd] using this
  · refine ⟨h.ne, ?_, fun z hz => ?_⟩
    · have := h.top.far (p := ⟨nb b (some e.1), no (some e.1) + 3, none⟩) (h.apart he) (pp b y)
      simpa [upd] using this
    · by_cases hze : z.1 = e.1
      · have := (h.ent z hz).store 3 (pp b y)
        simp only [nb, no]
        rw [← hze]
        simpa [upd] using this
      · have := (h.ent z hz).far (p := ⟨nb b (some e.1), no (some e.1) + 3, none⟩) hze (pp b y)
        simpa [upd, hze] using this
theorem MemL.setPv (h : MemL T w b m most cnt nx pv es) (x y : Option Nat) (hx : At es x) : MemL T (w.setCell ⟨nb b x, no x + 2, none⟩ (pp b y)) b m most cnt nx (upd pv x y) es := by
  rcases hx with rfl | ⟨e, he, rfl⟩
  · refine ⟨h.ne, ?_, fun z hz => ?_⟩
    · have := h.top.store 5 (pp b y)
      simpa [nb, no, upd] using this
    · have := (h.ent z hz).far (p := ⟨nb b none, no none + 2, none⟩) (fun e => h.apart hz e.symm) (pp b y)
      simpa [upd] using this
  · refine ⟨h.ne, ?_, fun z hz => ?_⟩
    · have := h.top.far (p := ⟨nb b (some e.1), no (some e.1) + 2, none⟩) (h.apart he) (pp b y)
      simpa [upd] using this
    · by_cases hze : z.1 = e.1
      · have := (h.ent z hz).store 2 (pp b y)
        simp only [nb, no]
        rw [← hze]
        simpa [upd] using this
      · have := (h.ent z hz).far (p := ⟨nb b (some e.1), no (some e.1) + 2, none⟩) hze (pp b y)
        simpa [upd, hze] using this
theorem MemL.setCnt (h : MemL T w b m most cnt nx pv es) (c : Nat) : MemL T (w.setCell ⟨b, 1, none⟩ (.int .i64 (c : Int))) b m most c nx pv es :=
  ⟨h.ne, by simpa using h.top.store 1 (.int .i64 (c : Int)), fun z hz => (h.ent z hz).far (p := ⟨b, 1, none⟩) (fun e => h.apart hz e.symm) _⟩
/-- The cells of a node's two links. -/
theorem MemL.cells (h : MemL T w b m most cnt nx pv es) (x : Option Nat) (hx : At es x) : w.cell? ⟨nb b x, no x + 2, none⟩ = some (pp b (pv x)) ∧ w.cell? ⟨nb b x, no x + 3, none⟩ = some (pp b (nx x)) ∧ ∀ i, w.frozen? ⟨nb b x, i, none⟩ = false := by
  rcases hx with rfl | ⟨e, he, rfl⟩
  · exact ⟨by rw [show (⟨nb b none, no none + 2, none⟩ : Addr) = ⟨b, 5, none⟩ from rfl, h.top.cell]; rfl, by rw [show (⟨nb b none, no none + 3, none⟩ : Addr) = ⟨b, 6, none⟩ from rfl, h.top.cell]; rfl, fun i => h.top.soft i⟩
  · have hr := h.ent e he
    exact ⟨by rw [show (⟨nb b (some e.1), no (some e.1) + 2, none⟩ : Addr) = ⟨e.1, 2, none⟩ from rfl, hr.cell]; rfl, by rw [show (⟨nb b (some e.1), no (some e.1) + 3, none⟩ : Addr) = ⟨e.1, 3, none⟩ from rfl, hr.cell]; rfl, fun i => hr.soft i⟩
/-- Two links are two cells. -/
theorem nodes_apart (b : Nat) (es : List (Nat × κ × ν)) (hb : ∀ x ∈ es, b ≠ x.1) {x y : Option Nat} (hx : At es x) (hy : At es y) (i j : Nat) (hi : i = 2 ∨ i = 3) (hj : j = 2 ∨ j = 3) (hne : x ≠ y ∨ i ≠ j) : (⟨nb b x, no x + i, none⟩ : Addr) ≠ ⟨nb b y, no y + j, none⟩ := by
  intro e
  injection e with e1 e2 _
  rcases hx with rfl | ⟨a, ha, rfl⟩ <;> rcases hy with rfl | ⟨c, hc, rfl⟩
  · simp [nb, no] at e1 e2
    rcases hne with h | h
    · exact h rfl
    · omega
  · exact hb c hc e1
  · exact hb a ha e1.symm
  · simp only [nb, no] at e1 e2
    rcases hne with h | h
    · exact h (by rw [e1])
    · omega
end
end Go.Proofs.Ytnlojohjhfpbgaa
