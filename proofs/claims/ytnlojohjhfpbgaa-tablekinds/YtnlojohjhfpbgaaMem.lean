/-
  Words for memory that the proofs of this seat share: a block known whole, worlds that keep all but some blocks, rows of bytes and of bools. Nothing of the program is named here.
-/
import Derived.WalkKit
import Derived.WalkSpells
import Derived.WalkLawsBesides
import Derived.Lib.Hide
namespace Go.Proofs.Ytnlojohjhfpbgaa
open Go.RowKit
set_option linter.all false

/-- Block g is just these cells, none frozen. -/
def Row (w : World) (g : Nat) (t : TypeId) (cs : Array Value) : Prop := w.heap[g]? = some (.cells cs t (0, 0))

/-- All but the blocks of R are as they were; no block has gone; the streams are as they were. -/
structure Keep (R : Nat → Prop) (w w' : World) : Prop where
  os : w'.os = w.os
  tape : w'.tape = w.tape
  output : w'.output = w.output
  size : w.heap.size ≤ w'.heap.size
  block : ∀ k, k < w.heap.size → ¬ R k → w'.heap[k]? = w.heap[k]?

section
variable {w w' w'' : World} {g : Nat} {t : TypeId} {cs : Array Value} {R R' : Nat → Prop}

theorem Row.lt (h : Row w g t cs) : g < w.heap.size := by
  rcases Nat.lt_or_ge g w.heap.size with hl | hl
  · exact hl
  · unfold Row at h; rw [Array.getElem?_eq_none hl] at h; cases h
theorem Row.cell (h : Row w g t cs) (i : Nat) : w.cell? ⟨g, i, none⟩ = cs[i]? := by
  unfold Row at h; simp [World.cell?, h]
theorem Row.soft (h : Row w g t cs) (i : Nat) : w.frozen? ⟨g, i, none⟩ = false := by
  unfold Row at h; simp [World.frozen?, h]
theorem Row.made (w : World) (t : TypeId) (cs : Array Value) : Row (w.alloc (.cells cs t)) w.heap.size t cs := by
  show (w.heap.push _)[w.heap.size]? = _
  simp
theorem Row.drew (h : Row w g t cs) : Row w.drew g t cs := h
theorem Row.drewN (h : Row w g t cs) (n : Nat) : Row (w.drewN n) g t cs := h
theorem Row.alloc (h : Row w g t cs) (o : Obj) : Row (w.alloc o) g t cs := (Below.heap_alloc w o g h.lt).trans h
theorem Row.store (h : Row w g t cs) (i : Nat) (u : Value) : Row (w.setCell ⟨g, i, none⟩ u) g t (cs.setIfInBounds i u) := by
  unfold Row at h ⊢
  simp [World.setCell, Array.getElem?_modify, h]
theorem Row.far (h : Row w g t cs) {p : Addr} (hp : g ≠ p.block) (u : Value) : Row (w.setCell p u) g t cs := (Below.heap_setCell w p u g hp).trans h
theorem Row.keep (h : Row w g t cs) (hk : Keep R w w') (hg : ¬ R g) : Row w' g t cs := (hk.block g h.lt hg).trans h
theorem Row.below {B : Nat} (h : Row w g t cs) (hk : Below B w w') (hg : g < B) : Row w' g t cs := (hk.block g hg).trans h
theorem Row.grown {r : Option Nat} (h : Row w g t cs) (hk : w.grownBy w' r) (hg : some g ≠ r) : Row w' g t cs := (hk.block g h.lt hg).trans h
/-- Blocks of unlike element types are not one block. -/
theorem Row.ne {g' : Nat} {t' : TypeId} {cs' : Array Value} (h : Row w g t cs) (h' : Row w g' t' cs') (hne : t ≠ t') : g ≠ g' := by
  intro e
  subst e
  unfold Row at h h'
  rw [h] at h'
  injection h' with h'
  injection h' with _ h'
  exact hne h'
theorem Row.one {cs' : Array Value} (h : Row w g t cs) (h' : Row w g t cs') : cs = cs' := by
  unfold Row at h h'
  rw [h] at h'
  injection h' with h'
  injection h' with h' _

theorem Keep.refl (R : Nat → Prop) (w : World) : Keep R w w := ⟨rfl, rfl, rfl, Nat.le_refl _, fun _ _ _ => rfl⟩
theorem Keep.trans (h : Keep R w w') (k : Keep R w' w'') : Keep R w w'' :=
  ⟨k.os.trans h.os, k.tape.trans h.tape, k.output.trans h.output, Nat.le_trans h.size k.size, fun i hi hn => (k.block i (Nat.lt_of_lt_of_le hi h.size) hn).trans (h.block i hi hn)⟩
/-- Two steps, where the second one may turn more than the first, but only what is new. -/
theorem Keep.then_ (h : Keep R w w') (k : Keep R' w' w'') (hr : ∀ i, i < w.heap.size → R' i → R i) : Keep R w w'' :=
  ⟨k.os.trans h.os, k.tape.trans h.tape, k.output.trans h.output, Nat.le_trans h.size k.size, fun i hi hn => (k.block i (Nat.lt_of_lt_of_le hi h.size) (fun x => hn (hr i hi x))).trans (h.block i hi hn)⟩
theorem Keep.mono (h : Keep R w w') (hr : ∀ i, i < w.heap.size → R i → R' i) : Keep R' w w' :=
  ⟨h.os, h.tape, h.output, h.size, fun i hi hn => h.block i hi (fun x => hn (hr i hi x))⟩
theorem Keep.drew (h : Keep R w w') : Keep R w w'.drew := ⟨h.os, h.tape, h.output, h.size, h.block⟩
theorem Keep.drewN (h : Keep R w w') (n : Nat) : Keep R w (w'.drewN n) := ⟨h.os, h.tape, h.output, h.size, h.block⟩
theorem Keep.alloc (h : Keep R w w') (o : Obj) : Keep R w (w'.alloc o) :=
  ⟨h.os, h.tape, h.output, Nat.le_trans h.size (by simp), fun i hi hn => (Below.heap_alloc _ _ _ (Nat.lt_of_lt_of_le hi h.size)).trans (h.block i hi hn)⟩
theorem Keep.store (h : Keep R w w') {p : Addr} (hp : p.block < w.heap.size → R p.block) (u : Value) : Keep R w (w'.setCell p u) :=
  ⟨h.os, h.tape, h.output, by simpa [World.setCell] using h.size, fun i hi hn => by
    by_cases e : i = p.block
    · subst e; exact absurd (hp hi) hn
    · exact (Below.heap_setCell _ _ _ _ e).trans (h.block i hi hn)⟩
theorem Keep.grown {r : Option Nat} (h : Keep R w w') (hg : w'.grownBy w'' r) (hr : ∀ k, r = some k → k < w.heap.size → R k) : Keep R w w'' :=
  ⟨hg.os.trans h.os, hg.tape.trans h.tape, hg.output.trans h.output, Nat.le_trans h.size hg.size, fun i hi hn =>
    (hg.block i (Nat.lt_of_lt_of_le hi h.size) (fun e => hn (hr i e.symm hi))).trans (h.block i hi hn)⟩
theorem Keep.below (h : Keep R w w') {B : Nat} (hB : B ≤ w.heap.size) (hr : ∀ k, k < B → ¬ R k) : Below B w w' :=
  ⟨h.os, h.tape, h.output, h.size, fun k hk => h.block k (Nat.lt_of_lt_of_le hk hB) (hr k hk)⟩
theorem Keep.of_below (h : Below w.heap.size w w') (R : Nat → Prop) : Keep R w w' := ⟨h.os, h.tape, h.output, h.size, fun k hk _ => h.block k hk⟩
theorem Keep.cell (h : Keep R w w') {p : Addr} (hp : p.block < w.heap.size) (hn : ¬ R p.block) : w'.cell? p = w.cell? p := World.cell?_of_block (w := w) (h.block p.block hp hn)
theorem Keep.soft (h : Keep R w w') {p : Addr} (hp : p.block < w.heap.size) (hn : ¬ R p.block) : w'.frozen? p = w.frozen? p := World.frozen?_of_block (w := w) (h.block p.block hp hn)
end

/-- Nothing that was there has turned. -/
abbrev Calm (w w' : World) : Prop := Keep (fun _ => False) w w'
theorem Calm.keep {w w' : World} (h : Calm w w') (R : Nat → Prop) : Keep R w w' := h.mono (fun _ _ x => x.elim)
theorem Calm.to {w w' : World} (h : Calm w w') : Below w.heap.size w w' := h.below (Nat.le_refl _) (fun _ _ x => x)

/-- A byte as a value. -/
def bv (x : UInt8) : Value := .int .u8 (x.toNat : Int)

/-- A slice of 512 bytes that begins its block: the bytes of a sector. R: where it may lie. -/
def Data (w : World) (R : Nat → Prop) (v : Value) (bs : List UInt8) : Prop :=
  ∃ (g cap : Nat) (cur : Array Value), v = .slice (some ⟨g, 0, none⟩) 512 cap ∧ Row w g 5 cur ∧ 512 ≤ cap ∧ cap ≤ maxLen ∧ cur.size = cap ∧ cur.toList.take 512 = bs.map bv ∧ R g

theorem Data.len {w : World} {R : Nat → Prop} {v : Value} {bs : List UInt8} (h : Data w R v bs) : bs.length = 512 := by
  obtain ⟨g, cap, cur, _, _, h1, _, h2, h3, _⟩ := h
  have := congrArg List.length h3
  simp at this
  omega
theorem Data.move {w w' : World} {R R' : Nat → Prop} {v : Value} {bs : List UInt8} (h : Data w R v bs) (hm : ∀ g cur, R g → Row w g 5 cur → Row w' g 5 cur ∧ R' g) : Data w' R' v bs := by
  obtain ⟨g, cap, cur, h0, h1, h2, h3, h4, h5, h6⟩ := h
  obtain ⟨a, b⟩ := hm g cur h6 h1
  exact ⟨g, cap, cur, h0, a, h2, h3, h4, h5, b⟩
theorem Data.own {w : World} {R : Nat → Prop} {v : Value} {bs : List UInt8} (h : Data w R v bs) : w.ownsRow 0 5 1 v 512 (bs.map bv) := by
  have hl := h.len
  obtain ⟨g, cap, cur, h0, h1, h2, h3, h4, h5, _⟩ := h
  exact ⟨by simp [hl], .inr ⟨g, cap, cur, h0, Nat.zero_le _, h1, h2, h3, by omega, by simpa using h5⟩⟩
theorem Data.of_own {w : World} {base : Nat} {v : Value} {bs : List UInt8} (h : w.ownsRow base 5 1 v 512 (bs.map bv)) : Data w (fun g => v.ownBlock = some g) v bs := by
  rcases h.2 with ⟨_, h0⟩ | ⟨g, cap, cur, h0, _, h1, h2, h3, h4, h5⟩
  · omega
  · exact ⟨g, cap, cur, h0, h1, h2, h3, by omega, by simpa using h5, by subst h0; rfl⟩

/-- Values that are rows of bytes, one by one. -/
def Datas (w : World) (R : Nat → Prop) (vs : List Value) (bss : List (List UInt8)) : Prop :=
  vs.length = bss.length ∧ ∀ (i : Nat) v bs, vs[i]? = some v → bss[i]? = some bs → Data w R v bs
theorem Datas.move {w w' : World} {R R' : Nat → Prop} {vs : List Value} {bss : List (List UInt8)} (h : Datas w R vs bss) (hm : ∀ g cur, R g → Row w g 5 cur → Row w' g 5 cur ∧ R' g) : Datas w' R' vs bss :=
  ⟨h.1, fun i v bs h1 h2 => (h.2 i v bs h1 h2).move hm⟩
theorem Datas.set {w : World} {R : Nat → Prop} {vs : List Value} {bss : List (List UInt8)} (h : Datas w R vs bss) {v : Value} {bs : List UInt8} (hd : Data w R v bs) (k : Nat) : Datas w R (vs.set k v) (bss.set k bs) := by
  refine ⟨by simp [h.1], fun i u cs h1 h2 => ?_⟩
  rw [List.getElem?_set] at h1 h2
  by_cases e : k = i
  · subst e
    have hl := h.1
    by_cases hk : k < vs.length
    · simp [hk] at h1
      simp [← hl, hk] at h2
      subst h1; subst h2
      exact hd
    · simp [hk] at h1
  · simp [e] at h1 h2
    exact h.2 i u cs h1 h2
theorem Datas.snoc {w : World} {R : Nat → Prop} {vs : List Value} {bss : List (List UInt8)} (h : Datas w R vs bss) {v : Value} {bs : List UInt8} (hd : Data w R v bs) : Datas w R (vs ++ [v]) (bss ++ [bs]) := by
  refine ⟨by simp [h.1], fun i u cs h1 h2 => ?_⟩
  have hl := h.1
  rcases Nat.lt_or_ge i vs.length with hi | hi
  · rw [List.getElem?_append_left hi] at h1
    rw [List.getElem?_append_left (by omega)] at h2
    exact h.2 i u cs h1 h2
  · rw [List.getElem?_append_right hi] at h1
    rw [List.getElem?_append_right (by omega)] at h2
    rw [← hl] at h2
    generalize i - vs.length = k at h1 h2
    cases k with
    | zero => simp at h1 h2; subst h1; subst h2; exact hd
    | succ k => simp at h1
theorem Datas.nil (w : World) (R : Nat → Prop) : Datas w R [] [] := ⟨rfl, fun i v bs h1 _ => by simp at h1⟩

/-- A slice of bools, nil let in, that reads as a list; R: where its cells lie. -/
def Bools (w : World) (R : Nat → Prop) (v : Value) (ks : List Bool) : Prop :=
  ∃ (A : Option Addr) (cap : Nat), v = .slice A ks.length cap ∧ ∀ (i : Nat) b, ks[i]? = some b → ∃ ad, A = some ad ∧ R ad.block ∧ ad.block < w.heap.size ∧ w.cell? (ad.add i) = some (.bool b)
theorem Addr.add_block (a : Addr) (n : Nat) : (a.add n).block = a.block := by unfold Addr.add; split <;> rfl
theorem Bools.move {w w' : World} {R R' : Nat → Prop} {v : Value} {ks : List Bool} (h : Bools w R v ks) (hs : w.heap.size ≤ w'.heap.size)
    (hm : ∀ p : Addr, p.block < w.heap.size → R p.block → w'.cell? p = w.cell? p) (hr : ∀ k, R k → R' k) : Bools w' R' v ks := by
  obtain ⟨A, cap, h0, h1⟩ := h
  refine ⟨A, cap, h0, fun i b hi => ?_⟩
  obtain ⟨ad, a, b', c, d⟩ := h1 i b hi
  exact ⟨ad, a, hr _ b', Nat.lt_of_lt_of_le c hs, (hm _ (by rw [Addr.add_block]; exact c) (by rw [Addr.add_block]; exact b')).trans d⟩
theorem Bools.none_ (w : World) (R : Nat → Prop) : Bools w R (.slice none 0 0) [] := ⟨none, 0, rfl, fun i b h => by simp at h⟩

/-- A slice of bytes, nil let in, that reads as a list; R: where its cells lie. -/
def Bytes (w : World) (R : Nat → Prop) (v : Value) (bs : List UInt8) : Prop :=
  ∃ (A : Option Addr) (cap : Nat), v = .slice A bs.length cap ∧ ∀ (i : Nat) b, bs[i]? = some b → ∃ ad, A = some ad ∧ R ad.block ∧ ad.block < w.heap.size ∧ w.cell? (ad.add i) = some (bv b)
theorem Bytes.move {w w' : World} {R R' : Nat → Prop} {v : Value} {bs : List UInt8} (h : Bytes w R v bs) (hs : w.heap.size ≤ w'.heap.size)
    (hm : ∀ p : Addr, p.block < w.heap.size → R p.block → w'.cell? p = w.cell? p) (hr : ∀ k, R k → R' k) : Bytes w' R' v bs := by
  obtain ⟨A, cap, h0, h1⟩ := h
  refine ⟨A, cap, h0, fun i b hi => ?_⟩
  obtain ⟨ad, a, b', c, d⟩ := h1 i b hi
  exact ⟨ad, a, hr _ b', Nat.lt_of_lt_of_le c hs, (hm _ (by rw [Addr.add_block]; exact c) (by rw [Addr.add_block]; exact b')).trans d⟩
theorem Data.bytes {w : World} {R : Nat → Prop} {v : Value} {bs : List UInt8} (h : Data w R v bs) : Bytes w R v bs := by
  have hl := h.len
  have ho := h.own
  obtain ⟨g, cap, cur, h0, h1, h2, h3, h4, h5, h6⟩ := h
  refine ⟨some ⟨g, 0, none⟩, cap, by rw [h0, hl], fun i b hi => ⟨⟨g, 0, none⟩, rfl, h6, Row.lt h1, ?_⟩⟩
  exact ho.cells (g := g) (by rw [h0]; rfl) i (bv b) (by simp [hi])

/-- What is done of s, in order, of the first j of ws, those kept. -/
def putTo {α : Type} (kept : Nat → Bool) (s : List α) (ws : List (Nat × α)) : Nat → List α
  | 0 => s
  | j + 1 => match ws[j]? with
    | some x => if kept j then (putTo kept s ws j).set x.1 x.2 else putTo kept s ws j
    | none => putTo kept s ws j
theorem putTo_len {α : Type} (kept : Nat → Bool) (s : List α) (ws : List (Nat × α)) (j : Nat) : (putTo kept s ws j).length = s.length := by
  induction j with
  | zero => rfl
  | succ j ih =>
    simp only [putTo]
    split
    · split
      · simp [ih]
      · exact ih
    · exact ih
theorem putTo_succ {α : Type} (kept : Nat → Bool) (s : List α) (ws : List (Nat × α)) (j : Nat) (x : Nat × α) (h : ws[j]? = some x) :
    putTo kept s ws (j + 1) = if kept j then (putTo kept s ws j).set x.1 x.2 else putTo kept s ws j := by
  simp [putTo, h]

/-- Writes that wait: as values and as bytes. -/
def Waits (w : World) (R : Nat → Prop) (wvs : List (Nat × Value)) (ws : List (Nat × List UInt8)) : Prop :=
  wvs.map (·.1) = ws.map (·.1) ∧ Datas w R (wvs.map (·.2)) (ws.map (·.2))
theorem Datas.putTo {w : World} {R : Nat → Prop} {vs : List Value} {bss : List (List UInt8)} {wvs : List (Nat × Value)} {ws : List (Nat × List UInt8)} (h : Datas w R vs bss) (hw : Waits w R wvs ws) (kept : Nat → Bool) (j : Nat) :
    Datas w R (putTo kept vs wvs j) (putTo kept bss ws j) := by
  induction j with
  | zero => exact h
  | succ j ih =>
    have hl : wvs.length = ws.length := by have := congrArg List.length hw.1; simpa using this
    by_cases hj : j < wvs.length
    · have e1 : wvs[j]? = some wvs[j] := List.getElem?_eq_getElem hj
      have e2 : ws[j]? = some (ws[j]'(by omega)) := List.getElem?_eq_getElem (by omega)
      rw [putTo_succ _ _ _ _ _ e1, putTo_succ _ _ _ _ _ e2]
      have hd := hw.2.2 j wvs[j].2 (ws[j]'(by omega)).2 (by simp [e1]) (by simp [e2])
      have ha : wvs[j].1 = (ws[j]'(by omega)).1 := by
        have := congrArg (fun l => l[j]?) hw.1
        simpa [e1, e2] using this
      split
      · rw [ha]; exact ih.set hd _
      · exact ih
    · have e1 : wvs[j]? = none := List.getElem?_eq_none (by omega)
      have e2 : ws[j]? = none := List.getElem?_eq_none (by omega)
      simpa [Ytnlojohjhfpbgaa.putTo, e1, e2] using ih
end Go.Proofs.Ytnlojohjhfpbgaa
