/-
  Package store: what a store is in memory; Room, count, other; slices.Clone of whatever bytes.
-/
import Derived.Test.YtfigiofiakkbdaaDoorJC3
import Derived.LoopN
namespace Go.Proofs.YtfigiofiakkbdaaDoor
open Go.RowKit
set_option linter.all false

/-- A slice of bytes, nil let in, whose cells lie in T. -/
def InT (w : World) (T : Nat → Prop) (v : Value) (bs : List UInt8) : Prop :=
  (v = .slice none 0 0 ∧ bs = []) ∨ ∃ (g o cap : Nat) (cur : Array Value), v = .slice (some ⟨g, o, none⟩) bs.length cap ∧ T g ∧ Row w g 5 cur ∧ bs.length ≤ cap ∧ cap ≤ maxLen ∧ ∀ (i : Nat) c, bs[i]? = some c → cur[o + i]? = some (bv c)
section
variable {w w' : World} {T T' Q : Nat → Prop} {v : Value} {bs : List UInt8}
theorem InT.rd (h : InT w T v bs) : Rd w v bs := by
  rcases h with h | ⟨g, o, cap, cur, e, _, hr, h1, h2, h3⟩
  · exact .inl h
  · exact .inr ⟨_, cap, e, h1, h2, fun i c hi => by rw [addr_mid, hr.cell]; exact h3 i c hi⟩
theorem InT.keep (h : InT w T v bs) (k : Keep Q w w') (hQ : ∀ g, T g → ¬ Q g) : InT w' T v bs := by
  rcases h with h | ⟨g, o, cap, cur, e, ht, hr, h1⟩
  · exact .inl h
  · exact .inr ⟨g, o, cap, cur, e, ht, hr.keep k (hQ g ht), h1⟩
theorem InT.keep8 (h : InT w T v bs) (k : Keep Q w w') (hQ : ∀ g cur, T g → Row w g 5 cur → ¬ Q g) : InT w' T v bs := by
  rcases h with h | ⟨g, o, cap, cur, e, ht, hr, h1⟩
  · exact .inl h
  · exact .inr ⟨g, o, cap, cur, e, ht, hr.keep k (hQ g cur ht hr), h1⟩
theorem InT.mono (h : InT w T v bs) (ht : ∀ k, T k → T' k) : InT w T' v bs := by
  rcases h with h | ⟨g, o, cap, cur, e, h0, h1⟩
  · exact .inl h
  · exact .inr ⟨g, o, cap, cur, e, ht g h0, h1⟩
theorem InT.form (h : InT w T v bs) : ∃ A cap, v = .slice A bs.length cap := by
  rcases h with ⟨e, h⟩ | ⟨g, o, cap, cur, e, _⟩
  · exact ⟨none, 0, by rw [e, h]; rfl⟩
  · exact ⟨_, cap, e⟩
theorem InT.of_own {base : Nat} (h : Own w base v bs) : InT w (fun k => base ≤ k ∧ k < w.heap.size) v bs := by
  rcases h.2 with ⟨e, h0⟩ | ⟨g, cap, cur, e, hb, hr, h2, h3, h4, h5⟩
  · exact .inl ⟨e, List.eq_nil_of_length_eq_zero h0⟩
  · refine .inr ⟨g, 0, cap, cur, e, ⟨hb, Row.lt hr⟩, hr, h2, h3, fun i c hi => ?_⟩
    have hl : i < bs.length := (List.getElem?_eq_some_iff.1 hi).1
    have e2 := congrArg (fun l => l[i]?) h5
    simp only [Nat.mul_one, List.getElem?_take, if_pos hl, List.getElem?_map, hi] at e2
    simpa using e2
end

/-- What a store holds: the sectors of a half, the halves' journals, what is kept: its half, its count, its bytes. -/
structure SS where
  h : Nat
  ja : Nat
  jb : Nat
  A : JS
  B : JS
  kept : Option (Nat × Nat × List UInt8)
def SS.jp (σ : SS) (y : Nat) : Nat := if y = 0 then σ.ja else σ.jb
def SS.J (σ : SS) (y : Nat) : JS := if y = 0 then σ.A else σ.B
def SS.put (σ : SS) (y : Nat) (J : JS) : SS := if y = 0 then { σ with A := J } else { σ with B := J }
def SS.count (σ : SS) : Nat := match σ.kept with
  | none => 0
  | some (_, n, _) => n
def SS.other (σ : SS) : Nat := match σ.kept with
  | none => 0
  | some (y, _, _) => 1 - y
def KeptIs (w : World) (T : Nat → Prop) (kv : Value) : Option (Nat × Nat × List UInt8) → Prop
  | none => kv = .pointer none
  | some (y, n, bs) => y ≤ 1 ∧ n ≤ 4611686018427387904 ∧ ∃ (tb : Nat) (dv : Value), kv = .pointer (some ⟨tb, 0, none⟩) ∧ T tb ∧ Row w tb 79 #[.int .i64 (y : Int), .int .u64 (n : Int), dv] ∧ InT w T dv bs
theorem KeptIs.keep {w w' : World} {T Q : Nat → Prop} {kv : Value} {o : Option (Nat × Nat × List UInt8)} (h : KeptIs w T kv o) (k : Keep Q w w') (hQ : ∀ g, T g → ¬ Q g) : KeptIs w' T kv o := by
  rcases o with _ | ⟨y, n, bs⟩
  · exact h
  · obtain ⟨hy, hn, tb, dv, e, ht, hr, hi⟩ := h
    exact ⟨hy, hn, tb, dv, e, ht, hr.keep k (hQ tb ht), hi.keep k hQ⟩
theorem KeptIs.keepT {w w' : World} {T Q : Nat → Prop} {kv : Value} {o : Option (Nat × Nat × List UInt8)} (h : KeptIs w T kv o) (k : Keep Q w w') (hQ : ∀ g t cur, T g → t = 5 ∨ t = 79 → Row w g t cur → ¬ Q g) : KeptIs w' T kv o := by
  rcases o with _ | ⟨y, n, bs⟩
  · exact h
  · obtain ⟨hy, hn, tb, dv, e, ht, hr, hi⟩ := h
    exact ⟨hy, hn, tb, dv, e, ht, hr.keep k (hQ tb _ _ ht (.inr rfl) hr), hi.keep8 k (fun g cur ht hr => hQ g _ _ ht (.inl rfl) hr)⟩
theorem KeptIs.mono {w : World} {T T' : Nat → Prop} {kv : Value} {o : Option (Nat × Nat × List UInt8)} (h : KeptIs w T kv o) (hT : ∀ k, T k → T' k) : KeptIs w T' kv o := by
  rcases o with _ | ⟨y, n, bs⟩
  · exact h
  · obtain ⟨hy, hn, tb, dv, e, ht, hr, hi⟩ := h
    exact ⟨hy, hn, tb, dv, e, hT _ ht, hr, hi.mono hT⟩

/-- A store in memory, without its disk: it lies in T. -/
structure Sm (w0 w : World) (T : Nat → Prop) (d sb : Nat) (σ : SS) : Prop where
  row : ∃ kv, Row w sb 75 #[.pointer (some ⟨σ.ja, 0, none⟩), .pointer (some ⟨σ.jb, 0, none⟩), .int .i64 (σ.h : Int), kv, .bool false] ∧ KeptIs w T kv σ.kept
  ra : JRow w σ.ja d σ.A
  rb : JRow w σ.jb d σ.B
  ts : T sb
  ta : T σ.ja
  tb : T σ.jb
  ne : σ.ja ≠ σ.jb
  new : ∀ k, T k → w0.heap.size ≤ k
  lt : ∀ k, T k → k < w.heap.size
/-- A store over a disk. -/
structure Sto (w0 w : World) (R T : Nat → Prop) (d sb : Nat) (S : DS) (σ : SS) : Prop where
  sd : Sd w0 w R d S
  sm : Sm w0 w T d sb σ
  dis : ∀ k, T k → ¬ R k
section
variable {w0 w w' : World} {R R' T Q : Nat → Prop} {d sb : Nat} {S S1 : DS} {σ : SS}
theorem Sm.keep (h : Sm w0 w T d sb σ) (k : Keep Q w w') (hQ : ∀ g, T g → ¬ Q g) : Sm w0 w' T d sb σ := by
  obtain ⟨kv, h1, h2⟩ := h.row
  exact ⟨⟨kv, h1.keep k (hQ _ h.ts), h2.keep k hQ⟩, h.ra.keep k (hQ _ h.ta), h.rb.keep k (hQ _ h.tb), h.ts, h.ta, h.tb, h.ne, h.new, fun g hg => Nat.lt_of_lt_of_le (h.lt g hg) k.size⟩
theorem Sto.rest (h : Sto w0 w R T d sb S σ) (k : Calm w w') : Sto w0 w' R T d sb S σ := ⟨h.sd.rest k, h.sm.keep k (fun _ _ e => e), h.dis⟩
/-- The disk is used by another. -/
theorem Sto.moved (h : Sto w0 w R T d sb S σ) (hs : Sd w0 w' R' d S1) (hx : Ext R R' w) (k : Keep R w w') : Sto w0 w' R' T d sb S1 σ := ⟨hs, h.sm.keep k h.dis, fun g hg => hx.not (h.dis g hg) (h.sm.lt g hg)⟩
/-- Something else turns. -/
theorem Sto.apart (h : Sto w0 w R T d sb S σ) (k : Keep Q w w') (hQ : ∀ i, Q i → ¬ R i ∧ ¬ T i ∧ w0.heap.size ≤ i) : Sto w0 w' R T d sb S σ :=
  ⟨h.sd.apart k (fun i hi => ⟨(hQ i hi).1, (hQ i hi).2.2⟩), h.sm.keep k (fun g hg e => (hQ g e).2.1 hg), h.dis⟩
theorem Sto.calm (h : Sto w0 w R T d sb S σ) : Calm w0 w := h.sd.st.calm
theorem Sm.cells (h : Sm w0 w T d sb σ) : w.cell? ⟨sb, 0, none⟩ = some (.pointer (some ⟨σ.ja, 0, none⟩)) ∧ w.cell? ⟨sb, 1, none⟩ = some (.pointer (some ⟨σ.jb, 0, none⟩)) ∧ w.cell? ⟨sb, 2, none⟩ = some (.int .i64 (σ.h : Int)) ∧ w.cell? ⟨sb, 4, none⟩ = some (.bool false) := by
  obtain ⟨kv, h1, _⟩ := h.row
  refine ⟨?_, ?_, ?_, ?_⟩ <;> (rw [Row.cell h1]; rfl)
theorem Sm.soft (h : Sm w0 w T d sb σ) (i : Nat) : w.frozen? ⟨sb, i, none⟩ = false := by
  obtain ⟨kv, h1, _⟩ := h.row
  exact h1.soft i
theorem Sm.kept0 (h : Sm w0 w T d sb σ) (hk : σ.kept = none) : w.cell? ⟨sb, 3, none⟩ = some (.pointer none) := by
  obtain ⟨kv, h1, h2⟩ := h.row
  rw [hk] at h2
  have : kv = .pointer none := h2
  subst this
  rw [Row.cell h1]; rfl
theorem Sm.kept1 (h : Sm w0 w T d sb σ) {y n : Nat} {bs : List UInt8} (hk : σ.kept = some (y, n, bs)) : y ≤ 1 ∧ n ≤ 4611686018427387904 ∧ ∃ tb dv, w.cell? ⟨sb, 3, none⟩ = some (.pointer (some ⟨tb, 0, none⟩)) ∧ w.cell? ⟨tb, 0, none⟩ = some (.int .i64 (y : Int)) ∧ w.cell? ⟨tb, 1, none⟩ = some (.int .u64 (n : Int)) ∧ w.cell? ⟨tb, 2, none⟩ = some dv ∧ InT w T dv bs := by
  obtain ⟨kv, h1, h2⟩ := h.row
  rw [hk] at h2
  obtain ⟨hy, hn, tb, dv, rfl, _, hr, hi⟩ := h2
  refine ⟨hy, hn, tb, dv, ?_, ?_, ?_, ?_, hi⟩
  · rw [Row.cell h1]; rfl
  · rw [hr.cell]; rfl
  · rw [hr.cell]; rfl
  · rw [hr.cell]; rfl
end

section
variable {w0 w : World} {T : Nat → Prop} {d sb : Nat} {σ : SS}
set_option maxHeartbeats 800000 in
theorem sroom_c (h : Sm w0 w T d sb σ) (h1 : 1 ≤ σ.h) (h2 : σ.h ≤ 4096) :
    Calls Tryd.prog 21 #[.pointer (some ⟨sb, 0, none⟩)] w fun e w' => e = .returned (.int .i64 (((σ.h : Int) - 1) * 512 - 24)) ∧ w = w' := by
  obtain ⟨-, -, c2, -⟩ := h.cells
  generalize σ.h = n at *
  have i1 : (1 : Int) ≤ (n : Int) := by omega
  have i2 : (n : Int) ≤ 4096 := by omega
  clear h h1 h2
  go_enter Tryd.func21, Tryd.ntmps21
  go_wp2_with fail
  go_ret
  exact ⟨by go_num, rfl⟩
set_option maxHeartbeats 800000 in
theorem scount_c (h : Sm w0 w T d sb σ) :
    Calls Tryd.prog 32 #[.pointer (some ⟨sb, 0, none⟩)] w fun e w' => e = .returned (.int .u64 (σ.count : Int)) ∧ w = w' := by
  rcases hk : σ.kept with _ | ⟨y, n, bs⟩
  · have c3 := h.kept0 hk
    have hc : Hid (σ.count = 0) := Lib.hid (by unfold SS.count; rw [hk])
    clear h hk
    go_enter Tryd.func32, Tryd.ntmps32
    go_wp2_with fail
    go_ret
    exact ⟨by rw [hc.out]; rfl, rfl⟩
  · obtain ⟨-, -, tb, dv, c3, t0, t1, t2, -⟩ := h.kept1 hk
    have hc : Hid (σ.count = n) := Lib.hid (by unfold SS.count; rw [hk])
    clear h hk
    go_enter Tryd.func32, Tryd.ntmps32
    go_wp2_with fail
    go_ret
    exact ⟨by rw [hc.out]; rfl, rfl⟩
set_option maxHeartbeats 800000 in
theorem sother_c (h : Sm w0 w T d sb σ) :
    Calls Tryd.prog 33 #[.pointer (some ⟨sb, 0, none⟩)] w fun e w' => e = .returned (.int .i64 (σ.other : Int)) ∧ w = w' := by
  rcases hk : σ.kept with _ | ⟨y, n, bs⟩
  · have c3 := h.kept0 hk
    have hc : Hid (σ.other = 0) := Lib.hid (by unfold SS.other; rw [hk])
    clear h hk
    go_enter Tryd.func33, Tryd.ntmps33
    go_wp2_with fail
    go_ret
    exact ⟨by rw [hc.out]; rfl, rfl⟩
  · obtain ⟨hy, -, tb, dv, c3, t0, t1, t2, -⟩ := h.kept1 hk
    have hc : Hid ((σ.other : Int) = 1 - (y : Int)) := Lib.hid (by unfold SS.other; rw [hk]; simp only; omega)
    have hi : (y : Int) ≤ 1 := by omega
    clear h hk
    go_enter Tryd.func33, Tryd.ntmps33
    go_wp2_with fail
    go_ret
    exact ⟨by rw [hc.out]; rfl, rfl⟩
end

set_option maxHeartbeats 800000 in
theorem cloneB_nil (w : World) : Calls Tryd.prog 34 #[.slice none 0 0] w fun e w' => e = .returned (.slice none 0 0) ∧ w = w' := by
  have q := fun (w : World) => Lib.run_eql_slice_nil (P := Tryd.prog) w 31 5 none 0 0 0 0 Tryd.underlying31
  go_enter Tryd.func34, Tryd.ntmps34
  go_wp2_with fail
  go_ret
  exact ⟨rfl, rfl⟩
/-- slices.Clone of whatever bytes: in new memory. -/
theorem cloneB_rd {w : World} {v : Value} {bs : List UInt8} (h : Rd w v bs) (hl : bs.length ≤ 1000000000) :
    Calls Tryd.prog 34 #[v] w fun e w' => ∃ v', e = .returned v' ∧ Own w' w.heap.size v' bs ∧ Calm w w' := by
  rcases h with ⟨rfl, rfl⟩ | ⟨ad, cap, rfl, h1, h2, h4⟩
  · refine (cloneB_nil w).mono ?_
    rintro e w' ⟨rfl, rfl⟩
    exact ⟨_, rfl, World.ownsRow_nil _ _ _ _, Keep.refl _ _⟩
  · refine (cloneB_some ad bs.length cap (bs.map bv) w (by simp) hl (fun j u hj => ?_) (bv_one bs)).mono ?_
    · rw [List.getElem?_map, Option.map_eq_some_iff] at hj
      obtain ⟨b, hb1, rfl⟩ := hj
      exact h4 j b hb1
    · rintro e w' ⟨v', rfl, h5, h6⟩
      exact ⟨v', rfl, h5, h6⟩
theorem Own.any {w : World} {base : Nat} {v : Value} {bs : List UInt8} (h : Own w base v bs) : ∃ A cap, v = .slice A bs.length cap ∧ Rd w v bs := by
  rcases h.2 with ⟨e, h0⟩ | ⟨g, cap, cur, e, _⟩
  · exact ⟨none, 0, by rw [e, h0], .inl ⟨e, List.eq_nil_of_length_eq_zero h0⟩⟩
  · exact ⟨_, cap, e, h.rd ⟨_, _, _, e⟩⟩
end Go.Proofs.YtfigiofiakkbdaaDoor
