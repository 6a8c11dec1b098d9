/-
  Package journal: a disk's operations, done or refused; what a journal is in memory; Room, Next, fail, advance, fits.
-/
import Derived.Test.YtfigiofiakkbdaaDoorJA2
import Derived.Test.YtfigiofiakkbdaaDoorJArea
import Derived.Deep.RegionLaw
namespace Go.Proofs.YtfigiofiakkbdaaDoor
open Go.RowKit
set_option linter.all false

/-! ### A disk's operations -/
def DS.wr (S : DS) (x : Nat) (b : List UInt8) : Bool × DS := if S.op.1 then (true, { S.op.2 with wait := S.op.2.wait ++ [(x, b)] }) else (false, S.op.2)
def DS.bar (S : DS) : Bool × DS := if S.op.1 then (true, S.op.2.settled) else (false, S.op.2)
def DS.wrs (S : DS) : List (Nat × List UInt8) → Bool × DS
  | [] => (true, S)
  | y :: l => match S.wr y.1 y.2 with
    | (true, S1) => DS.wrs S1 l
    | (false, S1) => (false, S1)
/-- Room for so many operations more. -/
def DS.fine (S : DS) (n : Nat) : Prop := S.wait.length + n ≤ 1000000 ∧ S.ops + n ≤ 1000000000
theorem DS.fine.mono {S : DS} {n m : Nat} (h : S.fine n) (hm : m ≤ n) : S.fine m := by unfold DS.fine at *; omega
theorem DS.op_fine {S S1 : DS} {ok : Bool} {n : Nat} (h : S.op = (ok, S1)) (hf : S.fine (n + 1)) : S1.fine n := by
  have := DS.op_wait h
  unfold DS.fine at *
  omega
theorem DS.wr_fine {S S1 : DS} {ok : Bool} {x : Nat} {b : List UInt8} {n : Nat} (h : S.wr x b = (ok, S1)) (hf : S.fine (n + 1)) : S1.fine n ∧ S1.secs.length = S.secs.length := by
  rcases hop : S.op with ⟨ok2, S2⟩
  have := DS.op_wait hop
  unfold DS.wr at h
  rw [hop] at h
  cases ok2 <;> (simp at h; obtain ⟨_, rfl⟩ := h; unfold DS.fine at *; (try simp); omega)
theorem DS.bar_fine {S S1 : DS} {ok : Bool} {n : Nat} (h : S.bar = (ok, S1)) (hf : S.fine (n + 1)) : S1.fine n ∧ S1.secs.length = S.secs.length := by
  rcases hop : S.op with ⟨ok2, S2⟩
  have := DS.op_wait hop
  unfold DS.bar at h
  rw [hop] at h
  cases ok2 <;> (simp at h; obtain ⟨_, rfl⟩ := h; unfold DS.fine at *; (try simp [DS.settled, putTo_len]); omega)
theorem DS.wrs_fine {l : List (Nat × List UInt8)} : ∀ {S S1 : DS} {ok : Bool} {n : Nat}, S.wrs l = (ok, S1) → S.fine (n + l.length) → S1.fine n ∧ S1.secs.length = S.secs.length := by
  induction l with
  | nil => intro S S1 ok n h hf; simp only [DS.wrs, Prod.mk.injEq] at h; obtain ⟨_, rfl⟩ := h; exact ⟨hf, rfl⟩
  | cons y l ih =>
    intro S S1 ok n h hf
    simp only [DS.wrs] at h
    rcases hw : S.wr y.1 y.2 with ⟨ok2, S2⟩
    rw [hw] at h
    have h2 := DS.wr_fine (n := n + l.length) hw (hf.mono (by simp; omega))
    cases ok2
    · simp only [Prod.mk.injEq] at h
      obtain ⟨_, rfl⟩ := h
      exact ⟨h2.1.mono (by omega), h2.2⟩
    · have h3 := ih h h2.1
      exact ⟨h3.1, h3.2.trans h2.2⟩
theorem DS.wrs_snoc {l : List (Nat × List UInt8)} : ∀ {S S1 : DS} (y : Nat × List UInt8), S.wrs l = (true, S1) → S.wrs (l ++ [y]) = S1.wr y.1 y.2 := by
  induction l with
  | nil =>
    intro S S1 y h
    simp only [DS.wrs, Prod.mk.injEq] at h
    obtain ⟨_, rfl⟩ := h
    simp only [List.nil_append, DS.wrs]
    rcases hw : S.wr y.1 y.2 with ⟨ok2, S2⟩
    cases ok2 <;> rfl
  | cons z l ih =>
    intro S S1 y h
    simp only [List.cons_append, DS.wrs] at h ⊢
    rcases hw : S.wr z.1 z.2 with ⟨ok2, S2⟩
    rw [hw] at h
    cases ok2
    · simp at h
    · exact ih y h
theorem DS.wrs_stop {l : List (Nat × List UInt8)} (r : List (Nat × List UInt8)) : ∀ {S S1 : DS}, S.wrs l = (false, S1) → S.wrs (l ++ r) = (false, S1) := by
  induction l with
  | nil => intro S S1 h; simp [DS.wrs] at h
  | cons z l ih =>
    intro S S1 h
    simp only [List.cons_append, DS.wrs] at h ⊢
    rcases hw : S.wr z.1 z.2 with ⟨ok2, S2⟩
    rw [hw] at h
    cases ok2
    · exact h
    · exact ih h

/-! ### A disk whose region is cells alone -/
theorem IsDisk.only {w : World} {R : Nat → Prop} {d : Nat} {S : DS} (h : IsDisk w R d S) : IsDisk w (fun k => R k ∧ ∃ t cs, Row w k t cs) d S := by
  obtain ⟨sb, svs, wv, wvs, av, h⟩ := h
  refine ⟨sb, svs, wv, wvs, av, h.top, h.rows, h.secs.move (fun g cur a b => ⟨b, a, _, _, b⟩), h.wrow, fun g e => ⟨h.wR g e, ?_⟩, ⟨h.waits.1, h.waits.2.move (fun g cur a b => ⟨b, a, _, _, b⟩)⟩, h.arm.move (fun g t cur _ a b => ⟨b, a, _, _, b⟩), ⟨h.rd, _, _, h.top⟩, ⟨h.rs, _, _, h.rows⟩, h.few, h.some_, h.at_⟩
  rcases h.wrow.2 with ⟨h0, _⟩ | ⟨g', cap', cur', h0, _, h2, _⟩
  · rw [h0] at e; simp [Value.ownBlock] at e
  · rw [h0] at e
    have : g' = g := by simpa [Value.ownBlock] using e
    subst this
    exact ⟨_, _, h2⟩
structure Sd (w0 w : World) (R : Nat → Prop) (d : Nat) (S : DS) : Prop where
  st : St w0 w R d S
  cells : ∀ k, R k → ∃ t cs, Row w k t cs
/-- R' is R, and what is new. -/
def Ext (R R' : Nat → Prop) (w : World) : Prop := ∀ k, R' k → R k ∨ w.heap.size ≤ k
theorem Ext.refl (R : Nat → Prop) (w : World) : Ext R R w := fun _ h => .inl h
theorem Ext.trans {R R' R'' : Nat → Prop} {w w' : World} (h : Ext R R' w) (k : Ext R' R'' w') (hs : w.heap.size ≤ w'.heap.size) : Ext R R'' w := fun i hi => by
  rcases k i hi with h1 | h1
  · exact h i h1
  · exact .inr (Nat.le_trans hs h1)
theorem Ext.not {R R' : Nat → Prop} {w : World} {k : Nat} (h : Ext R R' w) (hR : ¬ R k) (hk : k < w.heap.size) : ¬ R' k := fun e => (h k e).elim hR (fun x => absurd hk (by omega))
section
variable {w0 w w' : World} {R R' : Nat → Prop} {d : Nat} {S S' : DS}
theorem St.sd (h : St w0 w R d S) : ∃ R', Sd w0 w R' d S ∧ ∀ k, R' k → R k :=
  ⟨_, ⟨⟨h.disk.only, h.calm, fun k hk => h.new k hk.1, fun k hk => h.lt k hk.1⟩, fun k hk => hk.2⟩, fun k hk => hk.1⟩
theorem Sd.rest (h : Sd w0 w R d S) (hc : Calm w w') : Sd w0 w' R d S := ⟨h.st.rest hc, fun k hk => by obtain ⟨t, cs, hr⟩ := h.cells k hk; exact ⟨t, cs, hr.keep hc (fun e => e)⟩⟩
theorem Sd.touch (h : Sd w0 w R d S) {p : Addr} (hR : ¬ R p.block) (hn : w0.heap.size ≤ p.block) (u : Value) : Sd w0 (w.setCell p u) R d S :=
  ⟨h.st.touch hR hn u, fun k hk => by obtain ⟨t, cs, hr⟩ := h.cells k hk; exact ⟨t, cs, hr.far (fun e => hR (by rw [← e]; exact hk)) u⟩⟩
theorem Sd.apart (h : Sd w0 w R d S) {Q : Nat → Prop} (k : Keep Q w w') (hQ : ∀ i, Q i → ¬ R i ∧ w0.heap.size ≤ i) : Sd w0 w' R d S :=
  ⟨⟨h.st.disk.move (fun i hi hl => k.block i hl (fun e => (hQ i e).1 hi)) (fun _ x => x), h.st.calm.then_ k (fun i hi e => absurd hi (by have := (hQ i e).2; omega)), h.st.new, fun i hi => Nat.lt_of_lt_of_le (h.st.lt i hi) k.size⟩,
    fun i hi => by obtain ⟨t, cs, hr⟩ := h.cells i hi; exact ⟨t, cs, hr.keep k (fun e => (hQ i e).1 hi)⟩⟩

theorem sd_write (h : Sd w0 w R d S) (hf : S.fine 1) (x : Nat) (hx : x < S.secs.length) (v : Value) (bs : List UInt8) (hb : Bytes w (fun k => ¬ R k) v bs) (hl : bs.length = 512) :
    Calls Tryd.prog 26 #[.pointer (some ⟨d, 0, none⟩), .int .i64 x, v] w fun e w' => ∃ R' S1, ((S.wr x bs = (true, S1) ∧ e = .returned (.int .i64 0)) ∨ (S.wr x bs = (false, S1) ∧ e = .returned (.int .i64 11))) ∧ Sd w0 w' R' d S1 ∧ Ext R R' w ∧ Keep R w w' := by
  unfold DS.fine at hf
  rcases hop : S.op with ⟨ok, S1⟩
  cases ok
  · obtain ⟨A, c, e⟩ := hb.form
    rw [hl] at e
    subst e
    refine (st_write_no h.st (by omega) (by omega) hop x hx A c).mono ?_
    rintro e w' ⟨rfl, h1, k1⟩
    obtain ⟨R', h2, hr⟩ := h1.sd
    exact ⟨R', S1, .inr ⟨by simp [DS.wr, hop], rfl⟩, h2, fun k hk => .inl (hr k hk), k1⟩
  · refine (write_ok h.st.disk (by omega) (by omega) hop x hx v bs hb hl).mono ?_
    rintro e w' ⟨rfl, h1, k1⟩
    obtain ⟨R', h2, hr⟩ := (h.st.grow h1 k1).sd
    exact ⟨R', _, .inl ⟨by simp [DS.wr, hop], rfl⟩, h2, fun k hk => (hr k hk).imp id (fun e => e.1), k1⟩
theorem sd_barrier (h : Sd w0 w R d S) (hf : S.fine 1) :
    Calls Tryd.prog 65 #[.pointer (some ⟨d, 0, none⟩)] w fun e w' => ∃ R' S1, ((S.bar = (true, S1) ∧ e = .returned (.int .i64 0)) ∨ (S.bar = (false, S1) ∧ e = .returned (.int .i64 11))) ∧ Sd w0 w' R' d S1 ∧ Ext R R' w ∧ Keep R w w' := by
  unfold DS.fine at hf
  rcases hop : S.op with ⟨ok, S1⟩
  cases ok
  · refine (st_barrier_no h.st (by omega) (by omega) hop).mono ?_
    rintro e w' ⟨rfl, h1, k1⟩
    obtain ⟨R', h2, hr⟩ := h1.sd
    exact ⟨R', S1, .inr ⟨by simp [DS.bar, hop], rfl⟩, h2, fun k hk => .inl (hr k hk), k1⟩
  · refine (st_barrier h.st (by omega) (by omega) hop).mono ?_
    rintro e w' ⟨rfl, h1, k1⟩
    obtain ⟨R', h2, hr⟩ := h1.sd
    exact ⟨R', _, .inl ⟨by simp [DS.bar, hop], rfl⟩, h2, fun k hk => .inl (hr k hk), k1⟩
theorem sd_read (h : Sd w0 w R d S) (hf : S.fine 1) (x : Nat) (hx : x < S.secs.length) :
    Calls Tryd.prog 39 #[.pointer (some ⟨d, 0, none⟩), .int .i64 x] w fun e w' => ∃ R' S1, ((S.op = (true, S1) ∧ ∃ g cap, e = .returned (.tuple #[.slice (some ⟨g, 0, none⟩) 512 cap, .int .i64 0]) ∧
      Data w' (fun k => k = g ∧ w.heap.size ≤ k) (.slice (some ⟨g, 0, none⟩) 512 cap) (S1.now x)) ∨ (S.op = (false, S1) ∧ e = .returned (.tuple #[.slice none 0 0, .int .i64 11]))) ∧ Sd w0 w' R' d S1 ∧ (∀ k, R' k → R k) ∧ Keep R w w' := by
  unfold DS.fine at hf
  rcases hop : S.op with ⟨ok, S1⟩
  cases ok
  · refine (st_read_no h.st (by omega) (by omega) hop x hx).mono ?_
    rintro e w' ⟨rfl, h1, k1⟩
    obtain ⟨R', h2, hr⟩ := h1.sd
    exact ⟨R', S1, .inr ⟨rfl, rfl⟩, h2, hr, k1⟩
  · refine (st_read h.st (by omega) (by omega) hop x hx).mono ?_
    rintro e w' ⟨g, cap, rfl, hd, h1, k1⟩
    obtain ⟨R', h2, hr⟩ := h1.sd
    exact ⟨R', _, .inl ⟨rfl, g, cap, rfl, hd⟩, h2, hr, k1⟩
end

/-! ### A journal in memory -/
structure JS where
  from_ : Nat
  end_ : Nat
  free : Nat
  last : Nat
  failed : Bool
def JRow (w : World) (jb d : Nat) (J : JS) : Prop := Row w jb 96 #[.pointer (some ⟨d, 0, none⟩), .int .i64 (J.from_ : Int), .int .i64 (J.end_ : Int), .int .i64 (J.free : Int), .int .u64 (J.last : Int), .bool J.failed]
theorem JRow.cells {w : World} {jb d : Nat} {J : JS} (h : JRow w jb d J) : w.cell? ⟨jb, 0, none⟩ = some (.pointer (some ⟨d, 0, none⟩)) ∧ w.cell? ⟨jb, 1, none⟩ = some (.int .i64 (J.from_ : Int)) ∧ w.cell? ⟨jb, 2, none⟩ = some (.int .i64 (J.end_ : Int)) ∧
    w.cell? ⟨jb, 3, none⟩ = some (.int .i64 (J.free : Int)) ∧ w.cell? ⟨jb, 4, none⟩ = some (.int .u64 (J.last : Int)) ∧ w.cell? ⟨jb, 5, none⟩ = some (.bool J.failed) := by
  refine ⟨?_, ?_, ?_, ?_, ?_, ?_⟩ <;> (rw [Row.cell h]; rfl)
theorem JRow.soft {w : World} {jb d : Nat} {J : JS} (h : JRow w jb d J) (i : Nat) : w.frozen? ⟨jb, i, none⟩ = false := Row.soft h i
theorem JRow.keep {w w' : World} {jb d : Nat} {J : JS} {R : Nat → Prop} (h : JRow w jb d J) (k : Keep R w w') (hR : ¬ R jb) : JRow w' jb d J := Row.keep h k hR
theorem JRow.calm {w w' : World} {jb d : Nat} {J : JS} (h : JRow w jb d J) (k : Calm w w') : JRow w' jb d J := Row.keep h k (fun e => e)
def JS.room (J : JS) : Int := if J.free = J.end_ then -1 else ((J.end_ : Int) - J.free) * 512 - 16

set_option maxHeartbeats 800000 in
theorem jroom_c {w : World} {jb d : Nat} {J : JS} (h : JRow w jb d J) (hle : J.free ≤ J.end_) (hm : J.end_ ≤ 4096) :
    Calls Tryd.prog 67 #[.pointer (some ⟨jb, 0, none⟩)] w fun e w' => e = .returned (.int .i64 J.room) ∧ Calm w w' := by
  obtain ⟨from_, end_, free, last, failed⟩ := J
  simp only at hle hm
  obtain ⟨-, -, c2, c3, -, -⟩ := h.cells
  simp only at c2 c3
  by_cases he : free = end_
  · have hr : Hid ((JS.mk from_ end_ free last failed).room = -1) := Lib.hid (by simp [JS.room, he])
    subst he
    have t : ((free : Int) == (free : Int)) = true := by simp
    clear h
    go_enter Tryd.func67, Tryd.ntmps67
    go_wp2_with fail
    go_quiet (fail)
    go_wp2_with fail
    go_ret
    exact ⟨by rw [hr.out]; rfl, (Keep.refl _ w).drewN _⟩
  · have hr : Hid ((JS.mk from_ end_ free last failed).room = ((end_ : Int) - free) * 512 - 16) := Lib.hid (by simp [JS.room, he])
    have t : ((free : Int) == (end_ : Int)) = false := by rw [beq_eq_false_iff_ne]; omega
    have i1 : (free : Int) ≤ (end_ : Int) := by omega
    have i2 : (end_ : Int) ≤ 4096 := by omega
    have w1 : IntKind.i64.wrap ((end_ : Int) - (free : Int)) = (end_ : Int) - free := by rw [IntKind.wrap_i64]; omega
    have w2 : IntKind.i64.wrap (((end_ : Int) - (free : Int)) * 512) = ((end_ : Int) - free) * 512 := by rw [IntKind.wrap_i64]; omega
    have w3 : IntKind.i64.wrap (((end_ : Int) - (free : Int)) * 512 - 16) = ((end_ : Int) - free) * 512 - 16 := by rw [IntKind.wrap_i64]; omega
    clear h he
    go_enter Tryd.func67, Tryd.ntmps67
    go_wp2_with fail
    go_quiet (fail)
    go_wp2_with fail
    go_quiet (fail)
    go_wp2_with fail
    go_ret
    exact ⟨by rw [hr.out]; rfl, ((Keep.refl _ w).drewN _).drewN _⟩

set_option maxHeartbeats 800000 in
theorem jnext_c {w : World} {jb d : Nat} {J : JS} (h : JRow w jb d J) (hm : J.last ≤ 9000000000000000000) :
    Calls Tryd.prog 68 #[.pointer (some ⟨jb, 0, none⟩)] w fun e w' => e = .returned (.int .u64 ((J.last + 1 : Nat) : Int)) ∧ w = w' := by
  obtain ⟨from_, end_, free, last, failed⟩ := J
  simp only at hm
  obtain ⟨-, -, -, -, c4, -⟩ := h.cells
  simp only at c4
  have hw : IntKind.u64.wrap ((last : Int) + 1) = ((last + 1 : Nat) : Int) := by rw [IntKind.wrap_u64]; omega
  have Hw := Lib.hid hw
  have i1 : (last : Int) ≤ 9000000000000000000 := by omega
  clear h hw
  go_enter Tryd.func68, Tryd.ntmps68
  go_wp2_with fail
  go_ret
  exact ⟨by go_num, rfl⟩

set_option maxHeartbeats 800000 in
theorem jfail_c {w : World} {jb d : Nat} {J : JS} (h : JRow w jb d J) (e0 : Int) :
    Calls Tryd.prog 64 #[.pointer (some ⟨jb, 0, none⟩), .int .i64 e0] w fun e w' => e = .returned (.int .i64 e0) ∧ JRow w' jb d { J with failed := true } ∧ Keep (· = jb) w w' := by
  obtain ⟨-, -, -, -, -, c5⟩ := h.cells
  have f5 := h.soft 5
  have H := Lib.hid h
  clear h
  go_enter Tryd.func64, Tryd.ntmps64
  go_wp2_with fail
  go_ret
  refine ⟨rfl, ?_, (Keep.refl (· = jb) w).store (p := ⟨jb, 5, none⟩) (fun _ => rfl) _⟩
  have := Row.store H.out 5 (.bool true)
  simpa [JRow] using this

set_option maxHeartbeats 800000 in
theorem jadvance_c {w : World} {jb d : Nat} {J : JS} (h : JRow w jb d J) (n : Nat) (hn : n ≤ 10000000) (hfr : J.free ≤ 4096) (hm : J.last ≤ 9000000000000000000) :
    Calls Tryd.prog 70 #[.pointer (some ⟨jb, 0, none⟩), .int .i64 (n : Int)] w fun e w' => e = .returned (.tuple #[]) ∧ JRow w' jb d { J with free := J.free + secsOf n, last := J.last + 1 } ∧ Keep (· = jb) w w' := by
  obtain ⟨from_, end_, free, last, failed⟩ := J
  simp only at hm hfr
  obtain ⟨-, -, -, c3, c4, -⟩ := h.cells
  simp only at c3 c4
  have f3 := h.soft 3
  have f4 := h.soft 4
  have H := Lib.hid h
  have hq : secsOf n ≤ 10000000 := by unfold secsOf; omega
  have Q := fun wx => Lib.hid (sectorsOf_c n wx (by omega))
  generalize secsOf n = q at *
  have hw : IntKind.i64.wrap ((free : Int) + (q : Int)) = (free : Int) + (q : Int) := by rw [IntKind.wrap_i64]; omega
  have i1 : (last : Int) ≤ 9000000000000000000 := by omega
  have i2 : (free : Int) ≤ 4096 := by omega
  have i3 : (q : Int) ≤ 10000000 := by omega
  have hbl := Row.lt h
  clear h
  go_enter Tryd.func70, Tryd.ntmps70
  go_wp2_with fail
  go_region_law (go_simp; go_at_call 79; refine (Q _).out.mono ?_; rintro e w2 ⟨rfl, rfl⟩)
  all_goals
    go_wp2_with fail
    go_end0
    refine ⟨rfl, ?_, ?_⟩
    · have := (Row.store (Row.store H.out 3 (.int .i64 ((free + q : Nat) : Int))) 4 (.int .u64 ((last + 1 : Nat) : Int))).drew
      simpa [JRow] using this
    · exact (((Keep.refl (· = jb) w).store (p := ⟨jb, 3, none⟩) (fun _ => rfl) _).store (p := ⟨jb, 4, none⟩) (fun _ => rfl) _).drew

set_option maxHeartbeats 1600000 in
theorem jfits_c {w0 w : World} {R : Nat → Prop} {d : Nat} {S : DS} (h : Sd w0 w R d S) (hs : S.secs.length ≤ 4096) (f n : Int) (hfi : -9223372036854775808 ≤ f ∧ f ≤ 9223372036854775807) (hni : -9223372036854775808 ≤ n ∧ n ≤ 9223372036854775807) :
    Calls Tryd.prog 48 #[.pointer (some ⟨d, 0, none⟩), .int .i64 f, .int .i64 n] w fun e w' => e = .returned (.bool (decide (2 ≤ n ∧ n ≤ S.secs.length ∧ 0 ≤ f ∧ f ≤ S.secs.length - n))) ∧ w = w' := by
  have Q := Lib.hid (issectors_c h.st.disk)
  generalize S.secs.length = m at *
  have im : (m : Int) ≤ 4096 := by omega
  clear h
  by_cases h1 : 2 ≤ n
  rotate_left
  · have hD : decide (2 ≤ n ∧ n ≤ (m : Int) ∧ 0 ≤ f ∧ f ≤ (m : Int) - n) = false := decide_eq_false (fun e => h1 e.1)
    rw [hD]
    have t1 : decide ((2 : Int) ≤ n) = false := decide_eq_false h1
    clear hD
    go_enter Tryd.func48, Tryd.ntmps48
    go_wp2_with fail
    go_ret
    exact ⟨rfl, rfl⟩
  have t1 : decide ((2 : Int) ≤ n) = true := decide_eq_true h1
  by_cases h2 : n ≤ (m : Int)
  rotate_left
  · have hD : decide (2 ≤ n ∧ n ≤ (m : Int) ∧ 0 ≤ f ∧ f ≤ (m : Int) - n) = false := decide_eq_false (fun e => h2 e.2.1)
    rw [hD]
    have t2 : decide (n ≤ (m : Int)) = false := decide_eq_false h2
    clear hD
    go_enter Tryd.func48, Tryd.ntmps48
    go_wp2_with (refine Q.out.mono ?_; rintro e w1 ⟨rfl, rfl⟩)
    go_ret
    exact ⟨rfl, rfl⟩
  have t2 : decide (n ≤ (m : Int)) = true := decide_eq_true h2
  by_cases h3 : 0 ≤ f
  rotate_left
  · have hD : decide (2 ≤ n ∧ n ≤ (m : Int) ∧ 0 ≤ f ∧ f ≤ (m : Int) - n) = false := decide_eq_false (fun e => h3 e.2.2.1)
    rw [hD]
    have t3 : decide (0 ≤ f) = false := decide_eq_false h3
    clear hD
    go_enter Tryd.func48, Tryd.ntmps48
    go_wp2_with (refine Q.out.mono ?_; rintro e w1 ⟨rfl, rfl⟩)
    go_ret
    exact ⟨rfl, rfl⟩
  have t3 : decide (0 ≤ f) = true := decide_eq_true h3
  have hD : decide (2 ≤ n ∧ n ≤ (m : Int) ∧ 0 ≤ f ∧ f ≤ (m : Int) - n) = decide (f ≤ (m : Int) - n) := by simp [h1, h2, h3]
  rw [hD]
  clear hD
  go_enter Tryd.func48, Tryd.ntmps48
  go_wp2_with (refine Q.out.mono ?_; rintro e w1 ⟨rfl, rfl⟩)
  go_ret
  exact ⟨rfl, rfl⟩
end Go.Proofs.YtfigiofiakkbdaaDoor
