/-
  A disk that was made since a world; its calls.
-/
import Derived.Test.YtfigiofiakkbdaaDoorDisk6
import Derived.Test.YtfigiofiakkbdaaDoorLStr
namespace Go.Proofs.YtfigiofiakkbdaaDoor
open Go.RowKit
set_option linter.all false

/-- A disk that was made since w0: nothing that was there then has turned; it lies in what is new. -/
structure St (w0 w : World) (R : Nat → Prop) (d : Nat) (S : DS) : Prop where
  disk : IsDisk w R d S
  calm : Calm w0 w
  new : ∀ k, R k → w0.heap.size ≤ k
  lt : ∀ k, R k → k < w.heap.size
section
variable {w0 w w' : World} {R : Nat → Prop} {d : Nat} {S S' : DS}
theorem St.rest (h : St w0 w R d S) (hc : Calm w w') : St w0 w' R d S := ⟨h.disk.calm hc, h.calm.trans hc, h.new, fun k hk => Nat.lt_of_lt_of_le (h.lt k hk) hc.size⟩
theorem St.on (h : St w0 w R d S) (k : Keep R w w') : Calm w0 w' := h.calm.then_ k (fun i hi hr => absurd (h.new i hr) (by omega))
theorem St.step (h : St w0 w R d S) (hd : IsDisk w' R d S') (k : Keep R w w') : St w0 w' R d S' := ⟨hd, h.on k, h.new, fun i hi => Nat.lt_of_lt_of_le (h.lt i hi) k.size⟩
theorem St.grow (h : St w0 w R d S) (hd : IsDisk w' (Grow R w w') d S') (k : Keep R w w') : St w0 w' (Grow R w w') d S' :=
  ⟨hd, h.on k, fun i hi => by
    rcases hi with hi | hi
    · exact h.new i hi
    · exact Nat.le_trans h.calm.size hi.1, fun i hi => by
    rcases hi with hi | hi
    · exact Nat.lt_of_lt_of_le (h.lt i hi) k.size
    · exact hi.2⟩
theorem St.made (hd : IsDisk w (Grow (fun _ => False) w0 w) d S) (hc : Calm w0 w) : St w0 w (Grow (fun _ => False) w0 w) d S :=
  ⟨hd, hc, fun k hk => (hk.resolve_left (fun e => e)).1, fun k hk => (hk.resolve_left (fun e => e)).2⟩
/-- What is new is not the disk's. -/
theorem St.fresh (h : St w0 w R d S) {k : Nat} (hk : w.heap.size ≤ k) : ¬ R k := fun e => absurd (h.lt k e) (by omega)
end
theorem Data.cell {w : World} {R : Nat → Prop} {g cap : Nat} {bs : List UInt8} (h : Data w R (.slice (some ⟨g, 0, none⟩) 512 cap) bs) (i : Nat) (hi : i < 512) : w.cell? ⟨g, i, none⟩ = some (bv (bs[i]'(by rw [h.len]; exact hi))) := by
  have hl := h.len
  obtain ⟨g', cap', cur, e, h1, h2, h3, h4, h5, _⟩ := h
  injection e with e _ _
  injection e with e
  injection e with e
  subst e
  rw [h1.cell]
  have : cur.toList[i]? = some (bv (bs[i]'(by omega))) := by
    have e2 := congrArg (fun l => l[i]?) h5
    simp only [List.getElem?_take, if_pos hi, List.getElem?_map, List.getElem?_eq_getElem (show i < bs.length by omega)] at e2
    simpa using e2
  simpa using this
theorem full_at (c : UInt8) (i : Nat) (h : i < (full c).length) : (full c)[i] = c := List.getElem_replicate _


/-! ### The disk's calls, for a disk that was made since w0 -/
section
variable {w0 w : World} {R : Nat → Prop} {d : Nat} {S S1 : DS}
theorem st_write (h : St w0 w R d S) (hwm : S.wait.length ≤ 1000000) (hops : S.ops ≤ 1000000000) (hop : S.op = (true, S1)) (x : Nat) (hx : x < S.secs.length) (g cap : Nat) (bs : List UInt8) {Q : Nat → Prop} (hb : Data w Q (.slice (some ⟨g, 0, none⟩) 512 cap) bs) (hQ : ∀ k, Q k → ¬ R k) :
    Calls Tryd.prog 26 #[.pointer (some ⟨d, 0, none⟩), .int .i64 x, .slice (some ⟨g, 0, none⟩) 512 cap] w fun e w' => e = .returned (.int .i64 0) ∧ St w0 w' (Grow R w w') d { S1 with wait := S1.wait ++ [(x, bs)] } ∧ Keep R w w' := by
  refine (write_ok h.disk hwm hops hop x hx _ bs (hb.bytes.move (Nat.le_refl _) (fun _ _ _ => rfl) hQ) hb.len).mono ?_
  rintro e w' ⟨rfl, h1, k1⟩
  exact ⟨rfl, h.grow h1 k1, k1⟩
theorem st_write_no (h : St w0 w R d S) (hwm : S.wait.length ≤ 1000000) (hops : S.ops ≤ 1000000000) (hop : S.op = (false, S1)) (x : Nat) (hx : x < S.secs.length) (A : Option Addr) (c : Nat) :
    Calls Tryd.prog 26 #[.pointer (some ⟨d, 0, none⟩), .int .i64 x, .slice A 512 c] w fun e w' => e = .returned (.int .i64 11) ∧ St w0 w' R d S1 ∧ Keep R w w' := by
  refine (write_no h.disk hwm hops hop x hx A c).mono ?_
  rintro e w' ⟨rfl, h1, k1⟩
  exact ⟨rfl, h.step h1 k1, k1⟩
theorem st_read (h : St w0 w R d S) (hwm : S.wait.length ≤ 1000000) (hops : S.ops ≤ 1000000000) (hop : S.op = (true, S1)) (x : Nat) (hx : x < S.secs.length) :
    Calls Tryd.prog 39 #[.pointer (some ⟨d, 0, none⟩), .int .i64 x] w fun e w' => ∃ g cap, e = .returned (.tuple #[.slice (some ⟨g, 0, none⟩) 512 cap, .int .i64 0]) ∧
      Data w' (fun k => k = g ∧ w.heap.size ≤ k) (.slice (some ⟨g, 0, none⟩) 512 cap) (S1.now x) ∧ St w0 w' R d S1 ∧ Keep R w w' := by
  refine (read_ok h.disk hwm hops hop x hx).mono ?_
  rintro e w' ⟨g, cap, rfl, hd, h1, k1⟩
  exact ⟨g, cap, rfl, hd, h.step h1 k1, k1⟩
theorem st_read_no (h : St w0 w R d S) (hwm : S.wait.length ≤ 1000000) (hops : S.ops ≤ 1000000000) (hop : S.op = (false, S1)) (x : Nat) (hx : x < S.secs.length) :
    Calls Tryd.prog 39 #[.pointer (some ⟨d, 0, none⟩), .int .i64 x] w fun e w' => e = .returned (.tuple #[.slice none 0 0, .int .i64 11]) ∧ St w0 w' R d S1 ∧ Keep R w w' := by
  refine (read_no h.disk hwm hops hop x hx).mono ?_
  rintro e w' ⟨rfl, h1, k1⟩
  exact ⟨rfl, h.step h1 k1, k1⟩
theorem st_crash (h : St w0 w R d S) (hwm : S.wait.length ≤ 1000000) (kv : Value) (ks : List Bool) (hb : Bools w (fun k => ¬ R k) kv ks) (hm : ks.length ≤ maxLen) :
    Calls Tryd.prog 25 #[.pointer (some ⟨d, 0, none⟩), kv] w fun e w' => e = .returned (.tuple #[]) ∧ St w0 w' R d (S.crash ks) ∧ Keep R w w' := by
  refine (crash_c h.disk hwm kv ks (hb.move (Nat.le_refl _) (fun _ _ _ => rfl) (fun k hk => .inl hk)) hm).mono ?_
  rintro e w' ⟨rfl, h1, k1⟩
  exact ⟨rfl, h.step h1 k1, k1⟩
theorem st_start (h : St w0 w R d S) :
    Calls Tryd.prog 24 #[.pointer (some ⟨d, 0, none⟩)] w fun e w' => e = .returned (.int .i64 (if S.down then 0 else 10)) ∧ St w0 w' R d { S with down := false } ∧ Keep R w w' := by
  refine (start_c h.disk).mono ?_
  rintro e w' ⟨rfl, h1, k1⟩
  exact ⟨rfl, h.step h1 k1, k1⟩
theorem st_barrier (h : St w0 w R d S) (hwm : S.wait.length ≤ 1000000) (hops : S.ops ≤ 1000000000) (hop : S.op = (true, S1)) :
    Calls Tryd.prog 65 #[.pointer (some ⟨d, 0, none⟩)] w fun e w' => e = .returned (.int .i64 0) ∧ St w0 w' R d S1.settled ∧ Keep R w w' := by
  refine (barrier_ok h.disk hwm hops hop).mono ?_
  rintro e w' ⟨rfl, h1, k1⟩
  exact ⟨rfl, h.step h1 k1, k1⟩
theorem st_barrier_no (h : St w0 w R d S) (hwm : S.wait.length ≤ 1000000) (hops : S.ops ≤ 1000000000) (hop : S.op = (false, S1)) :
    Calls Tryd.prog 65 #[.pointer (some ⟨d, 0, none⟩)] w fun e w' => e = .returned (.int .i64 11) ∧ St w0 w' R d S1 ∧ Keep R w w' := by
  refine (barrier_no h.disk hwm hops hop).mono ?_
  rintro e w' ⟨rfl, h1, k1⟩
  exact ⟨rfl, h.step h1 k1, k1⟩
theorem st_arm (h : St w0 w R d S) (n : Int) (hn : 0 ≤ n) (hb : n.toNat ≤ big) (kv : Value) (ks : List Bool) (hk : Bools w (fun k => ¬ R k) kv ks) (hm : ks.length ≤ 1000000000) :
    Calls Tryd.prog 22 #[.pointer (some ⟨d, 0, none⟩), .int .i64 n, kv] w fun e w' => e = .returned (.tuple #[]) ∧ St w0 w' (Grow R w w') d { S with arm := some (n.toNat, ks) } ∧ Keep R w w' := by
  refine (arm_c h.disk n hn hb kv ks hk hm).mono ?_
  rintro e w' ⟨rfl, h1, k1⟩
  exact ⟨rfl, h.grow h1 k1, k1⟩
theorem st_arm_off (h : St w0 w R d S) (n : Int) (hn : n < 0) (kv : Value) :
    Calls Tryd.prog 22 #[.pointer (some ⟨d, 0, none⟩), .int .i64 n, kv] w fun e w' => e = .returned (.tuple #[]) ∧ St w0 w' R d { S with arm := none } ∧ Keep R w w' := by
  refine (arm_off h.disk n hn kv).mono ?_
  rintro e w' ⟨rfl, h1, k1⟩
  exact ⟨rfl, h.step h1 k1, k1⟩
end
theorem conv_data {w : World} {R : Nat → Prop} {g cap : Nat} {bs : List UInt8} (h : Data w R (.slice (some ⟨g, 0, none⟩) 512 cap) bs) :
    Sem.run Tryd.prog (convert 31 9 (.slice (some ⟨g, 0, none⟩) 512 cap)) w = .ok (.string (str bs)) w := by
  have hl := h.len
  have := run_convert_bytes_back (P := Tryd.prog) w 31 9 5 ⟨g, 0, none⟩ cap bs Tryd.underlying31 Tryd.underlying5 Tryd.underlying9 (fun j hj => by
    have := h.cell j (by omega)
    by_cases e : j = 0
    · subst e; simpa [Addr.add, bv] using this
    · simpa [Addr.add, bv, e] using this)
  rw [hl] at this
  exact this
theorem Data.keep {w w' : World} {Q R : Nat → Prop} {v : Value} {bs : List UInt8} (h : Data w Q v bs) (k : Keep R w w') (hq : ∀ g, Q g → ¬ R g) : Data w' Q v bs := h.move fun g _ a b => ⟨b.keep k (hq g a), a⟩

theorem st_up {w0 w : World} {R : Nat → Prop} {d : Nat} {secs : List (List UInt8)} {ws : List (Nat × List UInt8)} {arm : Option (Nat × List Bool)} {n : Nat} (h : St w0 w R d ⟨secs, ws, arm, true, n⟩) :
    Calls Tryd.prog 24 #[.pointer (some ⟨d, 0, none⟩)] w fun e w' => e = .returned (.int .i64 0) ∧ St w0 w' R d ⟨secs, ws, arm, false, n⟩ ∧ Keep R w w' := st_start h
theorem st_not {w0 w : World} {R : Nat → Prop} {d : Nat} {secs : List (List UInt8)} {ws : List (Nat × List UInt8)} {arm : Option (Nat × List Bool)} {n : Nat} (h : St w0 w R d ⟨secs, ws, arm, false, n⟩) :
    Calls Tryd.prog 24 #[.pointer (some ⟨d, 0, none⟩)] w fun e w' => e = .returned (.int .i64 10) ∧ St w0 w' R d ⟨secs, ws, arm, false, n⟩ ∧ Keep R w w' := st_start h

/-- The first 60 of bools, cut off as the statements do. -/
theorem Bools.cut {w : World} {R : Nat → Prop} {A : Option Addr} {cap : Nat} {ks : List Bool} (n : Nat) (h : Bools w R (.slice A ks.length cap) ks) : Bools w R (.slice A (min ks.length n) cap) (ks.take n) := by
  obtain ⟨A', cap', e, h1⟩ := h
  injection e with e1 _ e2
  subst e1; subst e2
  refine ⟨A, cap, by rw [List.length_take, Nat.min_comm], fun i b hi => ?_⟩
  rw [List.getElem?_take] at hi
  split at hi
  · exact h1 i b hi
  · simp at hi
theorem Bools.calm {w w' : World} {v : Value} {ks : List Bool} (h : Bools w (fun _ => True) v ks) (hc : Calm w w') {R : Nat → Prop} (hR : ∀ k, k < w.heap.size → ¬ R k) : Bools w' (fun k => ¬ R k) v ks := by
  obtain ⟨A, cap, e, h1⟩ := h
  refine ⟨A, cap, e, fun i b hi => ?_⟩
  obtain ⟨ad, e1, _, e2, e3⟩ := h1 i b hi
  exact ⟨ad, e1, hR _ e2, Nat.lt_of_lt_of_le e2 hc.size, (hc.cell (p := ad.add i) (by rw [Addr.add_block]; exact e2) (fun e => e)).trans e3⟩
theorem Bytes.form {w : World} {R : Nat → Prop} {v : Value} {bs : List UInt8} (h : Bytes w R v bs) : ∃ A cap, v = .slice A bs.length cap := by obtain ⟨A, cap, e, _⟩ := h; exact ⟨A, cap, e⟩
theorem Bools.form {w : World} {R : Nat → Prop} {v : Value} {bs : List Bool} (h : Bools w R v bs) : ∃ A cap, v = .slice A bs.length cap := by obtain ⟨A, cap, e, _⟩ := h; exact ⟨A, cap, e⟩
theorem Bytes.at_ {w w' : World} {R : Nat → Prop} {A : Option Addr} {cap : Nat} {bs : List UInt8} (h : Bytes w R (.slice A bs.length cap) bs) (hc : Calm w w') (i : Nat) (hi : i < bs.length) : ∃ ad, A = some ad ∧ w'.cell? (ad.add i) = some (.int .u8 (bs[i].toNat : Int)) := by
  obtain ⟨A', cap', e, h1⟩ := h
  injection e with e1 _ e2
  subst e1; subst e2
  obtain ⟨ad, e1, _, e2, e3⟩ := h1 i bs[i] (List.getElem?_eq_getElem hi)
  exact ⟨ad, e1, (hc.cell (p := ad.add i) (by rw [Addr.add_block]; exact e2) (fun e => e)).trans e3⟩
theorem Bools.at_ {w w' : World} {R : Nat → Prop} {A : Option Addr} {cap : Nat} {bs : List Bool} (h : Bools w R (.slice A bs.length cap) bs) (hc : Calm w w') (i : Nat) (hi : i < bs.length) : ∃ ad, A = some ad ∧ w'.cell? (ad.add i) = some (.bool bs[i]) := by
  obtain ⟨A', cap', e, h1⟩ := h
  injection e with e1 _ e2
  subst e1; subst e2
  obtain ⟨ad, e1, _, e2, e3⟩ := h1 i bs[i] (List.getElem?_eq_getElem hi)
  exact ⟨ad, e1, (hc.cell (p := ad.add i) (by rw [Addr.add_block]; exact e2) (fun e => e)).trans e3⟩
theorem St.touch {w0 w : World} {R : Nat → Prop} {d : Nat} {S : DS} (h : St w0 w R d S) {p : Addr} (hR : ¬ R p.block) (hn : w0.heap.size ≤ p.block) (u : Value) : St w0 (w.setCell p u) R d S :=
  ⟨h.disk.move (fun k hk _ => Below.heap_setCell _ _ _ _ (fun e => hR (by rw [← e]; exact hk))) (fun _ x => x), h.calm.store (fun e => absurd e (by omega)) u, h.new, fun k hk => by rw [World.size_setCell]; exact h.lt k hk⟩
theorem nowOf_append {α : Type} (ws vs : List (Nat × α)) (i : Nat) (s : α) : nowOf (ws ++ vs) i s = nowOf vs i (nowOf ws i s) := by simp [nowOf]
theorem putTo_now {α : Type} (s : List α) (ws : List (Nat × α)) (i : Nat) (d : α) (hi : i < s.length) (m : Nat) (hm : m ≤ ws.length) : (putTo (fun _ => true) s ws m).getD i d = nowOf (ws.take m) i (s.getD i d) := by
  induction m with
  | zero => rfl
  | succ m ih =>
    have hl : m < ws.length := by omega
    rw [putTo_succ _ _ _ _ _ (List.getElem?_eq_getElem hl), List.take_succ_eq_append_getElem hl, nowOf_append, ← ih (by omega), if_pos rfl]
    have hlen := putTo_len (fun _ => true) s ws m
    simp only [nowOf, List.foldl_cons, List.foldl_nil]
    by_cases e : ws[m].1 = i
    · rw [if_pos e]
      subst e
      simp [List.getD, List.getElem?_set, hlen, hi]
    · rw [if_neg e]
      simp [List.getD, List.getElem?_set, e]
theorem settled_now (S : DS) (i : Nat) (hi : i < S.secs.length) : S.settled.now i = S.now i := by
  show (putTo (fun _ => true) S.secs S.wait S.wait.length).getD i [] = _
  rw [putTo_now S.secs S.wait i [] hi S.wait.length (Nat.le_refl _), List.take_length]
  rfl
theorem write_now (S : DS) (x : Nat) (b : List UInt8) (i : Nat) : (DS.now { S with wait := S.wait ++ [(x, b)] } i) = if x = i then b else S.now i := by
  simp only [DS.now, nowOf_append]
  simp only [nowOf, List.foldl_cons, List.foldl_nil]

theorem Data.row {w : World} {R : Nat → Prop} {g cap : Nat} {bs : List UInt8} (h : Data w R (.slice (some ⟨g, 0, none⟩) 512 cap) bs) : R g ∧ 512 ≤ cap ∧ cap ≤ maxLen ∧ ∃ cur, Row w g 5 cur ∧ cur.size = cap := by
  obtain ⟨g', cap', cur, e, h1, h2, h3, h4, h5, h6⟩ := h
  injection e with e _ e2
  injection e with e
  injection e with e
  subst e; subst e2
  exact ⟨h6, h2, h3, cur, h1, h4⟩
end Go.Proofs.YtfigiofiakkbdaaDoor
