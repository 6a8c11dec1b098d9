/-
  Package journal over a disk that is up and not armed: its calls.
-/
import Derived.Test.YtfigiofiakkbdaaDoorJC1
namespace Go.Proofs.YtfigiofiakkbdaaDoor
open Go.RowKit
set_option linter.all false

/-- A journal over a disk that is up; n sectors, that hold c. -/
structure Ju (w0 w : World) (R : Nat → Prop) (d jb : Nat) (S : DS) (J : JS) (n : Nat) (c : Nat → List UInt8) : Prop where
  jn : Jn w0 w R d jb S J
  up : S.Up
  shows : S.Shows n c
section
variable {w0 w w' : World} {R : Nat → Prop} {d jb : Nat} {S : DS} {J : JS} {n : Nat} {c : Nat → List UInt8}
theorem Ju.rest (h : Ju w0 w R d jb S J n c) (hc : Calm w w') : Ju w0 w' R d jb S J n c := ⟨h.jn.rest hc, h.up, h.shows⟩

theorem new_up (w : World) (n : Nat) (h1 : 1 ≤ n) (h2 : n ≤ 4096) :
    Calls Tryd.prog 11 #[.int .i64 n] w fun e w' => ∃ R d S, e = .returned (.tuple #[.pointer (some ⟨d, 0, none⟩), .int .i64 0]) ∧ Sd w w' R d S ∧ S.Up ∧ S.Shows n (fun _ => full 0) ∧ S.wait = [] ∧ S.ops = 0 ∧ Calm w w' := by
  refine (new_ok w n h1 h2).mono ?_
  rintro e w' ⟨d, rfl, hd, hc⟩
  obtain ⟨R, h, _⟩ := (St.made hd hc).sd
  refine ⟨R, d, _, rfl, h, ⟨rfl, rfl⟩, ⟨by simp, fun i hi => ?_⟩, rfl, rfl, hc⟩
  show nowOf [] i _ = _
  simp [nowOf, hi]

theorem jformat_up {f k : Nat} (hT : Tab w0) (h : Sd w0 w R d S) (hu : S.Up) (hs : S.Shows n c) (hk : 2 ≤ k) (hfk : f + k ≤ n) (hf : S.fine 2) :
    Calls Tryd.prog 30 #[.pointer (some ⟨d, 0, none⟩), .int .i64 (f : Int), .int .i64 (k : Int)] w fun e w' => ∃ R' S1 jb, e = .returned (.tuple #[.pointer (some ⟨jb, 0, none⟩), .int .i64 0]) ∧ w.heap.size ≤ jb ∧ Ju w0 w' R' d jb S1 ⟨f, f + k, f + 1, 1, false⟩ n (upd c f (begP 1)) ∧ Ext R R' w ∧ Keep R w w' ∧
      S1.wait = [] ∧ (∀ i, i < n → S1.secs.getD i [] = upd c f (begP 1) i) ∧ S1.ops = S.ops + 2 := by
  have hw := hu.wr f (begP 1)
  obtain ⟨a1, a2, a3, a4, a5⟩ := hs.wr hu hw
  have hb := a2.bar
  obtain ⟨b1, b2, b3, b4, b5⟩ := a1.bar a2 hb
  have hfm : S.fmt f = DS.bar { S.more 1 with wait := S.wait ++ [(f, begP 1)] } := by unfold DS.fmt; rw [hw]
  rw [hb] at hfm
  refine (jformat_c hT h hk (by rw [hs.1]; exact hfk) hf).mono ?_
  rintro e w' ⟨R', S1, hx, hkp, hsd, ⟨e1, _⟩ | ⟨e1, jb, rfl, hjb, hjn⟩⟩
  · rw [hfm] at e1; cases e1
  · rw [hfm] at e1
    injection e1 with _ e1
    subst e1
    exact ⟨R', _, jb, rfl, hjb, ⟨hjn, b2, b1⟩, hx, hkp, b3, b4, by rw [b5, a5]⟩

theorem jappend_up (hT : Tab w0) (h : Ju w0 w R d jb S J n c) (hfa : J.failed = false) (hle : J.free ≤ J.end_) (hen : J.end_ ≤ n) (v : Value) (b : List UInt8) (hv : Rd w v b)
    (hroom : (b.length : Int) ≤ J.room) (hl : J.last < 4611686018427387904) (hf : S.fine (secsOf b.length + 1)) :
    Calls Tryd.prog 54 #[.pointer (some ⟨jb, 0, none⟩), v] w fun e w' => ∃ R' S1, e = .returned (.int .i64 0) ∧ Ju w0 w' R' d jb S1 { J with free := J.free + secsOf b.length, last := J.last + 1 } n (putAt c J.free (recP (J.last + 1) b) (secsOf b.length - 1)) ∧ Ext R R' w ∧ Keep (RJ R jb) w w' ∧
      S1.ops ≤ S.ops + secsOf b.length + 1 ∧ S1.wait.length ≤ S.wait.length + secsOf b.length ∧ (secsOf b.length = 1 → S1.secs = S.secs) := by
  have hq := secsOf_pos b.length
  refine (jappend_c hT h.jn hfa hle (by rw [h.shows.1]; exact hen) v b hv hroom hl hf).mono ?_
  obtain ⟨S1, p1, p2, p3, p4, p5, p6⟩ := h.shows.put (f := J.free) (m := secsOf b.length - 1) (p := recP (J.last + 1) b) h.up
  rintro e w' ⟨R', S2, J', ⟨e1, rfl, rfl⟩ | ⟨e1, _, _⟩, hjn, hx, hk⟩
  · rw [p1] at e1
    injection e1 with _ e1
    subst e1
    exact ⟨R', S1, rfl, ⟨hjn, p3, p2⟩, hx, hk, by omega, by omega, fun e => p6 (by omega)⟩
  · rw [p1] at e1; cases e1

theorem jcommit_up (h : Ju w0 w R d jb S J n c) (hfa : J.failed = false) (hf : S.fine 1) :
    Calls Tryd.prog 50 #[.pointer (some ⟨jb, 0, none⟩)] w fun e w' => ∃ R' S1, e = .returned (.int .i64 0) ∧ Ju w0 w' R' d jb S1 J n c ∧ Ext R R' w ∧ Keep (RJ R jb) w w' ∧ S1.wait = [] ∧ (∀ i, i < n → S1.secs.getD i [] = c i) ∧ S1.ops = S.ops + 1 := by
  have hb := h.up.bar
  obtain ⟨b1, b2, b3, b4, b5⟩ := h.shows.bar h.up hb
  refine (jcommit_c h.jn hfa hf).mono ?_
  rintro e w' ⟨R', S2, J', ⟨e1, rfl, rfl⟩ | ⟨e1, _, _⟩, hjn, hx, hk⟩
  · rw [hb] at e1
    injection e1 with _ e1
    subst e1
    exact ⟨R', _, rfl, ⟨hjn, b2, b1⟩, hx, hk, b3, b4, b5⟩
  · rw [hb] at e1; cases e1

theorem jreset_up (hT : Tab w0) (h : Ju w0 w R d jb S J n c) (hfa : J.failed = false) (hl : J.last < 4611686018427387904) (hfr : J.from_ < n) (hf : S.fine 1) :
    Calls Tryd.prog 56 #[.pointer (some ⟨jb, 0, none⟩)] w fun e w' => ∃ R' S1, e = .returned (.int .i64 0) ∧ Ju w0 w' R' d jb S1 { J with free := J.from_ + 1, last := J.last + 1 } n (upd c J.from_ (begP (J.last + 1))) ∧ Ext R R' w ∧ Keep (RJ R jb) w w' ∧ S1.ops = S.ops + 1 ∧ S1.wait.length = S.wait.length + 1 ∧ S1.secs = S.secs ∧ S1.wait = S.wait ++ [(J.from_, begP (J.last + 1))] := by
  have hw := h.up.wr J.from_ (begP (J.last + 1))
  obtain ⟨b1, b2, b3, b4, b5⟩ := h.shows.wr h.up hw
  refine (jreset_c hT h.jn hfa hl (by rw [h.shows.1]; exact hfr) hf).mono ?_
  rintro e w' ⟨R', S2, J', ⟨e1, rfl, rfl⟩ | ⟨e1, _, _⟩, hjn, hx, hk⟩
  · rw [hw] at e1
    injection e1 with _ e1
    subst e1
    exact ⟨R', _, rfl, ⟨hjn, b2, b1⟩, hx, hk, b5, by rw [b4]; simp, b3, b4⟩
  · rw [hw] at e1; cases e1

/-- What Open answers, of a disk that is up. -/
def OpUp (w0 w : World) (R : Nat → Prop) (d f k n : Nat) (S : DS) (c : Nat → List UInt8) (e : Ending) (w' : World) : Prop :=
  ∃ R' q, q ≤ k ∧ (∀ i, R' i → R i) ∧ Keep R w w' ∧ Sd w0 w' R' d (S.more q) ∧
    ((replay (areaC c f k) = none ∧ e = .returned (.tuple #[.pointer none, .slice none 0 0, .int .i64 2])) ∨
       ∃ out n' used A cc jb, replay (areaC c f k) = some (out, n', used) ∧ e = .returned (.tuple #[.pointer (some ⟨jb, 0, none⟩), .slice A out.length cc, .int .i64 0]) ∧ Recs w' w.heap.size (.slice A out.length cc) out ∧ w.heap.size ≤ jb ∧
         Ju w0 w' R' d jb (S.more q) ⟨f, f + k, f + used, n' - 1, false⟩ n c ∧ 2 ≤ n' ∧ n' ≤ 4611686018427387905 ∧ 1 ≤ used ∧ used ≤ k ∧ out.length ≤ used)
theorem jopen_up {f k : Nat} (hT : Tab w0) (h : Sd w0 w R d S) (hu : S.Up) (hs : S.Shows n c) (hk : 2 ≤ k) (hfk : f + k ≤ n) (hf : S.fine k) :
    Calls Tryd.prog 37 #[.pointer (some ⟨d, 0, none⟩), .int .i64 (f : Int), .int .i64 (k : Int)] w (OpUp w0 w R d f k n S c) := by
  refine (jopen_c hT h hk (by rw [hs.1]; exact hfk) hf).mono ?_
  rintro e w' ⟨R', S1, q, hq, hx, hkp, hsd, hcase⟩
  rw [hs.area f k hfk] at hcase
  rcases hcase with ⟨e1, _⟩ | ⟨e1, hcase⟩
  · rw [hu.rds] at e1; cases e1
  · rw [hu.rds] at e1
    injection e1 with _ e1
    subst e1
    refine ⟨R', q, hq, hx, hkp, hsd, ?_⟩
    rcases hcase with h1 | ⟨out, n', used, A, cc, jb, a1, a2, a3, a4, a5, a6⟩
    · exact .inl h1
    · exact .inr ⟨out, n', used, A, cc, jb, a1, a2, a3, a4, ⟨a5, hu, hs⟩, a6⟩
theorem Recs.wider {base base' : Nat} {v : Value} {bss : List (List UInt8)} (h : Recs w base v bss) (hz : base' ≤ base) : Recs w base' v bss := by
  obtain ⟨vs, e1, e2, e3⟩ := h
  refine ⟨vs, e1, ⟨e2.1, ?_⟩, fun i x b hx hb => (e3 i x b hx hb).wider hz⟩
  rcases e2.2 with h0 | ⟨g, cap, cur, e, b0, h1⟩
  · exact .inl h0
  · exact .inr ⟨g, cap, cur, e, Nat.le_trans hz b0, h1⟩
end

/-- The disk's own calls, of one that is up. -/
theorem sd_crash0 {w0 w : World} {R : Nat → Prop} {d : Nat} {S : DS} (h : Sd w0 w R d S) (hw : S.wait.length ≤ 1000000) :
    Calls Tryd.prog 25 #[.pointer (some ⟨d, 0, none⟩), .slice none 0 0] w fun e w' => ∃ R', e = .returned (.tuple #[]) ∧ Sd w0 w' R' d (S.crash []) ∧ (∀ i, R' i → R i) ∧ Keep R w w' := by
  refine (st_crash h.st hw (.slice none 0 0) [] (Bools.none_ _ _) (Nat.zero_le _)).mono ?_
  rintro e w' ⟨rfl, h1, k1⟩
  obtain ⟨R', h2, hr⟩ := h1.sd
  exact ⟨R', rfl, h2, hr, k1⟩
theorem sd_start {w0 w : World} {R : Nat → Prop} {d : Nat} {S : DS} (h : Sd w0 w R d S) (hd : S.down = true) :
    Calls Tryd.prog 24 #[.pointer (some ⟨d, 0, none⟩)] w fun e w' => ∃ R', e = .returned (.int .i64 0) ∧ Sd w0 w' R' d { S with down := false } ∧ (∀ i, R' i → R i) ∧ Keep R w w' := by
  refine (st_start h.st).mono ?_
  rintro e w' ⟨rfl, h1, k1⟩
  obtain ⟨R', h2, hr⟩ := h1.sd
  exact ⟨R', by rw [hd]; rfl, h2, hr, k1⟩
end Go.Proofs.YtfigiofiakkbdaaDoor
