/-
  JournalPlays: a journal behind so many steps; a step in memory.
-/
import Derived.Test.YtglfmhheepgneaaDoorJC5
import Derived.Test.YtglfmhheepgneaaDoorJText
import Derived.Test.YtglfmhheepgneaaDoorJArea
namespace Go.Proofs.YtglfmhheepgneaaDoor
open Go.RowKit
set_option linter.all false

/-- The first sector is a beginning. -/
def Beg (B : Nat) (b : List UInt8) : Prop := ∃ m, 1 ≤ m ∧ m ≤ B ∧ b = begP m
theorem DS.AtS.mono {S : DS} {x : Nat} {P Q : List UInt8 → Prop} (h : S.AtS x P) (hpq : ∀ b, P b → Q b) : S.AtS x Q := ⟨hpq _ h.1, fun y hy e => hpq _ (h.2 y hy e)⟩
theorem DS.AtS.same {S S1 : DS} {x : Nat} {P : List UInt8 → Prop} (h : S.AtS x P) (e1 : S1.secs = S.secs) (e2 : S1.wait = S.wait) : S1.AtS x P := by unfold DS.AtS; rw [e1, e2]; exact h
theorem Beg.more {i : Nat} (b : List UInt8) (h : Beg (2 + 10 * i) b) : Beg (2 + 10 * (i + 1)) b := by obtain ⟨m, h1, h2, h3⟩ := h; exact ⟨m, h1, by omega, h3⟩
/-- A journal behind i steps. -/
structure Pl (w1 w : World) (R : Nat → Prop) (d jb : Nat) (S : DS) (f k us nx : Nat) (c : Nat → List UInt8) (i : Nat) : Prop where
  ju : Ju w1 w R d jb S ⟨f, f + k, f + us, nx - 1, false⟩ 12 c
  at_ : S.AtS f (Beg (2 + 10 * i))
  us1 : 1 ≤ us
  us2 : us ≤ k
  nx1 : 2 ≤ nx
  nx2 : nx ≤ 2 + 10 * i
  ops : S.ops ≤ 10 + 40 * i
  wait : S.wait.length ≤ 4 * i
section
variable {w1 w w' : World} {R : Nat → Prop} {d jb : Nat} {S : DS} {f k us nx : Nat} {c : Nat → List UInt8} {i : Nat}
theorem Pl.rest (h : Pl w1 w R d jb S f k us nx c i) (hc : Calm w w') : Pl w1 w' R d jb S f k us nx c i := { h with ju := h.ju.rest hc }
theorem Pl.calm (h : Pl w1 w R d jb S f k us nx c i) : Calm w1 w := h.ju.jn.calm
theorem Pl.lens (h : Pl w1 w R d jb S f k us nx c i) (x : Nat) (hx : x < 12) : (c x).length = 512 := by
  rw [← h.ju.shows.2 x hx]
  exact h.ju.jn.sd.st.disk.now_len x (by rw [h.ju.shows.1]; exact hx)
theorem Pl.area_len (h : Pl w1 w R d jb S f k us nx c i) (hfk : f + k ≤ 12) : (areaC c f k).length = 512 * k := areaC_len (fun x _ h2 => h.lens x (by omega))

/-- A record that has room. -/
theorem Pl.append (h : Pl w1 w R d jb S f k us nx c i) (hT : Tab w1) (hfk : f + k ≤ 12) (hi : i < 30) (v : Value) (b : List UInt8) (hv : Rd w v b) (hb : b.length < 1200) (hfit : us + secsOf b.length ≤ k) :
    Calls Tryd.prog 16 #[.pointer (some ⟨jb, 0, none⟩), v] w fun e w' => ∃ R' S1, e = .returned (.int .i64 0) ∧ Pl w1 w' R' d jb S1 f k (us + secsOf b.length) (nx + 1) (putAt c (f + us) (recP nx b) (secsOf b.length - 1)) (i + 1) ∧ S1.ops ≤ 14 + 40 * i := by
  have hq := secsOf_pos b.length
  have hq3 : secsOf b.length ≤ 3 := by unfold secsOf; omega
  have n1 := h.nx1; have n2 := h.nx2; have o1 := h.ops; have o2 := h.wait; have u1 := h.us1
  have hroom : (b.length : Int) ≤ (JS.mk f (f + k) (f + us) (nx - 1) false).room := by
    unfold JS.room
    simp only
    rw [if_neg (by omega)]
    have : secsOf b.length = (b.length + 16 + 511) / 512 := rfl
    omega
  refine (jappend_c hT h.ju.jn rfl (by show f + us ≤ f + k; omega) (by rw [h.ju.shows.1]; exact hfk) v b hv hroom (by show nx - 1 < _; omega) (by unfold DS.fine; omega)).mono ?_
  obtain ⟨S1, p1, p2, p3, p4, p5, p6⟩ := h.ju.shows.put (f := f + us) (m := secsOf b.length - 1) (p := recP (nx - 1 + 1) b) h.ju.up
  rintro e w' ⟨R', S2, J', ⟨e1, rfl, rfl⟩ | ⟨e1, _, _⟩, hjn, hx, hk⟩
  · rw [p1] at e1
    injection e1 with _ e1
    subst e1
    rw [show nx - 1 + 1 = nx by omega] at p1 p2 hjn
    rw [show f + us + secsOf b.length = f + (us + secsOf b.length) by omega] at hjn
    refine ⟨R', S1, rfl, ⟨⟨?_, p3, p2⟩, (h.at_.put (by omega) p1).mono Beg.more, by omega, by omega, by omega, by omega, by omega, by omega⟩, by omega⟩
    rw [show nx + 1 - 1 = nx by omega]
    exact hjn
  · rw [p1] at e1; cases e1
/-- A record that has no room. -/
theorem Pl.full (h : Pl w1 w R d jb S f k us nx c i) (hfk : f + k ≤ 12) (hi : i < 30) (A : Option Addr) (b cc : Nat) (hb : b < 1200) (hfit : ¬ us + secsOf b ≤ k) :
    Calls Tryd.prog 16 #[.pointer (some ⟨jb, 0, none⟩), .slice A b cc] w fun e w' => e = .returned (.int .i64 5) ∧ Calm w w' := by
  have n2 := h.nx2; have u2 := h.us2
  refine (jappend_full h.ju.jn.row rfl (by show f + us ≤ f + k; omega) (by show f + k ≤ 4096; omega) (by show nx - 1 ≤ _; omega) A b cc (.inl ?_)).mono ?_
  · unfold JS.room
    simp only
    unfold secsOf at hfit
    split
    · omega
    · omega
  · rintro e w' ⟨rfl, hc⟩
    exact ⟨rfl, hc⟩
theorem Pl.commit (h : Pl w1 w R d jb S f k us nx c i) (hi : i < 30) :
    Calls Tryd.prog 17 #[.pointer (some ⟨jb, 0, none⟩)] w fun e w' => ∃ R' S1, e = .returned (.int .i64 0) ∧ Pl w1 w' R' d jb S1 f k us nx c (i + 1) ∧ S1.ops ≤ 14 + 40 * i := by
  have o1 := h.ops; have o2 := h.wait; have n2 := h.nx2
  have hb := h.ju.up.bar
  obtain ⟨b1, b2, b3, b4, b5⟩ := h.ju.shows.bar h.ju.up hb
  refine (jcommit_c h.ju.jn rfl (by unfold DS.fine; omega)).mono ?_
  rintro e w' ⟨R', S2, J', ⟨e1, rfl, rfl⟩ | ⟨e1, _, _⟩, hjn, hx, hk⟩
  · rw [hb] at e1
    injection e1 with _ e1
    subst e1
    exact ⟨R', _, rfl, ⟨⟨hjn, b2, b1⟩, (h.at_.bar hb).mono Beg.more, h.us1, h.us2, h.nx1, by omega, by omega, by rw [b3]; simp⟩, by omega⟩
  · rw [hb] at e1; cases e1
theorem Pl.reset (h : Pl w1 w R d jb S f k us nx c i) (hT : Tab w1) (hfk : f + k ≤ 12) (hi : i < 30) :
    Calls Tryd.prog 18 #[.pointer (some ⟨jb, 0, none⟩)] w fun e w' => ∃ R' S1, e = .returned (.int .i64 0) ∧ Pl w1 w' R' d jb S1 f k 1 (nx + 1) (upd c f (begP nx)) (i + 1) ∧ S1.ops ≤ 14 + 40 * i := by
  have o1 := h.ops; have o2 := h.wait; have n1 := h.nx1; have n2 := h.nx2; have u1 := h.us1; have u2 := h.us2
  refine (jreset_up hT h.ju rfl (by show nx - 1 < _; omega) (by show f < 12; omega) (by unfold DS.fine; omega)).mono ?_
  rintro e w' ⟨R', S1, rfl, hj, hx, hk, e1, e2, e3, e4⟩
  have hj' : Ju w1 w' R' d jb S1 ⟨f, f + k, f + 1, nx - 1 + 1, false⟩ 12 (upd c f (begP (nx - 1 + 1))) := hj
  have e4' : S1.wait = S.wait ++ [(f, begP (nx - 1 + 1))] := e4
  rw [show nx - 1 + 1 = nx by omega] at hj' e4'
  refine ⟨R', S1, rfl, ⟨by rw [show nx + 1 - 1 = nx by omega]; exact hj', DS.AtS.mono (P := Beg (2 + 10 * i)) ⟨by rw [e3]; exact h.at_.1, fun y hy e => ?_⟩ Beg.more, by omega, by omega, by omega, by omega, by omega, by omega⟩, by omega⟩
  rw [e4', List.mem_append, List.mem_singleton] at hy
  rcases hy with hy | rfl
  · exact h.at_.2 y hy e
  · exact ⟨nx, by omega, by omega, rfl⟩
/-- Its sectors are read. -/
theorem Pl.area (h : Pl w1 w R d jb S f k us nx c i) (hfk : f + k ≤ 12) (ho : S.ops + k ≤ 10 + 40 * i) (hi : i ≤ 30) :
    Calls Tryd.prog 21 #[.pointer (some ⟨d, 0, none⟩), .int .i64 (f : Int), .int .i64 (k : Int)] w fun e w' => ∃ R' S1, e = .returned (.string (str (areaC c f k))) ∧ Pl w1 w' R' d jb S1 f k us nx c i := by
  have o1 := h.ops; have o2 := h.wait
  refine (area_c h.ju.jn.sd.st h.ju.up.1 h.ju.up.2 (by omega) (by omega) f k (by omega) (by rw [h.ju.shows.1]; exact hfk) (by rw [h.ju.shows.1]; omega)).mono ?_
  rintro e w' ⟨rfl, hst, hk, -⟩
  obtain ⟨R', hsd, hr⟩ := hst.sd
  exact ⟨R', S.more k, by rw [h.ju.shows.area f k hfk], { h with ju := ⟨h.ju.jn.moved hsd (fun x hx => .inl (hr x hx)) hk, h.ju.up.more k, h.ju.shows.more k⟩, at_ := h.at_.same rfl rfl, ops := ho, wait := h.wait }⟩
/-- A disk that went down, and was started. -/
structure Dn (w1 w : World) (R : Nat → Prop) (d : Nat) (S : DS) (f : Nat) (i : Nat) : Prop where
  sd : Sd w1 w R d S
  up : S.Up
  len : S.secs.length = 12
  at_ : S.AtS f (Beg (2 + 10 * i))
  ops : S.ops ≤ 20 + 40 * i
  wait : S.wait = []
theorem Pl.crash (h : Pl w1 w R d jb S f k us nx c i) (hi : i < 30) (kv : Value) (ks : List Bool) (hb : Bools w (fun k => ¬ R k) kv ks) (hm : ks.length ≤ 60) :
    Calls Tryd.prog 19 #[.pointer (some ⟨d, 0, none⟩), kv] w fun e w' => ∃ R', e = .returned (.tuple #[]) ∧ Sd w1 w' R' d (S.crash ks) := by
  have o2 := h.wait
  refine (st_crash h.ju.jn.sd.st (by omega) kv ks hb (by unfold maxLen; omega)).mono ?_
  rintro e w' ⟨rfl, hst, hk⟩
  obtain ⟨R', hsd, hr⟩ := hst.sd
  exact ⟨R', rfl, hsd⟩
theorem Pl.start (h : Pl w1 w R d jb S f k us nx c i) (hi : i < 30) {R2 : Nat → Prop} {w2 : World} {ks : List Bool} (h2 : Sd w1 w2 R2 d (S.crash ks)) :
    Calls Tryd.prog 20 #[.pointer (some ⟨d, 0, none⟩)] w2 fun e w' => ∃ R' S1, e = .returned (.int .i64 0) ∧ Dn w1 w' R' d S1 f i := by
  have o1 := h.ops
  refine (sd_start h2 rfl).mono ?_
  rintro e w' ⟨R', rfl, hsd, -, -⟩
  exact ⟨R', _, rfl, hsd, ⟨rfl, rfl⟩, by show (putTo _ _ _ _).length = 12; rw [putTo_len]; exact h.ju.shows.1, (h.at_.crash ks).same rfl rfl, by show S.ops ≤ _; omega, rfl⟩
theorem Dn.area (h : Dn w1 w R d S f i) (hfk : f + k ≤ 12) (hi : i < 30) :
    Calls Tryd.prog 21 #[.pointer (some ⟨d, 0, none⟩), .int .i64 (f : Int), .int .i64 (k : Int)] w fun e w' => ∃ R', e = .returned (.string (str (areaC S.now f k))) ∧ Sd w1 w' R' d (S.more k) ∧ (areaC S.now f k).length = 512 * k := by
  have o1 := h.ops
  have sh : S.Shows 12 S.now := ⟨h.len, fun _ _ => rfl⟩
  refine (area_c h.sd.st h.up.1 h.up.2 (by rw [h.wait]; simp) (by omega) f k (by omega) (by rw [h.len]; exact hfk) (by rw [h.len]; omega)).mono ?_
  rintro e w' ⟨rfl, hst, hk, hl⟩
  obtain ⟨R', hsd, hr⟩ := hst.sd
  rw [sh.area f k hfk] at hl ⊢
  exact ⟨R', rfl, hsd, hl⟩
theorem Dn.open_ (h : Dn w1 w R d S f i) (hT : Tab w1) (hk2 : 2 ≤ k) (hk8 : k ≤ 8) (hfk : f + k ≤ 12) (hi : i < 30) {R2 : Nat → Prop} {w2 : World} (h2 : Sd w1 w2 R2 d (S.more k)) :
    Calls Tryd.prog 22 #[.pointer (some ⟨d, 0, none⟩), .int .i64 (f : Int), .int .i64 (k : Int)] w2 fun e w' => ∃ R' S1 out n' used A cc jb, replay (areaC S.now f k) = some (out, n', used) ∧ e = .returned (.tuple #[.pointer (some ⟨jb, 0, none⟩), .slice A out.length cc, .int .i64 0]) ∧ Recs w' w2.heap.size (.slice A out.length cc) out ∧
      Pl w1 w' R' d jb S1 f k used n' S.now (i + 1) ∧ S1.ops ≤ 40 + 40 * i ∧ out.length ≤ 8 := by
  have o1 := h.ops
  obtain ⟨m, m1, m2, m3⟩ := h.at_.1
  have hnow : S.now f = begP m := by unfold DS.now; rw [h.wait]; exact m3
  have h512 : (areaC S.now f k).take 512 = begP m := by
    rw [show k = 1 + (k - 1) by omega, areaC_add]
    have : areaC S.now f 1 = begP m := by simp [areaC, hnow]
    rw [this, List.take_left' (begP_len m)]
  obtain ⟨out0, n0, u0, hr0, hn0⟩ := replay_beg m1 (by omega) h512
  refine (jopen_up (n := 12) (c := S.now) hT h2 (h.up.more k) ⟨h.len, fun _ _ => rfl⟩ hk2 hfk (by unfold DS.fine; show S.wait.length + k ≤ _ ∧ S.ops + k + k ≤ _; rw [h.wait]; simp; omega)).mono ?_
  rintro e w' ⟨R', q, hq, hx, hkp, hsd, ⟨hno, _⟩ | ⟨out, n', used, A, cc, jb, hs, rfl, hrc, hjb, J9, a1, a2, a3, a4, a5⟩⟩
  · rw [hr0] at hno; cases hno
  · have hs0 := hs
    rw [hr0] at hs
    injection hs with hs
    injection hs with e1 hs
    injection hs with e2 e3
    subst e1; subst e2; subst e3
    have hops : ((S.more k).more q).ops = S.ops + k + q := rfl
    exact ⟨R', (S.more k).more q, out0, n0, u0, A, cc, jb, hs0, rfl, hrc, ⟨J9, (h.at_.mono (fun b ⟨y, y1, y2, y3⟩ => ⟨y, y1, by omega, y3⟩)).same rfl rfl, a3, a4, a1, by omega, by rw [hops]; omega, by show S.wait.length ≤ _; rw [h.wait]; simp⟩, by rw [hops]; omega, by omega⟩
end
end Go.Proofs.YtglfmhheepgneaaDoor
