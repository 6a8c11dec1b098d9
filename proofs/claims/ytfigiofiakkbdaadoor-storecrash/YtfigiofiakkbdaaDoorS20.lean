/-
  A store whose disk may crash: the calls.
-/
import Derived.Test.YtfigiofiakkbdaaDoorS19
namespace Go.Proofs.YtfigiofiakkbdaaDoor
open Go.RowKit
set_option linter.all false

/-- cur is what is kept, nothing where nothing is. -/
def Cur (κ : Option (Nat × Nat × List UInt8)) (cur : List UInt8) : Prop := match κ with
  | none => cur = []
  | some (_, _, bs) => cur = bs ∧ bs ≠ []
/-- A store. -/
def Md (P : DS → Prop) (w0 w : World) (R T : Nat → Prop) (d sb n B F : Nat) (cur : List UInt8) : Prop :=
  ∃ S σ c ka oa kb ob, Sto w0 w R T d sb S σ ∧ P S ∧ S.Shows n c ∧ S.wait = [] ∧ S.fine F ∧ Cs n c σ ka oa kb ob ∧ σ.A.last ≤ B ∧ σ.B.last ≤ B ∧ σ.count ≤ B ∧ Cur σ.kept cur
/-- A disk that holds a store. -/
def Rw (P : DS → Prop) (w0 w : World) (R : Nat → Prop) (d n B F : Nat) (cur : List UInt8) : Prop :=
  ∃ S c κ, Sd w0 w R d S ∧ P S ∧ S.secs.length = n ∧ (∀ i, i < n → S.secs.getD i [] = c i) ∧ S.wait = [] ∧ S.fine F ∧ Kpt n c B κ ∧ (∀ y m x, κ = some (y, m, x) → m ≤ B) ∧ Cur κ cur
def DS.Any (_ : DS) : Prop := True
section
variable {P : DS → Prop} {w0 w w' : World} {R R' T Q : Nat → Prop} {d sb n B F : Nat} {cur bs : List UInt8}
theorem Md.rest (h : Md P w0 w R T d sb n B F cur) (k : Calm w w') : Md P w0 w' R T d sb n B F cur := by
  obtain ⟨S, σ, c, ka, oa, kb, ob, h1, h2⟩ := h
  exact ⟨S, σ, c, ka, oa, kb, ob, h1.rest k, h2⟩
theorem Md.apart (h : Md P w0 w R T d sb n B F cur) (k : Keep Q w w') (hQ : ∀ i, Q i → ¬ R i ∧ ¬ T i ∧ w0.heap.size ≤ i) : Md P w0 w' R T d sb n B F cur := by
  obtain ⟨S, σ, c, ka, oa, kb, ob, h1, h2⟩ := h
  exact ⟨S, σ, c, ka, oa, kb, ob, h1.apart k hQ, h2⟩
theorem Md.alive (h : Md DS.Up w0 w R T d sb n B F cur) : Md DS.Alive w0 w R T d sb n B F cur := by
  obtain ⟨S, σ, c, ka, oa, kb, ob, h1, h2, h3⟩ := h
  exact ⟨S, σ, c, ka, oa, kb, ob, h1, h2.1, h3⟩
theorem Md.calm (h : Md P w0 w R T d sb n B F cur) : Calm w0 w := by
  obtain ⟨S, σ, c, ka, oa, kb, ob, h1, h2⟩ := h
  exact h1.calm
theorem Md.more (h : Md P w0 w R T d sb n B F cur) {B' F' : Nat} (hB : B ≤ B') (hF : F' ≤ F) : Md P w0 w R T d sb n B' F' cur := by
  obtain ⟨S, σ, c, ka, oa, kb, ob, h1, h2, h3, h4, h5, h6, h7, h8, h9, h10⟩ := h
  exact ⟨S, σ, c, ka, oa, kb, ob, h1, h2, h3, h4, h5.mono hF, h6, by omega, by omega, by omega, h10⟩
theorem Rw.rest (h : Rw P w0 w R d n B F cur) (k : Calm w w') : Rw P w0 w' R d n B F cur := by
  obtain ⟨S, c, κ, h1, h2⟩ := h
  exact ⟨S, c, κ, h1.rest k, h2⟩
theorem Rw.apart (h : Rw P w0 w R d n B F cur) (k : Keep Q w w') (hQ : ∀ i, Q i → ¬ R i ∧ w0.heap.size ≤ i) : Rw P w0 w' R d n B F cur := by
  obtain ⟨S, c, κ, h1, h2⟩ := h
  exact ⟨S, c, κ, h1.apart k hQ, h2⟩
theorem Rw.calm (h : Rw P w0 w R d n B F cur) : Calm w0 w := by
  obtain ⟨S, c, κ, h1, h2⟩ := h
  exact h1.st.calm

theorem md_arm (h : Md DS.Up w0 w R T d sb n B F cur) (k : Int) (h0 : 0 ≤ k) (h1 : k ≤ 15) (kv : Value) (ks : List Bool) (hb : Bools w (fun k => ¬ R k) kv ks) (hl : ks.length ≤ 30) :
    Calls Tryd.prog 22 #[.pointer (some ⟨d, 0, none⟩), .int .i64 k, kv] w fun e w' => ∃ R', e = .returned (.tuple #[]) ∧ Md DS.Alive w0 w' R' T d sb n B F cur ∧ Ext R R' w ∧ Keep R w w' := by
  obtain ⟨S, σ, c, ka, oa, kb, ob, h2, h3, h4⟩ := h
  refine (st_arm h2.sd.st k h0 (by unfold big; omega) kv ks hb (by omega)).mono ?_
  rintro e w' ⟨rfl, a1, k1⟩
  obtain ⟨R', a2, hr⟩ := a1.sd
  have hx : Ext R R' w := fun k hk => (hr k hk).imp id (fun e => e.1)
  exact ⟨R', rfl, ⟨_, σ, c, ka, oa, kb, ob, h2.moved a2 hx k1, h3.1, h4⟩, hx, k1⟩
theorem md_off (h : Md DS.Alive w0 w R T d sb n B F cur) (kv : Value) :
    Calls Tryd.prog 22 #[.pointer (some ⟨d, 0, none⟩), .int .i64 (-1), kv] w fun e w' => ∃ R', e = .returned (.tuple #[]) ∧ Md DS.Up w0 w' R' T d sb n B F cur ∧ Ext R R' w ∧ Keep R w w' := by
  obtain ⟨S, σ, c, ka, oa, kb, ob, h2, h3, h4⟩ := h
  refine (st_arm_off h2.sd.st (-1) (by omega) kv).mono ?_
  rintro e w' ⟨rfl, a1, k1⟩
  obtain ⟨R', a2, hr⟩ := a1.sd
  have hx : Ext R R' w := fun k hk => .inl (hr k hk)
  exact ⟨R', rfl, ⟨_, σ, c, ka, oa, kb, ob, h2.moved a2 hx k1, ⟨h3, rfl⟩, h4⟩, hx, k1⟩
theorem rw_off (h : Rw DS.Dead w0 w R d n B F cur) (kv : Value) :
    Calls Tryd.prog 22 #[.pointer (some ⟨d, 0, none⟩), .int .i64 (-1), kv] w fun e w' => ∃ R', e = .returned (.tuple #[]) ∧ Rw DS.Dead w0 w' R' d n B F cur ∧ Ext R R' w ∧ Keep R w w' := by
  obtain ⟨S, c, κ, h2, h3, h4⟩ := h
  refine (st_arm_off h2.st (-1) (by omega) kv).mono ?_
  rintro e w' ⟨rfl, a1, k1⟩
  obtain ⟨R', a2, hr⟩ := a1.sd
  have hx : Ext R R' w := fun k hk => .inl (hr k hk)
  exact ⟨R', rfl, ⟨_, c, κ, a2, ⟨h3.1, rfl, h3.2.2⟩, h4⟩, hx, k1⟩
theorem rw_down (h : Rw DS.Dead w0 w R d n B F cur) :
    Calls Tryd.prog 23 #[.pointer (some ⟨d, 0, none⟩)] w fun e w' => e = .returned (.bool true) ∧ w = w' := by
  obtain ⟨S, c, κ, h2, h3, h4⟩ := h
  have := isdown_c h2.st.disk
  rw [h3.1] at this
  exact this
theorem rw_start (h : Rw DS.Dead w0 w R d n B F cur) :
    Calls Tryd.prog 24 #[.pointer (some ⟨d, 0, none⟩)] w fun e w' => ∃ R', e = .returned (.int .i64 0) ∧ Rw DS.Up w0 w' R' d n B F cur ∧ Ext R R' w ∧ Keep R w w' := by
  obtain ⟨S, c, κ, h2, h3, h4⟩ := h
  refine (sd_start h2 h3.1).mono ?_
  rintro e w' ⟨R', rfl, a2, hr, k1⟩
  have hx : Ext R R' w := fun k hk => .inl (hr k hk)
  exact ⟨R', rfl, ⟨_, c, κ, a2, ⟨rfl, h3.2.1⟩, h4⟩, hx, k1⟩
theorem rw_arm (h : Rw DS.Up w0 w R d n B F cur) (k : Int) (h0 : 0 ≤ k) (h1 : k ≤ 15) :
    Calls Tryd.prog 22 #[.pointer (some ⟨d, 0, none⟩), .int .i64 k, .slice none 0 0] w fun e w' => ∃ R', e = .returned (.tuple #[]) ∧ Rw DS.Any w0 w' R' d n B F cur ∧ Ext R R' w ∧ Keep R w w' := by
  obtain ⟨S, c, κ, h2, h3, h4⟩ := h
  refine (st_arm h2.st k h0 (by unfold big; omega) (.slice none 0 0) [] (Bools.none_ _ _) (Nat.zero_le _)).mono ?_
  rintro e w' ⟨rfl, a1, k1⟩
  obtain ⟨R', a2, hr⟩ := a1.sd
  have hx : Ext R R' w := fun k hk => (hr k hk).imp id (fun e => e.1)
  exact ⟨R', rfl, ⟨_, c, κ, a2, trivial, h4⟩, hx, k1⟩
theorem rw_crash (h : Rw DS.Any w0 w R d n B F cur) :
    Calls Tryd.prog 25 #[.pointer (some ⟨d, 0, none⟩), .slice none 0 0] w fun e w' => ∃ R', e = .returned (.tuple #[]) ∧ Rw DS.Dead w0 w' R' d n B F cur ∧ Ext R R' w ∧ Keep R w w' := by
  obtain ⟨S, c, κ, h2, h3, h4, h5, h6, h7, h8⟩ := h
  refine (sd_crash0 h2 (by rw [h6]; simp)).mono ?_
  rintro e w' ⟨R', rfl, a2, hr, k1⟩
  have hx : Ext R R' w := fun k hk => .inl (hr k hk)
  have es : (S.crash []).secs = S.secs := by simp only [DS.crash, h6]; rfl
  exact ⟨R', rfl, ⟨_, c, κ, a2, ⟨rfl, rfl, rfl⟩, by rw [es]; exact h4, by rw [es]; exact h5, rfl, by have := h7; unfold DS.fine at this ⊢; simp only [DS.crash]; simp; omega, h8⟩, hx, k1⟩
/-- What reading leaves, where nothing waits. -/
theorem rds_still {k : Nat} : ∀ {S S1 : DS} {ok : Bool}, S.wait = [] → DS.rds k S = (ok, S1) → S1.secs = S.secs ∧ S1.wait = [] := by
  induction k with
  | zero => intro S S1 ok hw h; simp only [DS.rds, Prod.mk.injEq] at h; obtain ⟨_, rfl⟩ := h; exact ⟨rfl, hw⟩
  | succ k ih =>
    intro S S1 ok hw h
    simp only [DS.rds] at h
    rcases hop : S.op with ⟨ok', S2⟩
    rw [hop] at h
    have h2 : S2.secs = S.secs ∧ S2.wait = [] := by
      unfold DS.op at hop
      split at hop
      · injection hop with _ e; subst e; exact ⟨rfl, hw⟩
      · split at hop
        · injection hop with _ e; subst e; exact ⟨rfl, hw⟩
        · injection hop with _ e; subst e; exact ⟨by simp only [DS.crash, hw]; rfl, rfl⟩
        · injection hop with _ e; subst e; exact ⟨rfl, hw⟩
    cases ok'
    · simp only [Prod.mk.injEq] at h; obtain ⟨_, rfl⟩ := h; exact h2
    · have := ih h2.2 h; exact ⟨this.1.trans h2.1, this.2⟩
/-- Open, whatever it answers. -/
theorem rw_open (hT : Tab w0) (h : Rw DS.Any w0 w R d n B (F + 2 * (n / 2)) cur) (n4 : 4 ≤ n) :
    Calls Tryd.prog 19 #[.pointer (some ⟨d, 0, none⟩)] w fun e w' => ∃ R' v c, e = .returned (.tuple #[v, .int .i64 c]) ∧ Rw DS.Any w0 w' R' d n B F cur ∧ Ext R R' w ∧ Keep R w w' := by
  obtain ⟨S, c, κ, h2, h3, h4, h5, h6, h7, h8⟩ := h
  refine (sopen_c hT h2 h4 n4 rfl (h7.mono (by omega))).mono ?_
  rintro e w' ⟨R', S1, hx, hk, hs1, hcase⟩
  have fin : ∀ k, k ≤ 2 * (n / 2) → ∀ ok, DS.rds k S = (ok, S1) → Rw DS.Any w0 w' R' d n B F cur := fun k hk ok hr => by
    obtain ⟨a1, a2⟩ := rds_still h6 hr
    have a3 := DS.rds_fine (n := F) hr (h7.mono (by omega))
    exact ⟨S1, c, κ, hs1, trivial, by rw [a1]; exact h4, by rw [a1]; exact h5, a2, a3.1, h8⟩
  rcases hcase with ⟨cc, ⟨k, hk2, ⟨a1, _⟩ | ⟨a1, a2, _⟩⟩, rfl⟩ | ⟨Sa, J, out, cc, ⟨k, n', used, b1, b2, b3, b4, b5⟩, ⟨k2, hk2, ⟨a1, _⟩ | ⟨a1, a2, _⟩⟩, rfl⟩ | ⟨Sa, J0, out0, J1, out1, sb, ja, jb, T, ⟨k0, n0', used0, b1, b2, b3⟩, ⟨k1, n1', used1, c1, c2, c3⟩, rfl, ht, hst⟩
  · exact ⟨R', _, _, rfl, fin k (by omega) _ a1, hx, hk⟩
  · exact ⟨R', _, _, rfl, fin k (by omega) _ a1, hx, hk⟩
  · exact ⟨R', _, _, rfl, fin (k + k2) (by omega) _ (DS.rds_add b2 a1), hx, hk⟩
  · exact ⟨R', _, _, rfl, fin (k + k2) (by omega) _ (DS.rds_add b2 a1), hx, hk⟩
  · exact ⟨R', _, _, rfl, fin (k0 + k1) (by omega) _ (DS.rds_add b2 c2), hx, hk⟩
/-- Open, of a disk that is up. -/
theorem rw_up (hT : Tab w0) (h : Rw DS.Up w0 w R d n B (F + n) cur) (n4 : 4 ≤ n) (hn : n ≤ 4096) (hB : B ≤ 1000000) :
    Calls Tryd.prog 19 #[.pointer (some ⟨d, 0, none⟩)] w fun e w' => ∃ R' T' sb, e = .returned (.tuple #[.pointer (some ⟨sb, 0, none⟩), .int .i64 0]) ∧ Md DS.Up w0 w' R' T' d sb n (B + n) F cur ∧ (∀ k, T' k → w.heap.size ≤ k) ∧ Ext R R' w ∧ Keep R w w' := by
  obtain ⟨S, c, κ, h2, h3, h4, h5, h6, h7, ⟨ka, oa, kb, ob, b1, b2, b3, b4, b5⟩, b6, b7⟩ := h
  have hs : S.Shows n c := ⟨h4, fun i hi => by unfold DS.now; rw [h6]; exact h5 i hi⟩
  refine (su_open hT h2 h3 hs h6 n4 hn b1 b2 (by omega) (by omega) (by have := h7; unfold DS.fine at this; omega)).mono ?_
  rintro e w' ⟨R', T', sb, σ, q, l0, u0, l1, u1, rfl, hq, ht, hx, hk, hsu, e1, e2, e3, e4, e5, e6⟩
  have hkp : σ.kept = κ := hsu.kept.trans b5.symm
  refine ⟨R', T', sb, rfl, ⟨_, σ, c, ka, oa, kb, ob, hsu.sto, hsu.up, hsu.sh, hsu.wait, by have := h7; unfold DS.fine at this ⊢; simp only [DS.more]; rw [h6] at this ⊢; simp at this ⊢; omega, hsu.cs, by omega, by omega, ?_, by rw [hkp]; exact b7⟩, ht, hx, hk⟩
  rcases h : σ.kept with _ | ⟨y, m, x⟩
  · rw [count0 h]; omega
  · rw [count1 h]
    have := b6 y m x (hkp.symm.trans h)
    omega
/-- Save. -/
theorem md_save (hT : Tab w0) (h : Md DS.Alive w0 w R T d sb n B (F + 10) cur) (n6 : 6 ≤ n) (hn : n ≤ 4096) (hB : B ≤ 900000) (v : Value) (hv : Rd w v bs) (hne : bs ≠ []) (hl : bs.length ≤ 600) :
    Calls Tryd.prog 15 #[.pointer (some ⟨sb, 0, none⟩), v] w fun e w' => ∃ R' T', Ext R R' w ∧ Ext T T' w ∧ Keep (fun k => R k ∨ T k) w w' ∧
      ((e = .returned (.int .i64 0) ∧ Md DS.Alive w0 w' R' T' d sb n (B + 2) F bs) ∨ (e = .returned (.int .i64 11) ∧ ∃ cur', (cur' = cur ∨ cur' = bs) ∧ Rw DS.Dead w0 w' R' d n (B + 2) F cur')) := by
  obtain ⟨S, σ, c, ka, oa, kb, ob, h1, h2, h3, h4, h5, h6, h7, h8, h9, h10⟩ := h
  have hh := h6.hh
  have hq : secsOf (8 + bs.length) ≤ 2 := by unfold secsOf; omega
  have hy : σ.other = 0 ∨ σ.other = 1 := by unfold SS.other; split <;> omega
  have h0 : σ.J 0 = σ.A := rfl
  have hJ1 : σ.J 1 = σ.B := rfl
  have hJ : (σ.J σ.other).failed = false ∧ (σ.J σ.other).end_ = (σ.J σ.other).from_ + σ.h ∧ (σ.J σ.other).end_ ≤ n ∧ (σ.J σ.other).last ≤ B ∧ (σ.J σ.other).from_ + n / 2 ≤ n := by
    rcases hy with e | e
    · rw [e, h0]; exact ⟨h6.a.jx, by rw [h6.a.je, h6.a.jf, hh], by rw [h6.a.je]; omega, h7, by rw [h6.a.jf]; omega⟩
    · rw [e, hJ1]; exact ⟨h6.b.jx, by rw [h6.b.je, h6.b.jf, hh], by rw [h6.b.je]; omega, h8, by rw [h6.b.jf]; omega⟩
  have hlen : ∀ i, i < n → (c i).length = 512 := fun i hi => by
    rw [← h3.2 i hi]
    exact h1.sd.st.disk.now_len i (by rw [h3.1]; exact hi)
  refine (ssave_c hT h1 hJ.1 (by omega) hJ.2.1 (by rw [h3.1]; exact hJ.2.2.1) v bs hv (by omega) (by omega) (by omega) (h5.mono (by omega))).mono ?_
  rintro e w' ⟨R', T', S1, hcase, hx, ht, hk⟩
  refine ⟨R', T', hx, ht, hk, ?_⟩
  have hlr : (le 8 (σ.count + 1) ++ bs).length = 8 + bs.length := recB_len (σ.count + 1) bs
  have hcur : Cur (some (σ.other, σ.count + 1, bs)) bs := ⟨rfl, hne⟩
  have hall : ∀ c1 : Nat → List UInt8, (∀ i, i < n → c1 i = savC c (σ.J σ.other).from_ (σ.J σ.other).last (recB (σ.count + 1) bs) i) → ∃ ka' oa' kb' ob', Cs n c1 (σ.saved bs) ka' oa' kb' ob' := fun c1 hc1 => h6.all (by omega) (by omega) (by omega) hc1
  have hsl : (σ.saved bs).A.last ≤ B + 2 ∧ (σ.saved bs).B.last ≤ B + 2 := by
    rcases hy with e | e
    · obtain ⟨q1, q2, _⟩ := saved_A0 bs e; rw [q1, q2]; omega
    · obtain ⟨q1, q2, _⟩ := saved_B1 bs e; rw [q1, q2]; omega
  rcases hcase with ⟨e1, rfl, hst⟩ | ⟨e1, rfl, hsd⟩
  · obtain ⟨f1, f2⟩ := DS.sv_fine (n := F) e1 (h5.mono (by rw [hlr]; omega))
    rcases sv_out (h := n / 2) h2 h3 h4 (by rw [hlr]; omega) hJ.2.2.2.2 rfl e1 with ⟨_, a1, a2, a3⟩ | ⟨a0, _⟩
    · obtain ⟨ka', oa', kb', ob', hcs⟩ := hall _ (fun i _ => rfl)
      exact .inl ⟨rfl, S1, σ.saved bs, _, ka', oa', kb', ob', hst, a1, a2, a3, f1, hcs, hsl.1, hsl.2, by rw [count1 (saved_kept σ bs)]; omega, hcur⟩
    · cases a0
  · obtain ⟨f1, f2⟩ := DS.sv_fine (n := F) e1 (h5.mono (by rw [hlr]; omega))
    refine .inr ⟨rfl, ?_⟩
    have hold : ∀ y m x, σ.kept = some (y, m, x) → m ≤ B + 2 := fun y m x e => by rw [count1 e] at h9; omega
    rcases sv_out (h := n / 2) h2 h3 h4 (by rw [hlr]; omega) hJ.2.2.2.2 rfl e1 with ⟨a0, _⟩ | ⟨_, a1, a2 | ⟨a2, a3, a4⟩ | a2⟩
    · cases a0
    · exact ⟨cur, .inl rfl, S1, fun i => S1.secs.getD i [], σ.kept, hsd, a1, f2.trans h3.1, fun _ _ => rfl, a1.2.2, f1, h6.same (by omega) (by omega) a2, hold, h10⟩
    · refine ⟨cur, .inl rfl, S1, fun i => S1.secs.getD i [], σ.kept, hsd, a1, f2.trans h3.1, fun _ _ => rfl, a1.2.2, f1, ?_, hold, h10⟩
      exact h6.begun (B := B + 1) (by omega) (by omega) (by omega) hlen a2 a3 a4
    · obtain ⟨ka', oa', kb', ob', hcs⟩ := hall (fun i => S1.secs.getD i []) a2
      refine ⟨bs, .inr rfl, S1, fun i => S1.secs.getD i [], (σ.saved bs).kept, hsd, a1, f2.trans h3.1, fun _ _ => rfl, a1.2.2, f1, hcs.same hsl.1 hsl.2 (fun _ _ => rfl), fun y m x e => ?_, hcur⟩
      rw [saved_kept] at e
      injection e with e; injection e with _ e; injection e with e _
      omega
/-- Load. -/
theorem md_load (h : Md P w0 w R T d sb n B F cur) (hl : cur.length ≤ 1000000000) :
    Calls Tryd.prog 18 #[.pointer (some ⟨sb, 0, none⟩)] w fun e w' => ∃ v, ∃ er : Int, e = .returned (.tuple #[v, .int .i64 er]) ∧ Rd w' v cur ∧ ((er = 0 ∧ cur ≠ []) ∨ (er = 3 ∧ cur = [])) ∧ Calm w w' := by
  obtain ⟨S, σ, c, ka, oa, kb, ob, h1, h2, h3, h4, h5, h6, h7, h8, h9, h10⟩ := h
  rcases hk : σ.kept with _ | ⟨y, m, x⟩
  · rw [hk] at h10
    refine (sload_none h1.sm hk).mono ?_
    rintro e w' ⟨rfl, rfl⟩
    exact ⟨_, 3, rfl, .inl ⟨rfl, h10⟩, .inr ⟨rfl, h10⟩, Keep.refl _ w⟩
  · rw [hk] at h10
    obtain ⟨rfl, hne⟩ := h10
    refine (sload_some h1.sm hk hl).mono ?_
    rintro e w' ⟨A, cap, rfl, ho, hc⟩
    refine ⟨_, 0, rfl, ?_, .inl ⟨rfl, hne⟩, hc⟩
    rcases A with _ | ad
    · rcases ho.2 with ⟨e, q⟩ | ⟨g, cap, cur, e, _⟩
      · exact absurd (List.eq_nil_of_length_eq_zero q) hne
      · cases e
    · exact ho.rd ⟨_, _, _, rfl⟩
end
end Go.Proofs.YtfigiofiakkbdaaDoor
