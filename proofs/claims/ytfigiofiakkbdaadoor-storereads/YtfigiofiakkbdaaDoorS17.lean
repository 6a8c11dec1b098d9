import Derived.Test.YtfigiofiakkbdaaDoorS14
import Derived.BigQuiet
/-
  Contracts of the reference of layer 4: half, Kept.
-/
namespace Go.Proofs.YtfigiofiakkbdaaDoor
open Go.RowKit
set_option linter.all false

theorem strs_at {w : World} {base : Nat} {A : Option Addr} {n c : Nat} {out : List (List UInt8)} (h : Strs w base (.slice A n c) out) (i : Nat) (b : List UInt8) (hi : out[i]? = some b) : ∃ g, A = some ⟨g, 0, none⟩ ∧ w.cell? ⟨g, i, none⟩ = some (.string (str b)) := by
  have hlt : i < out.length := (List.getElem?_eq_some_iff.1 hi).1
  rcases h.2 with ⟨e, h0⟩ | ⟨g, cap, cur, e, _⟩
  · omega
  · injection e with e1 _ _
    refine ⟨g, e1, ?_⟩
    have := World.ownsRow.cells h (g := g) (by rw [e1]; rfl) i (sv b) (by simp [hi])
    rwa [addr_mid, Nat.zero_add] at this
theorem first_len {s b : List UInt8} {l : List (List UInt8)} {n u : Nat} (h : replay s = some (b :: l, n, u)) : b.length ≤ s.length := by
  unfold replay at h
  simp only at h
  split at h
  · cases h
  · injection h with h
    rcases hs : s.length with _ | f
    · rw [hs] at h
      simp only [replayFrom, Prod.mk.injEq] at h
      cases h.1
    · rw [hs] at h
      simp only [replayFrom] at h
      split at h
      · simp only [Prod.mk.injEq] at h
        cases h.1
      · rename_i b' ho
        obtain ⟨r, e⟩ := replayFrom_ext _ _ _ _ _ _ _ _ h
        simp only [List.nil_append, List.cons_append, List.cons.injEq] at e
        have := (oneAt_len ho).2.1
        rw [List.length_drop] at this
        rw [e.1]
        omega
/-- What half answers. -/
def HalfRes (s : List UInt8) (e : Ending) : Prop :=
  (replay s = none ∧ e = .returned (.tuple #[.string ⟨#[]⟩, .int .u64 0, .bool false, .bool false])) ∨
  ∃ out n u, replay s = some (out, n, u) ∧ ((thingO 0 out = none ∧ e = .returned (.tuple #[.string ⟨#[]⟩, .int .u64 0, .bool true, .bool false])) ∨
    ∃ k b, thingO 0 out = some (0, k, b) ∧ e = .returned (.tuple #[.string (str b), .int .u64 (k : Int), .bool true, .bool true]))

set_option maxRecDepth 100000 in
set_option maxHeartbeats 3200000 in
theorem r4half_c (s : List UInt8) (w : World) (h1 : 512 ≤ s.length) (h2 : s.length ≤ 100000) (h3 : s.length % 512 = 0) :
    Calls Tryd.prog 45 #[.string (str s)] w fun e w' => HalfRes s e ∧ Calm w w' := by
  have RP := Lib.hid (replay_c s w h1 (by omega) h3)
  clear h1 h3
  go_enter Tryd.func45, Tryd.ntmps45
  go_wp2_with fail
  refine RP.out.mono ?_
  rintro e w1 ⟨⟨hno, rfl⟩ | ⟨out, n, used, g, c, hs, rfl, hst, hn, hu1, hu2⟩, c1⟩
  · have HN := Lib.hid hno
    have C1 := Lib.hid c1
    clear hno c1 RP
    go_wp2_with fail
    go_returns
    exact ⟨.inl ⟨HN.out, rfl⟩, C1.out⟩
  have HS := Lib.hid hs
  have C1 := Lib.hid c1
  rcases out with _ | ⟨b, l⟩
  · clear hs c1 RP hst
    go_wp2_with fail
    go_returns
    exact ⟨.inr ⟨[], n, used, HS.out, .inl ⟨rfl, rfl⟩⟩, C1.out⟩
  obtain ⟨g', e', hcell⟩ := strs_at hst 0 b rfl
  injection e' with e'
  injection e' with e'
  subst e'
  have hlb : b.length ≤ 100000 := Nat.le_trans (first_len hs) h2
  have ssb := str_size b
  have i1 : ((((b :: l).length : Nat) : Int) == 0) = false := by rw [beq_eq_false_iff_ne, List.length_cons]; omega
  have i2 : (0 : Int) < (((b :: l).length : Nat) : Int) := by rw [List.length_cons]; omega
  by_cases h8 : b.length < 8
  · have HT : Hid (thingO 0 (b :: l) = none) := Lib.hid (by simp [thingO, h8])
    have d1 : decide ((b.length : Int) < 8) = true := decide_eq_true (by omega)
    have d2 : decide (b.length < 8) = true := decide_eq_true h8
    generalize (b :: l).length = nn at *
    clear hs c1 RP hst
    go_wp2_with fail
    go_returns
    exact ⟨.inr ⟨b :: l, n, used, HS.out, .inl ⟨HT.out, rfl⟩⟩, C1.out⟩
  have NB := r4number_c b w1 (by omega) (by omega)
  have NB2 := fun wx => r4number_c b wx (by omega) (by omega)
  have d1 : decide ((b.length : Int) < 8) = false := decide_eq_false (by omega)
  have d2 : decide (b.length < 8) = false := decide_eq_false h8
  obtain ⟨k, hk⟩ : ∃ k, k = num (b.take 8) := ⟨_, rfl⟩
  rw [← hk] at NB
  simp only [← hk] at NB2
  have HNB := Lib.hid NB
  have HNB2 := fun wx => Lib.hid (NB2 wx)
  have hT : thingO 0 (b :: l) = if 4611686018427387904 < k then none else some (0, k, b.drop 8) := by simp [thingO, h8, hk]
  have HTT := Lib.hid hT
  generalize (b :: l).length = nn at *
  clear hs c1 RP hst NB NB2 hT hk
  by_cases hbig : 4611686018427387904 < k
  · have d3 : decide ((4611686018427387904 : Int) < (k : Int)) = true := decide_eq_true (by omega)
    have HT2 : Hid (thingO 0 (b :: l) = none) := Lib.hid (by rw [HTT.out, if_pos hbig])
    clear hbig
    go_wp2_with (go_at_call 62; refine HNB.out.mono ?_; rintro e w2 ⟨rfl, rfl⟩)
    go_returns
    exact ⟨.inr ⟨b :: l, n, used, HS.out, .inl ⟨HT2.out, rfl⟩⟩, C1.out⟩
  · have d3 : decide ((4611686018427387904 : Int) < (k : Int)) = false := decide_eq_false (by omega)
    have HT2 : Hid (thingO 0 (b :: l) = some (0, k, b.drop 8)) := Lib.hid (by rw [HTT.out, if_neg hbig])
    have i8 : (8 : Int) ≤ (b.length : Int) := by omega
    have ex : (str b).extract 8 b.length = str (b.drop 8) := by rw [str_extract, List.take_length]
    clear hbig
    go_wp2_with (go_at_call 62; refine HNB.out.mono ?_; rintro e w2 ⟨rfl, rfl⟩)
    go_quiet ((go_at_call 62; exact Calls.quiet_of_same ((HNB2 _).out.mono (fun _ _ x => ⟨x.1, x.2.symm⟩))))
    go_wp2_with fail
    go_returns
    exact ⟨.inr ⟨b :: l, n, used, HS.out, .inr ⟨k, b.drop 8, HT2.out, rfl⟩⟩, C1.out.trans ((Keep.refl _ w1).drewN _)⟩
end Go.Proofs.YtfigiofiakkbdaaDoor

/-
  Contracts of the reference of layer 4: Kept.
-/
namespace Go.Proofs.YtfigiofiakkbdaaDoor
open Go.RowKit
set_option linter.all false

theorem thingO_one (o : List (List UInt8)) : thingO 1 o = (thingO 0 o).map (fun x => (1, x.2)) := by
  unfold thingO
  split
  · rfl
  · split
    · rfl
    · split <;> rfl
/-- What Kept answers, of halves A, B. -/
def KeptRes (A B : List UInt8) (e : Ending) : Prop :=
  ((replay A = none ∨ replay B = none) ∧ e = .returned (.tuple #[.string ⟨#[]⟩, .int .u64 0, .int .i64 (-1), .bool false])) ∨
  ∃ o1 n1 u1 o2 n2 u2, replay A = some (o1, n1, u1) ∧ replay B = some (o2, n2, u2) ∧ ((chooseO (thingO 0 o1) (thingO 1 o2) = none ∧ e = .returned (.tuple #[.string ⟨#[]⟩, .int .u64 0, .int .i64 (-1), .bool true])) ∨
    ∃ y k d, y ≤ 1 ∧ chooseO (thingO 0 o1) (thingO 1 o2) = some (y, k, d) ∧ e = .returned (.tuple #[.string (str d), .int .u64 (k : Int), .int .i64 (y : Int), .bool true]))

set_option maxRecDepth 100000 in
set_option maxHeartbeats 8000000 in
theorem r4kept_c (s : List UInt8) (w : World) (hl : s.length = 4096) :
    Calls Tryd.prog 27 #[.string (str s)] w fun e w' => KeptRes (s.take 2048) (s.drop 2048) e ∧ Calm w w' := by
  have ss := str_size s
  rw [hl] at ss
  have e1 : (str s).extract 0 2048 = str (s.take 2048) := by rw [str_extract, List.drop_zero]
  have e2 : (str s).extract 2048 4096 = str (s.drop 2048) := by rw [str_extract, ← hl, List.take_length]
  have l1 : (s.take 2048).length = 2048 := by simp; omega
  have l2 : (s.drop 2048).length = 2048 := by simp; omega
  generalize s.take 2048 = A at *
  generalize s.drop 2048 = B at *
  have HA := Lib.hid (r4half_c A w (by omega) (by omega) (by omega))
  have HB := fun wx => Lib.hid (r4half_c B wx (by omega) (by omega) (by omega))
  clear l1 l2 hl
  go_enter Tryd.func27, Tryd.ntmps27
  go_wp2_with fail
  refine HA.out.mono ?_
  rintro e w1 ⟨hA, c1⟩
  have C1 := Lib.hid c1
  have HB1 := HB w1
  clear c1 HA HB
  rcases hA with ⟨ha, rfl⟩ | ⟨o1, n1, u1, ha, ⟨ta, rfl⟩ | ⟨k1, b1, ta, rfl⟩⟩
  · have H1 := Lib.hid ha
    clear ha
    go_wp2_with fail
    refine HB1.out.mono ?_
    rintro e w2 ⟨hB, c2⟩
    have C2 := Lib.hid (C1.out.trans c2)
    clear c2 HB1
    rcases hB with ⟨hb, rfl⟩ | ⟨o2, n2, u2, hb, ⟨tb, rfl⟩ | ⟨k2, b2, tb, rfl⟩⟩
    all_goals
      clear hb
      try clear tb
      go_wp2_with fail
      go_returns
      exact ⟨.inl ⟨.inl H1.out, rfl⟩, C2.out⟩
  · have H1 := Lib.hid (And.intro ha ta)
    clear ha ta
    go_wp2_with fail
    refine HB1.out.mono ?_
    rintro e w2 ⟨hB, c2⟩
    have C2 := Lib.hid (C1.out.trans c2)
    clear c2 HB1
    rcases hB with ⟨hb, rfl⟩ | ⟨o2, n2, u2, hb, ⟨tb, rfl⟩ | ⟨k2, b2, tb, rfl⟩⟩
    · have H2 := Lib.hid hb
      clear hb
      go_wp2_with fail
      go_returns
      exact ⟨.inl ⟨.inr H2.out, rfl⟩, C2.out⟩
    · have H2 := Lib.hid (And.intro hb tb)
      clear hb tb
      go_wp2_with fail
      go_returns
      exact ⟨.inr ⟨o1, n1, u1, o2, n2, u2, H1.out.1, H2.out.1, .inl ⟨by rw [H1.out.2, thingO_one, H2.out.2]; rfl, rfl⟩⟩, C2.out⟩
    · have H2 := Lib.hid (And.intro hb tb)
      clear hb tb
      go_wp2_with fail
      go_returns
      exact ⟨.inr ⟨o1, n1, u1, o2, n2, u2, H1.out.1, H2.out.1, .inr ⟨1, k2, b2, by omega, by rw [H1.out.2, thingO_one, H2.out.2]; rfl, rfl⟩⟩, C2.out⟩
  · have H1 := Lib.hid (And.intro ha ta)
    clear ha ta
    go_wp2_with fail
    refine HB1.out.mono ?_
    rintro e w2 ⟨hB, c2⟩
    have C2 := Lib.hid (C1.out.trans c2)
    clear c2 HB1
    rcases hB with ⟨hb, rfl⟩ | ⟨o2, n2, u2, hb, ⟨tb, rfl⟩ | ⟨k2, b2, tb, rfl⟩⟩
    · have H2 := Lib.hid hb
      clear hb
      go_wp2_with fail
      go_returns
      exact ⟨.inl ⟨.inr H2.out, rfl⟩, C2.out⟩
    · have H2 := Lib.hid (And.intro hb tb)
      clear hb tb
      go_wp2_with fail
      go_returns
      exact ⟨.inr ⟨o1, n1, u1, o2, n2, u2, H1.out.1, H2.out.1, .inr ⟨0, k1, b1, by omega, by rw [H1.out.2, thingO_one, H2.out.2]; rfl, rfl⟩⟩, C2.out⟩
    · have H2 := Lib.hid (And.intro hb tb)
      clear hb tb
      by_cases hk : k1 < k2
      · have d1 : decide ((k2 : Int) ≤ (k1 : Int)) = false := decide_eq_false (by omega)
        have d2 : decide (k2 ≤ k1) = false := decide_eq_false (by omega)
        have HC : Hid (chooseO (thingO 0 o1) (thingO 1 o2) = some (1, k2, b2)) := Lib.hid (by rw [H1.out.2, thingO_one, H2.out.2]; simp [chooseO, hk])
        clear hk
        go_wp2_with fail
        go_returns
        exact ⟨.inr ⟨o1, n1, u1, o2, n2, u2, H1.out.1, H2.out.1, .inr ⟨1, k2, b2, by omega, HC.out, rfl⟩⟩, C2.out⟩
      · have d1 : decide ((k2 : Int) ≤ (k1 : Int)) = true := decide_eq_true (by omega)
        have d2 : decide (k2 ≤ k1) = true := decide_eq_true (by omega)
        have HC : Hid (chooseO (thingO 0 o1) (thingO 1 o2) = some (0, k1, b1)) := Lib.hid (by rw [H1.out.2, thingO_one, H2.out.2]; simp [chooseO, hk])
        clear hk
        go_wp2_with fail
        go_returns
        exact ⟨.inr ⟨o1, n1, u1, o2, n2, u2, H1.out.1, H2.out.1, .inr ⟨0, k1, b1, by omega, HC.out, rfl⟩⟩, C2.out⟩
end Go.Proofs.YtfigiofiakkbdaaDoor

