/-
  Contracts of the reference of layer 4: Kept.
-/
import Derived.Test.YtfigiofiakkbdaaDoorS16
namespace Go.Proofs.YtfigiofiakkbdaaDoor
open Go.RowKit
set_option linter.all false

theorem thingO_one (o : List (List UInt8)) : thingO 1 o = (thingO 0 o).map (fun x => (1, x.2)) := by
  unfold thingO
  split
  · rfl
  · split
    · rfl
    · split <;> rfl
/-- What Kept answers, of halves A, B. -/
def KeptRes (A B : List UInt8) (e : Ending) : Prop :=
  ((replay A = none ∨ replay B = none) ∧ e = .returned (.tuple #[.string ⟨#[]⟩, .int .u64 0, .int .i64 (-1), .bool false])) ∨
  ∃ o1 n1 u1 o2 n2 u2, replay A = some (o1, n1, u1) ∧ replay B = some (o2, n2, u2) ∧ ((chooseO (thingO 0 o1) (thingO 1 o2) = none ∧ e = .returned (.tuple #[.string ⟨#[]⟩, .int .u64 0, .int .i64 (-1), .bool true])) ∨
    ∃ y k d, y ≤ 1 ∧ chooseO (thingO 0 o1) (thingO 1 o2) = some (y, k, d) ∧ e = .returned (.tuple #[.string (str d), .int .u64 (k : Int), .int .i64 (y : Int), .bool true]))

set_option maxRecDepth 100000 in
set_option maxHeartbeats 8000000 in
theorem r4kept_c (s : List UInt8) (w : World) (hl : s.length = 4096) :
    Calls Tryd.prog 27 #[.string (str s)] w fun e w' => KeptRes (s.take 2048) (s.drop 2048) e ∧ Calm w w' := by
  have ss := str_size s
  rw [hl] at ss
  have e1 : (str s).extract 0 2048 = str (s.take 2048) := by rw [str_extract, List.drop_zero]
  have e2 : (str s).extract 2048 4096 = str (s.drop 2048) := by rw [str_extract, ← hl, List.take_length]
  have l1 : (s.take 2048).length = 2048 := by simp; omega
  have l2 : (s.drop 2048).length = 2048 := by simp; omega
  generalize s.take 2048 = A at *
  generalize s.drop 2048 = B at *
  have HA := Lib.hid (r4half_c A w (by omega) (by omega) (by omega))
  have HB := fun wx => Lib.hid (r4half_c B wx (by omega) (by omega) (by omega))
  clear l1 l2 hl
  go_enter Tryd.func27, Tryd.ntmps27
  go_wp2_with fail
  refine HA.out.mono ?_
  rintro e w1 ⟨hA, c1⟩
  have C1 := Lib.hid c1
  have HB1 := HB w1
  clear c1 HA HB
  rcases hA with ⟨ha, rfl⟩ | ⟨o1, n1, u1, ha, ⟨ta, rfl⟩ | ⟨k1, b1, ta, rfl⟩⟩
  · have H1 := Lib.hid ha
    clear ha
    go_wp2_with fail
    refine HB1.out.mono ?_
    rintro e w2 ⟨hB, c2⟩
    have C2 := Lib.hid (C1.out.trans c2)
    clear c2 HB1
    rcases hB with ⟨hb, rfl⟩ | ⟨o2, n2, u2, hb, ⟨tb, rfl⟩ | ⟨k2, b2, tb, rfl⟩⟩
    all_goals
      clear hb
      try clear tb
      go_wp2_with fail
      go_returns
      exact ⟨.inl ⟨.inl H1.out, rfl⟩, C2.out⟩
  · have H1 := Lib.hid (And.intro ha ta)
    clear ha ta
    go_wp2_with fail
    refine HB1.out.mono ?_
    rintro e w2 ⟨hB, c2⟩
    have C2 := Lib.hid (C1.out.trans c2)
    clear c2 HB1
    rcases hB with ⟨hb, rfl⟩ | ⟨o2, n2, u2, hb, ⟨tb, rfl⟩ | ⟨k2, b2, tb, rfl⟩⟩
    · have H2 := Lib.hid hb
      clear hb
      go_wp2_with fail
      go_returns
      exact ⟨.inl ⟨.inr H2.out, rfl⟩, C2.out⟩
    · have H2 := Lib.hid (And.intro hb tb)
      clear hb tb
      go_wp2_with fail
      go_returns
      exact ⟨.inr ⟨o1, n1, u1, o2, n2, u2, H1.out.1, H2.out.1, .inl ⟨by rw [H1.out.2, thingO_one, H2.out.2]; rfl, rfl⟩⟩, C2.out⟩
    · have H2 := Lib.hid (And.intro hb tb)
      clear hb tb
      go_wp2_with fail
      go_returns
      exact ⟨.inr ⟨o1, n1, u1, o2, n2, u2, H1.out.1, H2.out.1, .inr ⟨1, k2, b2, by omega, by rw [H1.out.2, thingO_one, H2.out.2]; rfl, rfl⟩⟩, C2.out⟩
  · have H1 := Lib.hid (And.intro ha ta)
    clear ha ta
    go_wp2_with fail
    refine HB1.out.mono ?_
    rintro e w2 ⟨hB, c2⟩
    have C2 := Lib.hid (C1.out.trans c2)
    clear c2 HB1
    rcases hB with ⟨hb, rfl⟩ | ⟨o2, n2, u2, hb, ⟨tb, rfl⟩ | ⟨k2, b2, tb, rfl⟩⟩
    · have H2 := Lib.hid hb
      clear hb
      go_wp2_with fail
      go_returns
      exact ⟨.inl ⟨.inr H2.out, rfl⟩, C2.out⟩
    · have H2 := Lib.hid (And.intro hb tb)
      clear hb tb
      go_wp2_with fail
      go_returns
      exact ⟨.inr ⟨o1, n1, u1, o2, n2, u2, H1.out.1, H2.out.1, .inr ⟨0, k1, b1, by omega, by rw [H1.out.2, thingO_one, H2.out.2]; rfl, rfl⟩⟩, C2.out⟩
    · have H2 := Lib.hid (And.intro hb tb)
      clear hb tb
      by_cases hk : k1 < k2
      · have d1 : decide ((k2 : Int) ≤ (k1 : Int)) = false := decide_eq_false (by omega)
        have d2 : decide (k2 ≤ k1) = false := decide_eq_false (by omega)
        have HC : Hid (chooseO (thingO 0 o1) (thingO 1 o2) = some (1, k2, b2)) := Lib.hid (by rw [H1.out.2, thingO_one, H2.out.2]; simp [chooseO, hk])
        clear hk
        go_wp2_with fail
        go_returns
        exact ⟨.inr ⟨o1, n1, u1, o2, n2, u2, H1.out.1, H2.out.1, .inr ⟨1, k2, b2, by omega, HC.out, rfl⟩⟩, C2.out⟩
      · have d1 : decide ((k2 : Int) ≤ (k1 : Int)) = true := decide_eq_true (by omega)
        have d2 : decide (k2 ≤ k1) = true := decide_eq_true (by omega)
        have HC : Hid (chooseO (thingO 0 o1) (thingO 1 o2) = some (0, k1, b1)) := Lib.hid (by rw [H1.out.2, thingO_one, H2.out.2]; simp [chooseO, hk])
        clear hk
        go_wp2_with fail
        go_returns
        exact ⟨.inr ⟨o1, n1, u1, o2, n2, u2, H1.out.1, H2.out.1, .inr ⟨0, k1, b1, by omega, HC.out, rfl⟩⟩, C2.out⟩
end Go.Proofs.YtfigiofiakkbdaaDoor
