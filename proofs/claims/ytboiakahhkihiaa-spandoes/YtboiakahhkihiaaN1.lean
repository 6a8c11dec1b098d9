/-
  Package span: spans, and the small functions.
-/
import Derived.Test.YtboiakahhkihiaaAS
import Derived.Handy
import Derived.Laws.MathBits
namespace Go.Proofs.Ytboiakahhkihiaa
open Go.RowKit
set_option linter.all false

/-- A span. -/
structure Sp where
  lo : Nat
  hi : Nat
  deriving DecidableEq

def allS : Sp := ⟨0, 18446744073709551615⟩
def lowS (s : Sp) : Sp := if 4294967295 < s.hi then ⟨0, 4294967295⟩ else s
def cutS (wide : Bool) (s : Sp) : Sp := if wide then s else lowS s
def joinS (s t : Sp) : Sp := ⟨min s.lo t.lo, max s.hi t.hi⟩
def meetS (s t : Sp) : Sp × Bool := if max s.lo t.lo ≤ min s.hi t.hi then (⟨max s.lo t.lo, min s.hi t.hi⟩, true) else (⟨0, 0⟩, false)

theorem meet_yes {s t : Sp} (h : max s.lo t.lo ≤ min s.hi t.hi) : meetS s t = (⟨max s.lo t.lo, min s.hi t.hi⟩, true) := if_pos h
theorem meet_no {s t : Sp} (h : ¬ max s.lo t.lo ≤ min s.hi t.hi) : meetS s t = (⟨0, 0⟩, false) := if_neg h
theorem retA {x y x' y' : Int} (h1 : x = x') (h2 : y = y') : Ending.returned (.agg #[.int .u64 x, .int .u64 y]) = Ending.returned (.agg #[.int .u64 x', .int .u64 y']) := by rw [h1, h2]
theorem retAb {x y x' y' : Int} {b b' : Bool} (h1 : x = x') (h2 : y = y') (h3 : b = b') : Ending.returned (.tuple #[.agg #[.int .u64 x, .int .u64 y], .bool b]) = Ending.returned (.tuple #[.agg #[.int .u64 x', .int .u64 y'], .bool b']) := by rw [h1, h2, h3]
theorem retB {x y : Bool} (h : x = y) : Ending.returned (.bool x) = Ending.returned (.bool y) := by rw [h]
theorem min_q (a c : Nat) : ∃ q : Nat, (if (c : Int) < (a : Int) then (c : Int) else (a : Int)) = (q : Int) ∧ q = min a c := by
  by_cases h : c < a
  · exact ⟨c, by rw [if_pos (by omega)], by omega⟩
  · exact ⟨a, by rw [if_neg (by omega)], by omega⟩
theorem max_q (b d : Nat) : ∃ q : Nat, (if (b : Int) < (d : Int) then (d : Int) else (b : Int)) = (q : Int) ∧ q = max b d := by
  by_cases h : b < d
  · exact ⟨d, by rw [if_pos (by omega)], by omega⟩
  · exact ⟨b, by rw [if_neg (by omega)], by omega⟩

/-- Two cells, none frozen. -/
theorem Row.two {w : World} {g : Nat} {t : TypeId} {a b : Value} (h : Row w g t #[a, b]) : w.cell? ⟨g, 0, none⟩ = some a ∧ w.cell? ⟨g, 1, none⟩ = some b ∧ w.frozen? ⟨g, 0, none⟩ = false ∧ w.frozen? ⟨g, 1, none⟩ = false := ⟨h.cell 0, h.cell 1, h.soft 0, h.soft 1⟩
/-- The first three blocks that a call has made, behind what changes nothing. -/
theorem frame1 {w w1 : World} {t1 : TypeId} {c1 : Array Value} (hc : Calm (w.alloc (.cells c1 t1)) w1) : Row w1 w.heap.size t1 c1 := (Row.made w t1 c1).keep hc (fun e => e)
theorem frame2 {w w1 : World} {t1 t2 : TypeId} {c1 c2 : Array Value} (hc : Calm ((w.alloc (.cells c1 t1)).alloc (.cells c2 t2)) w1) : Row w1 w.heap.size t1 c1 ∧ Row w1 (w.heap.size + 1) t2 c2 := by
  have e := Row.made (w.alloc (.cells c1 t1)) t2 c2
  simp only [World.size_alloc] at e
  exact ⟨((Row.made w t1 c1).alloc _).keep hc (fun e => e), e.keep hc (fun e => e)⟩
theorem frame3 {w w1 : World} {t1 t2 t3 : TypeId} {c1 c2 c3 : Array Value} (hc : Calm (((w.alloc (.cells c1 t1)).alloc (.cells c2 t2)).alloc (.cells c3 t3)) w1) : Row w1 w.heap.size t1 c1 ∧ Row w1 (w.heap.size + 1) t2 c2 ∧ Row w1 (w.heap.size + 1 + 1) t3 c3 := by
  have e := Row.made (w.alloc (.cells c1 t1)) t2 c2
  have e' := Row.made ((w.alloc (.cells c1 t1)).alloc (.cells c2 t2)) t3 c3
  simp only [World.size_alloc] at e e'
  exact ⟨(((Row.made w t1 c1).alloc _).alloc _).keep hc (fun e => e), (e.alloc _).keep hc (fun e => e), e'.keep hc (fun e => e)⟩

section
variable (s t : Sp) (n a b : Nat) (w : World)
theorem pall_c : Calls Try.prog 21 #[] w fun x w' => x = .returned (.agg #[.int .u64 0, .int .u64 18446744073709551615]) ∧ w' = w.alloc (.cells #[.int .u64 0, .int .u64 18446744073709551615] 27) := by
  go_enter Try.func21, Try.ntmps21
  go_wp2_with fail
  go_returns
  exact ⟨rfl, rfl⟩
theorem pone_c : Calls Try.prog 22 #[.int .u64 (n : Int)] w fun x w' => x = .returned (.agg #[.int .u64 (n : Int), .int .u64 (n : Int)]) ∧ w' = w.alloc (.cells #[.int .u64 (n : Int), .int .u64 (n : Int)] 27) := by
  go_enter Try.func22, Try.ntmps22
  go_wp2_with fail
  go_returns
  exact ⟨rfl, rfl⟩
theorem pright_c : Calls Try.prog 25 #[.agg #[.int .u64 (a : Int), .int .u64 (b : Int)]] w fun x w' => x = .returned (.bool (decide (a ≤ b))) ∧ w' = w.alloc (.cells #[.int .u64 (a : Int), .int .u64 (b : Int)] 27) := by
  go_enter Try.func25, Try.ntmps25
  go_wp2_with fail
  go_returns
  exact ⟨rfl, rfl⟩
theorem pisone_c : Calls Try.prog 32 #[.agg #[.int .u64 (a : Int), .int .u64 (b : Int)]] w fun x w' => x = .returned (.bool (decide (a = b))) ∧ w' = w.alloc (.cells #[.int .u64 (a : Int), .int .u64 (b : Int)] 27) := by
  go_enter Try.func32, Try.ntmps32
  go_wp2_with fail
  go_returns
  exact ⟨retB (by rw [Bool.eq_iff_iff]; simp; omega), rfl⟩
theorem pjoin_c : Calls Try.prog 20 #[.agg #[.int .u64 (s.lo : Int), .int .u64 (s.hi : Int)], .agg #[.int .u64 (t.lo : Int), .int .u64 (t.hi : Int)]] w fun x w' => x = .returned (.agg #[.int .u64 ((joinS s t).lo : Int), .int .u64 ((joinS s t).hi : Int)]) ∧ Calm w w' := by
  go_enter Try.func20, Try.ntmps20
  go_wp2_with fail
  all_goals (go_returns; exact ⟨retA (by simp only [joinS]; omega) (by simp only [joinS]; omega), (by repeat' first | exact Keep.refl _ _ | exact Hid.out (by assumption) | apply Keep.alloc | apply Keep.drew | apply Keep.drewN | (refine Keep.store ?_ (fun hp => absurd hp (Nat.not_lt.2 (by dsimp only; omega))) _))⟩)
theorem phas_c : Calls Try.prog 26 #[.agg #[.int .u64 (s.lo : Int), .int .u64 (s.hi : Int)], .int .u64 (n : Int)] w fun x w' => x = .returned (.bool (decide (s.lo ≤ n ∧ n ≤ s.hi))) ∧ Calm w w' := by
  go_enter Try.func26, Try.ntmps26
  go_wp2_with fail
  all_goals (go_returns; exact ⟨retB (by first | (rw [Bool.eq_iff_iff]; simp; omega) | (symm; apply decide_eq_false; omega)), (by repeat' first | exact Keep.refl _ _ | exact Hid.out (by assumption) | apply Keep.alloc | apply Keep.drew | apply Keep.drewN | (refine Keep.store ?_ (fun hp => absurd hp (Nat.not_lt.2 (by dsimp only; omega))) _))⟩)
set_option maxHeartbeats 1600000 in
theorem pmeet_c : Calls Try.prog 18 #[.agg #[.int .u64 (s.lo : Int), .int .u64 (s.hi : Int)], .agg #[.int .u64 (t.lo : Int), .int .u64 (t.hi : Int)]] w fun x w' => x = .returned (.tuple #[.agg #[.int .u64 (((meetS s t).1).lo : Int), .int .u64 (((meetS s t).1).hi : Int)], .bool (meetS s t).2]) ∧ Calm w w' := by
  go_enter Try.func18, Try.ntmps18
  go_wp2_with fail
  all_goals (
    refine (pright_c _ _ _).mono ?_
    rintro x w1 ⟨rfl, rfl⟩
    go_wp2_with fail
    all_goals (
      go_returns
      rename_i q
      simp only [Bool.not_eq_true', Bool.not_eq_false', decide_eq_true_eq, decide_eq_false_iff_not] at q
      first
        | (rw [meet_yes (by omega)]; exact ⟨retAb (by show _ = ((max s.lo t.lo : Nat) : Int); omega) (by show _ = ((min s.hi t.hi : Nat) : Int); omega) rfl, (by repeat' first | exact Keep.refl _ _ | exact Hid.out (by assumption) | apply Keep.alloc | apply Keep.drew | apply Keep.drewN | (refine Keep.store ?_ (fun hp => absurd hp (Nat.not_lt.2 (by dsimp only; omega))) _))⟩)
        | (rw [meet_no (by omega)]; exact ⟨retAb rfl rfl rfl, (by repeat' first | exact Keep.refl _ _ | exact Hid.out (by assumption) | apply Keep.alloc | apply Keep.drew | apply Keep.drewN | (refine Keep.store ?_ (fun hp => absurd hp (Nat.not_lt.2 (by dsimp only; omega))) _))⟩)))
theorem plow_c : Calls Try.prog 23 #[.agg #[.int .u64 (s.lo : Int), .int .u64 (s.hi : Int)]] w fun x w' => x = .returned (.agg #[.int .u64 ((lowS s).lo : Int), .int .u64 ((lowS s).hi : Int)]) ∧ Calm w w' := by
  go_enter Try.func23, Try.ntmps23
  go_wp2_with fail
  · go_returns
    rw [show lowS s = ⟨0, 4294967295⟩ from if_pos (by omega)]
    exact ⟨rfl, (by repeat' first | exact Keep.refl _ _ | exact Hid.out (by assumption) | apply Keep.alloc | apply Keep.drew | apply Keep.drewN | (refine Keep.store ?_ (fun hp => absurd hp (Nat.not_lt.2 (by dsimp only; omega))) _))⟩
  · go_returns
    rw [show lowS s = s from if_neg (by omega)]
    exact ⟨rfl, (by repeat' first | exact Keep.refl _ _ | exact Hid.out (by assumption) | apply Keep.alloc | apply Keep.drew | apply Keep.drewN | (refine Keep.store ?_ (fun hp => absurd hp (Nat.not_lt.2 (by dsimp only; omega))) _))⟩
theorem pdo1_c : Calls Try.prog 31 #[.agg #[.int .u64 (s.lo : Int), .int .u64 (s.hi : Int)]] w fun x w' => x = .returned (.agg #[.int .u64 (s.lo : Int), .int .u64 (s.hi : Int)]) ∧ Calm w w' := by
  go_enter Try.func31, Try.ntmps31
  go_wp2_with fail
  go_returns
  exact ⟨rfl, (by repeat' first | exact Keep.refl _ _ | exact Hid.out (by assumption) | apply Keep.alloc | apply Keep.drew | apply Keep.drewN | (refine Keep.store ?_ (fun hp => absurd hp (Nat.not_lt.2 (by dsimp only; omega))) _))⟩
theorem of8_c : Calls Try.prog 13 #[.agg #[.int .u64 (s.lo : Int), .int .u64 (s.hi : Int)]] w fun x w' => x = .returned (.agg #[.int .u64 (s.lo : Int), .int .u64 (s.hi : Int)]) ∧ Calm w w' := by
  go_enter Try.func13, Try.ntmps13
  go_wp2_with fail
  go_returns
  exact ⟨rfl, (by repeat' first | exact Keep.refl _ _ | exact Hid.out (by assumption) | apply Keep.alloc | apply Keep.drew | apply Keep.drewN | (refine Keep.store ?_ (fun hp => absurd hp (Nat.not_lt.2 (by dsimp only; omega))) _))⟩
theorem right8_c : Calls Try.prog 30 #[.int .u64 (a : Int), .int .u64 (b : Int)] w fun x w' => x = .returned (.agg #[.int .u64 ((min a b : Nat) : Int), .int .u64 ((max a b : Nat) : Int)]) ∧ Calm w w' := by
  go_enter Try.func30, Try.ntmps30
  go_wp2_with fail
  all_goals (go_returns; exact ⟨retA (by omega) (by omega), (by repeat' first | exact Keep.refl _ _ | exact Hid.out (by assumption) | apply Keep.alloc | apply Keep.drew | apply Keep.drewN | (refine Keep.store ?_ (fun hp => absurd hp (Nat.not_lt.2 (by dsimp only; omega))) _))⟩)
end

end Go.Proofs.Ytboiakahhkihiaa
