/-
  Tables: small maps, texts that fit.
-/
import Derived.Test.YtnlojohjhfpbgaaT17
import Derived.Test.YtnlojohjhfpbgaaMasks
namespace Go.Proofs.Ytnlojohjhfpbgaa
open Go.RowKit Go.Deep
open Go.Maps (Keyed)
set_option linter.all false
attribute [local go_sem] Oper.semAt_some

def smallQ (a b c d : Nat) : MN := ⟨[109], 1 + a % 3, if a % 3 = 0 then 4 else 1 + b, 1 + c, 1 + d % 12⟩
theorem smallQ_ok {a b c d : Nat} (hb : b < 4) (hc : c < 8) : (smallQ a b c d).Ok := by
  have ha := Nat.mod_lt a (show 0 < 3 by omega)
  have hd := Nat.mod_lt d (show 0 < 12 by omega)
  have hk : 1 ≤ (smallQ a b c d).key ∧ (smallQ a b c d).key ≤ 4 := by
    unfold smallQ
    simp only
    split <;> omega
  have hkk : ((smallQ a b c d).kind = 1 ∧ (smallQ a b c d).key = 4) ∨ (smallQ a b c d).kind = 2 ∨ (smallQ a b c d).kind = 3 := by
    unfold smallQ
    simp only
    split <;> omega
  have hv : 1 ≤ (smallQ a b c d).val ∧ (smallQ a b c d).val ≤ 8 := by unfold smallQ; simp only; omega
  have hm : 1 ≤ (smallQ a b c d).max ∧ (smallQ a b c d).max ≤ 12 := by unfold smallQ; simp only; omega
  have hn : nmOk (smallQ a b c d).name = true := by show nmOk [109] = true; decide
  have hl : (smallQ a b c d).name.length ≤ 16 := by show 1 ≤ 16; omega
  generalize smallQ a b c d = q at *
  obtain ⟨nm, K, Y, V, M⟩ := q
  simp only at hk hkk hv hm hn hl
  refine ⟨?_, hl, hkk, by simp only; omega, by simp only; omega, by simp only; omega⟩
  simp only [MP.right, MN.mp, hn, Bool.true_and, Bool.and_eq_true, kdOk, wi]
  exact ⟨decide_eq_true (by omega), decide_eq_true (by omega), decide_eq_true (by omega), decide_eq_true (by omega)⟩

set_option maxHeartbeats 2000000 in
theorem small_c (x y z u : Int) (w : World) : ∃ a b c d : Nat, b < 4 ∧ c < 8 ∧ (x = 0 → a = 0) ∧ (x = 1 → a = 1) ∧ (x = 2 → a = 2) ∧ (y = 0 → b = 0) ∧ (y = 3 → b = 3) ∧ (z = 0 → c = 0) ∧ (u = 5 → d = 5) ∧
    Calls Try.prog 26 #[.int .i64 x, .int .i64 y, .int .i64 z, .int .i64 u] w fun e w' => e = .returned (smallQ a b c d).mp.agg ∧ Calm w w' := by
  have ex := i64_mask x 8 255 (by omega) (by decide)
  have ey := i64_mask y 2 3 (by omega) (by decide)
  have ez := i64_mask z 3 7 (by omega) (by decide)
  have eu := i64_mask u 8 255 (by omega) (by decide)
  obtain ⟨a, ha⟩ : ∃ a : Nat, x % ((2 ^ 8 : Nat) : Int) = (a : Int) := ⟨(x % ((2 ^ 8 : Nat) : Int)).toNat, by omega⟩
  obtain ⟨b, hb⟩ : ∃ a : Nat, y % ((2 ^ 2 : Nat) : Int) = (a : Int) := ⟨(y % ((2 ^ 2 : Nat) : Int)).toNat, by omega⟩
  obtain ⟨c, hc⟩ : ∃ a : Nat, z % ((2 ^ 3 : Nat) : Int) = (a : Int) := ⟨(z % ((2 ^ 3 : Nat) : Int)).toNat, by omega⟩
  obtain ⟨d, hd⟩ : ∃ a : Nat, u % ((2 ^ 8 : Nat) : Int) = (a : Int) := ⟨(u % ((2 ^ 8 : Nat) : Int)).toNat, by omega⟩
  rw [ha] at ex; rw [hb] at ey; rw [hc] at ez; rw [hd] at eu
  refine ⟨a, b, c, d, by omega, by omega, fun e => by subst e; omega, fun e => by subst e; omega, fun e => by subst e; omega, fun e => by subst e; omega, fun e => by subst e; omega, fun e => by subst e; omega, fun e => by subst e; omega, ?_⟩
  have hba : a < 256 := by omega
  have hbd : d < 256 := by omega
  have hbb : b < 4 := by omega
  have hbc : c < 8 := by omega
  clear ha hb hc hd
  by_cases h3 : a % 3 = 0
  · have i1 : ((1 + (a : Int) % 3 == 1) : Bool) = true := by rw [beq_iff_eq]; omega
    have R := (Row.made w 52 #[.string ⟨#[109]⟩, .int .i64 (1 + (a : Int) % 3), .int .i64 4, .int .i64 (1 + (c : Int)), .int .i64 (1 + (d : Int) % 12)]).alloc (.cells #[.string ⟨#[109]⟩, .int .i64 (1 + (a : Int) % 3), .int .i64 4, .int .i64 (1 + (c : Int)), .int .i64 (1 + (d : Int) % 12)] 52)
    have HQ : Hid ((smallQ a b c d).mp.agg = .agg #[.string ⟨#[109]⟩, .int .i64 (1 + (a : Int) % 3), .int .i64 4, .int .i64 (1 + (c : Int)), .int .i64 (1 + (d : Int) % 12)]) := Lib.hid (by
      simp only [smallQ, MN.mp, MP.agg, MP.vals]
      have e1 : ((1 + a % 3 : Nat) : Int) = 1 + (a : Int) % 3 := by omega
      have e2 : ((1 + c : Nat) : Int) = 1 + (c : Int) := by omega
      have e3 : ((1 + d % 12 : Nat) : Int) = 1 + (d : Int) % 12 := by omega
      have e4 : ((1 + b : Nat) : Int) = 1 + (b : Int) := by omega
      rw [if_pos h3, e1, e2, e3]
      rfl)
    have HR := Lib.hid R
    have HC : Hid (Calm w ((w.alloc (.cells #[.string ⟨#[109]⟩, .int .i64 (1 + (a : Int) % 3), .int .i64 4, .int .i64 (1 + (c : Int)), .int .i64 (1 + (d : Int) % 12)] 52)).alloc (.cells #[.string ⟨#[109]⟩, .int .i64 (1 + (a : Int) % 3), .int .i64 4, .int .i64 (1 + (c : Int)), .int .i64 (1 + (d : Int) % 12)] 52))) := Lib.hid (((Keep.refl _ w).alloc _).alloc _)
    clear R h3
    go_enter Try.func26, Try.ntmps26
    go_wp2
    have d0 := (HR.out.cell 0).trans rfl
    have d1 := (HR.out.cell 1).trans rfl
    have d2 := (HR.out.cell 2).trans rfl
    have d3 := (HR.out.cell 3).trans rfl
    have d4 := (HR.out.cell 4).trans rfl
    refine bodyPost_ret (by simp [results, Try.results26, go_sem, d0, d1, d2, d3, d4]; try rfl) rfl ?_
    exact ⟨by rw [HQ.out], HC.out⟩
  · have i1 : ((1 + (a : Int) % 3 == 1) : Bool) = false := by rw [beq_eq_false_iff_ne]; omega
    have R := (Row.made w 52 #[.string ⟨#[109]⟩, .int .i64 (1 + (a : Int) % 3), .int .i64 (1 + (b : Int)), .int .i64 (1 + (c : Int)), .int .i64 (1 + (d : Int) % 12)]).alloc (.cells #[.string ⟨#[109]⟩, .int .i64 (1 + (a : Int) % 3), .int .i64 (1 + (b : Int)), .int .i64 (1 + (c : Int)), .int .i64 (1 + (d : Int) % 12)] 52)
    have HQ : Hid ((smallQ a b c d).mp.agg = .agg #[.string ⟨#[109]⟩, .int .i64 (1 + (a : Int) % 3), .int .i64 (1 + (b : Int)), .int .i64 (1 + (c : Int)), .int .i64 (1 + (d : Int) % 12)]) := Lib.hid (by
      simp only [smallQ, MN.mp, MP.agg, MP.vals]
      have e1 : ((1 + a % 3 : Nat) : Int) = 1 + (a : Int) % 3 := by omega
      have e2 : ((1 + c : Nat) : Int) = 1 + (c : Int) := by omega
      have e3 : ((1 + d % 12 : Nat) : Int) = 1 + (d : Int) % 12 := by omega
      have e4 : ((1 + b : Nat) : Int) = 1 + (b : Int) := by omega
      rw [if_neg h3, e1, e2, e3, e4]
      rfl)
    have HR := Lib.hid R
    have HC : Hid (Calm w ((w.alloc (.cells #[.string ⟨#[109]⟩, .int .i64 (1 + (a : Int) % 3), .int .i64 (1 + (b : Int)), .int .i64 (1 + (c : Int)), .int .i64 (1 + (d : Int) % 12)] 52)).alloc (.cells #[.string ⟨#[109]⟩, .int .i64 (1 + (a : Int) % 3), .int .i64 (1 + (b : Int)), .int .i64 (1 + (c : Int)), .int .i64 (1 + (d : Int) % 12)] 52))) := Lib.hid (((Keep.refl _ w).alloc _).alloc _)
    clear R h3
    go_enter Try.func26, Try.ntmps26
    go_wp2
    have d0 := (HR.out.cell 0).trans rfl
    have d1 := (HR.out.cell 1).trans rfl
    have d2 := (HR.out.cell 2).trans rfl
    have d3 := (HR.out.cell 3).trans rfl
    have d4 := (HR.out.cell 4).trans rfl
    refine bodyPost_ret (by simp [results, Try.results26, go_sem, d0, d1, d2, d3, d4]; try rfl) rfl ?_
    exact ⟨by rw [HQ.out], HC.out⟩

/-- A text, cut or filled. -/
def fitL (s : List UInt8) (n : Nat) : List UInt8 := (s.take n ++ List.replicate n 0).take n
theorem fitL_len (s : List UInt8) (n : Nat) : (fitL s n).length = n := by simp [fitL]
set_option maxHeartbeats 2000000 in
theorem fit_c (s : List UInt8) (n : Nat) (hn : n ≤ 1000) (hs : s.length ≤ maxLen) (w : World) :
    Calls Try.prog 30 #[.string (str s), .int .i64 (n : Int)] w fun e w' => e = .returned (.string (str (fitL s n))) ∧ Calm w w' := by
  have hz := str_size s
  unfold maxLen at hs
  obtain ⟨p, hp, p1, p2, p3⟩ := cut_len s.length n
  have hp2 : (if n < s.length then (n : Int) else (s.length : Int)) = (p : Int) := by
    rw [← hp]
    by_cases h : n < s.length
    · rw [if_pos h, if_pos (by omega)]
    · rw [if_neg h, if_neg (by omega)]
  have hx1 : (str s).extract 0 p = str (s.take p) := by rw [str_extract]; simp
  have hmk := fun W => run_make8 W n (by omega)
  have hcv : Sem.run Try.prog (convert 22 9 (.slice (some ⟨w.heap.size, 0, none⟩) n n)) (w.alloc (.cells (zeros8 n) 5)).drew = .ok (.string (str (List.replicate n 0))) (w.alloc (.cells (zeros8 n) 5)).drew := conv_rd (Rd.made w (List.replicate n 0) n (zeros8 n) (by simp) (zeros8_bv n) (by omega)).drew
  have hap : str (s.take p) ++ str (List.replicate n 0) = str (s.take p ++ List.replicate n 0) := str_app _ _
  have hl2 : (str (s.take p ++ List.replicate n 0)).size = p + n := by rw [str_size]; simp; omega
  have hx2 : (str (s.take p ++ List.replicate n 0)).extract 0 n = str (fitL s n) := by
    rw [str_extract, List.drop_zero]
    have e : (s.take p ++ List.replicate n (0 : UInt8)).take n = fitL s n := by
      unfold fitL
      by_cases h : s.length < n
      · rw [List.take_of_length_le (i := p) (by omega), List.take_of_length_le (l := s) (by omega)]
      · rw [show p = n by omega]
    rw [e]
  have i1 : (p : Int) ≤ (s.length : Int) := by omega
  have i2 : (n : Int) ≤ (p : Int) + (n : Int) := by omega
  have z1 : (str (s.take p)).size = p := by rw [str_size, List.length_take]; omega
  have z2 : (str (List.replicate n (0 : UInt8))).size = n := by rw [str_size]; simp
  have i3 : ¬ 9223372036854775807 < p + n := by omega
  generalize hF : str (fitL s n) = F at *
  clear p3 hp
  go_enter Try.func30, Try.ntmps30
  go_wp2_with fail
  go_region
  all_goals
    go_wp2
    go_ret
    exact ⟨rfl, ((Keep.refl _ w).alloc _).drew⟩
end Go.Proofs.Ytnlojohjhfpbgaa
