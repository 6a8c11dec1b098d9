/-
  The walk of SpanOnes.
-/
import Derived.Test.YtboiakahhkihiaaN9
import Derived.Test.YtboiakahhkihiaaNQ
namespace Go.Proofs.Ytboiakahhkihiaa
open Go.RowKit
set_option linter.all false

theorem do_one (wide : Bool) {op p q : Nat} (ho : isO op = true) (lp : p < 2 ^ bW wide) (lq : q < 2 ^ bW wide) : doS wide op ⟨p, p⟩ ⟨q, q⟩ = ⟨D (bW wide) op p q, D (bW wide) op p q⟩ := by
  have c : ∀ n, n < 2 ^ bW wide → cutS wide ⟨n, n⟩ = ⟨n, n⟩ := fun n hn => by
    cases wide
    · exact low_id hn
    · rfl
  unfold doS
  rw [c p lp, c q lq, if_pos ⟨ho, rfl, rfl⟩]
theorem where_one (op : Nat) {a b : Nat} (ha : a < 18446744073709551616) (hb : b < 18446744073709551616) :
    if op ∈ [16, 80, 32, 48, 160, 176] then isT op = true ∧ (whereS op ⟨a, a⟩ ⟨b, b⟩).2 = T 64 op a b ∧ (T 64 op a b = true → (whereS op ⟨a, a⟩ ⟨b, b⟩).1 = ⟨a, a⟩) else (whereS op ⟨a, a⟩ ⟨b, b⟩).2 = true ∧ (whereS op ⟨a, a⟩ ⟨b, b⟩).1 = ⟨a, a⟩ := by
  have ex : a % 2 ^ 64 = a := Nat.mod_eq_of_lt ha
  have ey : b % 2 ^ 64 = b := Nat.mod_eq_of_lt hb
  have mk : ∀ c d : Nat, (meetS ⟨a, a⟩ ⟨c, d⟩).2 = decide (c ≤ a ∧ a ≤ d) ∧ (c ≤ a ∧ a ≤ d → (meetS ⟨a, a⟩ ⟨c, d⟩).1 = ⟨a, a⟩) := fun c d => by
    by_cases h : c ≤ a ∧ a ≤ d
    · rw [meet_yes (s := ⟨a, a⟩) (t := ⟨c, d⟩) (by show max a c ≤ min a d; omega), decide_eq_true h]
      exact ⟨rfl, fun _ => by simp only [Sp.mk.injEq]; omega⟩
    · rw [meet_no (s := ⟨a, a⟩) (t := ⟨c, d⟩) (by show ¬ max a c ≤ min a d; omega), decide_eq_false h]
      exact ⟨rfl, fun h' => absurd h' h⟩
  unfold T
  rw [ex, ey]
  by_cases c : op = 16
  · subst c
    rw [if_pos (by decide)]
    obtain ⟨m1, m2⟩ := mk b b
    refine ⟨rfl, m1.trans ?_, fun h => m2 ?_⟩
    · show decide (b ≤ a ∧ a ≤ b) = decide (a = b)
      rw [decide_eq_decide]; omega
    · have : a = b := of_decide_eq_true h
      omega
  by_cases c : op = 80
  · subst c
    rw [if_pos (by decide)]
    show _ ∧ (otherS ⟨a, a⟩ ⟨b, b⟩).2 = decide (¬ a = b) ∧ (decide (¬ a = b) = true → (otherS ⟨a, a⟩ ⟨b, b⟩).1 = ⟨a, a⟩)
    unfold otherS
    by_cases e : a = b
    · subst e
      simp
      rfl
    · simp [e]
      rfl
  by_cases c : op = 32
  · subst c
    rw [if_pos (by decide)]
    show _ ∧ (if b = 18446744073709551615 then ((⟨0, 0⟩, false) : Sp × Bool) else meetS ⟨a, a⟩ ⟨b + 1, 18446744073709551615⟩).2 = decide (b < a) ∧ (decide (b < a) = true → (if b = 18446744073709551615 then ((⟨0, 0⟩, false) : Sp × Bool) else meetS ⟨a, a⟩ ⟨b + 1, 18446744073709551615⟩).1 = ⟨a, a⟩)
    by_cases e : b = 18446744073709551615
    · rw [if_pos e, decide_eq_false (by omega)]
      exact ⟨rfl, rfl, fun h => by cases h⟩
    · rw [if_neg e]
      obtain ⟨m1, m2⟩ := mk (b + 1) 18446744073709551615
      refine ⟨rfl, m1.trans ?_, fun h => m2 ?_⟩
      · rw [decide_eq_decide]; omega
      · have : b < a := of_decide_eq_true h
        omega
  by_cases c : op = 48
  · subst c
    rw [if_pos (by decide)]
    obtain ⟨m1, m2⟩ := mk b 18446744073709551615
    refine ⟨rfl, m1.trans ?_, fun h => m2 ?_⟩
    · show _ = decide (b ≤ a)
      rw [decide_eq_decide]; omega
    · have : b ≤ a := of_decide_eq_true h
      omega
  by_cases c : op = 160
  · subst c
    rw [if_pos (by decide)]
    show _ ∧ (if b = 0 then ((⟨0, 0⟩, false) : Sp × Bool) else meetS ⟨a, a⟩ ⟨0, b - 1⟩).2 = decide (a < b) ∧ (decide (a < b) = true → (if b = 0 then ((⟨0, 0⟩, false) : Sp × Bool) else meetS ⟨a, a⟩ ⟨0, b - 1⟩).1 = ⟨a, a⟩)
    by_cases e : b = 0
    · rw [if_pos e, decide_eq_false (by omega)]
      exact ⟨rfl, rfl, fun h => by cases h⟩
    · rw [if_neg e]
      obtain ⟨m1, m2⟩ := mk 0 (b - 1)
      refine ⟨rfl, m1.trans ?_, fun h => m2 ?_⟩
      · rw [decide_eq_decide]; omega
      · have : a < b := of_decide_eq_true h
        omega
  by_cases c : op = 176
  · subst c
    rw [if_pos (by decide)]
    obtain ⟨m1, m2⟩ := mk 0 b
    refine ⟨rfl, m1.trans ?_, fun h => m2 ?_⟩
    · show _ = decide (a ≤ b)
      rw [decide_eq_decide]; omega
    · have : a ≤ b := of_decide_eq_true h
      omega
  · rw [if_neg (by simp only [List.mem_cons, List.not_mem_nil, or_false]; omega)]
    have e : whereS op ⟨a, a⟩ ⟨b, b⟩ = (⟨a, a⟩, true) := by unfold whereS; simp only [*, if_false]
    rw [e]
    exact ⟨rfl, rfl⟩

set_option maxHeartbeats 12800000 in
set_option maxRecDepth 20000 in
theorem spanOnes_tt {op a b : Nat} (hk : isO op = true) (ha : a < 18446744073709551616) (hb : b < 18446744073709551616) (w : World) : Calls Try.prog 7 #[.int .u8 (op : Int), .bool true, .int .u64 (a : Int), .int .u64 (b : Int)] w fun e w' => e = .returned (.bool true) ∧ Calm w w' := by
  obtain ⟨p, ep⟩ : ∃ p, p = a := ⟨_, rfl⟩
  obtain ⟨q, eq⟩ : ∃ q, q = b := ⟨_, rfl⟩
  have lp : p < 2 ^ bW true := by rw [ep]; exact ha
  have lq : q < 2 ^ bW true := by rw [eq]; exact hb
  have dD : D (bW true) op p q = D (bW true) op a b := by rw [ep, eq]
  have l64 : 2 ^ bW true ≤ 18446744073709551616 := by decide
  have okp : (Sp.mk p p).Ok := ⟨Nat.le_refl _, Nat.lt_of_lt_of_le lp l64⟩
  have okq : (Sp.mk q q).Ok := ⟨Nat.le_refl _, Nat.lt_of_lt_of_le lq l64⟩
  have oka : (Sp.mk a a).Ok := ⟨Nat.le_refl _, ha⟩
  have okb : (Sp.mk b b).Ok := ⟨Nat.le_refl _, hb⟩
  obtain ⟨x, ex⟩ : ∃ x, x = D (bW true) op a b := ⟨_, rfl⟩
  obtain ⟨s, es⟩ : ∃ s, s = doS true op ⟨p, p⟩ ⟨q, q⟩ := ⟨_, rfl⟩
  obtain ⟨t, et⟩ : ∃ t, t = (whereS op ⟨a, a⟩ ⟨b, b⟩).1 := ⟨_, rfl⟩
  obtain ⟨u, eu⟩ : ∃ u, u = (whereS op ⟨a, a⟩ ⟨b, b⟩).2 := ⟨_, rfl⟩
  obtain ⟨h, eh⟩ : ∃ h, h = T 64 op a b := ⟨_, rfl⟩
  obtain ⟨k, ek⟩ : ∃ k, k = isT op := ⟨_, rfl⟩
  have KD : Hid (∀ w, Calls Try.prog 27 #[.int .u8 (op : Int), .bool true, .int .u64 (a : Int), .int .u64 (b : Int)] w fun e w' => e = .returned (.tuple #[.int .u64 (x : Int), .bool true]) ∧ Calm w w') := Lib.hid fun w => by
    have k := do_c (op := op) true w ha hb
    rw [hk, ← ex] at k
    exact k
  have KP : Hid (∀ w, Calls Try.prog 22 #[.int .u64 (p : Int)] w fun e w' => e = .returned (.agg #[.int .u64 (p : Int), .int .u64 (p : Int)]) ∧ w' = w.alloc (.cells #[.int .u64 (p : Int), .int .u64 (p : Int)] 27)) := Lib.hid (pone_c p)
  have KQ : Hid (∀ w, Calls Try.prog 22 #[.int .u64 (q : Int)] w fun e w' => e = .returned (.agg #[.int .u64 (q : Int), .int .u64 (q : Int)]) ∧ w' = w.alloc (.cells #[.int .u64 (q : Int), .int .u64 (q : Int)] 27)) := Lib.hid (pone_c q)
  have KA : Hid (∀ w, Calls Try.prog 22 #[.int .u64 (a : Int)] w fun e w' => e = .returned (.agg #[.int .u64 (a : Int), .int .u64 (a : Int)]) ∧ w' = w.alloc (.cells #[.int .u64 (a : Int), .int .u64 (a : Int)] 27)) := Lib.hid (pone_c a)
  have KB : Hid (∀ w, Calls Try.prog 22 #[.int .u64 (b : Int)] w fun e w' => e = .returned (.agg #[.int .u64 (b : Int), .int .u64 (b : Int)]) ∧ w' = w.alloc (.cells #[.int .u64 (b : Int), .int .u64 (b : Int)] 27)) := Lib.hid (pone_c b)
  have KS : Hid (∀ w, Calls Try.prog 14 #[.int .u8 (op : Int), .bool true, .agg #[.int .u64 (p : Int), .int .u64 (p : Int)], .agg #[.int .u64 (q : Int), .int .u64 (q : Int)]] w fun e w' => e = .returned (.agg #[.int .u64 (s.lo : Int), .int .u64 (s.hi : Int)]) ∧ Calm w w') := Lib.hid (by rw [es]; exact fun w => pdo_c true okp okq w)
  have KT : Hid (∀ w, Calls Try.prog 29 #[.int .u8 (op : Int), .bool true, .int .u64 (a : Int), .int .u64 (b : Int)] w fun e w' => e = .returned (.tuple #[.bool h, .bool k]) ∧ Calm w w') := Lib.hid (by rw [eh, ek]; exact fun w => test_c true w ha hb)
  have KW : Hid (∀ w, Calls Try.prog 16 #[.int .u8 (op : Int), .agg #[.int .u64 (a : Int), .int .u64 (a : Int)], .agg #[.int .u64 (b : Int), .int .u64 (b : Int)]] w fun e w' => e = .returned (.tuple #[.agg #[.int .u64 (t.lo : Int), .int .u64 (t.hi : Int)], .bool u]) ∧ Calm w w') := Lib.hid (by rw [et, eu]; exact fun w => pwhere_c w oka okb)
  have eS : s = ⟨x, x⟩ := by
    have k := do_one true hk lp lq
    rw [dD, ← ex, ← es] at k
    exact k
  have HS : s.lo = x ∧ s.hi = x := by rw [eS]; exact ⟨rfl, rfl⟩
  have HT : Hid (if op ∈ [16, 80, 32, 48, 160, 176] then k = true ∧ u = h ∧ (h = true → t = ⟨a, a⟩) else u = true ∧ t = ⟨a, a⟩) := Lib.hid (by rw [et, eu, eh, ek]; exact where_one op ha hb)
  obtain ⟨s1, s2⟩ := HS
  have n1 : ((s.lo : Int) != (x : Int)) = false := by rw [s1]; simp
  have n2 : ((s.hi : Int) != (x : Int)) = false := by rw [s2]; simp
  clear hk ha hb  lp lq dD l64 okp okq oka okb ex es et eu eh ek eS s1 s2
  subst ep eq
  go_enter Try.func7, Try.ntmps7
  have E := Lib.hid (show Calm w w from Keep.refl _ _)
  go_wp2_with fail
  refine (shown8_c _).mono ?_
  rintro ze w1 ⟨rfl, hc⟩
  replace E := Lib.hid (show Calm w w1 from E.out.trans (hc))
  clear hc
  go_wp2_with fail
  refine (KD.out _).mono ?_
  rintro ze w2 ⟨rfl, hc⟩
  replace E := Lib.hid (show Calm w w2 from E.out.trans (hc))
  clear hc
  go_wp2_with fail
  refine (KP.out _).mono ?_
  rintro ze w3 ⟨rfl, hc⟩
  replace hc : Calm w2 w3 := by rw [hc]; exact (Keep.refl _ _).alloc _
  replace E := Lib.hid (show Calm w w3 from E.out.trans (hc))
  clear hc
  go_wp2_with fail
  refine (KQ.out _).mono ?_
  rintro ze w4 ⟨rfl, hc⟩
  replace hc : Calm w3 w4 := by rw [hc]; exact (Keep.refl _ _).alloc _
  replace E := Lib.hid (show Calm w w4 from E.out.trans (hc))
  clear hc
  go_wp2_with fail
  refine (KS.out _).mono ?_
  rintro ze w5 ⟨rfl, hc⟩
  replace E := Lib.hid (show Calm w w5 from E.out.trans (hc))
  clear hc
  go_upto_region 9 with fail
  have hC : Calm w5 (w5.alloc (.cells #[.int .u64 (s.lo : Int), .int .u64 (s.hi : Int)] 27)) := (Keep.refl _ _).alloc _
  have hA : At (w5.alloc (.cells #[.int .u64 (s.lo : Int), .int .u64 (s.hi : Int)] 27)) w5.heap.size s := Row.made w5 _ _
  have hO : w.heap.size ≤ w5.heap.size := E.out.size
  obtain ⟨g1, hg1⟩ : ∃ zg, zg = w5.heap.size := ⟨_, rfl⟩
  obtain ⟨w6, hw6⟩ : ∃ zz, zz = w5.alloc (.cells #[.int .u64 (s.lo : Int), .int .u64 (s.hi : Int)] 27) := ⟨_, rfl⟩
  replace hO : w.heap.size ≤ g1 := by rw [hg1]; exact hO
  rw [← hg1] at hA ⊢
  rw [← hw6] at hA hC ⊢
  clear hg1 hw6
  have O1 := Lib.hid hO
  clear hO
  replace E := Lib.hid (show Calm w w6 from E.out.trans (hC))
  replace E := Lib.hid (show Calm w w6 ∧ At w6 g1 s from ⟨E.out, hA⟩)
  clear hC hA
  obtain ⟨g1_0, g1_1, g1_2, g1_3⟩ := At.two (E.out.2)
  go_wp2_with fail
  clear g1_0 g1_1 g1_2 g1_3
  refine (KT.out _).mono ?_
  rintro ze w7 ⟨rfl, hc⟩
  replace E := Lib.hid (show Calm w w7 ∧ At w7 g1 s from ⟨E.out.1.trans (hc), At.calm (E.out.2) (hc)⟩)
  clear hc
  obtain ⟨g1_0, g1_1, g1_2, g1_3⟩ := At.two (E.out.2)
  go_wp2_with fail
  clear g1_0 g1_1 g1_2 g1_3
  refine (KA.out _).mono ?_
  rintro ze w8 ⟨rfl, hc⟩
  replace hc : Calm w7 w8 := by rw [hc]; exact (Keep.refl _ _).alloc _
  replace E := Lib.hid (show Calm w w8 ∧ At w8 g1 s from ⟨E.out.1.trans (hc), At.calm (E.out.2) (hc)⟩)
  clear hc
  obtain ⟨g1_0, g1_1, g1_2, g1_3⟩ := At.two (E.out.2)
  go_wp2_with fail
  clear g1_0 g1_1 g1_2 g1_3
  refine (KB.out _).mono ?_
  rintro ze w9 ⟨rfl, hc⟩
  replace hc : Calm w8 w9 := by rw [hc]; exact (Keep.refl _ _).alloc _
  replace E := Lib.hid (show Calm w w9 ∧ At w9 g1 s from ⟨E.out.1.trans (hc), At.calm (E.out.2) (hc)⟩)
  clear hc
  obtain ⟨g1_0, g1_1, g1_2, g1_3⟩ := At.two (E.out.2)
  go_wp2_with fail
  clear g1_0 g1_1 g1_2 g1_3
  refine (KW.out _).mono ?_
  rintro ze w10 ⟨rfl, hc⟩
  replace E := Lib.hid (show Calm w w10 ∧ At w10 g1 s from ⟨E.out.1.trans (hc), At.calm (E.out.2) (hc)⟩)
  clear hc
  obtain ⟨g1_0, g1_1, g1_2, g1_3⟩ := At.two (E.out.2)
  go_upto_region 13 with fail
  clear g1_0 g1_1 g1_2 g1_3
  have hC : Calm w10 (w10.alloc (.cells #[.int .u64 (t.lo : Int), .int .u64 (t.hi : Int)] 27)) := (Keep.refl _ _).alloc _
  have hA : At (w10.alloc (.cells #[.int .u64 (t.lo : Int), .int .u64 (t.hi : Int)] 27)) w10.heap.size t := Row.made w10 _ _
  have hO : w.heap.size ≤ w10.heap.size ∧ g1 < w10.heap.size := ⟨E.out.1.size, At.lt (E.out.2)⟩
  obtain ⟨g2, hg2⟩ : ∃ zg, zg = w10.heap.size := ⟨_, rfl⟩
  obtain ⟨w11, hw11⟩ : ∃ zz, zz = w10.alloc (.cells #[.int .u64 (t.lo : Int), .int .u64 (t.hi : Int)] 27) := ⟨_, rfl⟩
  replace hO : w.heap.size ≤ g2 ∧ g1 < g2 := by rw [hg2]; exact hO
  rw [← hg2] at hA ⊢
  rw [← hw11] at hA hC ⊢
  clear hg2 hw11
  have O2 := Lib.hid hO
  clear hO
  replace E := Lib.hid (show Calm w w11 ∧ At w11 g1 s from ⟨E.out.1.trans (hC), At.calm (E.out.2) (hC)⟩)
  replace E := Lib.hid (show Calm w w11 ∧ At w11 g1 s ∧ At w11 g2 t from ⟨E.out.1, E.out.2, hA⟩)
  clear hC hA
  by_cases c16 : op = 16
  · subst c16
    obtain ⟨rfl, rfl, ht⟩ := HT.out
    cases u with
    | false =>
      clear ht
      obtain ⟨g1_0, g1_1, g1_2, g1_3⟩ := At.two (E.out.2.1)
      obtain ⟨g2_0, g2_1, g2_2, g2_3⟩ := At.two (E.out.2.2)
      go_wp2_with fail
      clear g1_0 g1_1 g1_2 g1_3 g2_0 g2_1 g2_2 g2_3
      go_returns
      exact ⟨rfl, E.out.1⟩
    | true =>
      have ht := ht rfl
      subst ht
      obtain ⟨g1_0, g1_1, g1_2, g1_3⟩ := At.two (E.out.2.1)
      obtain ⟨g2_0, g2_1, g2_2, g2_3⟩ := At.two (E.out.2.2)
      go_wp2_with fail
      clear g1_0 g1_1 g1_2 g1_3 g2_0 g2_1 g2_2 g2_3
      go_returns
      exact ⟨rfl, E.out.1⟩
  by_cases c80 : op = 80
  · subst c80
    obtain ⟨rfl, rfl, ht⟩ := HT.out
    cases u with
    | false =>
      clear ht
      obtain ⟨g1_0, g1_1, g1_2, g1_3⟩ := At.two (E.out.2.1)
      obtain ⟨g2_0, g2_1, g2_2, g2_3⟩ := At.two (E.out.2.2)
      go_wp2_with fail
      clear g1_0 g1_1 g1_2 g1_3 g2_0 g2_1 g2_2 g2_3
      go_returns
      exact ⟨rfl, E.out.1⟩
    | true =>
      have ht := ht rfl
      subst ht
      obtain ⟨g1_0, g1_1, g1_2, g1_3⟩ := At.two (E.out.2.1)
      obtain ⟨g2_0, g2_1, g2_2, g2_3⟩ := At.two (E.out.2.2)
      go_wp2_with fail
      clear g1_0 g1_1 g1_2 g1_3 g2_0 g2_1 g2_2 g2_3
      go_returns
      exact ⟨rfl, E.out.1⟩
  by_cases c32 : op = 32
  · subst c32
    obtain ⟨rfl, rfl, ht⟩ := HT.out
    cases u with
    | false =>
      clear ht
      obtain ⟨g1_0, g1_1, g1_2, g1_3⟩ := At.two (E.out.2.1)
      obtain ⟨g2_0, g2_1, g2_2, g2_3⟩ := At.two (E.out.2.2)
      go_wp2_with fail
      clear g1_0 g1_1 g1_2 g1_3 g2_0 g2_1 g2_2 g2_3
      go_returns
      exact ⟨rfl, E.out.1⟩
    | true =>
      have ht := ht rfl
      subst ht
      obtain ⟨g1_0, g1_1, g1_2, g1_3⟩ := At.two (E.out.2.1)
      obtain ⟨g2_0, g2_1, g2_2, g2_3⟩ := At.two (E.out.2.2)
      go_wp2_with fail
      clear g1_0 g1_1 g1_2 g1_3 g2_0 g2_1 g2_2 g2_3
      go_returns
      exact ⟨rfl, E.out.1⟩
  by_cases c48 : op = 48
  · subst c48
    obtain ⟨rfl, rfl, ht⟩ := HT.out
    cases u with
    | false =>
      clear ht
      obtain ⟨g1_0, g1_1, g1_2, g1_3⟩ := At.two (E.out.2.1)
      obtain ⟨g2_0, g2_1, g2_2, g2_3⟩ := At.two (E.out.2.2)
      go_wp2_with fail
      clear g1_0 g1_1 g1_2 g1_3 g2_0 g2_1 g2_2 g2_3
      go_returns
      exact ⟨rfl, E.out.1⟩
    | true =>
      have ht := ht rfl
      subst ht
      obtain ⟨g1_0, g1_1, g1_2, g1_3⟩ := At.two (E.out.2.1)
      obtain ⟨g2_0, g2_1, g2_2, g2_3⟩ := At.two (E.out.2.2)
      go_wp2_with fail
      clear g1_0 g1_1 g1_2 g1_3 g2_0 g2_1 g2_2 g2_3
      go_returns
      exact ⟨rfl, E.out.1⟩
  by_cases c160 : op = 160
  · subst c160
    obtain ⟨rfl, rfl, ht⟩ := HT.out
    cases u with
    | false =>
      clear ht
      obtain ⟨g1_0, g1_1, g1_2, g1_3⟩ := At.two (E.out.2.1)
      obtain ⟨g2_0, g2_1, g2_2, g2_3⟩ := At.two (E.out.2.2)
      go_wp2_with fail
      clear g1_0 g1_1 g1_2 g1_3 g2_0 g2_1 g2_2 g2_3
      go_returns
      exact ⟨rfl, E.out.1⟩
    | true =>
      have ht := ht rfl
      subst ht
      obtain ⟨g1_0, g1_1, g1_2, g1_3⟩ := At.two (E.out.2.1)
      obtain ⟨g2_0, g2_1, g2_2, g2_3⟩ := At.two (E.out.2.2)
      go_wp2_with fail
      clear g1_0 g1_1 g1_2 g1_3 g2_0 g2_1 g2_2 g2_3
      go_returns
      exact ⟨rfl, E.out.1⟩
  by_cases c176 : op = 176
  · subst c176
    obtain ⟨rfl, rfl, ht⟩ := HT.out
    cases u with
    | false =>
      clear ht
      obtain ⟨g1_0, g1_1, g1_2, g1_3⟩ := At.two (E.out.2.1)
      obtain ⟨g2_0, g2_1, g2_2, g2_3⟩ := At.two (E.out.2.2)
      go_wp2_with fail
      clear g1_0 g1_1 g1_2 g1_3 g2_0 g2_1 g2_2 g2_3
      go_returns
      exact ⟨rfl, E.out.1⟩
    | true =>
      have ht := ht rfl
      subst ht
      obtain ⟨g1_0, g1_1, g1_2, g1_3⟩ := At.two (E.out.2.1)
      obtain ⟨g2_0, g2_1, g2_2, g2_3⟩ := At.two (E.out.2.2)
      go_wp2_with fail
      clear g1_0 g1_1 g1_2 g1_3 g2_0 g2_1 g2_2 g2_3
      go_returns
      exact ⟨rfl, E.out.1⟩
  have ht := HT.out
  rw [if_neg (by simp only [List.mem_cons, List.not_mem_nil, or_false]; omega)] at ht
  obtain ⟨rfl, rfl⟩ := ht
  have i16 : ((op : Int) == 16) = false := by simp; omega
  have i80 : ((op : Int) == 80) = false := by simp; omega
  have i32 : ((op : Int) == 32) = false := by simp; omega
  have i48 : ((op : Int) == 48) = false := by simp; omega
  have i160 : ((op : Int) == 160) = false := by simp; omega
  have i176 : ((op : Int) == 176) = false := by simp; omega
  clear HT c16 c80 c32 c48 c160 c176
  cases k with
  | false =>
    obtain ⟨g1_0, g1_1, g1_2, g1_3⟩ := At.two (E.out.2.1)
    obtain ⟨g2_0, g2_1, g2_2, g2_3⟩ := At.two (E.out.2.2)
    go_wp2_with fail
    clear g1_0 g1_1 g1_2 g1_3 g2_0 g2_1 g2_2 g2_3
    go_returns
    exact ⟨rfl, E.out.1⟩
  | true =>
    cases h with
    | false =>
      obtain ⟨g1_0, g1_1, g1_2, g1_3⟩ := At.two (E.out.2.1)
      obtain ⟨g2_0, g2_1, g2_2, g2_3⟩ := At.two (E.out.2.2)
      go_wp2_with fail
      clear g1_0 g1_1 g1_2 g1_3 g2_0 g2_1 g2_2 g2_3
      go_returns
      exact ⟨rfl, E.out.1⟩
    | true =>
      obtain ⟨g1_0, g1_1, g1_2, g1_3⟩ := At.two (E.out.2.1)
      obtain ⟨g2_0, g2_1, g2_2, g2_3⟩ := At.two (E.out.2.2)
      go_wp2_with fail
      clear g1_0 g1_1 g1_2 g1_3 g2_0 g2_1 g2_2 g2_3
      go_returns
      exact ⟨rfl, E.out.1⟩

set_option maxHeartbeats 12800000 in
set_option maxRecDepth 20000 in
theorem spanOnes_tf {op a b : Nat} (hk : isO op = false) (ha : a < 18446744073709551616) (hb : b < 18446744073709551616) (w : World) : Calls Try.prog 7 #[.int .u8 (op : Int), .bool true, .int .u64 (a : Int), .int .u64 (b : Int)] w fun e w' => e = .returned (.bool true) ∧ Calm w w' := by
  obtain ⟨p, ep⟩ : ∃ p, p = a := ⟨_, rfl⟩
  obtain ⟨q, eq⟩ : ∃ q, q = b := ⟨_, rfl⟩
  have lp : p < 2 ^ bW true := by rw [ep]; exact ha
  have lq : q < 2 ^ bW true := by rw [eq]; exact hb
  have dD : D (bW true) op p q = D (bW true) op a b := by rw [ep, eq]
  have l64 : 2 ^ bW true ≤ 18446744073709551616 := by decide
  have okp : (Sp.mk p p).Ok := ⟨Nat.le_refl _, Nat.lt_of_lt_of_le lp l64⟩
  have okq : (Sp.mk q q).Ok := ⟨Nat.le_refl _, Nat.lt_of_lt_of_le lq l64⟩
  have oka : (Sp.mk a a).Ok := ⟨Nat.le_refl _, ha⟩
  have okb : (Sp.mk b b).Ok := ⟨Nat.le_refl _, hb⟩
  obtain ⟨x, ex⟩ : ∃ x, x = D (bW true) op a b := ⟨_, rfl⟩
  obtain ⟨s, es⟩ : ∃ s, s = doS true op ⟨p, p⟩ ⟨q, q⟩ := ⟨_, rfl⟩
  obtain ⟨t, et⟩ : ∃ t, t = (whereS op ⟨a, a⟩ ⟨b, b⟩).1 := ⟨_, rfl⟩
  obtain ⟨u, eu⟩ : ∃ u, u = (whereS op ⟨a, a⟩ ⟨b, b⟩).2 := ⟨_, rfl⟩
  obtain ⟨h, eh⟩ : ∃ h, h = T 64 op a b := ⟨_, rfl⟩
  obtain ⟨k, ek⟩ : ∃ k, k = isT op := ⟨_, rfl⟩
  have KD : Hid (∀ w, Calls Try.prog 27 #[.int .u8 (op : Int), .bool true, .int .u64 (a : Int), .int .u64 (b : Int)] w fun e w' => e = .returned (.tuple #[.int .u64 (x : Int), .bool false]) ∧ Calm w w') := Lib.hid fun w => by
    have k := do_c (op := op) true w ha hb
    rw [hk, ← ex] at k
    exact k
  have KP : Hid (∀ w, Calls Try.prog 22 #[.int .u64 (p : Int)] w fun e w' => e = .returned (.agg #[.int .u64 (p : Int), .int .u64 (p : Int)]) ∧ w' = w.alloc (.cells #[.int .u64 (p : Int), .int .u64 (p : Int)] 27)) := Lib.hid (pone_c p)
  have KQ : Hid (∀ w, Calls Try.prog 22 #[.int .u64 (q : Int)] w fun e w' => e = .returned (.agg #[.int .u64 (q : Int), .int .u64 (q : Int)]) ∧ w' = w.alloc (.cells #[.int .u64 (q : Int), .int .u64 (q : Int)] 27)) := Lib.hid (pone_c q)
  have KA : Hid (∀ w, Calls Try.prog 22 #[.int .u64 (a : Int)] w fun e w' => e = .returned (.agg #[.int .u64 (a : Int), .int .u64 (a : Int)]) ∧ w' = w.alloc (.cells #[.int .u64 (a : Int), .int .u64 (a : Int)] 27)) := Lib.hid (pone_c a)
  have KB : Hid (∀ w, Calls Try.prog 22 #[.int .u64 (b : Int)] w fun e w' => e = .returned (.agg #[.int .u64 (b : Int), .int .u64 (b : Int)]) ∧ w' = w.alloc (.cells #[.int .u64 (b : Int), .int .u64 (b : Int)] 27)) := Lib.hid (pone_c b)
  have KS : Hid (∀ w, Calls Try.prog 14 #[.int .u8 (op : Int), .bool true, .agg #[.int .u64 (p : Int), .int .u64 (p : Int)], .agg #[.int .u64 (q : Int), .int .u64 (q : Int)]] w fun e w' => e = .returned (.agg #[.int .u64 (s.lo : Int), .int .u64 (s.hi : Int)]) ∧ Calm w w') := Lib.hid (by rw [es]; exact fun w => pdo_c true okp okq w)
  have KT : Hid (∀ w, Calls Try.prog 29 #[.int .u8 (op : Int), .bool true, .int .u64 (a : Int), .int .u64 (b : Int)] w fun e w' => e = .returned (.tuple #[.bool h, .bool k]) ∧ Calm w w') := Lib.hid (by rw [eh, ek]; exact fun w => test_c true w ha hb)
  have KW : Hid (∀ w, Calls Try.prog 16 #[.int .u8 (op : Int), .agg #[.int .u64 (a : Int), .int .u64 (a : Int)], .agg #[.int .u64 (b : Int), .int .u64 (b : Int)]] w fun e w' => e = .returned (.tuple #[.agg #[.int .u64 (t.lo : Int), .int .u64 (t.hi : Int)], .bool u]) ∧ Calm w w') := Lib.hid (by rw [et, eu]; exact fun w => pwhere_c w oka okb)
  have HT : Hid (if op ∈ [16, 80, 32, 48, 160, 176] then k = true ∧ u = h ∧ (h = true → t = ⟨a, a⟩) else u = true ∧ t = ⟨a, a⟩) := Lib.hid (by rw [et, eu, eh, ek]; exact where_one op ha hb)
  clear hk ha hb  lp lq dD l64 okp okq oka okb ex es et eu eh ek 
  subst ep eq
  go_enter Try.func7, Try.ntmps7
  have E := Lib.hid (show Calm w w from Keep.refl _ _)
  go_wp2_with fail
  refine (shown8_c _).mono ?_
  rintro ze w1 ⟨rfl, hc⟩
  replace E := Lib.hid (show Calm w w1 from E.out.trans (hc))
  clear hc
  go_wp2_with fail
  refine (KD.out _).mono ?_
  rintro ze w2 ⟨rfl, hc⟩
  replace E := Lib.hid (show Calm w w2 from E.out.trans (hc))
  clear hc
  go_wp2_with fail
  refine (KP.out _).mono ?_
  rintro ze w3 ⟨rfl, hc⟩
  replace hc : Calm w2 w3 := by rw [hc]; exact (Keep.refl _ _).alloc _
  replace E := Lib.hid (show Calm w w3 from E.out.trans (hc))
  clear hc
  go_wp2_with fail
  refine (KQ.out _).mono ?_
  rintro ze w4 ⟨rfl, hc⟩
  replace hc : Calm w3 w4 := by rw [hc]; exact (Keep.refl _ _).alloc _
  replace E := Lib.hid (show Calm w w4 from E.out.trans (hc))
  clear hc
  go_wp2_with fail
  refine (KS.out _).mono ?_
  rintro ze w5 ⟨rfl, hc⟩
  replace E := Lib.hid (show Calm w w5 from E.out.trans (hc))
  clear hc
  go_upto_region 9 with fail
  have hC : Calm w5 (w5.alloc (.cells #[.int .u64 (s.lo : Int), .int .u64 (s.hi : Int)] 27)) := (Keep.refl _ _).alloc _
  have hA : At (w5.alloc (.cells #[.int .u64 (s.lo : Int), .int .u64 (s.hi : Int)] 27)) w5.heap.size s := Row.made w5 _ _
  have hO : w.heap.size ≤ w5.heap.size := E.out.size
  obtain ⟨g1, hg1⟩ : ∃ zg, zg = w5.heap.size := ⟨_, rfl⟩
  obtain ⟨w6, hw6⟩ : ∃ zz, zz = w5.alloc (.cells #[.int .u64 (s.lo : Int), .int .u64 (s.hi : Int)] 27) := ⟨_, rfl⟩
  replace hO : w.heap.size ≤ g1 := by rw [hg1]; exact hO
  rw [← hg1] at hA ⊢
  rw [← hw6] at hA hC ⊢
  clear hg1 hw6
  have O1 := Lib.hid hO
  clear hO
  replace E := Lib.hid (show Calm w w6 from E.out.trans (hC))
  replace E := Lib.hid (show Calm w w6 ∧ At w6 g1 s from ⟨E.out, hA⟩)
  clear hC hA
  obtain ⟨g1_0, g1_1, g1_2, g1_3⟩ := At.two (E.out.2)
  go_wp2_with fail
  clear g1_0 g1_1 g1_2 g1_3
  refine (KT.out _).mono ?_
  rintro ze w7 ⟨rfl, hc⟩
  replace E := Lib.hid (show Calm w w7 ∧ At w7 g1 s from ⟨E.out.1.trans (hc), At.calm (E.out.2) (hc)⟩)
  clear hc
  obtain ⟨g1_0, g1_1, g1_2, g1_3⟩ := At.two (E.out.2)
  go_wp2_with fail
  clear g1_0 g1_1 g1_2 g1_3
  refine (KA.out _).mono ?_
  rintro ze w8 ⟨rfl, hc⟩
  replace hc : Calm w7 w8 := by rw [hc]; exact (Keep.refl _ _).alloc _
  replace E := Lib.hid (show Calm w w8 ∧ At w8 g1 s from ⟨E.out.1.trans (hc), At.calm (E.out.2) (hc)⟩)
  clear hc
  obtain ⟨g1_0, g1_1, g1_2, g1_3⟩ := At.two (E.out.2)
  go_wp2_with fail
  clear g1_0 g1_1 g1_2 g1_3
  refine (KB.out _).mono ?_
  rintro ze w9 ⟨rfl, hc⟩
  replace hc : Calm w8 w9 := by rw [hc]; exact (Keep.refl _ _).alloc _
  replace E := Lib.hid (show Calm w w9 ∧ At w9 g1 s from ⟨E.out.1.trans (hc), At.calm (E.out.2) (hc)⟩)
  clear hc
  obtain ⟨g1_0, g1_1, g1_2, g1_3⟩ := At.two (E.out.2)
  go_wp2_with fail
  clear g1_0 g1_1 g1_2 g1_3
  refine (KW.out _).mono ?_
  rintro ze w10 ⟨rfl, hc⟩
  replace E := Lib.hid (show Calm w w10 ∧ At w10 g1 s from ⟨E.out.1.trans (hc), At.calm (E.out.2) (hc)⟩)
  clear hc
  obtain ⟨g1_0, g1_1, g1_2, g1_3⟩ := At.two (E.out.2)
  go_upto_region 13 with fail
  clear g1_0 g1_1 g1_2 g1_3
  have hC : Calm w10 (w10.alloc (.cells #[.int .u64 (t.lo : Int), .int .u64 (t.hi : Int)] 27)) := (Keep.refl _ _).alloc _
  have hA : At (w10.alloc (.cells #[.int .u64 (t.lo : Int), .int .u64 (t.hi : Int)] 27)) w10.heap.size t := Row.made w10 _ _
  have hO : w.heap.size ≤ w10.heap.size ∧ g1 < w10.heap.size := ⟨E.out.1.size, At.lt (E.out.2)⟩
  obtain ⟨g2, hg2⟩ : ∃ zg, zg = w10.heap.size := ⟨_, rfl⟩
  obtain ⟨w11, hw11⟩ : ∃ zz, zz = w10.alloc (.cells #[.int .u64 (t.lo : Int), .int .u64 (t.hi : Int)] 27) := ⟨_, rfl⟩
  replace hO : w.heap.size ≤ g2 ∧ g1 < g2 := by rw [hg2]; exact hO
  rw [← hg2] at hA ⊢
  rw [← hw11] at hA hC ⊢
  clear hg2 hw11
  have O2 := Lib.hid hO
  clear hO
  replace E := Lib.hid (show Calm w w11 ∧ At w11 g1 s from ⟨E.out.1.trans (hC), At.calm (E.out.2) (hC)⟩)
  replace E := Lib.hid (show Calm w w11 ∧ At w11 g1 s ∧ At w11 g2 t from ⟨E.out.1, E.out.2, hA⟩)
  clear hC hA
  by_cases c16 : op = 16
  · subst c16
    obtain ⟨rfl, rfl, ht⟩ := HT.out
    cases u with
    | false =>
      clear ht
      obtain ⟨g1_0, g1_1, g1_2, g1_3⟩ := At.two (E.out.2.1)
      obtain ⟨g2_0, g2_1, g2_2, g2_3⟩ := At.two (E.out.2.2)
      go_wp2_with fail
      clear g1_0 g1_1 g1_2 g1_3 g2_0 g2_1 g2_2 g2_3
      go_returns
      exact ⟨rfl, E.out.1⟩
    | true =>
      have ht := ht rfl
      subst ht
      obtain ⟨g1_0, g1_1, g1_2, g1_3⟩ := At.two (E.out.2.1)
      obtain ⟨g2_0, g2_1, g2_2, g2_3⟩ := At.two (E.out.2.2)
      go_wp2_with fail
      clear g1_0 g1_1 g1_2 g1_3 g2_0 g2_1 g2_2 g2_3
      go_returns
      exact ⟨rfl, E.out.1⟩
  by_cases c80 : op = 80
  · subst c80
    obtain ⟨rfl, rfl, ht⟩ := HT.out
    cases u with
    | false =>
      clear ht
      obtain ⟨g1_0, g1_1, g1_2, g1_3⟩ := At.two (E.out.2.1)
      obtain ⟨g2_0, g2_1, g2_2, g2_3⟩ := At.two (E.out.2.2)
      go_wp2_with fail
      clear g1_0 g1_1 g1_2 g1_3 g2_0 g2_1 g2_2 g2_3
      go_returns
      exact ⟨rfl, E.out.1⟩
    | true =>
      have ht := ht rfl
      subst ht
      obtain ⟨g1_0, g1_1, g1_2, g1_3⟩ := At.two (E.out.2.1)
      obtain ⟨g2_0, g2_1, g2_2, g2_3⟩ := At.two (E.out.2.2)
      go_wp2_with fail
      clear g1_0 g1_1 g1_2 g1_3 g2_0 g2_1 g2_2 g2_3
      go_returns
      exact ⟨rfl, E.out.1⟩
  by_cases c32 : op = 32
  · subst c32
    obtain ⟨rfl, rfl, ht⟩ := HT.out
    cases u with
    | false =>
      clear ht
      obtain ⟨g1_0, g1_1, g1_2, g1_3⟩ := At.two (E.out.2.1)
      obtain ⟨g2_0, g2_1, g2_2, g2_3⟩ := At.two (E.out.2.2)
      go_wp2_with fail
      clear g1_0 g1_1 g1_2 g1_3 g2_0 g2_1 g2_2 g2_3
      go_returns
      exact ⟨rfl, E.out.1⟩
    | true =>
      have ht := ht rfl
      subst ht
      obtain ⟨g1_0, g1_1, g1_2, g1_3⟩ := At.two (E.out.2.1)
      obtain ⟨g2_0, g2_1, g2_2, g2_3⟩ := At.two (E.out.2.2)
      go_wp2_with fail
      clear g1_0 g1_1 g1_2 g1_3 g2_0 g2_1 g2_2 g2_3
      go_returns
      exact ⟨rfl, E.out.1⟩
  by_cases c48 : op = 48
  · subst c48
    obtain ⟨rfl, rfl, ht⟩ := HT.out
    cases u with
    | false =>
      clear ht
      obtain ⟨g1_0, g1_1, g1_2, g1_3⟩ := At.two (E.out.2.1)
      obtain ⟨g2_0, g2_1, g2_2, g2_3⟩ := At.two (E.out.2.2)
      go_wp2_with fail
      clear g1_0 g1_1 g1_2 g1_3 g2_0 g2_1 g2_2 g2_3
      go_returns
      exact ⟨rfl, E.out.1⟩
    | true =>
      have ht := ht rfl
      subst ht
      obtain ⟨g1_0, g1_1, g1_2, g1_3⟩ := At.two (E.out.2.1)
      obtain ⟨g2_0, g2_1, g2_2, g2_3⟩ := At.two (E.out.2.2)
      go_wp2_with fail
      clear g1_0 g1_1 g1_2 g1_3 g2_0 g2_1 g2_2 g2_3
      go_returns
      exact ⟨rfl, E.out.1⟩
  by_cases c160 : op = 160
  · subst c160
    obtain ⟨rfl, rfl, ht⟩ := HT.out
    cases u with
    | false =>
      clear ht
      obtain ⟨g1_0, g1_1, g1_2, g1_3⟩ := At.two (E.out.2.1)
      obtain ⟨g2_0, g2_1, g2_2, g2_3⟩ := At.two (E.out.2.2)
      go_wp2_with fail
      clear g1_0 g1_1 g1_2 g1_3 g2_0 g2_1 g2_2 g2_3
      go_returns
      exact ⟨rfl, E.out.1⟩
    | true =>
      have ht := ht rfl
      subst ht
      obtain ⟨g1_0, g1_1, g1_2, g1_3⟩ := At.two (E.out.2.1)
      obtain ⟨g2_0, g2_1, g2_2, g2_3⟩ := At.two (E.out.2.2)
      go_wp2_with fail
      clear g1_0 g1_1 g1_2 g1_3 g2_0 g2_1 g2_2 g2_3
      go_returns
      exact ⟨rfl, E.out.1⟩
  by_cases c176 : op = 176
  · subst c176
    obtain ⟨rfl, rfl, ht⟩ := HT.out
    cases u with
    | false =>
      clear ht
      obtain ⟨g1_0, g1_1, g1_2, g1_3⟩ := At.two (E.out.2.1)
      obtain ⟨g2_0, g2_1, g2_2, g2_3⟩ := At.two (E.out.2.2)
      go_wp2_with fail
      clear g1_0 g1_1 g1_2 g1_3 g2_0 g2_1 g2_2 g2_3
      go_returns
      exact ⟨rfl, E.out.1⟩
    | true =>
      have ht := ht rfl
      subst ht
      obtain ⟨g1_0, g1_1, g1_2, g1_3⟩ := At.two (E.out.2.1)
      obtain ⟨g2_0, g2_1, g2_2, g2_3⟩ := At.two (E.out.2.2)
      go_wp2_with fail
      clear g1_0 g1_1 g1_2 g1_3 g2_0 g2_1 g2_2 g2_3
      go_returns
      exact ⟨rfl, E.out.1⟩
  have ht := HT.out
  rw [if_neg (by simp only [List.mem_cons, List.not_mem_nil, or_false]; omega)] at ht
  obtain ⟨rfl, rfl⟩ := ht
  have i16 : ((op : Int) == 16) = false := by simp; omega
  have i80 : ((op : Int) == 80) = false := by simp; omega
  have i32 : ((op : Int) == 32) = false := by simp; omega
  have i48 : ((op : Int) == 48) = false := by simp; omega
  have i160 : ((op : Int) == 160) = false := by simp; omega
  have i176 : ((op : Int) == 176) = false := by simp; omega
  clear HT c16 c80 c32 c48 c160 c176
  cases k with
  | false =>
    obtain ⟨g1_0, g1_1, g1_2, g1_3⟩ := At.two (E.out.2.1)
    obtain ⟨g2_0, g2_1, g2_2, g2_3⟩ := At.two (E.out.2.2)
    go_wp2_with fail
    clear g1_0 g1_1 g1_2 g1_3 g2_0 g2_1 g2_2 g2_3
    go_returns
    exact ⟨rfl, E.out.1⟩
  | true =>
    cases h with
    | false =>
      obtain ⟨g1_0, g1_1, g1_2, g1_3⟩ := At.two (E.out.2.1)
      obtain ⟨g2_0, g2_1, g2_2, g2_3⟩ := At.two (E.out.2.2)
      go_wp2_with fail
      clear g1_0 g1_1 g1_2 g1_3 g2_0 g2_1 g2_2 g2_3
      go_returns
      exact ⟨rfl, E.out.1⟩
    | true =>
      obtain ⟨g1_0, g1_1, g1_2, g1_3⟩ := At.two (E.out.2.1)
      obtain ⟨g2_0, g2_1, g2_2, g2_3⟩ := At.two (E.out.2.2)
      go_wp2_with fail
      clear g1_0 g1_1 g1_2 g1_3 g2_0 g2_1 g2_2 g2_3
      go_returns
      exact ⟨rfl, E.out.1⟩

set_option maxHeartbeats 12800000 in
set_option maxRecDepth 20000 in
theorem spanOnes_ft {op a b : Nat} (hk : isO op = true) (ha : a < 18446744073709551616) (hb : b < 18446744073709551616) (w : World) : Calls Try.prog 7 #[.int .u8 (op : Int), .bool false, .int .u64 (a : Int), .int .u64 (b : Int)] w fun e w' => e = .returned (.bool true) ∧ Calm w w' := by
  obtain ⟨p, ep⟩ : ∃ p, p = a % 4294967296 := ⟨_, rfl⟩
  obtain ⟨q, eq⟩ : ∃ q, q = b % 4294967296 := ⟨_, rfl⟩
  have lp : p < 2 ^ bW false := by rw [ep]; exact Nat.mod_lt _ (by decide)
  have lq : q < 2 ^ bW false := by rw [eq]; exact Nat.mod_lt _ (by decide)
  have ap : bits .and .u64 (a : Int) 4294967295 = (p : Int) := by
    have k := u64_and_nat a 4294967295 ha (by decide)
    rw [show a &&& 4294967295 = a % 4294967296 from Nat.and_two_pow_sub_one_eq_mod a 32, ← ep] at k
    exact k
  have aq : bits .and .u64 (b : Int) 4294967295 = (q : Int) := by
    have k := u64_and_nat b 4294967295 hb (by decide)
    rw [show b &&& 4294967295 = b % 4294967296 from Nat.and_two_pow_sub_one_eq_mod b 32, ← eq] at k
    exact k
  have dD : D (bW false) op p q = D (bW false) op a b := by rw [ep, eq]; exact low_D (Nat.mod_mod _ _) (Nat.mod_mod _ _) op
  have l64 : 2 ^ bW false ≤ 18446744073709551616 := by decide
  have okp : (Sp.mk p p).Ok := ⟨Nat.le_refl _, Nat.lt_of_lt_of_le lp l64⟩
  have okq : (Sp.mk q q).Ok := ⟨Nat.le_refl _, Nat.lt_of_lt_of_le lq l64⟩
  have oka : (Sp.mk a a).Ok := ⟨Nat.le_refl _, ha⟩
  have okb : (Sp.mk b b).Ok := ⟨Nat.le_refl _, hb⟩
  obtain ⟨x, ex⟩ : ∃ x, x = D (bW false) op a b := ⟨_, rfl⟩
  obtain ⟨s, es⟩ : ∃ s, s = doS false op ⟨p, p⟩ ⟨q, q⟩ := ⟨_, rfl⟩
  obtain ⟨t, et⟩ : ∃ t, t = (whereS op ⟨a, a⟩ ⟨b, b⟩).1 := ⟨_, rfl⟩
  obtain ⟨u, eu⟩ : ∃ u, u = (whereS op ⟨a, a⟩ ⟨b, b⟩).2 := ⟨_, rfl⟩
  obtain ⟨h, eh⟩ : ∃ h, h = T 64 op a b := ⟨_, rfl⟩
  obtain ⟨k, ek⟩ : ∃ k, k = isT op := ⟨_, rfl⟩
  have KD : Hid (∀ w, Calls Try.prog 27 #[.int .u8 (op : Int), .bool false, .int .u64 (a : Int), .int .u64 (b : Int)] w fun e w' => e = .returned (.tuple #[.int .u64 (x : Int), .bool true]) ∧ Calm w w') := Lib.hid fun w => by
    have k := do_c (op := op) false w ha hb
    rw [hk, ← ex] at k
    exact k
  have KP : Hid (∀ w, Calls Try.prog 22 #[.int .u64 (p : Int)] w fun e w' => e = .returned (.agg #[.int .u64 (p : Int), .int .u64 (p : Int)]) ∧ w' = w.alloc (.cells #[.int .u64 (p : Int), .int .u64 (p : Int)] 27)) := Lib.hid (pone_c p)
  have KQ : Hid (∀ w, Calls Try.prog 22 #[.int .u64 (q : Int)] w fun e w' => e = .returned (.agg #[.int .u64 (q : Int), .int .u64 (q : Int)]) ∧ w' = w.alloc (.cells #[.int .u64 (q : Int), .int .u64 (q : Int)] 27)) := Lib.hid (pone_c q)
  have KA : Hid (∀ w, Calls Try.prog 22 #[.int .u64 (a : Int)] w fun e w' => e = .returned (.agg #[.int .u64 (a : Int), .int .u64 (a : Int)]) ∧ w' = w.alloc (.cells #[.int .u64 (a : Int), .int .u64 (a : Int)] 27)) := Lib.hid (pone_c a)
  have KB : Hid (∀ w, Calls Try.prog 22 #[.int .u64 (b : Int)] w fun e w' => e = .returned (.agg #[.int .u64 (b : Int), .int .u64 (b : Int)]) ∧ w' = w.alloc (.cells #[.int .u64 (b : Int), .int .u64 (b : Int)] 27)) := Lib.hid (pone_c b)
  have KS : Hid (∀ w, Calls Try.prog 14 #[.int .u8 (op : Int), .bool false, .agg #[.int .u64 (p : Int), .int .u64 (p : Int)], .agg #[.int .u64 (q : Int), .int .u64 (q : Int)]] w fun e w' => e = .returned (.agg #[.int .u64 (s.lo : Int), .int .u64 (s.hi : Int)]) ∧ Calm w w') := Lib.hid (by rw [es]; exact fun w => pdo_c false okp okq w)
  have KT : Hid (∀ w, Calls Try.prog 29 #[.int .u8 (op : Int), .bool true, .int .u64 (a : Int), .int .u64 (b : Int)] w fun e w' => e = .returned (.tuple #[.bool h, .bool k]) ∧ Calm w w') := Lib.hid (by rw [eh, ek]; exact fun w => test_c true w ha hb)
  have KW : Hid (∀ w, Calls Try.prog 16 #[.int .u8 (op : Int), .agg #[.int .u64 (a : Int), .int .u64 (a : Int)], .agg #[.int .u64 (b : Int), .int .u64 (b : Int)]] w fun e w' => e = .returned (.tuple #[.agg #[.int .u64 (t.lo : Int), .int .u64 (t.hi : Int)], .bool u]) ∧ Calm w w') := Lib.hid (by rw [et, eu]; exact fun w => pwhere_c w oka okb)
  have eS : s = ⟨x, x⟩ := by
    have k := do_one false hk lp lq
    rw [dD, ← ex, ← es] at k
    exact k
  have HS : s.lo = x ∧ s.hi = x := by rw [eS]; exact ⟨rfl, rfl⟩
  have HT : Hid (if op ∈ [16, 80, 32, 48, 160, 176] then k = true ∧ u = h ∧ (h = true → t = ⟨a, a⟩) else u = true ∧ t = ⟨a, a⟩) := Lib.hid (by rw [et, eu, eh, ek]; exact where_one op ha hb)
  obtain ⟨s1, s2⟩ := HS
  have n1 : ((s.lo : Int) != (x : Int)) = false := by rw [s1]; simp
  have n2 : ((s.hi : Int) != (x : Int)) = false := by rw [s2]; simp
  clear hk ha hb ep eq lp lq dD l64 okp okq oka okb ex es et eu eh ek eS s1 s2
  go_enter Try.func7, Try.ntmps7
  have E := Lib.hid (show Calm w w from Keep.refl _ _)
  go_wp2_with fail
  refine (shown8_c _).mono ?_
  rintro ze w1 ⟨rfl, hc⟩
  replace E := Lib.hid (show Calm w w1 from E.out.trans (hc))
  clear hc
  go_wp2_with fail
  refine (KD.out _).mono ?_
  rintro ze w2 ⟨rfl, hc⟩
  replace E := Lib.hid (show Calm w w2 from E.out.trans (hc))
  clear hc
  go_wp2_with fail
  refine (KP.out _).mono ?_
  rintro ze w3 ⟨rfl, hc⟩
  replace hc : Calm w2 w3 := by rw [hc]; exact (Keep.refl _ _).alloc _
  replace E := Lib.hid (show Calm w w3 from E.out.trans (hc))
  clear hc
  go_wp2_with fail
  refine (KQ.out _).mono ?_
  rintro ze w4 ⟨rfl, hc⟩
  replace hc : Calm w3 w4 := by rw [hc]; exact (Keep.refl _ _).alloc _
  replace E := Lib.hid (show Calm w w4 from E.out.trans (hc))
  clear hc
  go_wp2_with fail
  refine (KS.out _).mono ?_
  rintro ze w5 ⟨rfl, hc⟩
  replace E := Lib.hid (show Calm w w5 from E.out.trans (hc))
  clear hc
  go_upto_region 9 with fail
  have hC : Calm w5 (w5.alloc (.cells #[.int .u64 (s.lo : Int), .int .u64 (s.hi : Int)] 27)) := (Keep.refl _ _).alloc _
  have hA : At (w5.alloc (.cells #[.int .u64 (s.lo : Int), .int .u64 (s.hi : Int)] 27)) w5.heap.size s := Row.made w5 _ _
  have hO : w.heap.size ≤ w5.heap.size := E.out.size
  obtain ⟨g1, hg1⟩ : ∃ zg, zg = w5.heap.size := ⟨_, rfl⟩
  obtain ⟨w6, hw6⟩ : ∃ zz, zz = w5.alloc (.cells #[.int .u64 (s.lo : Int), .int .u64 (s.hi : Int)] 27) := ⟨_, rfl⟩
  replace hO : w.heap.size ≤ g1 := by rw [hg1]; exact hO
  rw [← hg1] at hA ⊢
  rw [← hw6] at hA hC ⊢
  clear hg1 hw6
  have O1 := Lib.hid hO
  clear hO
  replace E := Lib.hid (show Calm w w6 from E.out.trans (hC))
  replace E := Lib.hid (show Calm w w6 ∧ At w6 g1 s from ⟨E.out, hA⟩)
  clear hC hA
  obtain ⟨g1_0, g1_1, g1_2, g1_3⟩ := At.two (E.out.2)
  go_wp2_with fail
  clear g1_0 g1_1 g1_2 g1_3
  refine (KT.out _).mono ?_
  rintro ze w7 ⟨rfl, hc⟩
  replace E := Lib.hid (show Calm w w7 ∧ At w7 g1 s from ⟨E.out.1.trans (hc), At.calm (E.out.2) (hc)⟩)
  clear hc
  obtain ⟨g1_0, g1_1, g1_2, g1_3⟩ := At.two (E.out.2)
  go_wp2_with fail
  clear g1_0 g1_1 g1_2 g1_3
  refine (KA.out _).mono ?_
  rintro ze w8 ⟨rfl, hc⟩
  replace hc : Calm w7 w8 := by rw [hc]; exact (Keep.refl _ _).alloc _
  replace E := Lib.hid (show Calm w w8 ∧ At w8 g1 s from ⟨E.out.1.trans (hc), At.calm (E.out.2) (hc)⟩)
  clear hc
  obtain ⟨g1_0, g1_1, g1_2, g1_3⟩ := At.two (E.out.2)
  go_wp2_with fail
  clear g1_0 g1_1 g1_2 g1_3
  refine (KB.out _).mono ?_
  rintro ze w9 ⟨rfl, hc⟩
  replace hc : Calm w8 w9 := by rw [hc]; exact (Keep.refl _ _).alloc _
  replace E := Lib.hid (show Calm w w9 ∧ At w9 g1 s from ⟨E.out.1.trans (hc), At.calm (E.out.2) (hc)⟩)
  clear hc
  obtain ⟨g1_0, g1_1, g1_2, g1_3⟩ := At.two (E.out.2)
  go_wp2_with fail
  clear g1_0 g1_1 g1_2 g1_3
  refine (KW.out _).mono ?_
  rintro ze w10 ⟨rfl, hc⟩
  replace E := Lib.hid (show Calm w w10 ∧ At w10 g1 s from ⟨E.out.1.trans (hc), At.calm (E.out.2) (hc)⟩)
  clear hc
  obtain ⟨g1_0, g1_1, g1_2, g1_3⟩ := At.two (E.out.2)
  go_upto_region 13 with fail
  clear g1_0 g1_1 g1_2 g1_3
  have hC : Calm w10 (w10.alloc (.cells #[.int .u64 (t.lo : Int), .int .u64 (t.hi : Int)] 27)) := (Keep.refl _ _).alloc _
  have hA : At (w10.alloc (.cells #[.int .u64 (t.lo : Int), .int .u64 (t.hi : Int)] 27)) w10.heap.size t := Row.made w10 _ _
  have hO : w.heap.size ≤ w10.heap.size ∧ g1 < w10.heap.size := ⟨E.out.1.size, At.lt (E.out.2)⟩
  obtain ⟨g2, hg2⟩ : ∃ zg, zg = w10.heap.size := ⟨_, rfl⟩
  obtain ⟨w11, hw11⟩ : ∃ zz, zz = w10.alloc (.cells #[.int .u64 (t.lo : Int), .int .u64 (t.hi : Int)] 27) := ⟨_, rfl⟩
  replace hO : w.heap.size ≤ g2 ∧ g1 < g2 := by rw [hg2]; exact hO
  rw [← hg2] at hA ⊢
  rw [← hw11] at hA hC ⊢
  clear hg2 hw11
  have O2 := Lib.hid hO
  clear hO
  replace E := Lib.hid (show Calm w w11 ∧ At w11 g1 s from ⟨E.out.1.trans (hC), At.calm (E.out.2) (hC)⟩)
  replace E := Lib.hid (show Calm w w11 ∧ At w11 g1 s ∧ At w11 g2 t from ⟨E.out.1, E.out.2, hA⟩)
  clear hC hA
  by_cases c16 : op = 16
  · subst c16
    obtain ⟨rfl, rfl, ht⟩ := HT.out
    cases u with
    | false =>
      clear ht
      obtain ⟨g1_0, g1_1, g1_2, g1_3⟩ := At.two (E.out.2.1)
      obtain ⟨g2_0, g2_1, g2_2, g2_3⟩ := At.two (E.out.2.2)
      go_wp2_with fail
      clear g1_0 g1_1 g1_2 g1_3 g2_0 g2_1 g2_2 g2_3
      go_returns
      exact ⟨rfl, E.out.1⟩
    | true =>
      have ht := ht rfl
      subst ht
      obtain ⟨g1_0, g1_1, g1_2, g1_3⟩ := At.two (E.out.2.1)
      obtain ⟨g2_0, g2_1, g2_2, g2_3⟩ := At.two (E.out.2.2)
      go_wp2_with fail
      clear g1_0 g1_1 g1_2 g1_3 g2_0 g2_1 g2_2 g2_3
      go_returns
      exact ⟨rfl, E.out.1⟩
  by_cases c80 : op = 80
  · subst c80
    obtain ⟨rfl, rfl, ht⟩ := HT.out
    cases u with
    | false =>
      clear ht
      obtain ⟨g1_0, g1_1, g1_2, g1_3⟩ := At.two (E.out.2.1)
      obtain ⟨g2_0, g2_1, g2_2, g2_3⟩ := At.two (E.out.2.2)
      go_wp2_with fail
      clear g1_0 g1_1 g1_2 g1_3 g2_0 g2_1 g2_2 g2_3
      go_returns
      exact ⟨rfl, E.out.1⟩
    | true =>
      have ht := ht rfl
      subst ht
      obtain ⟨g1_0, g1_1, g1_2, g1_3⟩ := At.two (E.out.2.1)
      obtain ⟨g2_0, g2_1, g2_2, g2_3⟩ := At.two (E.out.2.2)
      go_wp2_with fail
      clear g1_0 g1_1 g1_2 g1_3 g2_0 g2_1 g2_2 g2_3
      go_returns
      exact ⟨rfl, E.out.1⟩
  by_cases c32 : op = 32
  · subst c32
    obtain ⟨rfl, rfl, ht⟩ := HT.out
    cases u with
    | false =>
      clear ht
      obtain ⟨g1_0, g1_1, g1_2, g1_3⟩ := At.two (E.out.2.1)
      obtain ⟨g2_0, g2_1, g2_2, g2_3⟩ := At.two (E.out.2.2)
      go_wp2_with fail
      clear g1_0 g1_1 g1_2 g1_3 g2_0 g2_1 g2_2 g2_3
      go_returns
      exact ⟨rfl, E.out.1⟩
    | true =>
      have ht := ht rfl
      subst ht
      obtain ⟨g1_0, g1_1, g1_2, g1_3⟩ := At.two (E.out.2.1)
      obtain ⟨g2_0, g2_1, g2_2, g2_3⟩ := At.two (E.out.2.2)
      go_wp2_with fail
      clear g1_0 g1_1 g1_2 g1_3 g2_0 g2_1 g2_2 g2_3
      go_returns
      exact ⟨rfl, E.out.1⟩
  by_cases c48 : op = 48
  · subst c48
    obtain ⟨rfl, rfl, ht⟩ := HT.out
    cases u with
    | false =>
      clear ht
      obtain ⟨g1_0, g1_1, g1_2, g1_3⟩ := At.two (E.out.2.1)
      obtain ⟨g2_0, g2_1, g2_2, g2_3⟩ := At.two (E.out.2.2)
      go_wp2_with fail
      clear g1_0 g1_1 g1_2 g1_3 g2_0 g2_1 g2_2 g2_3
      go_returns
      exact ⟨rfl, E.out.1⟩
    | true =>
      have ht := ht rfl
      subst ht
      obtain ⟨g1_0, g1_1, g1_2, g1_3⟩ := At.two (E.out.2.1)
      obtain ⟨g2_0, g2_1, g2_2, g2_3⟩ := At.two (E.out.2.2)
      go_wp2_with fail
      clear g1_0 g1_1 g1_2 g1_3 g2_0 g2_1 g2_2 g2_3
      go_returns
      exact ⟨rfl, E.out.1⟩
  by_cases c160 : op = 160
  · subst c160
    obtain ⟨rfl, rfl, ht⟩ := HT.out
    cases u with
    | false =>
      clear ht
      obtain ⟨g1_0, g1_1, g1_2, g1_3⟩ := At.two (E.out.2.1)
      obtain ⟨g2_0, g2_1, g2_2, g2_3⟩ := At.two (E.out.2.2)
      go_wp2_with fail
      clear g1_0 g1_1 g1_2 g1_3 g2_0 g2_1 g2_2 g2_3
      go_returns
      exact ⟨rfl, E.out.1⟩
    | true =>
      have ht := ht rfl
      subst ht
      obtain ⟨g1_0, g1_1, g1_2, g1_3⟩ := At.two (E.out.2.1)
      obtain ⟨g2_0, g2_1, g2_2, g2_3⟩ := At.two (E.out.2.2)
      go_wp2_with fail
      clear g1_0 g1_1 g1_2 g1_3 g2_0 g2_1 g2_2 g2_3
      go_returns
      exact ⟨rfl, E.out.1⟩
  by_cases c176 : op = 176
  · subst c176
    obtain ⟨rfl, rfl, ht⟩ := HT.out
    cases u with
    | false =>
      clear ht
      obtain ⟨g1_0, g1_1, g1_2, g1_3⟩ := At.two (E.out.2.1)
      obtain ⟨g2_0, g2_1, g2_2, g2_3⟩ := At.two (E.out.2.2)
      go_wp2_with fail
      clear g1_0 g1_1 g1_2 g1_3 g2_0 g2_1 g2_2 g2_3
      go_returns
      exact ⟨rfl, E.out.1⟩
    | true =>
      have ht := ht rfl
      subst ht
      obtain ⟨g1_0, g1_1, g1_2, g1_3⟩ := At.two (E.out.2.1)
      obtain ⟨g2_0, g2_1, g2_2, g2_3⟩ := At.two (E.out.2.2)
      go_wp2_with fail
      clear g1_0 g1_1 g1_2 g1_3 g2_0 g2_1 g2_2 g2_3
      go_returns
      exact ⟨rfl, E.out.1⟩
  have ht := HT.out
  rw [if_neg (by simp only [List.mem_cons, List.not_mem_nil, or_false]; omega)] at ht
  obtain ⟨rfl, rfl⟩ := ht
  have i16 : ((op : Int) == 16) = false := by simp; omega
  have i80 : ((op : Int) == 80) = false := by simp; omega
  have i32 : ((op : Int) == 32) = false := by simp; omega
  have i48 : ((op : Int) == 48) = false := by simp; omega
  have i160 : ((op : Int) == 160) = false := by simp; omega
  have i176 : ((op : Int) == 176) = false := by simp; omega
  clear HT c16 c80 c32 c48 c160 c176
  cases k with
  | false =>
    obtain ⟨g1_0, g1_1, g1_2, g1_3⟩ := At.two (E.out.2.1)
    obtain ⟨g2_0, g2_1, g2_2, g2_3⟩ := At.two (E.out.2.2)
    go_wp2_with fail
    clear g1_0 g1_1 g1_2 g1_3 g2_0 g2_1 g2_2 g2_3
    go_returns
    exact ⟨rfl, E.out.1⟩
  | true =>
    cases h with
    | false =>
      obtain ⟨g1_0, g1_1, g1_2, g1_3⟩ := At.two (E.out.2.1)
      obtain ⟨g2_0, g2_1, g2_2, g2_3⟩ := At.two (E.out.2.2)
      go_wp2_with fail
      clear g1_0 g1_1 g1_2 g1_3 g2_0 g2_1 g2_2 g2_3
      go_returns
      exact ⟨rfl, E.out.1⟩
    | true =>
      obtain ⟨g1_0, g1_1, g1_2, g1_3⟩ := At.two (E.out.2.1)
      obtain ⟨g2_0, g2_1, g2_2, g2_3⟩ := At.two (E.out.2.2)
      go_wp2_with fail
      clear g1_0 g1_1 g1_2 g1_3 g2_0 g2_1 g2_2 g2_3
      go_returns
      exact ⟨rfl, E.out.1⟩

set_option maxHeartbeats 12800000 in
set_option maxRecDepth 20000 in
theorem spanOnes_ff {op a b : Nat} (hk : isO op = false) (ha : a < 18446744073709551616) (hb : b < 18446744073709551616) (w : World) : Calls Try.prog 7 #[.int .u8 (op : Int), .bool false, .int .u64 (a : Int), .int .u64 (b : Int)] w fun e w' => e = .returned (.bool true) ∧ Calm w w' := by
  obtain ⟨p, ep⟩ : ∃ p, p = a % 4294967296 := ⟨_, rfl⟩
  obtain ⟨q, eq⟩ : ∃ q, q = b % 4294967296 := ⟨_, rfl⟩
  have lp : p < 2 ^ bW false := by rw [ep]; exact Nat.mod_lt _ (by decide)
  have lq : q < 2 ^ bW false := by rw [eq]; exact Nat.mod_lt _ (by decide)
  have ap : bits .and .u64 (a : Int) 4294967295 = (p : Int) := by
    have k := u64_and_nat a 4294967295 ha (by decide)
    rw [show a &&& 4294967295 = a % 4294967296 from Nat.and_two_pow_sub_one_eq_mod a 32, ← ep] at k
    exact k
  have aq : bits .and .u64 (b : Int) 4294967295 = (q : Int) := by
    have k := u64_and_nat b 4294967295 hb (by decide)
    rw [show b &&& 4294967295 = b % 4294967296 from Nat.and_two_pow_sub_one_eq_mod b 32, ← eq] at k
    exact k
  have dD : D (bW false) op p q = D (bW false) op a b := by rw [ep, eq]; exact low_D (Nat.mod_mod _ _) (Nat.mod_mod _ _) op
  have l64 : 2 ^ bW false ≤ 18446744073709551616 := by decide
  have okp : (Sp.mk p p).Ok := ⟨Nat.le_refl _, Nat.lt_of_lt_of_le lp l64⟩
  have okq : (Sp.mk q q).Ok := ⟨Nat.le_refl _, Nat.lt_of_lt_of_le lq l64⟩
  have oka : (Sp.mk a a).Ok := ⟨Nat.le_refl _, ha⟩
  have okb : (Sp.mk b b).Ok := ⟨Nat.le_refl _, hb⟩
  obtain ⟨x, ex⟩ : ∃ x, x = D (bW false) op a b := ⟨_, rfl⟩
  obtain ⟨s, es⟩ : ∃ s, s = doS false op ⟨p, p⟩ ⟨q, q⟩ := ⟨_, rfl⟩
  obtain ⟨t, et⟩ : ∃ t, t = (whereS op ⟨a, a⟩ ⟨b, b⟩).1 := ⟨_, rfl⟩
  obtain ⟨u, eu⟩ : ∃ u, u = (whereS op ⟨a, a⟩ ⟨b, b⟩).2 := ⟨_, rfl⟩
  obtain ⟨h, eh⟩ : ∃ h, h = T 64 op a b := ⟨_, rfl⟩
  obtain ⟨k, ek⟩ : ∃ k, k = isT op := ⟨_, rfl⟩
  have KD : Hid (∀ w, Calls Try.prog 27 #[.int .u8 (op : Int), .bool false, .int .u64 (a : Int), .int .u64 (b : Int)] w fun e w' => e = .returned (.tuple #[.int .u64 (x : Int), .bool false]) ∧ Calm w w') := Lib.hid fun w => by
    have k := do_c (op := op) false w ha hb
    rw [hk, ← ex] at k
    exact k
  have KP : Hid (∀ w, Calls Try.prog 22 #[.int .u64 (p : Int)] w fun e w' => e = .returned (.agg #[.int .u64 (p : Int), .int .u64 (p : Int)]) ∧ w' = w.alloc (.cells #[.int .u64 (p : Int), .int .u64 (p : Int)] 27)) := Lib.hid (pone_c p)
  have KQ : Hid (∀ w, Calls Try.prog 22 #[.int .u64 (q : Int)] w fun e w' => e = .returned (.agg #[.int .u64 (q : Int), .int .u64 (q : Int)]) ∧ w' = w.alloc (.cells #[.int .u64 (q : Int), .int .u64 (q : Int)] 27)) := Lib.hid (pone_c q)
  have KA : Hid (∀ w, Calls Try.prog 22 #[.int .u64 (a : Int)] w fun e w' => e = .returned (.agg #[.int .u64 (a : Int), .int .u64 (a : Int)]) ∧ w' = w.alloc (.cells #[.int .u64 (a : Int), .int .u64 (a : Int)] 27)) := Lib.hid (pone_c a)
  have KB : Hid (∀ w, Calls Try.prog 22 #[.int .u64 (b : Int)] w fun e w' => e = .returned (.agg #[.int .u64 (b : Int), .int .u64 (b : Int)]) ∧ w' = w.alloc (.cells #[.int .u64 (b : Int), .int .u64 (b : Int)] 27)) := Lib.hid (pone_c b)
  have KS : Hid (∀ w, Calls Try.prog 14 #[.int .u8 (op : Int), .bool false, .agg #[.int .u64 (p : Int), .int .u64 (p : Int)], .agg #[.int .u64 (q : Int), .int .u64 (q : Int)]] w fun e w' => e = .returned (.agg #[.int .u64 (s.lo : Int), .int .u64 (s.hi : Int)]) ∧ Calm w w') := Lib.hid (by rw [es]; exact fun w => pdo_c false okp okq w)
  have KT : Hid (∀ w, Calls Try.prog 29 #[.int .u8 (op : Int), .bool true, .int .u64 (a : Int), .int .u64 (b : Int)] w fun e w' => e = .returned (.tuple #[.bool h, .bool k]) ∧ Calm w w') := Lib.hid (by rw [eh, ek]; exact fun w => test_c true w ha hb)
  have KW : Hid (∀ w, Calls Try.prog 16 #[.int .u8 (op : Int), .agg #[.int .u64 (a : Int), .int .u64 (a : Int)], .agg #[.int .u64 (b : Int), .int .u64 (b : Int)]] w fun e w' => e = .returned (.tuple #[.agg #[.int .u64 (t.lo : Int), .int .u64 (t.hi : Int)], .bool u]) ∧ Calm w w') := Lib.hid (by rw [et, eu]; exact fun w => pwhere_c w oka okb)
  have HT : Hid (if op ∈ [16, 80, 32, 48, 160, 176] then k = true ∧ u = h ∧ (h = true → t = ⟨a, a⟩) else u = true ∧ t = ⟨a, a⟩) := Lib.hid (by rw [et, eu, eh, ek]; exact where_one op ha hb)
  clear hk ha hb ep eq lp lq dD l64 okp okq oka okb ex es et eu eh ek 
  go_enter Try.func7, Try.ntmps7
  have E := Lib.hid (show Calm w w from Keep.refl _ _)
  go_wp2_with fail
  refine (shown8_c _).mono ?_
  rintro ze w1 ⟨rfl, hc⟩
  replace E := Lib.hid (show Calm w w1 from E.out.trans (hc))
  clear hc
  go_wp2_with fail
  refine (KD.out _).mono ?_
  rintro ze w2 ⟨rfl, hc⟩
  replace E := Lib.hid (show Calm w w2 from E.out.trans (hc))
  clear hc
  go_wp2_with fail
  refine (KP.out _).mono ?_
  rintro ze w3 ⟨rfl, hc⟩
  replace hc : Calm w2 w3 := by rw [hc]; exact (Keep.refl _ _).alloc _
  replace E := Lib.hid (show Calm w w3 from E.out.trans (hc))
  clear hc
  go_wp2_with fail
  refine (KQ.out _).mono ?_
  rintro ze w4 ⟨rfl, hc⟩
  replace hc : Calm w3 w4 := by rw [hc]; exact (Keep.refl _ _).alloc _
  replace E := Lib.hid (show Calm w w4 from E.out.trans (hc))
  clear hc
  go_wp2_with fail
  refine (KS.out _).mono ?_
  rintro ze w5 ⟨rfl, hc⟩
  replace E := Lib.hid (show Calm w w5 from E.out.trans (hc))
  clear hc
  go_upto_region 9 with fail
  have hC : Calm w5 (w5.alloc (.cells #[.int .u64 (s.lo : Int), .int .u64 (s.hi : Int)] 27)) := (Keep.refl _ _).alloc _
  have hA : At (w5.alloc (.cells #[.int .u64 (s.lo : Int), .int .u64 (s.hi : Int)] 27)) w5.heap.size s := Row.made w5 _ _
  have hO : w.heap.size ≤ w5.heap.size := E.out.size
  obtain ⟨g1, hg1⟩ : ∃ zg, zg = w5.heap.size := ⟨_, rfl⟩
  obtain ⟨w6, hw6⟩ : ∃ zz, zz = w5.alloc (.cells #[.int .u64 (s.lo : Int), .int .u64 (s.hi : Int)] 27) := ⟨_, rfl⟩
  replace hO : w.heap.size ≤ g1 := by rw [hg1]; exact hO
  rw [← hg1] at hA ⊢
  rw [← hw6] at hA hC ⊢
  clear hg1 hw6
  have O1 := Lib.hid hO
  clear hO
  replace E := Lib.hid (show Calm w w6 from E.out.trans (hC))
  replace E := Lib.hid (show Calm w w6 ∧ At w6 g1 s from ⟨E.out, hA⟩)
  clear hC hA
  obtain ⟨g1_0, g1_1, g1_2, g1_3⟩ := At.two (E.out.2)
  go_wp2_with fail
  clear g1_0 g1_1 g1_2 g1_3
  refine (KT.out _).mono ?_
  rintro ze w7 ⟨rfl, hc⟩
  replace E := Lib.hid (show Calm w w7 ∧ At w7 g1 s from ⟨E.out.1.trans (hc), At.calm (E.out.2) (hc)⟩)
  clear hc
  obtain ⟨g1_0, g1_1, g1_2, g1_3⟩ := At.two (E.out.2)
  go_wp2_with fail
  clear g1_0 g1_1 g1_2 g1_3
  refine (KA.out _).mono ?_
  rintro ze w8 ⟨rfl, hc⟩
  replace hc : Calm w7 w8 := by rw [hc]; exact (Keep.refl _ _).alloc _
  replace E := Lib.hid (show Calm w w8 ∧ At w8 g1 s from ⟨E.out.1.trans (hc), At.calm (E.out.2) (hc)⟩)
  clear hc
  obtain ⟨g1_0, g1_1, g1_2, g1_3⟩ := At.two (E.out.2)
  go_wp2_with fail
  clear g1_0 g1_1 g1_2 g1_3
  refine (KB.out _).mono ?_
  rintro ze w9 ⟨rfl, hc⟩
  replace hc : Calm w8 w9 := by rw [hc]; exact (Keep.refl _ _).alloc _
  replace E := Lib.hid (show Calm w w9 ∧ At w9 g1 s from ⟨E.out.1.trans (hc), At.calm (E.out.2) (hc)⟩)
  clear hc
  obtain ⟨g1_0, g1_1, g1_2, g1_3⟩ := At.two (E.out.2)
  go_wp2_with fail
  clear g1_0 g1_1 g1_2 g1_3
  refine (KW.out _).mono ?_
  rintro ze w10 ⟨rfl, hc⟩
  replace E := Lib.hid (show Calm w w10 ∧ At w10 g1 s from ⟨E.out.1.trans (hc), At.calm (E.out.2) (hc)⟩)
  clear hc
  obtain ⟨g1_0, g1_1, g1_2, g1_3⟩ := At.two (E.out.2)
  go_upto_region 13 with fail
  clear g1_0 g1_1 g1_2 g1_3
  have hC : Calm w10 (w10.alloc (.cells #[.int .u64 (t.lo : Int), .int .u64 (t.hi : Int)] 27)) := (Keep.refl _ _).alloc _
  have hA : At (w10.alloc (.cells #[.int .u64 (t.lo : Int), .int .u64 (t.hi : Int)] 27)) w10.heap.size t := Row.made w10 _ _
  have hO : w.heap.size ≤ w10.heap.size ∧ g1 < w10.heap.size := ⟨E.out.1.size, At.lt (E.out.2)⟩
  obtain ⟨g2, hg2⟩ : ∃ zg, zg = w10.heap.size := ⟨_, rfl⟩
  obtain ⟨w11, hw11⟩ : ∃ zz, zz = w10.alloc (.cells #[.int .u64 (t.lo : Int), .int .u64 (t.hi : Int)] 27) := ⟨_, rfl⟩
  replace hO : w.heap.size ≤ g2 ∧ g1 < g2 := by rw [hg2]; exact hO
  rw [← hg2] at hA ⊢
  rw [← hw11] at hA hC ⊢
  clear hg2 hw11
  have O2 := Lib.hid hO
  clear hO
  replace E := Lib.hid (show Calm w w11 ∧ At w11 g1 s from ⟨E.out.1.trans (hC), At.calm (E.out.2) (hC)⟩)
  replace E := Lib.hid (show Calm w w11 ∧ At w11 g1 s ∧ At w11 g2 t from ⟨E.out.1, E.out.2, hA⟩)
  clear hC hA
  by_cases c16 : op = 16
  · subst c16
    obtain ⟨rfl, rfl, ht⟩ := HT.out
    cases u with
    | false =>
      clear ht
      obtain ⟨g1_0, g1_1, g1_2, g1_3⟩ := At.two (E.out.2.1)
      obtain ⟨g2_0, g2_1, g2_2, g2_3⟩ := At.two (E.out.2.2)
      go_wp2_with fail
      clear g1_0 g1_1 g1_2 g1_3 g2_0 g2_1 g2_2 g2_3
      go_returns
      exact ⟨rfl, E.out.1⟩
    | true =>
      have ht := ht rfl
      subst ht
      obtain ⟨g1_0, g1_1, g1_2, g1_3⟩ := At.two (E.out.2.1)
      obtain ⟨g2_0, g2_1, g2_2, g2_3⟩ := At.two (E.out.2.2)
      go_wp2_with fail
      clear g1_0 g1_1 g1_2 g1_3 g2_0 g2_1 g2_2 g2_3
      go_returns
      exact ⟨rfl, E.out.1⟩
  by_cases c80 : op = 80
  · subst c80
    obtain ⟨rfl, rfl, ht⟩ := HT.out
    cases u with
    | false =>
      clear ht
      obtain ⟨g1_0, g1_1, g1_2, g1_3⟩ := At.two (E.out.2.1)
      obtain ⟨g2_0, g2_1, g2_2, g2_3⟩ := At.two (E.out.2.2)
      go_wp2_with fail
      clear g1_0 g1_1 g1_2 g1_3 g2_0 g2_1 g2_2 g2_3
      go_returns
      exact ⟨rfl, E.out.1⟩
    | true =>
      have ht := ht rfl
      subst ht
      obtain ⟨g1_0, g1_1, g1_2, g1_3⟩ := At.two (E.out.2.1)
      obtain ⟨g2_0, g2_1, g2_2, g2_3⟩ := At.two (E.out.2.2)
      go_wp2_with fail
      clear g1_0 g1_1 g1_2 g1_3 g2_0 g2_1 g2_2 g2_3
      go_returns
      exact ⟨rfl, E.out.1⟩
  by_cases c32 : op = 32
  · subst c32
    obtain ⟨rfl, rfl, ht⟩ := HT.out
    cases u with
    | false =>
      clear ht
      obtain ⟨g1_0, g1_1, g1_2, g1_3⟩ := At.two (E.out.2.1)
      obtain ⟨g2_0, g2_1, g2_2, g2_3⟩ := At.two (E.out.2.2)
      go_wp2_with fail
      clear g1_0 g1_1 g1_2 g1_3 g2_0 g2_1 g2_2 g2_3
      go_returns
      exact ⟨rfl, E.out.1⟩
    | true =>
      have ht := ht rfl
      subst ht
      obtain ⟨g1_0, g1_1, g1_2, g1_3⟩ := At.two (E.out.2.1)
      obtain ⟨g2_0, g2_1, g2_2, g2_3⟩ := At.two (E.out.2.2)
      go_wp2_with fail
      clear g1_0 g1_1 g1_2 g1_3 g2_0 g2_1 g2_2 g2_3
      go_returns
      exact ⟨rfl, E.out.1⟩
  by_cases c48 : op = 48
  · subst c48
    obtain ⟨rfl, rfl, ht⟩ := HT.out
    cases u with
    | false =>
      clear ht
      obtain ⟨g1_0, g1_1, g1_2, g1_3⟩ := At.two (E.out.2.1)
      obtain ⟨g2_0, g2_1, g2_2, g2_3⟩ := At.two (E.out.2.2)
      go_wp2_with fail
      clear g1_0 g1_1 g1_2 g1_3 g2_0 g2_1 g2_2 g2_3
      go_returns
      exact ⟨rfl, E.out.1⟩
    | true =>
      have ht := ht rfl
      subst ht
      obtain ⟨g1_0, g1_1, g1_2, g1_3⟩ := At.two (E.out.2.1)
      obtain ⟨g2_0, g2_1, g2_2, g2_3⟩ := At.two (E.out.2.2)
      go_wp2_with fail
      clear g1_0 g1_1 g1_2 g1_3 g2_0 g2_1 g2_2 g2_3
      go_returns
      exact ⟨rfl, E.out.1⟩
  by_cases c160 : op = 160
  · subst c160
    obtain ⟨rfl, rfl, ht⟩ := HT.out
    cases u with
    | false =>
      clear ht
      obtain ⟨g1_0, g1_1, g1_2, g1_3⟩ := At.two (E.out.2.1)
      obtain ⟨g2_0, g2_1, g2_2, g2_3⟩ := At.two (E.out.2.2)
      go_wp2_with fail
      clear g1_0 g1_1 g1_2 g1_3 g2_0 g2_1 g2_2 g2_3
      go_returns
      exact ⟨rfl, E.out.1⟩
    | true =>
      have ht := ht rfl
      subst ht
      obtain ⟨g1_0, g1_1, g1_2, g1_3⟩ := At.two (E.out.2.1)
      obtain ⟨g2_0, g2_1, g2_2, g2_3⟩ := At.two (E.out.2.2)
      go_wp2_with fail
      clear g1_0 g1_1 g1_2 g1_3 g2_0 g2_1 g2_2 g2_3
      go_returns
      exact ⟨rfl, E.out.1⟩
  by_cases c176 : op = 176
  · subst c176
    obtain ⟨rfl, rfl, ht⟩ := HT.out
    cases u with
    | false =>
      clear ht
      obtain ⟨g1_0, g1_1, g1_2, g1_3⟩ := At.two (E.out.2.1)
      obtain ⟨g2_0, g2_1, g2_2, g2_3⟩ := At.two (E.out.2.2)
      go_wp2_with fail
      clear g1_0 g1_1 g1_2 g1_3 g2_0 g2_1 g2_2 g2_3
      go_returns
      exact ⟨rfl, E.out.1⟩
    | true =>
      have ht := ht rfl
      subst ht
      obtain ⟨g1_0, g1_1, g1_2, g1_3⟩ := At.two (E.out.2.1)
      obtain ⟨g2_0, g2_1, g2_2, g2_3⟩ := At.two (E.out.2.2)
      go_wp2_with fail
      clear g1_0 g1_1 g1_2 g1_3 g2_0 g2_1 g2_2 g2_3
      go_returns
      exact ⟨rfl, E.out.1⟩
  have ht := HT.out
  rw [if_neg (by simp only [List.mem_cons, List.not_mem_nil, or_false]; omega)] at ht
  obtain ⟨rfl, rfl⟩ := ht
  have i16 : ((op : Int) == 16) = false := by simp; omega
  have i80 : ((op : Int) == 80) = false := by simp; omega
  have i32 : ((op : Int) == 32) = false := by simp; omega
  have i48 : ((op : Int) == 48) = false := by simp; omega
  have i160 : ((op : Int) == 160) = false := by simp; omega
  have i176 : ((op : Int) == 176) = false := by simp; omega
  clear HT c16 c80 c32 c48 c160 c176
  cases k with
  | false =>
    obtain ⟨g1_0, g1_1, g1_2, g1_3⟩ := At.two (E.out.2.1)
    obtain ⟨g2_0, g2_1, g2_2, g2_3⟩ := At.two (E.out.2.2)
    go_wp2_with fail
    clear g1_0 g1_1 g1_2 g1_3 g2_0 g2_1 g2_2 g2_3
    go_returns
    exact ⟨rfl, E.out.1⟩
  | true =>
    cases h with
    | false =>
      obtain ⟨g1_0, g1_1, g1_2, g1_3⟩ := At.two (E.out.2.1)
      obtain ⟨g2_0, g2_1, g2_2, g2_3⟩ := At.two (E.out.2.2)
      go_wp2_with fail
      clear g1_0 g1_1 g1_2 g1_3 g2_0 g2_1 g2_2 g2_3
      go_returns
      exact ⟨rfl, E.out.1⟩
    | true =>
      obtain ⟨g1_0, g1_1, g1_2, g1_3⟩ := At.two (E.out.2.1)
      obtain ⟨g2_0, g2_1, g2_2, g2_3⟩ := At.two (E.out.2.2)
      go_wp2_with fail
      clear g1_0 g1_1 g1_2 g1_3 g2_0 g2_1 g2_2 g2_3
      go_returns
      exact ⟨rfl, E.out.1⟩

theorem spanOnes_w (wide : Bool) {op a b : Nat} (ha : a < 18446744073709551616) (hb : b < 18446744073709551616) (w : World) : Calls Try.prog 7 #[.int .u8 (op : Int), .bool wide, .int .u64 (a : Int), .int .u64 (b : Int)] w fun e w' => e = .returned (.bool true) ∧ Calm w w' := by
  cases wide <;> cases hk : isO op
  · exact spanOnes_ff hk ha hb w
  · exact spanOnes_ft hk ha hb w
  · exact spanOnes_tf hk ha hb w
  · exact spanOnes_tt hk ha hb w

end Go.Proofs.Ytboiakahhkihiaa
