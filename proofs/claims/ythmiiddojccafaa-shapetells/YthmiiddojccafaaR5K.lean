/-
  Contracts of the reference of layer 5: Known.
-/
import Derived.Test.YthmiiddojccafaaR5C
namespace Go.Proofs.Ythmiiddojccafaa
open Go.RowKit
set_option linter.all false

theorem ok_c (op c : Nat) : okO op c = (okO op 0 && (decide (op ≠ 24) || decide (c ≤ 1))) := by
  rcases seven op with h | h | h | h | h | h | h | h
  · unfold okO
    rw [h]
    by_cases e : op = 24 <;> simp [e]
  all_goals
    have e : op ≠ 24 := by omega
    unfold okO
    rw [h]
    simp [e]
theorem letters_has : ∀ p : Fin 16, decide ((100 : UInt8) ∈ lettersO p.1) = decide (p.1 % 2 = 1) ∧ decide ((115 : UInt8) ∈ lettersO p.1) = decide (p.1 / 2 % 2 = 1) ∧ decide ((111 : UInt8) ∈ lettersO p.1) = decide (p.1 / 4 % 2 = 1) ∧ decide ((105 : UInt8) ∈ lettersO p.1) = decide (p.1 / 8 % 2 = 1) ∧ (lettersO p.1).length ≤ 4 ∧ lettersO p.1 ≠ [45] := by decide +kernel
theorem dash_no (bs : List UInt8) (h : bs ≠ [45]) : ((str bs).toList == [45]) = false := by
  rw [ByteArray.toList_eq, str_list]; exact beq_eq_false_iff_ne.2 h
theorem dash_yes : ((str [45]).toList == [45]) = true := by
  rw [ByteArray.toList_eq, str_list]; rfl
section
variable {op : Nat} (b c : Nat) (d e : Int) (w : World)
set_option maxRecDepth 100000 in
set_option maxHeartbeats 6400000 in
theorem rknown_c (ho : op < 256) : Calls Try.prog 52 #[.agg #[.int .u8 (op : Int), .int .u8 (b : Int), .int .u8 (c : Int), .int .i16 d, .int .i32 e]] w fun x w' => x = .returned (.bool (knownO op b c d e)) ∧ Calm w w' := by
  have SC := Lib.hid (fun w => shape_c op ho w)
  have hp := partO_lt ⟨op, ho⟩
  simp only at hp
  have i0 : (op : Int) < 256 := by omega
  by_cases hk : okO op 0 = true
  rotate_left
  · have hs : shpO op = [45] := by unfold shpO; rw [if_neg hk]
    have hz : knownO op b c d e = false := by unfold knownO; rw [ok_c, (by simpa using hk : okO op 0 = false)]; rfl
    rw [hz]
    rw [hs] at SC
    have q := dash_yes
    clear hz hs hk
    go_enter Try.func52, Try.ntmps52
    go_wp2_with fail
    refine (SC.out _).mono ?_
    rintro e' w1 ⟨rfl, rfl⟩
    go_wp2_with fail
    go_ret
    exact ⟨rfl, (Keep.refl _ w).alloc _⟩
  have hs : shpO op = lettersO (partO op) := by unfold shpO; rw [if_pos hk]
  obtain ⟨l1, l2, l3, l4, l5, l6⟩ := letters_has ⟨partO op, hp⟩
  simp only at l1 l2 l3 l4 l5 l6
  rw [hs] at SC
  have q := dash_no _ l6
  generalize hL : lettersO (partO op) = L at SC l1 l2 l3 l4 l5 q
  have HH := Lib.hid (fun (x : UInt8) w => has_c (str L) x w (by rw [str_size]; omega))
  have HKN : Hid (knownO op b c d e = ((decide (op ≠ 24) || decide (c ≤ 1)) && allO (partO op) op b c d e)) := Lib.hid (by unfold knownO; rw [ok_c, hk]; rfl)
  unfold allO at HKN
  rw [← l1, ← l2, ← l3, ← l4] at HKN
  have h100 := HH.out 100
  have h115 := HH.out 115
  have h111 := HH.out 111
  have h105 := HH.out 105
  rw [str_list] at h100 h115 h111 h105
  generalize decide ((100 : UInt8) ∈ L) = D at h100 HKN
  generalize decide ((115 : UInt8) ∈ L) = Z at h115 HKN
  generalize decide ((111 : UInt8) ∈ L) = F at h111 HKN
  generalize decide ((105 : UInt8) ∈ L) = M at h105 HKN
  have H1 := Lib.hid h100
  have H2 := Lib.hid h115
  have H3 := Lib.hid h111
  have H4 := Lib.hid h105
  clear h100 h115 h111 h105 l1 l2 l3 l4 l5 l6 hL hs hk hp HH
  obtain ⟨K, hK⟩ : ∃ K, K = knownO op b c d e := ⟨_, rfl⟩
  rw [← hK] at HKN ⊢
  clear hK
  by_cases hb : b < 16
  rotate_left
  · have i1 : (15 : Int) < (b : Int) := by omega
    have hz : K = false := by rw [HKN.out]; simp [hb]
    rw [hz]
    clear hz hb HKN
    go_enter Try.func52, Try.ntmps52
    go_wp2_with fail
    refine (SC.out _).mono ?_
    rintro e' w1 ⟨rfl, rfl⟩
    go_wp2_with fail
    go_ret
    exact ⟨rfl, (Keep.refl _ w).alloc _⟩
  by_cases hc : c < 16
  rotate_left
  · have i1 : decide ((15 : Int) < (b : Int)) = false := decide_eq_false (by omega)
    have i2 : (15 : Int) < (c : Int) := by omega
    have hz : K = false := by rw [HKN.out]; simp [hc]
    rw [hz]
    clear hz hb hc HKN
    go_enter Try.func52, Try.ntmps52
    go_wp2_with fail
    refine (SC.out _).mono ?_
    rintro e' w1 ⟨rfl, rfl⟩
    go_wp2_with fail
    go_ret
    exact ⟨rfl, (Keep.refl _ w).alloc _⟩
  have i1 : decide ((15 : Int) < (b : Int)) = false := decide_eq_false (by omega)
  have i2 : decide ((15 : Int) < (c : Int)) = false := decide_eq_false (by omega)
  by_cases h24 : op = 24 ∧ 1 < c
  · have i3 : (1 : Int) < (c : Int) := by omega
    have hz : K = false := by rw [HKN.out]; simp [h24.1]; omega
    rw [hz]
    obtain ⟨h24, -⟩ := h24
    clear hz hb hc HKN
    subst h24
    go_enter Try.func52, Try.ntmps52
    go_wp2_with fail
    refine (SC.out _).mono ?_
    rintro e' w1 ⟨rfl, rfl⟩
    go_wp2_with fail
    go_ret
    exact ⟨rfl, (Keep.refl _ w).alloc _⟩
  have HK2 : Hid (K = ((D || decide (b = 0)) && (Z || decide (c = 0)) && (F || decide (d = 0)) && (M || decide (e = 0)))) := Lib.hid (by
    rw [HKN.out, decide_eq_true hb, decide_eq_true hc]
    have : (decide (op ≠ 24) || decide (c ≤ 1)) = true := by simp; omega
    rw [this]
    rfl)
  have HX : Hid (∀ x : Bool, ((op : Int) == 24) = x → x = false ∨ decide ((1 : Int) < (c : Int)) = false) := Lib.hid (fun x hx => by
    cases x
    · exact .inl rfl
    · refine .inr (decide_eq_false ?_)
      have : (op : Int) = 24 := eq_of_beq hx
      omega)
  obtain ⟨Bb, hBb⟩ : ∃ B, decide (b = 0) = B := ⟨_, rfl⟩
  obtain ⟨Bc, hBc⟩ : ∃ B, decide (c = 0) = B := ⟨_, rfl⟩
  have y1 : ((b : Int) == 0) = Bb := by rw [← hBb]; by_cases h : b = 0 <;> simp [h]
  have y2 : ((c : Int) == 0) = Bc := by rw [← hBc]; by_cases h : c = 0 <;> simp [h]
  obtain ⟨Bd, hBd⟩ : ∃ B, decide (d = 0) = B := ⟨_, rfl⟩
  obtain ⟨Be, hBe⟩ : ∃ B, decide (e = 0) = B := ⟨_, rfl⟩
  have y3 : (d == 0) = Bd := by rw [← hBd]; by_cases h : d = 0 <;> simp [h]
  have y4 : (e == 0) = Be := by rw [← hBe]; by_cases h : e = 0 <;> simp [h]
  rw [hBb, hBc, hBd, hBe] at HK2
  clear hBb hBc hBd hBe hb hc h24 HKN ho
  generalize hx24 : ((op : Int) == 24) = X24 at HX
  have hX := HX.out X24 rfl
  clear HX
  have FIN : ∀ w1 : World, Hid (Calm w w1) → True := fun _ _ => trivial
  cases X24
  · clear hX
    go_enter Try.func52, Try.ntmps52
    go_wp2_with fail
    refine (SC.out _).mono ?_
    rintro e' w1 ⟨rfl, rfl⟩
    go_wp2_with fail
    refine (H1.out _).mono ?_
    rintro e' w1 ⟨rfl, rfl⟩
    go_wp2_with fail
    refine (H2.out _).mono ?_
    rintro e' w1 ⟨rfl, rfl⟩
    go_wp2_with fail
    refine (H3.out _).mono ?_
    rintro e' w1 ⟨rfl, rfl⟩
    go_wp2_with fail
    refine (H4.out _).mono ?_
    rintro e' w1 ⟨rfl, rfl⟩
    clear H1 H2 H3 H4 SC
    go_wp2_with fail
    all_goals
      go_ret
      refine ⟨?_, (Keep.refl _ w).alloc _⟩
      refine congrArg (fun z => Ending.returned (Value.bool z)) (?_ : _ = K)
      rw [HK2.out]
      clear HK2 i0 q i1 i2 y1 y2 y3 y4 FIN hx24
      simp_all
  · have hX : decide ((1 : Int) < (c : Int)) = false := hX.resolve_left (by decide)
    go_enter Try.func52, Try.ntmps52
    go_wp2_with fail
    refine (SC.out _).mono ?_
    rintro e' w1 ⟨rfl, rfl⟩
    go_wp2_with fail
    refine (H1.out _).mono ?_
    rintro e' w1 ⟨rfl, rfl⟩
    go_wp2_with fail
    refine (H2.out _).mono ?_
    rintro e' w1 ⟨rfl, rfl⟩
    go_wp2_with fail
    refine (H3.out _).mono ?_
    rintro e' w1 ⟨rfl, rfl⟩
    go_wp2_with fail
    refine (H4.out _).mono ?_
    rintro e' w1 ⟨rfl, rfl⟩
    clear H1 H2 H3 H4 SC
    go_wp2_with fail
    all_goals
      go_ret
      refine ⟨?_, (Keep.refl _ w).alloc _⟩
      refine congrArg (fun z => Ending.returned (Value.bool z)) (?_ : _ = K)
      rw [HK2.out]
      clear HK2 i0 q i1 i2 y1 y2 y3 y4 FIN hx24
      simp_all
end
end Go.Proofs.Ythmiiddojccafaa
