/-
  Contracts of the reference of layer 5: Right.
-/
import Derived.Test.YthmiiddojccafaaI5
import Derived.Test.YthmiiddojccafaaR5K
namespace Go.Proofs.Ythmiiddojccafaa
open Go.RowKit
set_option linter.all false

set_option maxRecDepth 100000 in
set_option maxHeartbeats 6400000 in
theorem rright_c {w : World} {v : Value} {l : List In} (h : Ins w v l) (hw : ∀ i ∈ l, i.op < 256) : Calls Try.prog 45 #[v] w fun x w' => x = .returned (.bool (rightO l)) ∧ Calm w w' := by
  obtain ⟨A, cap, rfl, hcap, hmax⟩ := h.form
  unfold maxLen at hmax
  have H := Lib.hid h
  have HW := Lib.hid hw
  obtain ⟨n, hn⟩ : ∃ n, n = l.length := ⟨_, rfl⟩
  have HN := Lib.hid hn
  have i9 : (n : Int) ≤ 9223372036854775807 := by omega
  rw [← hn] at H ⊢
  clear h hw hn hcap hmax
  go_enter Try.func45, Try.ntmps45
  go_wp2_with fail
  go_loopw [3] (fun i wr => ∃ k : Nat, k ≤ n ∧ i = .int .i64 k ∧ Calm w wr ∧ rightO l = rightO (l.drop k)) (fun i _ => n - (intOf i).toNat)
  case atStart => exact ⟨0, by omega, rfl, Keep.refl _ w, rfl⟩
  case round =>
    obtain ⟨k, hk, rfl, hcal, hrt⟩ := hrel
    have HC := Lib.hid hcal
    have HR := Lib.hid hrt
    clear hcal hrt
    by_cases hlt : k < n
    · have i1 : (k : Int) < (n : Int) := by omega
      obtain ⟨ad, x, rfl, hx, hat⟩ := H.out.at_ HC.out k (by rw [← HN.out]; exact hlt)
      have e0 := hat.c0
      have e1 := hat.c1
      have e2 := hat.c2
      have e3 := hat.c3
      have e4 := hat.c4
      have HX := Lib.hid hx
      have HA := Lib.hid (right_at l k x hx)
      have KC := Lib.hid (fun w => rknown_c (op := x.op) x.dst x.src x.off x.imm w (HW.out x (List.mem_of_getElem? hx)))
      clear hat hx
      go_wp2_with fail
      refine (KC.out _).mono ?_
      rintro e' w2 ⟨rfl, hc2⟩
      have HK : Hid (knownO x.op x.dst x.src x.off x.imm = knownI x) := Lib.hid rfl
      have HC2 := Lib.hid (HC.out.trans hc2)
      obtain ⟨ad1, x1, had1, hx1, hat2⟩ := H.out.at_ HC2.out k (by rw [← HN.out]; exact hlt)
      cases had1
      rw [HX.out] at hx1
      cases hx1
      have b0 := hat2.c0
      have b2 := hat2.c2
      have q2 : ∀ o : Obj, (w2.alloc o).cell? ⟨(ad.add (k * 5)).block, (ad.add (k * 5)).off + 2, none⟩ = some (.int .u8 (x.src : Int)) := fun o => (World.cell?_alloc_lt w2 o _ (World.block_lt_of_cell? _ _ b2)).trans b2
      clear hc2 e0 e1 e2 e3 e4 KC hat2
      generalize knownO x.op x.dst x.src x.off x.imm = B at HK ⊢
      cases B
      · go_wp2_with fail
        go_ret
        exact ⟨by rw [HR.out, HA.out, ← HK.out]; rfl, HC2.out⟩
      · by_cases ho : x.op = 24
        · have hd : ((x.op : Int) != 24) = false := by rw [bne_eq_false_iff_eq]; omega
          have HO := Lib.hid ho
          clear ho
          by_cases hl2 : k + 1 < n
          · have i2 : (((k : Int) + 1) == (n : Int)) = false := by rw [beq_eq_false_iff_ne]; omega
            obtain ⟨ad', y, had, hy, hat⟩ := H.out.at_ HC2.out (k + 1) (by rw [← HN.out]; exact hl2)
            cases had
            have HY := Lib.hid hy
            have d0 := hat.c0
            have d1 := hat.c1
            have d2 := hat.c2
            have d3 := hat.c3
            have d4 := hat.c4
            have i3 : (k : Int) + 1 < (n : Int) := by omega
            have hT : ((k : Int) + 1).toNat = k + 1 := by omega
            have i4 : ¬ ((k : Int) + 1 < 0) := by omega
            have HZ : Hid (rightO l = (halfO x y && rightO (l.drop (k + 2)))) := Lib.hid (by rw [HR.out, HA.out, ← HK.out, if_pos HO.out, HY.out]; rfl)
            clear hy hat
            by_cases h0 : y.op = 0
            rotate_left
            · have g0 : ((y.op : Int) != 0) = true := by rw [bne_iff_ne]; omega
              have hh : halfO x y = false := by unfold halfO; simp [h0]
              have HF : Hid (rightO l = false) := Lib.hid (by rw [HZ.out, hh]; rfl)
              clear HZ
              go_wp2_with fail
              go_ret
              exact ⟨by rw [HF.out]; rfl, HC2.out.alloc _⟩
            have g0 : ((y.op : Int) != 0) = false := by rw [bne_eq_false_iff_eq]; omega
            by_cases h1 : y.dst = 0
            rotate_left
            · have g1 : ((y.dst : Int) != 0) = true := by rw [bne_iff_ne]; omega
              have hh : halfO x y = false := by unfold halfO; simp [h1]
              have HF : Hid (rightO l = false) := Lib.hid (by rw [HZ.out, hh]; rfl)
              clear HZ
              go_wp2_with fail
              go_ret
              exact ⟨by rw [HF.out]; rfl, HC2.out.alloc _⟩
            have g1 : ((y.dst : Int) != 0) = false := by rw [bne_eq_false_iff_eq]; omega
            by_cases h2 : y.src = 0
            rotate_left
            · have g2 : ((y.src : Int) != 0) = true := by rw [bne_iff_ne]; omega
              have hh : halfO x y = false := by unfold halfO; simp [h2]
              have HF : Hid (rightO l = false) := Lib.hid (by rw [HZ.out, hh]; rfl)
              clear HZ
              go_wp2_with fail
              go_ret
              exact ⟨by rw [HF.out]; rfl, HC2.out.alloc _⟩
            have g2 : ((y.src : Int) != 0) = false := by rw [bne_eq_false_iff_eq]; omega
            by_cases h3 : y.off = 0
            rotate_left
            · have g3 : ((y.off : Int) != 0) = true := by rw [bne_iff_ne]; exact h3
              have hh : halfO x y = false := by unfold halfO; simp [h3]
              have HF : Hid (rightO l = false) := Lib.hid (by rw [HZ.out, hh]; rfl)
              clear HZ
              go_wp2_with fail
              go_ret
              exact ⟨by rw [HF.out]; rfl, HC2.out.alloc _⟩
            have g3 : ((y.off : Int) != 0) = false := by rw [bne_eq_false_iff_eq]; exact h3
            by_cases h4 : x.src = 1
            · have g4 : ((x.src : Int) == 1) = true := by rw [beq_iff_eq]; omega
              by_cases h5 : y.imm = 0
              · have g5 : (y.imm != 0) = false := by rw [bne_eq_false_iff_eq]; exact h5
                have hh : halfO x y = true := by unfold halfO; simp [h0, h1, h2, h3, h5]
                have HF : Hid (rightO l = rightO (l.drop (k + 2))) := Lib.hid (by rw [HZ.out, hh]; rfl)
                clear HZ
                go_wp2_with fail
                go_roundw
                case rel => exact ⟨k + 2, by omega, by go_num, HC2.out.alloc _, HF.out⟩
                case measure => simp [intOf]; omega
              · have g5 : (y.imm != 0) = true := by rw [bne_iff_ne]; exact h5
                have hh : halfO x y = false := by unfold halfO; simp [h4, h5]
                have HF : Hid (rightO l = false) := Lib.hid (by rw [HZ.out, hh]; rfl)
                clear HZ
                go_wp2_with fail
                go_ret
                exact ⟨by rw [HF.out]; rfl, HC2.out.alloc _⟩
            · have g4 : ((x.src : Int) == 1) = false := by rw [beq_eq_false_iff_ne]; omega
              have hh : halfO x y = true := by unfold halfO; simp [h0, h1, h2, h3, h4]
              have HF : Hid (rightO l = rightO (l.drop (k + 2))) := Lib.hid (by rw [HZ.out, hh]; rfl)
              clear HZ
              go_wp2_with fail
              go_roundw
              case rel => exact ⟨k + 2, by omega, by go_num, HC2.out.alloc _, HF.out⟩
              case measure => simp [intOf]; omega
          · have i2 : (((k : Int) + 1) == (n : Int)) = true := by rw [beq_iff_eq]; omega
            have hz : rightO l = false := by
              rw [HR.out, HA.out, ← HK.out, if_pos HO.out, List.getElem?_eq_none (by rw [← HN.out]; omega)]
              rfl
            have HZ := Lib.hid hz
            clear hz
            go_wp2_with fail
            go_ret
            exact ⟨by rw [HZ.out]; rfl, HC2.out⟩
        · have hd : ((x.op : Int) != 24) = true := by rw [bne_iff_ne]; omega
          have HO := Lib.hid ho
          clear ho
          go_wp2_with fail
          go_roundw
          case rel => exact ⟨k + 1, by omega, by go_num, HC2.out, by rw [HR.out, HA.out, ← HK.out, if_neg HO.out]; rfl⟩
          case measure => simp [intOf]; omega
    · obtain rfl : k = n := by omega
      have hz : rightO l = true := by rw [HR.out, HN.out, List.drop_length]; rfl
      have HZ := Lib.hid hz
      clear hz
      go_wp2_with fail
      go_ret
      exact ⟨by rw [HZ.out]; rfl, HC.out⟩
end Go.Proofs.Ythmiiddojccafaa
