/-
  Package isa: rows of instructions in memory; half, allKnown.
-/
import Derived.Test.YthmiiddojccafaaIP
namespace Go.Proofs.Ythmiiddojccafaa
open Go.RowKit
set_option linter.all false

/-- An instruction lies at an address. -/
structure InAt (w : World) (a : Addr) (i : In) : Prop where
  c0 : w.cell? a = some (.int .u8 (i.op : Int))
  c1 : w.cell? ⟨a.block, a.off + 1, none⟩ = some (.int .u8 (i.dst : Int))
  c2 : w.cell? ⟨a.block, a.off + 2, none⟩ = some (.int .u8 (i.src : Int))
  c3 : w.cell? ⟨a.block, a.off + 3, none⟩ = some (.int .i16 i.off)
  c4 : w.cell? ⟨a.block, a.off + 4, none⟩ = some (.int .i32 i.imm)
theorem InAt.calm {w w' : World} {a : Addr} {i : In} (h : InAt w a i) (hc : Calm w w') : InAt w' a i := by
  have hl := World.block_lt_of_cell? _ _ h.c0
  exact ⟨(hc.cell (p := a) hl (fun e => e)).trans h.c0, (hc.cell (p := ⟨a.block, a.off + 1, none⟩) hl (fun e => e)).trans h.c1, (hc.cell (p := ⟨a.block, a.off + 2, none⟩) hl (fun e => e)).trans h.c2, (hc.cell (p := ⟨a.block, a.off + 3, none⟩) hl (fun e => e)).trans h.c3, (hc.cell (p := ⟨a.block, a.off + 4, none⟩) hl (fun e => e)).trans h.c4⟩
/-- A slice of instructions that reads as a list: nil, or cells in memory. -/
def Ins (w : World) (v : Value) (l : List In) : Prop :=
  (v = .slice none 0 0 ∧ l = []) ∨ ∃ (ad : Addr) (cap : Nat), v = .slice (some ad) l.length cap ∧ l.length ≤ cap ∧ cap ≤ maxLen ∧ ∀ (k : Nat) i, l[k]? = some i → InAt w (ad.add (k * 5)) i
theorem Ins.calm {w w' : World} {v : Value} {l : List In} (h : Ins w v l) (hc : Calm w w') : Ins w' v l := by
  rcases h with h | ⟨ad, cap, h1, h2, h3, h4⟩
  · exact .inl h
  · exact .inr ⟨ad, cap, h1, h2, h3, fun k i hk => (h4 k i hk).calm hc⟩
theorem Ins.form {w : World} {v : Value} {l : List In} (h : Ins w v l) : ∃ A cap, v = .slice A l.length cap ∧ l.length ≤ cap ∧ cap ≤ maxLen := by
  rcases h with ⟨rfl, rfl⟩ | ⟨ad, cap, rfl, h1, h2, h4⟩
  · exact ⟨none, 0, rfl, Nat.zero_le _, Nat.zero_le _⟩
  · exact ⟨some ad, cap, rfl, h1, h2⟩
theorem Ins.at_ {w w' : World} {A : Option Addr} {n cap : Nat} {l : List In} (h : Ins w (.slice A n cap) l) (hc : Calm w w') (k : Nat) (hk : k < l.length) : ∃ ad i, A = some ad ∧ l[k]? = some i ∧ InAt w' (ad.add (k * 5)) i := by
  rcases h.calm hc with ⟨_, rfl⟩ | ⟨ad, cap', e, h1, h2, h4⟩
  · simp at hk
  · injection e with e1
    exact ⟨ad, l[k], e1, List.getElem?_eq_getElem hk, h4 k l[k] (List.getElem?_eq_getElem hk)⟩
/-- v[:n]. -/
theorem Ins.cut {w : World} {A : Option Addr} {cap : Nat} {l : List In} (h : Ins w (.slice A l.length cap) l) (n : Nat) (hn : n ≤ l.length) : Ins w (.slice A n cap) (l.take n) := by
  rcases h with ⟨e, rfl⟩ | ⟨ad, cap', e, h1, h2, h4⟩
  · injection e with e1 e2 e3
    simp at hn
    subst e1; subst e3; subst hn
    exact .inl ⟨rfl, rfl⟩
  · injection e with e1 e2 e3
    subst e1; subst e3
    refine .inr ⟨ad, cap, by rw [List.length_take, Nat.min_eq_left hn], by rw [List.length_take]; omega, h2, fun k i hk => ?_⟩
    rw [List.getElem?_take] at hk
    split at hk
    · exact h4 k i hk
    · simp at hk

def halfB (c op' b' c' : Nat) (d' e' : Int) : Bool := decide (op' = 0 ∧ b' = 0 ∧ c' = 0 ∧ d' = 0 ∧ (c = 1 → e' = 0))
section
variable {op b c op' b' c' : Nat} {d e d' e' : Int} (w : World)
theorem half_c : Calls Try.prog 51 #[.agg #[.int .u8 (op : Int), .int .u8 (b : Int), .int .u8 (c : Int), .int .i16 d, .int .i32 e], .agg #[.int .u8 (op' : Int), .int .u8 (b' : Int), .int .u8 (c' : Int), .int .i16 d', .int .i32 e']] w fun x w' => x = .returned (.bool (halfB c op' b' c' d' e')) ∧ Calm w w' := by
  by_cases h0 : op' = 0
  · by_cases h1 : b' = 0
    · by_cases h2 : c' = 0
      · by_cases h3 : d' = 0
        · subst h0 h1 h2 h3
          by_cases h4 : c = 1
          · subst h4
            have hR : halfB 1 0 0 0 0 e' = (e' == 0) := by unfold halfB; by_cases h : e' = 0 <;> simp [h]
            rw [hR]
            clear hR
            go_enter Try.func51, Try.ntmps51
            go_wp2_with fail
            go_ret
            exact ⟨rfl, ((Keep.refl _ w).alloc _).alloc _⟩
          · have i4 : ((c : Int) != 1) = true := by simp; omega
            have hR : halfB c 0 0 0 0 e' = true := by unfold halfB; simp [h4]
            rw [hR]
            clear hR h4
            go_enter Try.func51, Try.ntmps51
            go_wp2_with fail
            go_ret
            exact ⟨rfl, ((Keep.refl _ w).alloc _).alloc _⟩
        · have i1 : ¬ ((d' : Int) = 0) := by omega
          have hR : halfB c op' b' c' d' e' = false := by unfold halfB; simp [h3]
          rw [hR]
          clear hR h3
          subst h0
          subst h1
          subst h2
          go_enter Try.func51, Try.ntmps51
          go_wp2_with fail
          go_ret
          exact ⟨rfl, ((Keep.refl _ w).alloc _).alloc _⟩
      · have i1 : ¬ ((c' : Int) = 0) := by omega
        have hR : halfB c op' b' c' d' e' = false := by unfold halfB; simp [h2]
        rw [hR]
        clear hR h2
        subst h0
        subst h1
        go_enter Try.func51, Try.ntmps51
        go_wp2_with fail
        go_ret
        exact ⟨rfl, ((Keep.refl _ w).alloc _).alloc _⟩
    · have i1 : ¬ ((b' : Int) = 0) := by omega
      have hR : halfB c op' b' c' d' e' = false := by unfold halfB; simp [h1]
      rw [hR]
      clear hR h1
      subst h0
      go_enter Try.func51, Try.ntmps51
      go_wp2_with fail
      go_ret
      exact ⟨rfl, ((Keep.refl _ w).alloc _).alloc _⟩
  · have i1 : ¬ ((op' : Int) = 0) := by omega
    have hR : halfB c op' b' c' d' e' = false := by unfold halfB; simp [h0]
    rw [hR]
    clear hR h0
    go_enter Try.func51, Try.ntmps51
    go_wp2_with fail
    go_ret
    exact ⟨rfl, ((Keep.refl _ w).alloc _).alloc _⟩
end
set_option maxHeartbeats 3200000 in
theorem allKnown_c {w : World} {v : Value} {l : List In} (h : Ins w v l) (hw : ∀ i ∈ l, i.op < 256) : Calls Try.prog 42 #[v] w fun x w' => x = .returned (.bool (rightO l)) ∧ Calm w w' := by
  obtain ⟨A, cap, rfl, hcap, hmax⟩ := h.form
  unfold maxLen at hmax
  have H := Lib.hid h
  have HW := Lib.hid hw
  obtain ⟨n, hn⟩ : ∃ n, n = l.length := ⟨_, rfl⟩
  have HN := Lib.hid hn
  have i9 : (n : Int) ≤ 9223372036854775807 := by omega
  rw [← hn] at H ⊢
  clear h hw hn hcap hmax
  go_enter Try.func42, Try.ntmps42
  go_wp2_with fail
  go_loopw [3] (fun i wr => ∃ k : Nat, k ≤ n ∧ i = .int .i64 k ∧ Calm w wr ∧ rightO l = rightO (l.drop k)) (fun i _ => n - (intOf i).toNat)
  case atStart => exact ⟨0, by omega, rfl, Keep.refl _ w, rfl⟩
  case round =>
    obtain ⟨k, hk, rfl, hcal, hrt⟩ := hrel
    have HC := Lib.hid hcal
    have HR := Lib.hid hrt
    clear hcal hrt
    by_cases hlt : k < n
    · have i1 : (k : Int) < (n : Int) := by omega
      obtain ⟨ad, x, rfl, hx, hat⟩ := H.out.at_ HC.out k (by rw [← HN.out]; exact hlt)
      have e0 := hat.c0
      have e1 := hat.c1
      have e2 := hat.c2
      have e3 := hat.c3
      have e4 := hat.c4
      have HX := Lib.hid hx
      have HA := Lib.hid (right_at l k x hx)
      have KC := Lib.hid (fun w => known_c (op := x.op) x.dst x.src x.off x.imm w (HW.out x (List.mem_of_getElem? hx)))
      have HB : Hid (Box (wr.alloc (.cells #[.int .u8 (x.op : Int), .int .u8 (x.dst : Int), .int .u8 (x.src : Int), .int .i16 x.off, .int .i32 x.imm] 34)) wr.heap.size x.op x.dst x.src x.off x.imm) := Lib.hid (Box.made wr _ _ _ _ _)
      have HC1 : Hid (Calm w (wr.alloc (.cells #[.int .u8 (x.op : Int), .int .u8 (x.dst : Int), .int .u8 (x.src : Int), .int .i16 x.off, .int .i32 x.imm] 34))) := Lib.hid (HC.out.alloc _)
      clear hat hx
      go_wp2_with fail
      refine (KC.out _).mono ?_
      rintro e' w2 ⟨rfl, hc2⟩
      have HK : Hid (knownO x.op x.dst x.src x.off x.imm = knownI x) := Lib.hid rfl
      have HC2 := Lib.hid (HC1.out.trans hc2)
      have HB2 := Lib.hid (HB.out.calm hc2)
      have b0 := HB2.out.c0
      have b1 := HB2.out.c1
      have b2 := HB2.out.c2
      have b3 := HB2.out.c3
      have b4 := HB2.out.c4
      clear hc2 e0 e1 e2 e3 e4 KC HB HC1
      generalize knownO x.op x.dst x.src x.off x.imm = B at HK ⊢
      generalize wr.heap.size = g at HB2 b0 b1 b2 b3 b4 ⊢
      cases B
      · go_wp2_with fail
        go_ret
        exact ⟨by rw [HR.out, HA.out, ← HK.out]; rfl, HC2.out⟩
      · have WC := Lib.hid (fun w => wide_c (op := x.op) x.dst x.src x.off x.imm w)
        go_wp2_with fail
        refine (WC.out _).mono ?_
        rintro e' w3 ⟨rfl, hc3⟩
        have HC3 := Lib.hid (HC2.out.trans hc3)
        have HB3 := Lib.hid (HB2.out.calm hc3)
        clear hc3 b0 b1 b2 b3 b4 WC
        by_cases ho : x.op = 24
        · have hd : decide (x.op = 24) = true := decide_eq_true ho
          have HO := Lib.hid ho
          rw [hd]
          clear ho hd
          by_cases hl2 : k + 1 < n
          · have i2 : (((k : Int) + 1) == (n : Int)) = false := by rw [beq_eq_false_iff_ne]; omega
            obtain ⟨ad', y, had, hy, hat⟩ := H.out.at_ HC3.out (k + 1) (by rw [← HN.out]; exact hl2)
            cases had
            have HY := Lib.hid hy
            have HAT := Lib.hid hat
            have HHC := Lib.hid (fun w => half_c (op := x.op) (b := x.dst) (c := x.src) (d := x.off) (e := x.imm) (op' := y.op) (b' := y.dst) (c' := y.src) (d' := y.off) (e' := y.imm) w)
            have i3 : (k : Int) + 1 < (n : Int) := by omega
            clear hy hat
            have hT : ((k : Int) + 1).toNat = k + 1 := by omega
            have i4 : ¬ ((k : Int) + 1 < 0) := by omega
            go_upto_region 9 with fail
            refine wp_region_noPanic ?_
            refine wp_region_held_drew (S := fun w' => Calm w w' ∧ Box w' g x.op x.dst x.src x.off x.imm ∧ InAt w' (ad.add ((k + 1) * 5)) y) (by kernel_rfl) ⟨HC3.out.drew, HB3.out.drew, HAT.out.calm (Keep.refl _ _).drew⟩ (fun hHeld => ?_)
            refine take_at 0 23 (.int .i64 ((k : Int) + 1)) rfl rfl (by kernel_rfl) (by kernel_rfl) (by kernel_rfl) (fun _ _ _ h => h) (Or.inl ⟨by rfl, ?_⟩) hHeld ?_
            · intro w hSw; go_simp
            simp only [List.setIfInBounds_toArray, List.set_cons_zero, List.set_cons_succ]
            refine take_at 1 24 (.slice (some ad) n cap) rfl rfl (by kernel_rfl) (by kernel_rfl) (by kernel_rfl) (fun _ _ _ h => h) (Or.inl ⟨by rfl, ?_⟩) hHeld ?_
            · intro w hSw; go_simp
            simp only [List.setIfInBounds_toArray, List.set_cons_zero, List.set_cons_succ]
            refine take_at 2 25 (.int .i64 (n : Int)) rfl rfl (by kernel_rfl) (by kernel_rfl) (by kernel_rfl) (fun _ _ _ h => h) (Or.inl ⟨by rfl, ?_⟩) hHeld ?_
            · intro w hSw; go_simp
            simp only [List.setIfInBounds_toArray, List.set_cons_zero, List.set_cons_succ]
            refine take_at 3 26 (.bool false) rfl rfl (by kernel_rfl) (by kernel_rfl) (by kernel_rfl) (fun _ _ _ h => h) (Or.inl ⟨by rfl, ?_⟩) hHeld ?_
            · intro w hSw; go_simp
            simp only [List.setIfInBounds_toArray, List.set_cons_zero, List.set_cons_succ]
            refine take_at 4 27 (.bool false) rfl rfl (by kernel_rfl) (by kernel_rfl) (by kernel_rfl) (fun _ _ _ h => h) (Or.inl ⟨by rfl, ?_⟩) hHeld ?_
            · intro w hSw; go_simp
            simp only [List.setIfInBounds_toArray, List.set_cons_zero, List.set_cons_succ]
            refine take_at 5 28 (.agg #[.int .u8 (x.op : Int), .int .u8 (x.dst : Int), .int .u8 (x.src : Int), .int .i16 x.off, .int .i32 x.imm]) rfl rfl (by kernel_rfl) (by kernel_rfl) (by kernel_rfl) (fun _ _ _ h => h) (Or.inl ⟨by rfl, ?_⟩) hHeld ?_
            · intro w hSw; obtain ⟨-, ⟨c0, c1, c2, c3, c4⟩, -⟩ := hSw; go_simp
            simp only [List.setIfInBounds_toArray, List.set_cons_zero, List.set_cons_succ]
            refine take_at 6 29 (.slice (some ad) n cap) rfl rfl (by kernel_rfl) (by kernel_rfl) (by kernel_rfl) (fun _ _ _ h => h) (Or.inl ⟨by rfl, ?_⟩) hHeld ?_
            · intro w hSw; go_simp
            simp only [List.setIfInBounds_toArray, List.set_cons_zero, List.set_cons_succ]
            refine take_at 7 30 (.int .i64 ((k : Int) + 1)) rfl rfl (by kernel_rfl) (by kernel_rfl) (by kernel_rfl) (fun _ _ _ h => h) (Or.inl ⟨by rfl, ?_⟩) hHeld ?_
            · intro w hSw; go_simp
            simp only [List.setIfInBounds_toArray, List.set_cons_zero, List.set_cons_succ]
            refine take_at 8 31 (.pointer (some (ad.add ((k + 1) * 5)))) rfl rfl (by kernel_rfl) (by kernel_rfl) (by kernel_rfl) (fun _ _ _ h => h) (Or.inl ⟨by rfl, ?_⟩) hHeld ?_
            · intro w hSw; go_simp
            simp only [List.setIfInBounds_toArray, List.set_cons_zero, List.set_cons_succ]
            refine take_at 9 32 (.agg #[.int .u8 (y.op : Int), .int .u8 (y.dst : Int), .int .u8 (y.src : Int), .int .i16 y.off, .int .i32 y.imm]) rfl rfl (by kernel_rfl) (by kernel_rfl) (by kernel_rfl) (fun _ _ _ h => h) (Or.inl ⟨by rfl, ?_⟩) hHeld ?_
            · intro w hSw; obtain ⟨-, -, ⟨c0, c1, c2, c3, c4⟩⟩ := hSw; go_simp
            simp only [List.setIfInBounds_toArray, List.set_cons_zero, List.set_cons_succ]
            refine wpAnyH_ready (rs := [10]) (by kernel_rfl) (by simp) ?_
            refine AllReadyH.cons rfl (fun K hK => ?_) AllReadyH.nil
            go_simp
            refine (HHC.out _).mono ?_
            rintro e' w4 ⟨rfl, hc4⟩
            refine hK.out _ _ ⟨hHeld.1.trans hc4, hHeld.2.1.calm hc4, hHeld.2.2.calm hc4⟩ (fun hHeld => ?_)
            clear hK K
            try simp only [List.setIfInBounds_toArray, List.set_cons_zero, List.set_cons_succ]
            refine take_at 11 34 (.bool (!(halfB x.src y.op y.dst y.src y.off y.imm))) rfl rfl (by kernel_rfl) (by kernel_rfl) (by kernel_rfl) (fun _ _ _ h => h) (Or.inl ⟨by rfl, ?_⟩) hHeld ?_
            · intro w hSw; go_simp
            simp only [List.setIfInBounds_toArray, List.set_cons_zero, List.set_cons_succ]
            refine take_at 12 35 (.bool (!(halfB x.src y.op y.dst y.src y.off y.imm))) rfl rfl (by kernel_rfl) (by kernel_rfl) (by kernel_rfl) (fun _ _ _ h => h) (Or.inl ⟨by rfl, ?_⟩) hHeld ?_
            · intro w hSw; go_simp
            simp only [List.setIfInBounds_toArray, List.set_cons_zero, List.set_cons_succ]
            refine wpAnyH_done (by kernel_rfl) (NoPanic.normal ?_) _
            have HH : Hid (halfB x.src y.op y.dst y.src y.off y.imm = halfO x y) := Lib.hid rfl
            obtain ⟨hc4, hb4, -⟩ := hHeld
            have HC4 := Lib.hid hc4
            clear hc4 hb4
            generalize halfB x.src y.op y.dst y.src y.off y.imm = B at HH ⊢
            cases B
            · go_wp2_with fail
              go_ret
              exact ⟨by rw [HR.out, HA.out, ← HK.out, if_pos HO.out, HY.out]; simp only; rw [← HH.out]; rfl, HC4.out⟩
            · go_wp2_with fail
              go_roundw
              case rel => exact ⟨k + 2, by omega, by go_num, HC4.out, by rw [HR.out, HA.out, ← HK.out, if_pos HO.out, HY.out]; simp only; rw [← HH.out]; rfl⟩
              case measure => simp [intOf]; omega
          · have i2 : (((k : Int) + 1) == (n : Int)) = true := by rw [beq_iff_eq]; omega
            have hz : rightO l = false := by
              rw [HR.out, HA.out, ← HK.out, if_pos HO.out, List.getElem?_eq_none (by rw [← HN.out]; omega)]
              rfl
            have HZ := Lib.hid hz
            clear hz
            go_upto_region 9 with fail
            go_quiet (fail)
            go_wp2_with fail
            go_ret
            exact ⟨by rw [HZ.out]; rfl, HC3.out.drewN _⟩
        · have hd : decide (x.op = 24) = false := decide_eq_false ho
          have HO := Lib.hid ho
          rw [hd]
          clear ho hd
          go_wp2_with fail
          go_roundw
          case rel => exact ⟨k + 1, by omega, by go_num, HC3.out, by rw [HR.out, HA.out, ← HK.out, if_neg HO.out]; rfl⟩
          case measure => simp [intOf]; omega
    · obtain rfl : k = n := by omega
      have hz : rightO l = true := by rw [HR.out, HN.out, List.drop_length]; rfl
      have HZ := Lib.hid hz
      clear hz
      go_wp2_with fail
      go_ret
      exact ⟨by rw [HZ.out]; rfl, HC.out⟩
end Go.Proofs.Ythmiiddojccafaa
