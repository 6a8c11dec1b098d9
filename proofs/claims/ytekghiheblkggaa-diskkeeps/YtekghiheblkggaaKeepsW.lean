/-
  DiskKeeps: the walk.
-/
import Derived.Test.YtekghiheblkggaaKeepsT
import Derived.Deep.AppendLies
import Derived.Test.YtekghiheblkggaaRegion
import Derived.Deep.DeepCutAuto
import Derived.Deep.CutBlock
namespace Go.Proofs.Ytekghiheblkggaa
open Go.RowKit
set_option linter.all false

/-- A disk of four sectors, up, nothing armed, each sector full of its byte; the bytes in an array at block ab. -/
structure Four (w1 w : World) (R : Nat → Prop) (d ab m : Nat) (S : DS) (cs : List UInt8) : Prop where
  st : St w1 w R d S
  up : S.down = false
  free : S.arm = none
  ops : S.ops ≤ m
  wait : S.wait.length ≤ m
  secs : S.secs.length = 4
  out : ¬ R ab
  lo : w1.heap.size ≤ ab
  row : Row w ab 42 (cs.map bv).toArray
  len : cs.length = 4
  now : ∀ x, x < 4 → S.now x = full (cs.getD x 0)
theorem Four.op {w1 w : World} {R : Nat → Prop} {d ab m : Nat} {S : DS} {cs : List UInt8} (h : Four w1 w R d ab m S cs) : S.op = (true, { S with ops := S.ops + 1 }) := by simp [DS.op, h.up, h.free]
theorem Four.bounds {w1 w : World} {R : Nat → Prop} {d ab m : Nat} {S : DS} {cs : List UInt8} (h : Four w1 w R d ab m S cs) (hm : m ≤ 1000) : S.wait.length ≤ 1000000 ∧ S.ops ≤ 1000000000 := by
  have := h.ops
  have := h.wait
  omega
theorem Four.wrote {w1 w w' w'' : World} {R : Nat → Prop} {d ab m t : Nat} {S : DS} {cs : List UInt8} {c : UInt8} (h : Four w1 w R d ab m S cs) (hc : Calm w w') (ht : t < 4)
    (hs : St w1 w'' (Grow R w' w'') d { { S with ops := S.ops + 1 } with wait := S.wait ++ [(t, full c)] }) (k : Keep R w' w'') :
    Row w'' ab 42 (cs.map bv).toArray ∧ ¬ Grow R w' w'' ab ∧ ∀ w3, w3 = w''.setCell ⟨ab, t, none⟩ (bv c) → Four w1 w3 (Grow R w' w'') d ab (m + 1) { { S with ops := S.ops + 1 } with wait := S.wait ++ [(t, full c)] } (cs.set t c) := by
  have hlt := Nat.lt_of_lt_of_le h.row.lt hc.size
  have ho : ¬ Grow R w' w'' ab := fun e => e.elim h.out (fun e => by omega)
  have hr : Row w'' ab 42 (cs.map bv).toArray := (h.row.keep hc (fun e => e)).keep k h.out
  refine ⟨hr, ho, fun w3 hw3 => ?_⟩
  subst hw3
  refine ⟨hs.touch (p := ⟨ab, t, none⟩) ho h.lo _, h.up, h.free, ?_, ?_, h.secs, ho, h.lo, ?_, ?_, ?_⟩
  · have := h.ops
    show S.ops + 1 ≤ _
    omega
  · have := h.wait; simp; omega
  · have := hr.store t (bv c)
    rw [List.setIfInBounds_toArray] at this
    rw [List.map_set]
    exact this
  · simp [h.len]
  · intro x hx
    have e := write_now { S with ops := S.ops + 1 } t (full c) x
    rw [e]
    have hl := h.len
    by_cases ex : t = x
    · subst ex
      rw [if_pos rfl]
      simp [List.getD, List.getElem?_set, hl, hx]
    · rw [if_neg ex]
      have := h.now x hx
      simp only [List.getD, List.getElem?_set, ex, if_false] at this ⊢
      exact this
theorem Four.rest {w1 w w' : World} {R : Nat → Prop} {d ab m : Nat} {S : DS} {cs : List UInt8} (h : Four w1 w R d ab m S cs) (hc : Calm w w') : Four w1 w' R d ab m S cs :=
  ⟨h.st.rest hc, h.up, h.free, h.ops, h.wait, h.secs, h.out, h.lo, h.row.keep hc (fun e => e), h.len, h.now⟩

theorem Four.settled {w1 w : World} {R : Nat → Prop} {d ab m : Nat} {S : DS} {cs : List UInt8} (h : Four w1 w R d ab m S cs) : DS.settled { S with ops := S.ops + 1 } = ⟨cs.map full, [], none, false, S.ops + 1⟩ := by
  have e : (DS.settled { S with ops := S.ops + 1 }).secs = cs.map full := by
    have hl : (DS.settled { S with ops := S.ops + 1 }).secs.length = 4 := by simp [DS.settled, putTo_len, h.secs]
    apply List.ext_getElem
    · rw [hl]; simp [h.len]
    · intro i h1 h2
      have hi : i < 4 := by omega
      have e1 := settled_now { S with ops := S.ops + 1 } i (by rw [show ({ S with ops := S.ops + 1 } : DS).secs = S.secs from rfl, h.secs]; exact hi)
      have e2 : DS.now { S with ops := S.ops + 1 } i = full (cs.getD i 0) := h.now i hi
      rw [e2] at e1
      have e3 : (DS.settled { S with ops := S.ops + 1 }).now i = (DS.settled { S with ops := S.ops + 1 }).secs.getD i [] := rfl
      rw [e3] at e1
      have e4 : (DS.settled { S with ops := S.ops + 1 }).secs.getD i [] = (DS.settled { S with ops := S.ops + 1 }).secs[i] := by simp [h1]
      rw [e4] at e1
      rw [e1, List.getElem_map]
      simp [h.len, hi]
  have hu := h.up
  have hf := h.free
  show (⟨(DS.settled { S with ops := S.ops + 1 }).secs, [], S.arm, S.down, S.ops + 1⟩ : DS) = _
  rw [e, hu, hf]

set_option maxRecDepth 100000 in
set_option maxHeartbeats 3000000 in
theorem diskKeeps_c (v0 v1 v2 : Value) (zs ys : List Int) (ks : List Bool) (a3 : Int) (w : World) (h0 : Nums .u16 w v0 zs) (h1 : Nums .u16 w v1 ys) (h2 : Bools w (fun _ => True) v2 ks) (c0 : Fits v0) (c1 : Fits v1) (c2 : Fits v2) :
    Calls Try.prog 4 #[v0, v1, v2, .int .i64 a3] w fun e w' => e = .returned (.bool true) ∧ Calm w w' := by
  obtain ⟨A0, p0, rfl⟩ := h0.form
  obtain ⟨A1, p1, rfl⟩ := h1.form
  obtain ⟨A2, p2, rfl⟩ := h2.form
  have m0 := Nat.le_trans (c0 _ _ _ rfl).1 (c0 _ _ _ rfl).2
  have m1 := Nat.le_trans (c1 _ _ _ rfl).1 (c1 _ _ _ rfl).2
  have m2 := Nat.le_trans (c2 _ _ _ rfl).1 (c2 _ _ _ rfl).2
  obtain ⟨al, hal, eal⟩ := mask_nat a3 2 3 (by omega) (by decide)
  have hal4 : al < 4 := hal
  have H0 := Lib.hid h0
  have H1 := Lib.hid h1
  have H2 := Lib.hid h2
  unfold maxLen at m0 m1 m2
  clear h0 h1 h2 c0 c1 c2 hal
  go_enter Try.func4, Try.ntmps4
  go_wp2_with fail
  refine (shown_c w).mono ?_
  rintro e w1 ⟨rfl, hc⟩
  have C1 := Lib.hid hc
  clear hc
  go_wp2_with fail
  refine (new_ok w1 4 (by omega) (by omega)).mono ?_
  rintro e w2 ⟨d, rfl, hd, hc⟩
  have s2 := Lib.hid (St.made hd hc)
  clear hd hc
  generalize Grow (fun _ => False) w1 w2 = R2 at s2
  go_upto_block 0 with fail
  have F3 : Hid (Four w1 (w2.alloc (.cells #[.int .u8 0, .int .u8 0, .int .u8 0, .int .u8 0] 42)) R2 d w2.heap.size 0 ⟨List.replicate 4 (full 0), [], none, false, 0⟩ [0, 0, 0, 0]) := by
    refine ⟨s2.out.rest ((Keep.refl _ w2).alloc _), rfl, rfl, by simp, by simp, by simp, s2.out.fresh (Nat.le_refl _), s2.out.calm.size, Row.made w2 _ _, rfl, fun x hx => ?_⟩
    have : x = 0 ∨ x = 1 ∨ x = 2 ∨ x = 3 := by omega
    rcases this with rfl | rfl | rfl | rfl <;> rfl
  go_cut [] (fun wc => ∃ (j : Nat) (R : Nat → Prop) (S : DS) (cs : List UInt8), j ≤ 30 ∧ Four w1 wc R d w2.heap.size j S cs)
  case first =>
    clear s2
    go_wp2_with fail
    go_loopw [13] (fun i wr => ∃ (j : Nat) (R : Nat → Prop) (S : DS) (cs : List UInt8), j ≤ 30 ∧ j ≤ zs.length ∧ i = .int .i64 j ∧ Four w1 wr R d w2.heap.size j S cs) (fun i _ => 30 - (intOf i).toNat)
    case atStart => exact ⟨0, R2, _, _, by omega, by omega, rfl, F3.out⟩
    case round =>
      obtain ⟨j, R, S, cs, hj, hjl, rfl, hB⟩ := hrel
      have HB := Lib.hid hB
      clear hB F3
      by_cases hlt : j < zs.length ∧ j < 30
      · obtain ⟨i1, i2⟩ := hlt
        obtain ⟨ad, rfl, cf⟩ := H0.out.at_ (C1.out.trans HB.out.st.calm) j i1
        obtain ⟨x, hx, ex⟩ := H0.out.u16 j i1
        rw [ex] at cf
        have Ex := Lib.hid ex
        obtain ⟨t, ht, et⟩ : ∃ t : Nat, t < 4 ∧ bits .and .u16 (x : Int) 3 = (t : Int) := ⟨x % 4, by omega, u16_and x 3 2 hx (by omega) (by omega)⟩
        obtain ⟨c, ec⟩ : ∃ c : UInt8, (x : Int) / 256 = (c.toNat : Int) := ⟨UInt8.ofNat (x / 256), by rw [UInt8.toNat_ofNat']; omega⟩
        have hj0 : (0 : Int) ≤ (j : Int) := by omega
        have hj1 : (j : Int) < (zs.length : Int) := by omega
        have ht0 : (0 : Int) ≤ (t : Int) := by omega
        have ht1 : (t : Int) < 4 := by omega
        have hcb : (c.toNat : Int) ≤ 255 := by have := c.toNat_lt; omega
        clear ex eal
        go_wp2_with fail
        refine wp_region_noPanic ?_
        refine wp_region_held_drew (S := fun w' => w'.cell? (ad.add j) = some (.int .u16 (x : Int))) (by kernel_rfl) cf (fun hHeld => ?_)
        refine take_at 0 47 (.pointer (some ⟨d, 0, none⟩)) rfl rfl (by kernel_rfl) (by kernel_rfl) (by kernel_rfl) (fun _ _ _ h => h) (Or.inl ⟨by rfl, ?_⟩) hHeld ?_
        · intro w hSw; go_simp
        simp only [List.setIfInBounds_toArray, List.set_cons_zero, List.set_cons_succ]
        refine take_at 1 48 (.slice (some ad) zs.length p0) rfl rfl (by kernel_rfl) (by kernel_rfl) (by kernel_rfl) (fun _ _ _ h => h) (Or.inl ⟨by rfl, ?_⟩) hHeld ?_
        · intro w hSw; go_simp
        simp only [List.setIfInBounds_toArray, List.set_cons_zero, List.set_cons_succ]
        refine take_at 2 49 (.int .i64 j) rfl rfl (by kernel_rfl) (by kernel_rfl) (by kernel_rfl) (fun _ _ _ h => h) (Or.inl ⟨by rfl, ?_⟩) hHeld ?_
        · intro w hSw; go_simp
        simp only [List.setIfInBounds_toArray, List.set_cons_zero, List.set_cons_succ]
        refine take_at 3 50 (.pointer (some (ad.add j))) rfl rfl (by kernel_rfl) (by kernel_rfl) (by kernel_rfl) (fun _ _ _ h => h) (Or.inl ⟨by rfl, ?_⟩) hHeld ?_
        · intro w hSw; go_simp
        simp only [List.setIfInBounds_toArray, List.set_cons_zero, List.set_cons_succ]
        refine take_at 4 51 (.int .u16 (x : Int)) rfl rfl (by kernel_rfl) (by kernel_rfl) (by kernel_rfl) (fun _ _ _ h => h) (Or.inl ⟨by rfl, ?_⟩) hHeld ?_
        · intro w hSw; go_simp
        simp only [List.setIfInBounds_toArray, List.set_cons_zero, List.set_cons_succ]
        refine take_at 5 52 (.int .u16 (t : Int)) rfl rfl (by kernel_rfl) (by kernel_rfl) (by kernel_rfl) (fun _ _ _ h => h) (Or.inl ⟨by rfl, ?_⟩) hHeld ?_
        · intro w hSw; go_simp
        simp only [List.setIfInBounds_toArray, List.set_cons_zero, List.set_cons_succ]
        refine take_at 6 53 (.int .i64 t) rfl rfl (by kernel_rfl) (by kernel_rfl) (by kernel_rfl) (fun _ _ _ h => h) (Or.inl ⟨by rfl, ?_⟩) hHeld ?_
        · intro w hSw; go_simp; exact IntWalk.i64_in _ (by omega)
        simp only [List.setIfInBounds_toArray, List.set_cons_zero, List.set_cons_succ]
        refine take_at 7 54 (.slice (some ad) zs.length p0) rfl rfl (by kernel_rfl) (by kernel_rfl) (by kernel_rfl) (fun _ _ _ h => h) (Or.inl ⟨by rfl, ?_⟩) hHeld ?_
        · intro w hSw; go_simp
        simp only [List.setIfInBounds_toArray, List.set_cons_zero, List.set_cons_succ]
        refine take_at 8 55 (.int .i64 j) rfl rfl (by kernel_rfl) (by kernel_rfl) (by kernel_rfl) (fun _ _ _ h => h) (Or.inl ⟨by rfl, ?_⟩) hHeld ?_
        · intro w hSw; go_simp
        simp only [List.setIfInBounds_toArray, List.set_cons_zero, List.set_cons_succ]
        refine take_at 9 56 (.pointer (some (ad.add j))) rfl rfl (by kernel_rfl) (by kernel_rfl) (by kernel_rfl) (fun _ _ _ h => h) (Or.inl ⟨by rfl, ?_⟩) hHeld ?_
        · intro w hSw; go_simp
        simp only [List.setIfInBounds_toArray, List.set_cons_zero, List.set_cons_succ]
        refine take_at 10 57 (.int .u16 (x : Int)) rfl rfl (by kernel_rfl) (by kernel_rfl) (by kernel_rfl) (fun _ _ _ h => h) (Or.inl ⟨by rfl, ?_⟩) hHeld ?_
        · intro w hSw; go_simp
        simp only [List.setIfInBounds_toArray, List.set_cons_zero, List.set_cons_succ]
        refine take_at 11 58 (.int .u16 (c.toNat : Int)) rfl rfl (by kernel_rfl) (by kernel_rfl) (by kernel_rfl) (fun _ _ _ h => h) (Or.inl ⟨by rfl, ?_⟩) hHeld ?_
        · intro w hSw; go_simp
        simp only [List.setIfInBounds_toArray, List.set_cons_zero, List.set_cons_succ]
        refine take_at 12 59 (.int .u8 (c.toNat : Int)) rfl rfl (by kernel_rfl) (by kernel_rfl) (by kernel_rfl) (fun _ _ _ h => h) (Or.inl ⟨by rfl, ?_⟩) hHeld ?_
        · intro w hSw; go_simp; exact IntWalk.u8_in _ (by omega)
        simp only [List.setIfInBounds_toArray, List.set_cons_zero, List.set_cons_succ]
        refine wpAnyH_ready (rs := [13]) (by kernel_rfl) (by simp) ?_
        refine AllReadyH.cons rfl (fun K hK => ?_) AllReadyH.nil
        go_simp
        refine (sector_c c _).mono ?_
        rintro e w4 ⟨g4, q4, rfl, hd, hcc⟩
        have C4 : Hid (Calm wr w4) := Lib.hid (Keep.trans (Keep.drew (Keep.refl _ wr)) hcc)
        have s4 := Lib.hid (HB.out.st.rest C4.out)
        have D4 := Lib.hid hd
        have Q4 : Hid (∀ k, (k = g4 ∧ wr.heap.size ≤ k) → ¬ R k) := Lib.hid (fun k hk => HB.out.st.fresh hk.2)
        have cf4 := (C4.out.cell (World.block_lt_of_cell? _ _ cf) (fun e => e)).trans cf
        clear hd hcc
        refine hK.out _ _ cf4 (fun hHeld => ?_)
        clear hK K
        try simp only [List.setIfInBounds_toArray, List.set_cons_zero, List.set_cons_succ]
        refine wpAnyH_ready (rs := [14]) (by kernel_rfl) (by simp) ?_
        refine AllReadyH.cons rfl (fun K hK => ?_) AllReadyH.nil
        go_simp
        refine (st_write s4.out (HB.out.bounds (by omega)).1 (HB.out.bounds (by omega)).2 HB.out.op t (by rw [HB.out.secs]; exact ht) g4 q4 (full c) D4.out Q4.out).mono ?_
        rintro e w5 ⟨rfl, h, k⟩
        have s5 := Lib.hid h
        have K5 := Lib.hid k
        obtain ⟨ad', e', cf5⟩ := H0.out.at_ (C1.out.trans h.calm) j i1
        injection e' with e'
        subst e'
        rw [Ex.out] at cf5
        clear h k
        refine hK.out _ _ cf5 (fun hHeld => ?_)
        clear hK K
        try simp only [List.setIfInBounds_toArray, List.set_cons_zero, List.set_cons_succ]
        refine wpAnyH_done (by kernel_rfl) (NoPanic.normal ?_) _
        obtain ⟨r5, o5, F5⟩ := HB.out.wrote C4.out ht s5.out K5.out
        have c5 : w5.cell? ⟨w2.heap.size, t, none⟩ = some (.int .u8 ((cs[t]'(by rw [HB.out.len]; exact ht)).toNat : Int)) := by rw [r5.cell]; simp [HB.out.len, ht, bv]
        have f5 := r5.soft t
        have G5 := Lib.hid F5
        have had2 : (ad.add j).block ≠ w2.heap.size := by
          have := HB.out.lo
          have hw := C1.out.size
          obtain ⟨⟨A', cap', e'', hz⟩, _⟩ := H0.out
          injection e'' with e1 _ e2
          obtain ⟨ad2, e3, e4, _⟩ := hz j _ (List.getElem?_eq_getElem i1)
          rw [← e1] at e3
          injection e3 with e3
          subst e3
          rw [Addr.add_block]
          omega
        have cf6 : (w5.setCell ⟨w2.heap.size, t, none⟩ (.int .u8 (c.toNat : Int))).cell? (ad.add j) = some (.int .u16 (x : Int)) := (World.cell?_setCell_other _ _ _ _ (fun e => had2 (by rw [← e]))).trans cf5
        clear F5 r5 o5 cf cf4 had2
        go_wp2_with fail
        refine wp_region_noPanic ?_
        refine wp_region_held_drew (S := fun w' => w'.cell? (ad.add j) = some (.int .u16 (x : Int))) (by kernel_rfl) cf5 (fun hHeld => ?_)
        refine take_at 0 62 (.slice (some ad) zs.length p0) rfl rfl (by kernel_rfl) (by kernel_rfl) (by kernel_rfl) (fun _ _ _ h => h) (Or.inl ⟨by rfl, ?_⟩) hHeld ?_
        · intro w hSw; go_simp
        simp only [List.setIfInBounds_toArray, List.set_cons_zero, List.set_cons_succ]
        refine take_at 1 63 (.int .i64 j) rfl rfl (by kernel_rfl) (by kernel_rfl) (by kernel_rfl) (fun _ _ _ h => h) (Or.inl ⟨by rfl, ?_⟩) hHeld ?_
        · intro w hSw; go_simp
        simp only [List.setIfInBounds_toArray, List.set_cons_zero, List.set_cons_succ]
        refine take_at 2 64 (.pointer (some (ad.add j))) rfl rfl (by kernel_rfl) (by kernel_rfl) (by kernel_rfl) (fun _ _ _ h => h) (Or.inl ⟨by rfl, ?_⟩) hHeld ?_
        · intro w hSw; go_simp
        simp only [List.setIfInBounds_toArray, List.set_cons_zero, List.set_cons_succ]
        refine take_at 3 65 (.int .u16 (x : Int)) rfl rfl (by kernel_rfl) (by kernel_rfl) (by kernel_rfl) (fun _ _ _ h => h) (Or.inl ⟨by rfl, ?_⟩) hHeld ?_
        · intro w hSw; go_simp
        simp only [List.setIfInBounds_toArray, List.set_cons_zero, List.set_cons_succ]
        refine take_at 4 66 (.int .u16 (t : Int)) rfl rfl (by kernel_rfl) (by kernel_rfl) (by kernel_rfl) (fun _ _ _ h => h) (Or.inl ⟨by rfl, ?_⟩) hHeld ?_
        · intro w hSw; go_simp
        simp only [List.setIfInBounds_toArray, List.set_cons_zero, List.set_cons_succ]
        refine take_at 5 67 (.slice (some ad) zs.length p0) rfl rfl (by kernel_rfl) (by kernel_rfl) (by kernel_rfl) (fun _ _ _ h => h) (Or.inl ⟨by rfl, ?_⟩) hHeld ?_
        · intro w hSw; go_simp
        simp only [List.setIfInBounds_toArray, List.set_cons_zero, List.set_cons_succ]
        refine take_at 6 68 (.int .i64 j) rfl rfl (by kernel_rfl) (by kernel_rfl) (by kernel_rfl) (fun _ _ _ h => h) (Or.inl ⟨by rfl, ?_⟩) hHeld ?_
        · intro w hSw; go_simp
        simp only [List.setIfInBounds_toArray, List.set_cons_zero, List.set_cons_succ]
        refine take_at 7 69 (.pointer (some (ad.add j))) rfl rfl (by kernel_rfl) (by kernel_rfl) (by kernel_rfl) (fun _ _ _ h => h) (Or.inl ⟨by rfl, ?_⟩) hHeld ?_
        · intro w hSw; go_simp
        simp only [List.setIfInBounds_toArray, List.set_cons_zero, List.set_cons_succ]
        refine take_at 8 70 (.int .u16 (x : Int)) rfl rfl (by kernel_rfl) (by kernel_rfl) (by kernel_rfl) (fun _ _ _ h => h) (Or.inl ⟨by rfl, ?_⟩) hHeld ?_
        · intro w hSw; go_simp
        simp only [List.setIfInBounds_toArray, List.set_cons_zero, List.set_cons_succ]
        refine take_at 9 71 (.int .u16 (c.toNat : Int)) rfl rfl (by kernel_rfl) (by kernel_rfl) (by kernel_rfl) (fun _ _ _ h => h) (Or.inl ⟨by rfl, ?_⟩) hHeld ?_
        · intro w hSw; go_simp
        simp only [List.setIfInBounds_toArray, List.set_cons_zero, List.set_cons_succ]
        refine take_at 10 72 (.int .u8 (c.toNat : Int)) rfl rfl (by kernel_rfl) (by kernel_rfl) (by kernel_rfl) (fun _ _ _ h => h) (Or.inl ⟨by rfl, ?_⟩) hHeld ?_
        · intro w hSw; go_simp; exact IntWalk.u8_in _ (by omega)
        simp only [List.setIfInBounds_toArray, List.set_cons_zero, List.set_cons_succ]
        refine take_at 11 73 (.pointer (some ⟨w2.heap.size, t, none⟩)) rfl rfl (by kernel_rfl) (by kernel_rfl) (by kernel_rfl) (fun _ _ _ h => h) (Or.inl ⟨by rfl, ?_⟩) hHeld ?_
        · intro w hSw; go_simp
        simp only [List.setIfInBounds_toArray, List.set_cons_zero, List.set_cons_succ]
        refine wpAnyH_ready (rs := [12]) (by kernel_rfl) (by simp) ?_
        refine AllReadyH.cons rfl (fun K hK => ?_) AllReadyH.nil
        go_simp
        refine hK.out _ _ cf6 (fun hHeld => ?_)
        clear hK K
        try simp only [List.setIfInBounds_toArray, List.set_cons_zero, List.set_cons_succ]
        refine wpAnyH_done (by kernel_rfl) (NoPanic.normal ?_) _
        have F6 := Lib.hid ((G5.out _ rfl).rest (w' := (w5.setCell ⟨w2.heap.size, t, none⟩ (.int .u8 (c.toNat : Int))).drew) (Keep.drew (Keep.refl _ _)))
        clear cf6 cf5 c5 f5
        go_wp2_with fail
        go_roundw
        case rel => exact ⟨j + 1, _, _, _, by omega, by omega, by go_num, F6.out⟩
        case measure => simp [intOf]; omega
      · by_cases i1 : j < zs.length
        · have i2 : ¬ j < 30 := fun e => hlt ⟨i1, e⟩
          clear hlt
          go_wp2_with fail
          go_meet
          case rel => exact ⟨j, R, S, cs, hj, HB.out⟩
        · clear hlt
          go_wp2_with fail
          go_meet
          case rel => exact ⟨j, R, S, cs, hj, HB.out⟩
  case rest =>
    obtain ⟨w6, rfl⟩ : ∃ x : World, x = wc := ⟨_, rfl⟩
    obtain ⟨j, R, S, cs, hj, hB⟩ := hcut
    have F6 := Lib.hid hB
    clear hB F3 s2
    go_wp2_with fail
    refine (st_barrier F6.out.st (F6.out.bounds (by omega)).1 (F6.out.bounds (by omega)).2 F6.out.op).mono ?_
    rintro e w7 ⟨rfl, h, k⟩
    rw [F6.out.settled] at h
    obtain ⟨o, ho⟩ : ∃ o, o = S.ops + 1 := ⟨_, rfl⟩
    rw [← ho] at h
    have hol : o ≤ 31 := by have := F6.out.ops; omega
    have s7 := Lib.hid h
    have r7 := F6.out.row.keep k F6.out.out
    have o7 := F6.out.out
    have lo7 := F6.out.lo
    have hcl := F6.out.len
    clear h k F6 ho
    obtain ⟨k0, k1, k2, k3, rfl⟩ : ∃ k0 k1 k2 k3, cs = [k0, k1, k2, k3] := by
      match cs, hcl with
      | [a, b, c, d], _ => exact ⟨a, b, c, d, rfl⟩
    have a0 := r7.cell 0
    have a1 := r7.cell 1
    have a2 := r7.cell 2
    have a3' := r7.cell 3
    simp only [List.map_cons, List.map_nil, bv, List.getElem?_toArray, List.getElem?_cons_zero, List.getElem?_cons_succ] at a0 a1 a2 a3'
    have hab := r7.lt
    have R7 := Lib.hid r7
    have b2 : ∀ (A B C : Obj), (((w7.alloc A).alloc B).alloc C).cell? ⟨w2.heap.size, 2, none⟩ = some (.int .u8 (k2.toNat : Int)) := fun A B C => by
      rw [World.cell?_alloc_lt _ _ _ (by simp; omega), World.cell?_alloc_lt _ _ _ (by simp; omega), World.cell?_alloc_lt _ _ _ hab]; exact a2
    have b3 : ∀ (A B C D : Obj), ((((w7.alloc A).alloc B).alloc C).alloc D).cell? ⟨w2.heap.size, 3, none⟩ = some (.int .u8 (k3.toNat : Int)) := fun A B C D => by
      rw [World.cell?_alloc_lt _ _ _ (by simp; omega), World.cell?_alloc_lt _ _ _ (by simp; omega), World.cell?_alloc_lt _ _ _ (by simp; omega), World.cell?_alloc_lt _ _ _ hab]; exact a3'
    clear r7 hcl
    have P8 : Hid (Kp w1 ((((((w7.alloc (.cells #[.int .u8 (k0.toNat : Int), .int .u8 (k1.toNat : Int), .int .u8 (k2.toNat : Int), .int .u8 (k3.toNat : Int)] 42)).alloc (.cells #[.int .u8 (k0.toNat : Int)] 5)).alloc (.cells #[.int .u8 (k1.toNat : Int)] 5)).alloc (.cells #[.int .u8 (k2.toNat : Int)] 5)).alloc (.cells #[.int .u8 (k3.toNat : Int)] 5)).alloc
        (.cells #[.slice (some ⟨w7.heap.size + 1, 0, none⟩) 1 1, .slice (some ⟨w7.heap.size + 1 + 1, 0, none⟩) 1 1, .slice (some ⟨w7.heap.size + 1 + 1 + 1, 0, none⟩) 1 1, .slice (some ⟨w7.heap.size + 1 + 1 + 1 + 1, 0, none⟩) 1 1] 49))
        R d w2.heap.size w7.heap.size (w7.heap.size + 1 + 1 + 1 + 1 + 1) [k0, k1, k2, k3] [] [] [] [] [.slice (some ⟨w7.heap.size + 1, 0, none⟩) 1 1, .slice (some ⟨w7.heap.size + 1 + 1, 0, none⟩) 1 1, .slice (some ⟨w7.heap.size + 1 + 1 + 1, 0, none⟩) 1 1, .slice (some ⟨w7.heap.size + 1 + 1 + 1 + 1, 0, none⟩) 1 1] (.slice none 0 0) o) :=
      Lib.hid (Kp.start s7.out R7.out o7 lo7)
    clear s7 R7 o7 lo7
    go_upto_block 2 with fail
    clear a0 a1 a2 a3' b2 b3
    obtain ⟨cs, hcs⟩ : ∃ cs, cs = [k0, k1, k2, k3] := ⟨_, rfl⟩
    obtain ⟨lb, hlb⟩ : ∃ lb, lb = w7.heap.size := ⟨_, rfl⟩
    obtain ⟨mb, hmb⟩ : ∃ mb, mb = w7.heap.size + 1 + 1 + 1 + 1 + 1 := ⟨_, rfl⟩
    rw [← hcs, ← hmb, ← hlb] at P8
    rw [← hmb, ← hlb]
    obtain ⟨i0, hi0, hz0, hz1, hz2⟩ := info_parts info5
    obtain ⟨j0, hJ0, jz0, jz1, jz2⟩ := info_parts info4
    clear hcs hlb hmb hab
    generalize hW8 : World.alloc _ _ = W8 at P8 ⊢
    clear hW8
    obtain ⟨ab, hab⟩ : ∃ ab, ab = w2.heap.size := ⟨_, rfl⟩
    rw [← hab] at P8 ⊢
    clear hab
    go_cut [16] (fun s16 wc => ∃ (R : Nat → Prop) (es : List (Nat × UInt8)) (kl : List Bool) (mv : List Value) (KA : Option Addr) (kc o' : Nat), s16 = .slice KA kl.length kc ∧ Kp w1 wc R d ab lb mb cs es es es kl mv (.slice KA kl.length kc) o' ∧ kl.length = es.length ∧ es.length ≤ 30 ∧ o' ≤ 61 ∧ (al = 1 → ∀ b ∈ kl, b = true) ∧ (al = 2 → ∀ b ∈ kl, b = false))
    case first =>
      go_wp2_with fail
      go_loopw [16, 17] (fun s16 i wr => ∃ (j : Nat) (R : Nat → Prop) (es : List (Nat × UInt8)) (kl : List Bool) (mv : List Value) (KA : Option Addr) (kc o' : Nat), j ≤ 30 ∧ j ≤ ys.length ∧ i = .int .i64 j ∧ s16 = .slice KA kl.length kc ∧ Kp w1 wr R d ab lb mb cs es es es kl mv (.slice KA kl.length kc) o' ∧ kl.length = es.length ∧ es.length = j ∧ o' ≤ 31 + j ∧ (al = 1 → ∀ b ∈ kl, b = true) ∧ (al = 2 → ∀ b ∈ kl, b = false)) (fun _ i _ => 30 - (intOf i).toNat)
      case atStart => exact ⟨0, R, [], [], _, none, 0, o, by omega, by omega, rfl, rfl, P8.out, rfl, rfl, by omega, fun _ b hb => by simp at hb, fun _ b hb => by simp at hb⟩
      case round =>
        obtain ⟨j, R, es, kl, mv, KA, kc, o', hj, hjl, rfl, rfl, hP, hkl, hel, hol', ha1, ha2⟩ := hrel
        have HB := Lib.hid hP
        have Hkl := Lib.hid hkl
        have Hel := Lib.hid hel
        have Ha1 := Lib.hid ha1
        have Ha2 := Lib.hid ha2
        have hel1 : es.length ≤ 30 := by omega
        have hkl1 : kl.length ≤ 30 := by omega
        clear hP P8 hkl hel ha1 ha2
        by_cases hlt : j < ys.length ∧ j < 30
        · obtain ⟨i1, i2⟩ := hlt
          obtain ⟨ad, rfl, cf⟩ := H1.out.at_ (C1.out.trans HB.out.st.calm) j i1
          obtain ⟨x, hx, ex⟩ := H1.out.u16 j i1
          rw [ex] at cf
          have Ex := Lib.hid ex
          obtain ⟨t, ht, et⟩ : ∃ t : Nat, t < 4 ∧ bits .and .u16 (x : Int) 3 = (t : Int) := ⟨x % 4, by omega, u16_and x 3 2 hx (by omega) (by omega)⟩
          obtain ⟨c, ec⟩ : ∃ c : UInt8, (x : Int) / 256 = (c.toNat : Int) := ⟨UInt8.ofNat (x / 256), by rw [UInt8.toNat_ofNat']; omega⟩
          have hj0 : (0 : Int) ≤ (j : Int) := by omega
          have hj1 : (j : Int) < (ys.length : Int) := by omega
          have ht0 : (0 : Int) ≤ (t : Int) := by omega
          have ht1 : (t : Int) < 4 := by omega
          have hcb : (c.toNat : Int) ≤ 255 := by have := c.toNat_lt; omega
          have adlt : (ad.add j).block < w.heap.size := by
            obtain ⟨⟨A', cap', e'', hz⟩, _⟩ := H1.out
            injection e'' with e1 _ e2
            obtain ⟨ad2, e3, e4, _⟩ := hz j _ (List.getElem?_eq_getElem i1)
            rw [← e1] at e3
            injection e3 with e3
            subst e3
            rw [Addr.add_block]
            exact e4
          have adlo : (ad.add j).block < w1.heap.size := Nat.lt_of_lt_of_le adlt C1.out.size
          clear ex
          go_wp2_with fail
          refine wp_region_noPanic ?_
          refine wp_region_held_drew (S := fun w' => w'.cell? (ad.add j) = some (.int .u16 (x : Int))) (by kernel_rfl) cf (fun hHeld => ?_)
          refine take_at 0 106 (.pointer (some ⟨d, 0, none⟩)) rfl rfl (by kernel_rfl) (by kernel_rfl) (by kernel_rfl) (fun _ _ _ h => h) (Or.inl ⟨by rfl, ?_⟩) hHeld ?_
          · intro w hSw; go_simp
          simp only [List.setIfInBounds_toArray, List.set_cons_zero, List.set_cons_succ]
          refine take_at 1 107 (.slice (some ad) ys.length p1) rfl rfl (by kernel_rfl) (by kernel_rfl) (by kernel_rfl) (fun _ _ _ h => h) (Or.inl ⟨by rfl, ?_⟩) hHeld ?_
          · intro w hSw; go_simp
          simp only [List.setIfInBounds_toArray, List.set_cons_zero, List.set_cons_succ]
          refine take_at 2 108 (.int .i64 j) rfl rfl (by kernel_rfl) (by kernel_rfl) (by kernel_rfl) (fun _ _ _ h => h) (Or.inl ⟨by rfl, ?_⟩) hHeld ?_
          · intro w hSw; go_simp
          simp only [List.setIfInBounds_toArray, List.set_cons_zero, List.set_cons_succ]
          refine take_at 3 109 (.pointer (some (ad.add j))) rfl rfl (by kernel_rfl) (by kernel_rfl) (by kernel_rfl) (fun _ _ _ h => h) (Or.inl ⟨by rfl, ?_⟩) hHeld ?_
          · intro w hSw; go_simp
          simp only [List.setIfInBounds_toArray, List.set_cons_zero, List.set_cons_succ]
          refine take_at 4 110 (.int .u16 (x : Int)) rfl rfl (by kernel_rfl) (by kernel_rfl) (by kernel_rfl) (fun _ _ _ h => h) (Or.inl ⟨by rfl, ?_⟩) hHeld ?_
          · intro w hSw; go_simp
          simp only [List.setIfInBounds_toArray, List.set_cons_zero, List.set_cons_succ]
          refine take_at 5 111 (.int .u16 (t : Int)) rfl rfl (by kernel_rfl) (by kernel_rfl) (by kernel_rfl) (fun _ _ _ h => h) (Or.inl ⟨by rfl, ?_⟩) hHeld ?_
          · intro w hSw; go_simp
          simp only [List.setIfInBounds_toArray, List.set_cons_zero, List.set_cons_succ]
          refine take_at 6 112 (.int .i64 t) rfl rfl (by kernel_rfl) (by kernel_rfl) (by kernel_rfl) (fun _ _ _ h => h) (Or.inl ⟨by rfl, ?_⟩) hHeld ?_
          · intro w hSw; go_simp; exact IntWalk.i64_in _ (by omega)
          simp only [List.setIfInBounds_toArray, List.set_cons_zero, List.set_cons_succ]
          refine take_at 7 113 (.int .u8 (c.toNat : Int)) rfl rfl (by kernel_rfl) (by kernel_rfl) (by kernel_rfl) (fun _ _ _ h => h) (Or.inl ⟨by rfl, ?_⟩) hHeld ?_
          · intro w hSw; go_simp
          simp only [List.setIfInBounds_toArray, List.set_cons_zero, List.set_cons_succ]
          refine wpAnyH_ready (rs := [8]) (by kernel_rfl) (by simp) ?_
          refine AllReadyH.cons rfl (fun K hK => ?_) AllReadyH.nil
          go_simp
          refine (sector_c c _).mono ?_
          rintro e w4 ⟨g4, q4, rfl, hd, hcc⟩
          have C4 : Hid (Calm wr w4) := Lib.hid (Keep.trans (Keep.drew (Keep.refl _ wr)) hcc)
          have s4 := Lib.hid (HB.out.st.rest C4.out)
          have D4 := Lib.hid hd
          have Q4 : Hid (∀ k, (k = g4 ∧ wr.heap.size ≤ k) → ¬ R k) := Lib.hid (fun k hk => HB.out.st.fresh hk.2)
          have cf4 := (C4.out.cell (World.block_lt_of_cell? _ _ cf) (fun e => e)).trans cf
          clear hd hcc
          refine hK.out _ _ cf4 (fun hHeld => ?_)
          clear hK K
          try simp only [List.setIfInBounds_toArray, List.set_cons_zero, List.set_cons_succ]
          refine wpAnyH_ready (rs := [9]) (by kernel_rfl) (by simp) ?_
          refine AllReadyH.cons rfl (fun K hK => ?_) AllReadyH.nil
          go_simp
          refine (st_write s4.out (by rw [fulls_len]; omega) (by simp; omega) rfl t (by rw [List.length_map, HB.out.len]; exact ht) g4 q4 (full c) D4.out Q4.out).mono ?_
          rintro e w5 ⟨rfl, h, k⟩
          have P5 := Lib.hid (HB.out.wrote C4.out h k)
          obtain ⟨ad', e', cf5⟩ := H1.out.at_ (C1.out.trans h.calm) j i1
          injection e' with e'
          subst e'
          rw [Ex.out] at cf5
          clear h k
          refine hK.out _ _ cf5 (fun hHeld => ?_)
          clear hK K
          try simp only [List.setIfInBounds_toArray, List.set_cons_zero, List.set_cons_succ]
          refine wpAnyH_done (by kernel_rfl) (NoPanic.normal ?_) _
          obtain ⟨lu, l5⟩ : ∃ u : Int, w5.cell? ⟨lb, t, none⟩ = some (.int .u8 u) := ⟨(((putTo (fun _ => true) cs es es.length)[t]'(by rw [putTo_len, HB.out.len]; exact ht)).toNat : Int), by rw [P5.out.ltr.cell]; simp [putTo_len, HB.out.len, ht, bv]⟩
          have g5 := P5.out.ltr.soft t
          have P6 := Lib.hid (P5.out.lastSet t c)
          generalize Grow R w4 w5 = R' at P5 P6
          have hlbo := HB.out.lo.2
          have hmbo := HB.out.mo.2
          have had1 : (ad.add j).block ≠ lb := by omega
          have had2 : (ad.add j).block ≠ mb := by omega
          have cf5' : (w5.setCell ⟨lb, t, none⟩ (.int .u8 (c.toNat : Int))).cell? (ad.add j) = some (.int .u16 (x : Int)) := (World.cell?_setCell_other _ _ _ _ (fun e => had1 (by rw [← e]))).trans cf5
          clear cf cf4 s4 D4 Q4 C4 HB
          go_upto_region 21 with fail
          clear l5 g5 cf5 P5
          have P6 : Hid (Kp w1 (w5.setCell ⟨lb, t, none⟩ (.int .u8 (c.toNat : Int))) R' d ab lb mb cs (es ++ [(t, c)]) (es ++ [(t, c)]) es kl mv (.slice KA kl.length kc) (o' + 1)) := P6
          generalize hw6 : w5.setCell ⟨lb, t, none⟩ (.int .u8 (c.toNat : Int)) = w6 at P6 cf5' ⊢
          clear hw6
          go_cut [] (fun wc => ∃ mv', Kp w1 wc R' d ab lb mb cs (es ++ [(t, c)]) (es ++ [(t, c)]) (es ++ [(t, c)]) kl mv' (.slice KA kl.length kc) (o' + 1))
          case first =>
            have htm : t < mv.length := by rw [P6.out.ml]; exact ht
            obtain ⟨mg, mc, em, ho, hmR, hml, _⟩ := P6.out.may t _ (List.getElem?_eq_getElem htm)
            have hm1 : mv[t]? = some (.slice (some ⟨mg, 0, none⟩) (mayOf cs es t).length mc) := by rw [List.getElem?_eq_getElem htm, em]
            rw [em] at ho
            have OW := fun (W : World) (hc : Calm w6 W) => (own_move (w' := W) ho (fun g cur _ hr => hr.keep hc (fun e => e)))
            have cm : w6.cell? ⟨mb, t, none⟩ = some (.slice (some ⟨mg, 0, none⟩) (mayOf cs es t).length mc) := by rw [P6.out.mtr.cell]; simpa using hm1
            have fm := P6.out.mtr.soft t
            have mbl := P6.out.mtr.lt
            have hmg : mg ≠ mb := by
              obtain ⟨cur, hr⟩ := P6.out.mrow hm1 rfl
              exact hr.ne P6.out.mtr (by decide)
            have had3 : (ad.add j).block ≠ mg := by omega
            have cf6 := cf5'
            have adl6 : (ad.add j).block < w6.heap.size := World.block_lt_of_cell? _ _ cf6
            have hml1 := (mayOf_len cs es t).2
            clear em ho hml hmR cf5'
            go_wp2_with fail
            refine wp_region_noPanic ?_
            refine wp_region_held_drew (S := fun w' => w'.cell? (ad.add j) = some (.int .u16 (x : Int))) (by kernel_rfl) cf6 (fun hHeld => ?_)
            refine take_at 0 123 (.slice (some ad) ys.length p1) rfl rfl (by kernel_rfl) (by kernel_rfl) (by kernel_rfl) (fun _ _ _ h => h) (Or.inl ⟨by rfl, ?_⟩) hHeld ?_
            · intro w hSw; go_simp
            simp only [List.setIfInBounds_toArray, List.set_cons_zero, List.set_cons_succ]
            refine take_at 1 124 (.int .i64 j) rfl rfl (by kernel_rfl) (by kernel_rfl) (by kernel_rfl) (fun _ _ _ h => h) (Or.inl ⟨by rfl, ?_⟩) hHeld ?_
            · intro w hSw; go_simp
            simp only [List.setIfInBounds_toArray, List.set_cons_zero, List.set_cons_succ]
            refine take_at 2 125 (.pointer (some (ad.add j))) rfl rfl (by kernel_rfl) (by kernel_rfl) (by kernel_rfl) (fun _ _ _ h => h) (Or.inl ⟨by rfl, ?_⟩) hHeld ?_
            · intro w hSw; go_simp
            simp only [List.setIfInBounds_toArray, List.set_cons_zero, List.set_cons_succ]
            refine take_at 3 126 (.int .u16 (x : Int)) rfl rfl (by kernel_rfl) (by kernel_rfl) (by kernel_rfl) (fun _ _ _ h => h) (Or.inl ⟨by rfl, ?_⟩) hHeld ?_
            · intro w hSw; go_simp
            simp only [List.setIfInBounds_toArray, List.set_cons_zero, List.set_cons_succ]
            refine take_at 4 127 (.int .u16 (t : Int)) rfl rfl (by kernel_rfl) (by kernel_rfl) (by kernel_rfl) (fun _ _ _ h => h) (Or.inl ⟨by rfl, ?_⟩) hHeld ?_
            · intro w hSw; go_simp
            simp only [List.setIfInBounds_toArray, List.set_cons_zero, List.set_cons_succ]
            refine take_at 5 128 (.slice (some ad) ys.length p1) rfl rfl (by kernel_rfl) (by kernel_rfl) (by kernel_rfl) (fun _ _ _ h => h) (Or.inl ⟨by rfl, ?_⟩) hHeld ?_
            · intro w hSw; go_simp
            simp only [List.setIfInBounds_toArray, List.set_cons_zero, List.set_cons_succ]
            refine take_at 6 129 (.int .i64 j) rfl rfl (by kernel_rfl) (by kernel_rfl) (by kernel_rfl) (fun _ _ _ h => h) (Or.inl ⟨by rfl, ?_⟩) hHeld ?_
            · intro w hSw; go_simp
            simp only [List.setIfInBounds_toArray, List.set_cons_zero, List.set_cons_succ]
            refine take_at 7 130 (.pointer (some (ad.add j))) rfl rfl (by kernel_rfl) (by kernel_rfl) (by kernel_rfl) (fun _ _ _ h => h) (Or.inl ⟨by rfl, ?_⟩) hHeld ?_
            · intro w hSw; go_simp
            simp only [List.setIfInBounds_toArray, List.set_cons_zero, List.set_cons_succ]
            refine take_at 8 131 (.int .u16 (x : Int)) rfl rfl (by kernel_rfl) (by kernel_rfl) (by kernel_rfl) (fun _ _ _ h => h) (Or.inl ⟨by rfl, ?_⟩) hHeld ?_
            · intro w hSw; go_simp
            simp only [List.setIfInBounds_toArray, List.set_cons_zero, List.set_cons_succ]
            refine take_at 9 132 (.int .u16 (t : Int)) rfl rfl (by kernel_rfl) (by kernel_rfl) (by kernel_rfl) (fun _ _ _ h => h) (Or.inl ⟨by rfl, ?_⟩) hHeld ?_
            · intro w hSw; go_simp
            simp only [List.setIfInBounds_toArray, List.set_cons_zero, List.set_cons_succ]
            refine take_at 10 133 (.pointer (some ⟨mb, t, none⟩)) rfl rfl (by kernel_rfl) (by kernel_rfl) (by kernel_rfl) (fun _ _ _ h => h) (Or.inl ⟨by rfl, ?_⟩) hHeld ?_
            · intro w hSw; go_simp
            simp only [List.setIfInBounds_toArray, List.set_cons_zero, List.set_cons_succ]
            refine take_at 12 135 (.int .u8 (c.toNat : Int)) rfl rfl (by kernel_rfl) (by kernel_rfl) (by kernel_rfl) (fun _ _ _ h => h) (Or.inl ⟨by rfl, ?_⟩) hHeld ?_
            · intro w hSw; go_simp
            simp only [List.setIfInBounds_toArray, List.set_cons_zero, List.set_cons_succ]
            refine wpAnyH_ready (rs := [11, 13]) (by kernel_rfl) (by simp) ?_
            refine AllReadyH.cons rfl (fun K hK => ?_) ?_
            · go_simp
              refine hK.out _ _ cf6 (fun hHeld => ?_)
              clear hK K
              try simp only [List.setIfInBounds_toArray, List.set_cons_zero, List.set_cons_succ]
              refine wpAnyH_ready (rs := [13]) (by kernel_rfl) (by simp) ?_
              refine AllReadyH.cons rfl (fun K hK => ?_) AllReadyH.nil
              go_simp
              refine hK.out _ _ ((World.cell?_alloc_lt _ _ _ adl6).trans cf6) (fun hHeld => ?_)
              clear hK K
              try simp only [List.setIfInBounds_toArray, List.set_cons_zero, List.set_cons_succ]
              refine wpAnyH_ready (rs := [14]) (by kernel_rfl) (by simp) ?_
              refine AllReadyH.cons rfl (fun K hK => ?_) AllReadyH.nil
              refine step_append_lies _ (by rfl) _ _ _ (by rfl) 0 5 i0 _ 1 1 Try.underlying45 hi0 hz0 hz1 hz2 rfl (by omega) (.slice (some ⟨mg, 0, none⟩) (mayOf cs es t).length mc) (mayOf cs es t).length ((mayOf cs es t).map bv) (by rfl) (OW _ (Keep.alloc (Keep.drew (Keep.refl _ w6)) _)) ⟨w6.heap.size, 0, none⟩ 1 1 [bv c] (by rfl) (by rfl) (World.news_of_block (cs := #[bv c]) (t := 5) (fr := (0, 0)) (heap_alloc_new w6.drew _)) (by simp [Value.oneCell', bv]) (by omega) (by simp only [maxLen]; omega) (by omega) (Nat.zero_le _) (w6.heap.size + 1) (by simp) ?_
              intro gg cg w7' hown hgrow hat hlt
              have f7 : w7'.frozen? ⟨mb, t, none⟩ = false := (World.frozen?_of_block (a := ⟨mb, t, none⟩) (hgrow.block mb (by simp; omega) (fun e => hmg (Option.some.inj e).symm))).trans ((World.frozen?_alloc_old _ _ _ (by simp; omega)).trans fm)
              have d7 : w7'.cell? ⟨mb, t, none⟩ = some (.slice (some ⟨mg, 0, none⟩) (mayOf cs es t).length mc) := (World.cell?_of_block (a := ⟨mb, t, none⟩) (hgrow.block mb (by simp; omega) (fun e => hmg (Option.some.inj e).symm))).trans ((World.cell?_alloc_lt _ _ _ (by simp; omega)).trans cm)
              have cf7 : w7'.cell? (ad.add j) = some (.int .u16 (x : Int)) := (World.cell?_of_block (a := ad.add j) (hgrow.block _ (by simp; omega) (fun e => had3 (Option.some.inj e)))).trans ((World.cell?_alloc_lt _ _ _ adl6).trans cf6)
              rw [put_at _ _ _ 137 rfl]
              refine hK.out _ _ cf7 (fun hHeld => ?_)
              clear hK K
              try simp only [List.setIfInBounds_toArray, List.set_cons_zero, List.set_cons_succ]
              refine take_at 15 138 (.pointer (some ⟨mb, t, none⟩)) rfl rfl (by kernel_rfl) (by kernel_rfl) (by kernel_rfl) (fun _ _ _ h => h) (Or.inl ⟨by rfl, ?_⟩) hHeld ?_
              · intro w hSw; go_simp
              simp only [List.setIfInBounds_toArray, List.set_cons_zero, List.set_cons_succ]
              refine wpAnyH_ready (rs := [16]) (by kernel_rfl) (by simp) ?_
              refine AllReadyH.cons rfl (fun K hK => ?_) AllReadyH.nil
              go_simp
              have cf8 := (World.cell?_setCell_other w7' ⟨mb, t, none⟩ (ad.add j) (.slice (some ⟨gg, 0, none⟩) ((mayOf cs es t).length + 1) cg) (fun e => had2 (by rw [← e]))).trans cf7
              refine hK.out _ _ cf8 (fun hHeld => ?_)
              clear hK K
              try simp only [List.setIfInBounds_toArray, List.set_cons_zero, List.set_cons_succ]
              refine wpAnyH_done (by kernel_rfl) (NoPanic.normal ?_) _
              go_wp2_with fail
              go_meet
              case rel => exact ⟨_, P6.out.mayApp (Keep.alloc (Keep.drew (Keep.refl _ w6)) _) hm1 hgrow (by simpa using hown) hat (by omega)⟩
            refine AllReadyH.cons rfl (fun K hK => ?_) ?_
            · go_simp
              refine hK.out _ _ ((World.cell?_alloc_lt _ _ _ adl6).trans cf6) (fun hHeld => ?_)
              clear hK K
              try simp only [List.setIfInBounds_toArray, List.set_cons_zero, List.set_cons_succ]
              refine wpAnyH_ready (rs := [11]) (by kernel_rfl) (by simp) ?_
              refine AllReadyH.cons rfl (fun K hK => ?_) AllReadyH.nil
              go_simp
              refine hK.out _ _ ((World.cell?_alloc_lt _ _ _ adl6).trans cf6) (fun hHeld => ?_)
              clear hK K
              try simp only [List.setIfInBounds_toArray, List.set_cons_zero, List.set_cons_succ]
              refine wpAnyH_ready (rs := [14]) (by kernel_rfl) (by simp) ?_
              refine AllReadyH.cons rfl (fun K hK => ?_) AllReadyH.nil
              refine step_append_lies _ (by rfl) _ _ _ (by rfl) 0 5 i0 _ 1 1 Try.underlying45 hi0 hz0 hz1 hz2 rfl (by omega) (.slice (some ⟨mg, 0, none⟩) (mayOf cs es t).length mc) (mayOf cs es t).length ((mayOf cs es t).map bv) (by rfl) (OW _ (Keep.alloc (Keep.drew (Keep.refl _ w6)) _)) ⟨w6.heap.size, 0, none⟩ 1 1 [bv c] (by rfl) (by rfl) (World.news_of_block (cs := #[bv c]) (t := 5) (fr := (0, 0)) (heap_alloc_new w6.drew _)) (by simp [Value.oneCell', bv]) (by omega) (by simp only [maxLen]; omega) (by omega) (Nat.zero_le _) (w6.heap.size + 1) (by simp) ?_
              intro gg cg w7' hown hgrow hat hlt
              have f7 : w7'.frozen? ⟨mb, t, none⟩ = false := (World.frozen?_of_block (a := ⟨mb, t, none⟩) (hgrow.block mb (by simp; omega) (fun e => hmg (Option.some.inj e).symm))).trans ((World.frozen?_alloc_old _ _ _ (by simp; omega)).trans fm)
              have d7 : w7'.cell? ⟨mb, t, none⟩ = some (.slice (some ⟨mg, 0, none⟩) (mayOf cs es t).length mc) := (World.cell?_of_block (a := ⟨mb, t, none⟩) (hgrow.block mb (by simp; omega) (fun e => hmg (Option.some.inj e).symm))).trans ((World.cell?_alloc_lt _ _ _ (by simp; omega)).trans cm)
              have cf7 : w7'.cell? (ad.add j) = some (.int .u16 (x : Int)) := (World.cell?_of_block (a := ad.add j) (hgrow.block _ (by simp; omega) (fun e => had3 (Option.some.inj e)))).trans ((World.cell?_alloc_lt _ _ _ adl6).trans cf6)
              rw [put_at _ _ _ 137 rfl]
              refine hK.out _ _ cf7 (fun hHeld => ?_)
              clear hK K
              try simp only [List.setIfInBounds_toArray, List.set_cons_zero, List.set_cons_succ]
              refine take_at 15 138 (.pointer (some ⟨mb, t, none⟩)) rfl rfl (by kernel_rfl) (by kernel_rfl) (by kernel_rfl) (fun _ _ _ h => h) (Or.inl ⟨by rfl, ?_⟩) hHeld ?_
              · intro w hSw; go_simp
              simp only [List.setIfInBounds_toArray, List.set_cons_zero, List.set_cons_succ]
              refine wpAnyH_ready (rs := [16]) (by kernel_rfl) (by simp) ?_
              refine AllReadyH.cons rfl (fun K hK => ?_) AllReadyH.nil
              go_simp
              have cf8 := (World.cell?_setCell_other w7' ⟨mb, t, none⟩ (ad.add j) (.slice (some ⟨gg, 0, none⟩) ((mayOf cs es t).length + 1) cg) (fun e => had2 (by rw [← e]))).trans cf7
              refine hK.out _ _ cf8 (fun hHeld => ?_)
              clear hK K
              try simp only [List.setIfInBounds_toArray, List.set_cons_zero, List.set_cons_succ]
              refine wpAnyH_done (by kernel_rfl) (NoPanic.normal ?_) _
              go_wp2_with fail
              go_meet
              case rel => exact ⟨_, P6.out.mayApp (Keep.alloc (Keep.drew (Keep.refl _ w6)) _) hm1 hgrow (by simpa using hown) hat (by omega)⟩
            exact AllReadyH.nil
          case rest =>
            obtain ⟨w8, rfl⟩ : ∃ x : World, x = wc := ⟨_, rfl⟩
            obtain ⟨mv', hP⟩ := hcut
            have P8 := Lib.hid hP
            clear hP P6 cf5'
            have KW := fun (W : World) (hc : Calm w8 W) => (own_move (w' := W) P8.out.kr (fun g cur _ hr => hr.keep hc (fun e => e)))
            go_upto_region 22 with fail
            go_cut [19] (fun s19 wc => ∃ b : Bool, s19 = .bool b ∧ w8 = wc)
            case first =>
              by_cases hk : j < ks.length
              · obtain ⟨ad1, rfl, ck⟩ := H2.out.at_ (C1.out.trans P8.out.st.calm) j hk
                have hk1 : (j : Int) < (ks.length : Int) := by omega
                go_wp2_with fail
                go_meet
                case rel => exact ⟨_, rfl, rfl⟩
              · have hk1 : ¬ (j : Int) < (ks.length : Int) := by omega
                go_wp2_with fail
                go_meet
                case rel => exact ⟨_, rfl, rfl⟩
            case rest =>
              obtain ⟨b, rfl, rfl⟩ := hcut
              rcases (show al = 1 ∨ al = 2 ∨ (al ≠ 1 ∧ al ≠ 2) from by omega) with hal1 | hal1 | hal1
              · subst hal1
                go_wp2_with (at_builtin; refine wpList_append_lies _ rfl (.tmp 155) (.tmp 157) 32 rfl 0 4 j0 _ 1 1 Try.underlying32 hJ0 jz0 jz1 jz2 rfl (by omega) (.slice KA kl.length kc) kl.length (kl.map Value.bool) rfl (KW _ (Keep.alloc (Keep.refl _ w8) _)) ⟨w8.heap.size, 0, none⟩ 1 1 [.bool true] rfl rfl (World.news_of_block (cs := #[.bool true]) (t := 4) (fr := (0, 0)) (heap_alloc_new w8 _)) (by simp [Value.oneCell']) (by omega) (by simp only [maxLen]; omega) (by omega) (Nat.zero_le _) (w8.heap.size + 1) (by simp) ?_; intro gk ck w9 hown hgrow hat hlt; have P9 := Lib.hid (P8.out.kApp (Keep.alloc (Keep.refl _ w8) _) hgrow hown (hat.elim (fun e => .inl e.symm) (fun e => .inr ⟨gk, rfl, by omega⟩))); clear hown hgrow hat hlt KW)
                go_roundw
                case rel => exact ⟨j + 1, R', es ++ [(t, c)], kl ++ [true], mv', some ⟨gk, 0, none⟩, ck, o' + 1, by omega, by omega, by go_num, by rw [List.length_append]; rfl, by rw [List.length_append]; exact P9.out, by simp [Hkl.out], by simp [Hel.out], by omega, fun _ x hx => by rcases List.mem_append.1 hx with hx | hx; exact Ha1.out rfl x hx; simpa using hx, fun e => absurd e (by decide)⟩
                case measure => simp [intOf]; omega
              · subst hal1
                go_wp2_with (at_builtin; refine wpList_append_lies _ rfl (.tmp 155) (.tmp 157) 32 rfl 0 4 j0 _ 1 1 Try.underlying32 hJ0 jz0 jz1 jz2 rfl (by omega) (.slice KA kl.length kc) kl.length (kl.map Value.bool) rfl (KW _ (Keep.alloc (Keep.refl _ w8) _)) ⟨w8.heap.size, 0, none⟩ 1 1 [.bool false] rfl rfl (World.news_of_block (cs := #[.bool false]) (t := 4) (fr := (0, 0)) (heap_alloc_new w8 _)) (by simp [Value.oneCell']) (by omega) (by simp only [maxLen]; omega) (by omega) (Nat.zero_le _) (w8.heap.size + 1) (by simp) ?_; intro gk ck w9 hown hgrow hat hlt; have P9 := Lib.hid (P8.out.kApp (Keep.alloc (Keep.refl _ w8) _) hgrow hown (hat.elim (fun e => .inl e.symm) (fun e => .inr ⟨gk, rfl, by omega⟩))); clear hown hgrow hat hlt KW)
                go_roundw
                case rel => exact ⟨j + 1, R', es ++ [(t, c)], kl ++ [false], mv', some ⟨gk, 0, none⟩, ck, o' + 1, by omega, by omega, by go_num, by rw [List.length_append]; rfl, by rw [List.length_append]; exact P9.out, by simp [Hkl.out], by simp [Hel.out], by omega, fun e => absurd e (by decide), fun _ x hx => by rcases List.mem_append.1 hx with hx | hx; exact Ha2.out rfl x hx; simpa using hx⟩
                case measure => simp [intOf]; omega
              · have n1 : ((al : Int) == 1) = false := beq_eq_false_iff_ne.2 (by omega)
                have n2 : ((al : Int) == 2) = false := beq_eq_false_iff_ne.2 (by omega)
                go_wp2_with (at_builtin; refine wpList_append_lies _ rfl (.tmp 155) (.tmp 157) 32 rfl 0 4 j0 _ 1 1 Try.underlying32 hJ0 jz0 jz1 jz2 rfl (by omega) (.slice KA kl.length kc) kl.length (kl.map Value.bool) rfl (KW _ (Keep.alloc (Keep.refl _ w8) _)) ⟨w8.heap.size, 0, none⟩ 1 1 [.bool b] rfl rfl (World.news_of_block (cs := #[.bool b]) (t := 4) (fr := (0, 0)) (heap_alloc_new w8 _)) (by simp [Value.oneCell']) (by omega) (by simp only [maxLen]; omega) (by omega) (Nat.zero_le _) (w8.heap.size + 1) (by simp) ?_; intro gk ck w9 hown hgrow hat hlt; have P9 := Lib.hid (P8.out.kApp (Keep.alloc (Keep.refl _ w8) _) hgrow hown (hat.elim (fun e => .inl e.symm) (fun e => .inr ⟨gk, rfl, by omega⟩))); clear hown hgrow hat hlt KW)
                go_roundw
                case rel => exact ⟨j + 1, R', es ++ [(t, c)], kl ++ [b], mv', some ⟨gk, 0, none⟩, ck, o' + 1, by omega, by omega, by go_num, by rw [List.length_append]; rfl, by rw [List.length_append]; exact P9.out, by simp [Hkl.out], by simp [Hel.out], by omega, fun e => absurd e hal1.1, fun e => absurd e hal1.2⟩
                case measure => simp [intOf]; omega
        · by_cases i1 : j < ys.length
          · have i2 : ¬ j < 30 := fun e => hlt ⟨i1, e⟩
            clear hlt
            go_wp2_with fail
            go_meet
            case rel => exact ⟨R, es, kl, mv, KA, kc, o', rfl, HB.out, Hkl.out, hel1, by omega, Ha1.out, Ha2.out⟩
          · clear hlt
            go_wp2_with fail
            go_meet
            case rel => exact ⟨R, es, kl, mv, KA, kc, o', rfl, HB.out, Hkl.out, hel1, by omega, Ha1.out, Ha2.out⟩
    case rest =>
      obtain ⟨w9, rfl⟩ : ∃ x : World, x = wc := ⟨_, rfl⟩
      obtain ⟨R, es, kl, mv, KA, kc, o', rfl, hP, hkl, hel, hol', ha1, ha2⟩ := hcut
      have P9 := Lib.hid hP
      have Hkl := Lib.hid hkl
      have Ha1 := Lib.hid ha1
      have Ha2 := Lib.hid ha2
      clear hP hkl ha1 ha2 P8
      go_wp2_with fail
      refine (st_crash P9.out.st (by rw [fulls_len]; omega) _ kl P9.out.kbools (by simp only [maxLen]; rw [Hkl.out]; omega)).mono ?_
      rintro e w10 ⟨rfl, h, k⟩
      have s10 : Hid (St w1 w10 R d ⟨(DS.crash ⟨cs.map full, fulls es, none, false, o'⟩ kl).secs, [], none, true, o'⟩) := Lib.hid h
      have K10 := Lib.hid k
      clear h k
      go_wp2_with fail
      refine (st_up s10.out).mono ?_
      rintro e w11 ⟨rfl, h, k⟩
      have hq := P9.out.crashed h (K10.out.trans k)
      obtain ⟨ps, hps⟩ : ∃ ps, ps = putTo (keptOf kl) cs es es.length := ⟨_, rfl⟩
      rw [← hps] at hq
      have HM : Hid (∀ j, j < 4 → ps.getD j 0 ∈ mayOf cs es j) := Lib.hid (fun j hj => by rw [hps]; exact put_mem _ _ _ _ _ (by rw [P9.out.len]; exact hj))
      have E1 : Hid (al = 1 → ps = putTo (fun _ => true) cs es es.length) := Lib.hid (fun e => hps.trans (keeps_all Hkl.out (Ha1.out e)))
      have E2 : Hid (al = 2 → ps = cs) := Lib.hid (fun e => hps.trans (keeps_none Hkl.out (Ha2.out e)))
      have Q11 := Lib.hid hq
      clear hq h k hps s10 K10 P9 Ha1 Ha2 Hkl
      go_wp2_with fail
      go_loopw [20] (fun i wr => ∃ j : Nat, j ≤ 4 ∧ i = .int .i64 j ∧ Kq w1 wr R d ab lb mb cs ps es mv (o' + j)) (fun i _ => 4 - (intOf i).toNat)
      case atStart => exact ⟨0, by omega, rfl, Q11.out⟩
      case round =>
        obtain ⟨j, hj, rfl, hq⟩ := hrel
        have B := Lib.hid hq
        clear hq Q11
        by_cases hlt : j < 4
        · have i1 : (j : Int) < 4 := by omega
          have i0 : (0 : Int) ≤ (j : Int) := by omega
          go_wp2_with fail
          refine (st_read B.out.st (by simp) (by simp; omega) rfl j (by simp [B.out.pl]; exact hlt)).mono ?_
          rintro e w12 ⟨g, p, rfl, hd, h, k⟩
          obtain ⟨c, hc⟩ : ∃ c, c = ps.getD j 0 := ⟨_, rfl⟩
          have hnow := now_full (ps := ps) (o := o' + j + 1) j (by rw [B.out.pl]; exact hlt)
          rw [hnow, ← hc] at hd
          have B12 := Lib.hid (B.out.on h k)
          have D12 := Lib.hid hd
          obtain ⟨M, hM⟩ : ∃ M, M = mayOf cs es j := ⟨_, rfl⟩
          obtain ⟨mg, mc, hmc, mcell⟩ := B12.out.mcell' j hlt M hM
          have MC := Lib.hid mcell
          have hM1 : M.length ≤ 31 := by rw [hM]; have := (mayOf_len cs es j).2; omega
          have HcM : Hid (c ∈ M) := Lib.hid (by rw [hM, hc]; exact HM.out j hlt)
          have Hc := Lib.hid hc
          clear hd h k hnow hc hM mcell B
          obtain ⟨wo, rfl⟩ : ∃ x : World, x = wr := ⟨_, rfl⟩
          go_upto_block 6 with fail
          go_cut [23] (fun s23 wc => s23 = .bool true ∧ Calm w12 wc)
          case first =>
            go_wp2_with fail
            go_loopw [23, 24] (fun f m wr => ∃ (n : Nat) (b : Bool), n ≤ M.length ∧ m = .int .i64 n ∧ f = .bool b ∧ (c ∈ M.take n → b = true) ∧ Calm w12 wr) (fun _ m _ => M.length - (intOf m).toNat)
            case atStart => exact ⟨0, false, by omega, rfl, rfl, fun h => by simp at h, Keep.refl _ w12⟩
            case round =>
              obtain ⟨n, b, hn, rfl, rfl, hb, hcl⟩ := hrel
              obtain ⟨cm, cn⟩ := MC.out wr hcl
              have Hb := Lib.hid hb
              have HC := Lib.hid hcl
              by_cases hnl : n < M.length
              · have cx := cn n hnl
                obtain ⟨x, hx⟩ : ∃ x, x = M[n] := ⟨_, rfl⟩
                rw [← hx] at cx
                have cg := sees (Data.keep D12.out hcl (fun _ _ e => e))
                have q := And.intro cm (And.intro cx cg)
                have Hx := Lib.hid hx
                have n0 : (0 : Int) ≤ (n : Int) := by omega
                have n1 : (n : Int) < (M.length : Int) := by omega
                clear cn hcl hb hx
                go_wp2_with fail
                cases b
                · by_cases ex : x = c
                  · subst ex
                    refine wp_region_noPanic ?_
                    refine wp_region_held_drew (S := fun w' => w'.cell? ⟨mb, j, none⟩ = some (.slice (some ⟨mg, 0, none⟩) M.length mc) ∧ w'.cell? ⟨mg, n, none⟩ = some (.int .u8 (x.toNat : Int)) ∧ w'.cell? ⟨g, 0, none⟩ = some (.int .u8 (x.toNat : Int))) (by kernel_rfl) q (fun hHeld => ?_)
                    refine take_at 0 190 (.bool false) rfl rfl (by kernel_rfl) (by kernel_rfl) (by kernel_rfl) (fun _ _ _ h => h) (Or.inl ⟨by rfl, ?_⟩) hHeld ?_
                    · intro w hSw; go_simp
                    simp only [List.setIfInBounds_toArray, List.set_cons_zero, List.set_cons_succ]
                    refine take_at 1 191 (.bool false) rfl rfl (by kernel_rfl) (by kernel_rfl) (by kernel_rfl) (fun _ _ _ h => h) (Or.inl ⟨by rfl, ?_⟩) hHeld ?_
                    · intro w hSw; go_simp
                    simp only [List.setIfInBounds_toArray, List.set_cons_zero, List.set_cons_succ]
                    refine take_at 2 192 (.int .i64 j) rfl rfl (by kernel_rfl) (by kernel_rfl) (by kernel_rfl) (fun _ _ _ h => h) (Or.inl ⟨by rfl, ?_⟩) hHeld ?_
                    · intro w hSw; go_simp
                    simp only [List.setIfInBounds_toArray, List.set_cons_zero, List.set_cons_succ]
                    refine take_at 3 193 (.pointer (some ⟨mb, j, none⟩)) rfl rfl (by kernel_rfl) (by kernel_rfl) (by kernel_rfl) (fun _ _ _ h => h) (Or.inl ⟨by rfl, ?_⟩) hHeld ?_
                    · intro w hSw; go_simp
                    simp only [List.setIfInBounds_toArray, List.set_cons_zero, List.set_cons_succ]
                    refine take_at 4 194 (.slice (some ⟨mg, 0, none⟩) M.length mc) rfl rfl (by kernel_rfl) (by kernel_rfl) (by kernel_rfl) (fun _ _ _ h => h) (Or.inl ⟨by rfl, ?_⟩) hHeld ?_
                    · intro w hSw; obtain ⟨s1, s2, s3⟩ := hSw; go_simp
                    simp only [List.setIfInBounds_toArray, List.set_cons_zero, List.set_cons_succ]
                    refine take_at 5 195 (.int .i64 n) rfl rfl (by kernel_rfl) (by kernel_rfl) (by kernel_rfl) (fun _ _ _ h => h) (Or.inl ⟨by rfl, ?_⟩) hHeld ?_
                    · intro w hSw; go_simp
                    simp only [List.setIfInBounds_toArray, List.set_cons_zero, List.set_cons_succ]
                    refine take_at 6 196 (.pointer (some ⟨mg, n, none⟩)) rfl rfl (by kernel_rfl) (by kernel_rfl) (by kernel_rfl) (fun _ _ _ h => h) (Or.inl ⟨by rfl, ?_⟩) hHeld ?_
                    · intro w hSw; go_simp
                    simp only [List.setIfInBounds_toArray, List.set_cons_zero, List.set_cons_succ]
                    refine take_at 7 197 (.int .u8 (x.toNat : Int)) rfl rfl (by kernel_rfl) (by kernel_rfl) (by kernel_rfl) (fun _ _ _ h => h) (Or.inl ⟨by rfl, ?_⟩) hHeld ?_
                    · intro w hSw; obtain ⟨s1, s2, s3⟩ := hSw; go_simp
                    simp only [List.setIfInBounds_toArray, List.set_cons_zero, List.set_cons_succ]
                    refine take_at 8 198 (.slice (some ⟨g, 0, none⟩) 512 p) rfl rfl (by kernel_rfl) (by kernel_rfl) (by kernel_rfl) (fun _ _ _ h => h) (Or.inl ⟨by rfl, ?_⟩) hHeld ?_
                    · intro w hSw; go_simp
                    simp only [List.setIfInBounds_toArray, List.set_cons_zero, List.set_cons_succ]
                    refine take_at 9 199 (.pointer (some ⟨g, 0, none⟩)) rfl rfl (by kernel_rfl) (by kernel_rfl) (by kernel_rfl) (fun _ _ _ h => h) (Or.inl ⟨by rfl, ?_⟩) hHeld ?_
                    · intro w hSw; go_simp
                    simp only [List.setIfInBounds_toArray, List.set_cons_zero, List.set_cons_succ]
                    refine take_at 10 200 (.int .u8 (x.toNat : Int)) rfl rfl (by kernel_rfl) (by kernel_rfl) (by kernel_rfl) (fun _ _ _ h => h) (Or.inl ⟨by rfl, ?_⟩) hHeld ?_
                    · intro w hSw; obtain ⟨s1, s2, s3⟩ := hSw; go_simp
                    simp only [List.setIfInBounds_toArray, List.set_cons_zero, List.set_cons_succ]
                    refine take_at 11 201 (.bool true) rfl rfl (by kernel_rfl) (by kernel_rfl) (by kernel_rfl) (fun _ _ _ h => h) (Or.inl ⟨by rfl, ?_⟩) hHeld ?_
                    · intro w hSw; go_simp
                    simp only [List.setIfInBounds_toArray, List.set_cons_zero, List.set_cons_succ]
                    refine take_at 12 202 (.bool true) rfl rfl (by kernel_rfl) (by kernel_rfl) (by kernel_rfl) (fun _ _ _ h => h) (Or.inl ⟨by rfl, ?_⟩) hHeld ?_
                    · intro w hSw; go_simp
                    simp only [List.setIfInBounds_toArray, List.set_cons_zero, List.set_cons_succ]
                    refine wpAnyH_ready (rs := [13]) (by kernel_rfl) (by simp) ?_
                    refine AllReadyH.cons rfl (fun K hK => ?_) AllReadyH.nil
                    go_simp
                    refine hK.out _ _ q (fun hHeld => ?_)
                    clear hK K
                    try simp only [List.setIfInBounds_toArray, List.set_cons_zero, List.set_cons_succ]
                    refine wpAnyH_done (by kernel_rfl) (NoPanic.normal ?_) _
                    clear q cm cx cg
                    go_wp2_with fail
                    go_roundw
                    case rel => exact ⟨n + 1, true, by omega, by go_num, rfl, fun _ => rfl, HC.out.trans (Keep.drew (Keep.refl _ wr))⟩
                    case measure => simp [intOf]; omega
                  · have ne : ((x.toNat : Int) == (c.toNat : Int)) = false := beq_eq_false_iff_ne.2 (fun h => ex (UInt8.toNat_inj.1 (by omega)))
                    refine wp_region_noPanic ?_
                    refine wp_region_held_drew (S := fun w' => w'.cell? ⟨mb, j, none⟩ = some (.slice (some ⟨mg, 0, none⟩) M.length mc) ∧ w'.cell? ⟨mg, n, none⟩ = some (.int .u8 (x.toNat : Int)) ∧ w'.cell? ⟨g, 0, none⟩ = some (.int .u8 (c.toNat : Int))) (by kernel_rfl) q (fun hHeld => ?_)
                    refine take_at 0 190 (.bool false) rfl rfl (by kernel_rfl) (by kernel_rfl) (by kernel_rfl) (fun _ _ _ h => h) (Or.inl ⟨by rfl, ?_⟩) hHeld ?_
                    · intro w hSw; go_simp
                    simp only [List.setIfInBounds_toArray, List.set_cons_zero, List.set_cons_succ]
                    refine take_at 1 191 (.bool false) rfl rfl (by kernel_rfl) (by kernel_rfl) (by kernel_rfl) (fun _ _ _ h => h) (Or.inl ⟨by rfl, ?_⟩) hHeld ?_
                    · intro w hSw; go_simp
                    simp only [List.setIfInBounds_toArray, List.set_cons_zero, List.set_cons_succ]
                    refine take_at 2 192 (.int .i64 j) rfl rfl (by kernel_rfl) (by kernel_rfl) (by kernel_rfl) (fun _ _ _ h => h) (Or.inl ⟨by rfl, ?_⟩) hHeld ?_
                    · intro w hSw; go_simp
                    simp only [List.setIfInBounds_toArray, List.set_cons_zero, List.set_cons_succ]
                    refine take_at 3 193 (.pointer (some ⟨mb, j, none⟩)) rfl rfl (by kernel_rfl) (by kernel_rfl) (by kernel_rfl) (fun _ _ _ h => h) (Or.inl ⟨by rfl, ?_⟩) hHeld ?_
                    · intro w hSw; go_simp
                    simp only [List.setIfInBounds_toArray, List.set_cons_zero, List.set_cons_succ]
                    refine take_at 4 194 (.slice (some ⟨mg, 0, none⟩) M.length mc) rfl rfl (by kernel_rfl) (by kernel_rfl) (by kernel_rfl) (fun _ _ _ h => h) (Or.inl ⟨by rfl, ?_⟩) hHeld ?_
                    · intro w hSw; obtain ⟨s1, s2, s3⟩ := hSw; go_simp
                    simp only [List.setIfInBounds_toArray, List.set_cons_zero, List.set_cons_succ]
                    refine take_at 5 195 (.int .i64 n) rfl rfl (by kernel_rfl) (by kernel_rfl) (by kernel_rfl) (fun _ _ _ h => h) (Or.inl ⟨by rfl, ?_⟩) hHeld ?_
                    · intro w hSw; go_simp
                    simp only [List.setIfInBounds_toArray, List.set_cons_zero, List.set_cons_succ]
                    refine take_at 6 196 (.pointer (some ⟨mg, n, none⟩)) rfl rfl (by kernel_rfl) (by kernel_rfl) (by kernel_rfl) (fun _ _ _ h => h) (Or.inl ⟨by rfl, ?_⟩) hHeld ?_
                    · intro w hSw; go_simp
                    simp only [List.setIfInBounds_toArray, List.set_cons_zero, List.set_cons_succ]
                    refine take_at 7 197 (.int .u8 (x.toNat : Int)) rfl rfl (by kernel_rfl) (by kernel_rfl) (by kernel_rfl) (fun _ _ _ h => h) (Or.inl ⟨by rfl, ?_⟩) hHeld ?_
                    · intro w hSw; obtain ⟨s1, s2, s3⟩ := hSw; go_simp
                    simp only [List.setIfInBounds_toArray, List.set_cons_zero, List.set_cons_succ]
                    refine take_at 8 198 (.slice (some ⟨g, 0, none⟩) 512 p) rfl rfl (by kernel_rfl) (by kernel_rfl) (by kernel_rfl) (fun _ _ _ h => h) (Or.inl ⟨by rfl, ?_⟩) hHeld ?_
                    · intro w hSw; go_simp
                    simp only [List.setIfInBounds_toArray, List.set_cons_zero, List.set_cons_succ]
                    refine take_at 9 199 (.pointer (some ⟨g, 0, none⟩)) rfl rfl (by kernel_rfl) (by kernel_rfl) (by kernel_rfl) (fun _ _ _ h => h) (Or.inl ⟨by rfl, ?_⟩) hHeld ?_
                    · intro w hSw; go_simp
                    simp only [List.setIfInBounds_toArray, List.set_cons_zero, List.set_cons_succ]
                    refine take_at 10 200 (.int .u8 (c.toNat : Int)) rfl rfl (by kernel_rfl) (by kernel_rfl) (by kernel_rfl) (fun _ _ _ h => h) (Or.inl ⟨by rfl, ?_⟩) hHeld ?_
                    · intro w hSw; obtain ⟨s1, s2, s3⟩ := hSw; go_simp
                    simp only [List.setIfInBounds_toArray, List.set_cons_zero, List.set_cons_succ]
                    refine take_at 11 201 (.bool false) rfl rfl (by kernel_rfl) (by kernel_rfl) (by kernel_rfl) (fun _ _ _ h => h) (Or.inl ⟨by rfl, ?_⟩) hHeld ?_
                    · intro w hSw; go_simp
                    simp only [List.setIfInBounds_toArray, List.set_cons_zero, List.set_cons_succ]
                    refine take_at 12 202 (.bool false) rfl rfl (by kernel_rfl) (by kernel_rfl) (by kernel_rfl) (fun _ _ _ h => h) (Or.inl ⟨by rfl, ?_⟩) hHeld ?_
                    · intro w hSw; go_simp
                    simp only [List.setIfInBounds_toArray, List.set_cons_zero, List.set_cons_succ]
                    refine wpAnyH_ready (rs := [13]) (by kernel_rfl) (by simp) ?_
                    refine AllReadyH.cons rfl (fun K hK => ?_) AllReadyH.nil
                    go_simp
                    refine hK.out _ _ q (fun hHeld => ?_)
                    clear hK K
                    try simp only [List.setIfInBounds_toArray, List.set_cons_zero, List.set_cons_succ]
                    refine wpAnyH_done (by kernel_rfl) (NoPanic.normal ?_) _
                    clear q cm cx cg
                    go_wp2_with fail
                    go_roundw
                    case rel => exact ⟨n + 1, false, by omega, by go_num, rfl, fun h => (mem_next hnl h).elim Hb.out (fun e => absurd (Hx.out.trans e) ex), HC.out.trans (Keep.drew (Keep.refl _ wr))⟩
                    case measure => simp [intOf]; omega
                · skip
                  refine wp_region_noPanic ?_
                  refine wp_region_held_drew (S := fun w' => w'.cell? ⟨mb, j, none⟩ = some (.slice (some ⟨mg, 0, none⟩) M.length mc) ∧ w'.cell? ⟨mg, n, none⟩ = some (.int .u8 (x.toNat : Int)) ∧ w'.cell? ⟨g, 0, none⟩ = some (.int .u8 (c.toNat : Int))) (by kernel_rfl) q (fun hHeld => ?_)
                  refine take_at 0 190 (.bool true) rfl rfl (by kernel_rfl) (by kernel_rfl) (by kernel_rfl) (fun _ _ _ h => h) (Or.inl ⟨by rfl, ?_⟩) hHeld ?_
                  · intro w hSw; go_simp
                  simp only [List.setIfInBounds_toArray, List.set_cons_zero, List.set_cons_succ]
                  refine take_at 1 191 (.bool true) rfl rfl (by kernel_rfl) (by kernel_rfl) (by kernel_rfl) (fun _ _ _ h => h) (Or.inl ⟨by rfl, ?_⟩) hHeld ?_
                  · intro w hSw; go_simp
                  simp only [List.setIfInBounds_toArray, List.set_cons_zero, List.set_cons_succ]
                  refine take_at 2 192 (undef) rfl rfl (by kernel_rfl) (by kernel_rfl) (by kernel_rfl) (fun _ _ _ h => h) (Or.inr ⟨by rfl, rfl⟩) hHeld ?_
                  simp only [List.setIfInBounds_toArray, List.set_cons_zero, List.set_cons_succ]
                  refine take_at 3 193 (undef) rfl rfl (by kernel_rfl) (by kernel_rfl) (by kernel_rfl) (fun _ _ _ h => h) (Or.inr ⟨by rfl, rfl⟩) hHeld ?_
                  simp only [List.setIfInBounds_toArray, List.set_cons_zero, List.set_cons_succ]
                  refine take_at 4 194 (undef) rfl rfl (by kernel_rfl) (by kernel_rfl) (by kernel_rfl) (fun _ _ _ h => h) (Or.inr ⟨by rfl, rfl⟩) hHeld ?_
                  simp only [List.setIfInBounds_toArray, List.set_cons_zero, List.set_cons_succ]
                  refine take_at 5 195 (undef) rfl rfl (by kernel_rfl) (by kernel_rfl) (by kernel_rfl) (fun _ _ _ h => h) (Or.inr ⟨by rfl, rfl⟩) hHeld ?_
                  simp only [List.setIfInBounds_toArray, List.set_cons_zero, List.set_cons_succ]
                  refine take_at 6 196 (undef) rfl rfl (by kernel_rfl) (by kernel_rfl) (by kernel_rfl) (fun _ _ _ h => h) (Or.inr ⟨by rfl, rfl⟩) hHeld ?_
                  simp only [List.setIfInBounds_toArray, List.set_cons_zero, List.set_cons_succ]
                  refine take_at 7 197 (undef) rfl rfl (by kernel_rfl) (by kernel_rfl) (by kernel_rfl) (fun _ _ _ h => h) (Or.inr ⟨by rfl, rfl⟩) hHeld ?_
                  simp only [List.setIfInBounds_toArray, List.set_cons_zero, List.set_cons_succ]
                  refine take_at 8 198 (undef) rfl rfl (by kernel_rfl) (by kernel_rfl) (by kernel_rfl) (fun _ _ _ h => h) (Or.inr ⟨by rfl, rfl⟩) hHeld ?_
                  simp only [List.setIfInBounds_toArray, List.set_cons_zero, List.set_cons_succ]
                  refine take_at 9 199 (undef) rfl rfl (by kernel_rfl) (by kernel_rfl) (by kernel_rfl) (fun _ _ _ h => h) (Or.inr ⟨by rfl, rfl⟩) hHeld ?_
                  simp only [List.setIfInBounds_toArray, List.set_cons_zero, List.set_cons_succ]
                  refine take_at 10 200 (undef) rfl rfl (by kernel_rfl) (by kernel_rfl) (by kernel_rfl) (fun _ _ _ h => h) (Or.inr ⟨by rfl, rfl⟩) hHeld ?_
                  simp only [List.setIfInBounds_toArray, List.set_cons_zero, List.set_cons_succ]
                  refine take_at 11 201 (undef) rfl rfl (by kernel_rfl) (by kernel_rfl) (by kernel_rfl) (fun _ _ _ h => h) (Or.inr ⟨by rfl, rfl⟩) hHeld ?_
                  simp only [List.setIfInBounds_toArray, List.set_cons_zero, List.set_cons_succ]
                  refine take_at 12 202 (.bool true) rfl rfl (by kernel_rfl) (by kernel_rfl) (by kernel_rfl) (fun _ _ _ h => h) (Or.inl ⟨by rfl, ?_⟩) hHeld ?_
                  · intro w hSw; go_simp
                  simp only [List.setIfInBounds_toArray, List.set_cons_zero, List.set_cons_succ]
                  refine wpAnyH_ready (rs := [13]) (by kernel_rfl) (by simp) ?_
                  refine AllReadyH.cons rfl (fun K hK => ?_) AllReadyH.nil
                  go_simp
                  refine hK.out _ _ q (fun hHeld => ?_)
                  clear hK K
                  try simp only [List.setIfInBounds_toArray, List.set_cons_zero, List.set_cons_succ]
                  refine wpAnyH_done (by kernel_rfl) (NoPanic.normal ?_) _
                  clear q cm cx cg
                  go_wp2_with fail
                  go_roundw
                  case rel => exact ⟨n + 1, true, by omega, by go_num, rfl, fun _ => rfl, HC.out.trans (Keep.drew (Keep.refl _ wr))⟩
                  case measure => simp [intOf]; omega
              · obtain rfl : b = true := hb (by rw [List.take_of_length_le (by omega)]; exact HcM.out)
                have n1 : ¬ (n : Int) < (M.length : Int) := by omega
                clear cn hcl hb
                go_wp2_with fail
                go_meet
                case rel => exact ⟨rfl, HC.out⟩
          case rest =>
            obtain ⟨w13, rfl⟩ : ∃ x : World, x = wc := ⟨_, rfl⟩
            obtain ⟨rfl, hcl⟩ := hcut
            have B13 := Lib.hid (B12.out.rest hcl)
            have D13 := Lib.hid (Data.keep D12.out hcl (fun _ _ e => e))
            have q' := And.intro (conv_data (w := w13.drew) D13.out) (sees D13.out)
            clear hcl B12 D12 MC
            go_wp2_with fail
            refine wp_region_noPanic ?_
            refine wp_region_held_drew (S := fun w' => Sem.run Try.prog (convert 45 9 (.slice (some ⟨g, 0, none⟩) 512 p)) w' = .ok (.string (str (full c))) w' ∧ w'.cell? ⟨g, 0, none⟩ = some (.int .u8 (c.toNat : Int))) (by kernel_rfl) q' (fun hHeld => ?_)
            refine take_at 0 203 (.slice (some ⟨g, 0, none⟩) 512 p) rfl rfl (by kernel_rfl) (by kernel_rfl) (by kernel_rfl) (fun _ _ _ h => h) (Or.inl ⟨by rfl, ?_⟩) hHeld ?_
            · intro w hSw; go_simp
            simp only [List.setIfInBounds_toArray, List.set_cons_zero, List.set_cons_succ]
            refine take_at 1 204 (.string (str (full c))) rfl rfl (by kernel_rfl) (by kernel_rfl) (by kernel_rfl) (fun _ _ _ h => h) (Or.inl ⟨by rfl, ?_⟩) hHeld ?_
            · intro w hSw; go_simp
            simp only [List.setIfInBounds_toArray, List.set_cons_zero, List.set_cons_succ]
            refine take_at 2 205 (.slice (some ⟨g, 0, none⟩) 512 p) rfl rfl (by kernel_rfl) (by kernel_rfl) (by kernel_rfl) (fun _ _ _ h => h) (Or.inl ⟨by rfl, ?_⟩) hHeld ?_
            · intro w hSw; go_simp
            simp only [List.setIfInBounds_toArray, List.set_cons_zero, List.set_cons_succ]
            refine take_at 3 206 (.pointer (some ⟨g, 0, none⟩)) rfl rfl (by kernel_rfl) (by kernel_rfl) (by kernel_rfl) (fun _ _ _ h => h) (Or.inl ⟨by rfl, ?_⟩) hHeld ?_
            · intro w hSw; go_simp
            simp only [List.setIfInBounds_toArray, List.set_cons_zero, List.set_cons_succ]
            refine take_at 4 207 (.int .u8 (c.toNat : Int)) rfl rfl (by kernel_rfl) (by kernel_rfl) (by kernel_rfl) (fun _ _ _ h => h) (Or.inl ⟨by rfl, ?_⟩) hHeld ?_
            · intro w hSw; go_simp
            simp only [List.setIfInBounds_toArray, List.set_cons_zero, List.set_cons_succ]
            refine wpAnyH_ready (rs := [5]) (by kernel_rfl) (by simp) ?_
            refine AllReadyH.cons rfl (fun K hK => ?_) AllReadyH.nil
            go_simp
            refine (sector_c c _).mono ?_
            rintro e w14 ⟨gs, pp, rfl, hds, hcs⟩
            have qs := conv_data hds
            have D14 := Lib.hid (Data.keep (w := w13.drew) D13.out hcs (fun _ _ e => e))
            have qk := And.intro (conv_data D14.out) (sees D14.out)
            have C14 := Lib.hid hcs
            clear hds hcs
            refine hK.out _ _ qk (fun hHeld => ?_)
            clear hK K
            try simp only [List.setIfInBounds_toArray, List.set_cons_zero, List.set_cons_succ]
            refine wpAnyH_ready (rs := [6]) (by kernel_rfl) (by simp) ?_
            refine AllReadyH.cons rfl (fun K hK => ?_) AllReadyH.nil
            go_simp
            refine hK.out _ _ qk (fun hHeld => ?_)
            clear hK K
            try simp only [List.setIfInBounds_toArray, List.set_cons_zero, List.set_cons_succ]
            refine wpAnyH_ready (rs := [7]) (by kernel_rfl) (by simp) ?_
            refine AllReadyH.cons rfl (fun K hK => ?_) AllReadyH.nil
            go_simp
            refine hK.out _ _ qk (fun hHeld => ?_)
            clear hK K
            try simp only [List.setIfInBounds_toArray, List.set_cons_zero, List.set_cons_succ]
            refine wpAnyH_ready (rs := [8]) (by kernel_rfl) (by simp) ?_
            refine AllReadyH.cons rfl (fun K hK => ?_) AllReadyH.nil
            go_simp
            refine hK.out _ _ qk (fun hHeld => ?_)
            clear hK K
            try simp only [List.setIfInBounds_toArray, List.set_cons_zero, List.set_cons_succ]
            refine wpAnyH_done (by kernel_rfl) (NoPanic.normal ?_) _
            clear q' qs qk
            have B14 := Lib.hid (B13.out.rest (w' := w14) (Keep.trans (Keep.drew (Keep.refl _ w13)) C14.out))
            have B15 := Lib.hid (B14.out.rest (w' := w14.drew) (Keep.drew (Keep.refl _ w14)))
            rcases (show al = 1 ∨ al = 2 ∨ (al ≠ 1 ∧ al ≠ 2) from by omega) with hal1 | hal1 | hal1
            · have q3 := And.intro (sees D14.out) (B14.out.lcell (E1.out hal1) j hlt)
              rw [← Hc.out] at q3
              subst hal1
              clear B13 B14 D13 D14
              go_wp2_with fail
              refine wp_region_noPanic ?_
              refine wp_region_held_drew (S := fun w' => w'.cell? ⟨g, 0, none⟩ = some (.int .u8 (c.toNat : Int)) ∧ w'.cell? ⟨lb, j, none⟩ = some (.int .u8 (c.toNat : Int))) (by kernel_rfl) q3 (fun hHeld => ?_)
              refine take_at 0 211 (.bool true) rfl rfl (by kernel_rfl) (by kernel_rfl) (by kernel_rfl) (fun _ _ _ h => h) (Or.inl ⟨by rfl, ?_⟩) hHeld ?_
              · intro w hSw; go_simp
              simp only [List.setIfInBounds_toArray, List.set_cons_zero, List.set_cons_succ]
              refine take_at 1 212 (.bool false) rfl rfl (by kernel_rfl) (by kernel_rfl) (by kernel_rfl) (fun _ _ _ h => h) (Or.inl ⟨by rfl, ?_⟩) hHeld ?_
              · intro w hSw; go_simp
              simp only [List.setIfInBounds_toArray, List.set_cons_zero, List.set_cons_succ]
              refine take_at 2 213 (.bool false) rfl rfl (by kernel_rfl) (by kernel_rfl) (by kernel_rfl) (fun _ _ _ h => h) (Or.inl ⟨by rfl, ?_⟩) hHeld ?_
              · intro w hSw; go_simp
              simp only [List.setIfInBounds_toArray, List.set_cons_zero, List.set_cons_succ]
              refine take_at 3 214 (.bool true) rfl rfl (by kernel_rfl) (by kernel_rfl) (by kernel_rfl) (fun _ _ _ h => h) (Or.inl ⟨by rfl, ?_⟩) hHeld ?_
              · intro w hSw; go_simp
              simp only [List.setIfInBounds_toArray, List.set_cons_zero, List.set_cons_succ]
              refine take_at 4 215 (.bool false) rfl rfl (by kernel_rfl) (by kernel_rfl) (by kernel_rfl) (fun _ _ _ h => h) (Or.inl ⟨by rfl, ?_⟩) hHeld ?_
              · intro w hSw; go_simp
              simp only [List.setIfInBounds_toArray, List.set_cons_zero, List.set_cons_succ]
              refine take_at 5 216 (.bool false) rfl rfl (by kernel_rfl) (by kernel_rfl) (by kernel_rfl) (fun _ _ _ h => h) (Or.inl ⟨by rfl, ?_⟩) hHeld ?_
              · intro w hSw; go_simp
              simp only [List.setIfInBounds_toArray, List.set_cons_zero, List.set_cons_succ]
              refine take_at 6 217 (.bool false) rfl rfl (by kernel_rfl) (by kernel_rfl) (by kernel_rfl) (fun _ _ _ h => h) (Or.inl ⟨by rfl, ?_⟩) hHeld ?_
              · intro w hSw; go_simp
              simp only [List.setIfInBounds_toArray, List.set_cons_zero, List.set_cons_succ]
              refine take_at 7 218 (.int .i64 a3) rfl rfl (by kernel_rfl) (by kernel_rfl) (by kernel_rfl) (fun _ _ _ h => h) (Or.inl ⟨by rfl, ?_⟩) hHeld ?_
              · intro w hSw; go_simp
              simp only [List.setIfInBounds_toArray, List.set_cons_zero, List.set_cons_succ]
              refine take_at 8 219 (.int .i64 1) rfl rfl (by kernel_rfl) (by kernel_rfl) (by kernel_rfl) (fun _ _ _ h => h) (Or.inl ⟨by rfl, ?_⟩) hHeld ?_
              · intro w hSw; go_simp
              simp only [List.setIfInBounds_toArray, List.set_cons_zero, List.set_cons_succ]
              refine take_at 9 220 (.bool true) rfl rfl (by kernel_rfl) (by kernel_rfl) (by kernel_rfl) (fun _ _ _ h => h) (Or.inl ⟨by rfl, ?_⟩) hHeld ?_
              · intro w hSw; go_simp
              simp only [List.setIfInBounds_toArray, List.set_cons_zero, List.set_cons_succ]
              refine take_at 10 221 (.bool true) rfl rfl (by kernel_rfl) (by kernel_rfl) (by kernel_rfl) (fun _ _ _ h => h) (Or.inl ⟨by rfl, ?_⟩) hHeld ?_
              · intro w hSw; go_simp
              simp only [List.setIfInBounds_toArray, List.set_cons_zero, List.set_cons_succ]
              refine take_at 11 222 (.slice (some ⟨g, 0, none⟩) 512 p) rfl rfl (by kernel_rfl) (by kernel_rfl) (by kernel_rfl) (fun _ _ _ h => h) (Or.inl ⟨by rfl, ?_⟩) hHeld ?_
              · intro w hSw; go_simp
              simp only [List.setIfInBounds_toArray, List.set_cons_zero, List.set_cons_succ]
              refine take_at 12 223 (.pointer (some ⟨g, 0, none⟩)) rfl rfl (by kernel_rfl) (by kernel_rfl) (by kernel_rfl) (fun _ _ _ h => h) (Or.inl ⟨by rfl, ?_⟩) hHeld ?_
              · intro w hSw; go_simp
              simp only [List.setIfInBounds_toArray, List.set_cons_zero, List.set_cons_succ]
              refine take_at 13 224 (.int .u8 (c.toNat : Int)) rfl rfl (by kernel_rfl) (by kernel_rfl) (by kernel_rfl) (fun _ _ _ h => h) (Or.inl ⟨by rfl, ?_⟩) hHeld ?_
              · intro w hSw; obtain ⟨s1, s2⟩ := hSw; go_simp
              simp only [List.setIfInBounds_toArray, List.set_cons_zero, List.set_cons_succ]
              refine take_at 14 225 (.int .i64 j) rfl rfl (by kernel_rfl) (by kernel_rfl) (by kernel_rfl) (fun _ _ _ h => h) (Or.inl ⟨by rfl, ?_⟩) hHeld ?_
              · intro w hSw; go_simp
              simp only [List.setIfInBounds_toArray, List.set_cons_zero, List.set_cons_succ]
              refine take_at 15 226 (.pointer (some ⟨lb, j, none⟩)) rfl rfl (by kernel_rfl) (by kernel_rfl) (by kernel_rfl) (fun _ _ _ h => h) (Or.inl ⟨by rfl, ?_⟩) hHeld ?_
              · intro w hSw; go_simp
              simp only [List.setIfInBounds_toArray, List.set_cons_zero, List.set_cons_succ]
              refine take_at 16 227 (.int .u8 (c.toNat : Int)) rfl rfl (by kernel_rfl) (by kernel_rfl) (by kernel_rfl) (fun _ _ _ h => h) (Or.inl ⟨by rfl, ?_⟩) hHeld ?_
              · intro w hSw; obtain ⟨s1, s2⟩ := hSw; go_simp
              simp only [List.setIfInBounds_toArray, List.set_cons_zero, List.set_cons_succ]
              refine take_at 17 228 (.bool false) rfl rfl (by kernel_rfl) (by kernel_rfl) (by kernel_rfl) (fun _ _ _ h => h) (Or.inl ⟨by rfl, ?_⟩) hHeld ?_
              · intro w hSw; go_simp
              simp only [List.setIfInBounds_toArray, List.set_cons_zero, List.set_cons_succ]
              refine take_at 18 229 (.bool false) rfl rfl (by kernel_rfl) (by kernel_rfl) (by kernel_rfl) (fun _ _ _ h => h) (Or.inl ⟨by rfl, ?_⟩) hHeld ?_
              · intro w hSw; go_simp
              simp only [List.setIfInBounds_toArray, List.set_cons_zero, List.set_cons_succ]
              refine take_at 19 230 (.bool false) rfl rfl (by kernel_rfl) (by kernel_rfl) (by kernel_rfl) (fun _ _ _ h => h) (Or.inl ⟨by rfl, ?_⟩) hHeld ?_
              · intro w hSw; go_simp
              simp only [List.setIfInBounds_toArray, List.set_cons_zero, List.set_cons_succ]
              refine take_at 20 231 (.bool false) rfl rfl (by kernel_rfl) (by kernel_rfl) (by kernel_rfl) (fun _ _ _ h => h) (Or.inl ⟨by rfl, ?_⟩) hHeld ?_
              · intro w hSw; go_simp
              simp only [List.setIfInBounds_toArray, List.set_cons_zero, List.set_cons_succ]
              refine take_at 21 232 (.int .i64 a3) rfl rfl (by kernel_rfl) (by kernel_rfl) (by kernel_rfl) (fun _ _ _ h => h) (Or.inl ⟨by rfl, ?_⟩) hHeld ?_
              · intro w hSw; go_simp
              simp only [List.setIfInBounds_toArray, List.set_cons_zero, List.set_cons_succ]
              refine take_at 22 233 (.int .i64 1) rfl rfl (by kernel_rfl) (by kernel_rfl) (by kernel_rfl) (fun _ _ _ h => h) (Or.inl ⟨by rfl, ?_⟩) hHeld ?_
              · intro w hSw; go_simp
              simp only [List.setIfInBounds_toArray, List.set_cons_zero, List.set_cons_succ]
              refine take_at 23 234 (.bool false) rfl rfl (by kernel_rfl) (by kernel_rfl) (by kernel_rfl) (fun _ _ _ h => h) (Or.inl ⟨by rfl, ?_⟩) hHeld ?_
              · intro w hSw; go_simp
              simp only [List.setIfInBounds_toArray, List.set_cons_zero, List.set_cons_succ]
              refine take_at 24 235 (.bool false) rfl rfl (by kernel_rfl) (by kernel_rfl) (by kernel_rfl) (fun _ _ _ h => h) (Or.inl ⟨by rfl, ?_⟩) hHeld ?_
              · intro w hSw; go_simp
              simp only [List.setIfInBounds_toArray, List.set_cons_zero, List.set_cons_succ]
              refine take_at 25 236 (undef) rfl rfl (by kernel_rfl) (by kernel_rfl) (by kernel_rfl) (fun _ _ _ h => h) (Or.inr ⟨by rfl, rfl⟩) hHeld ?_
              simp only [List.setIfInBounds_toArray, List.set_cons_zero, List.set_cons_succ]
              refine take_at 26 237 (undef) rfl rfl (by kernel_rfl) (by kernel_rfl) (by kernel_rfl) (fun _ _ _ h => h) (Or.inr ⟨by rfl, rfl⟩) hHeld ?_
              simp only [List.setIfInBounds_toArray, List.set_cons_zero, List.set_cons_succ]
              refine take_at 27 238 (undef) rfl rfl (by kernel_rfl) (by kernel_rfl) (by kernel_rfl) (fun _ _ _ h => h) (Or.inr ⟨by rfl, rfl⟩) hHeld ?_
              simp only [List.setIfInBounds_toArray, List.set_cons_zero, List.set_cons_succ]
              refine take_at 28 239 (undef) rfl rfl (by kernel_rfl) (by kernel_rfl) (by kernel_rfl) (fun _ _ _ h => h) (Or.inr ⟨by rfl, rfl⟩) hHeld ?_
              simp only [List.setIfInBounds_toArray, List.set_cons_zero, List.set_cons_succ]
              refine take_at 29 240 (undef) rfl rfl (by kernel_rfl) (by kernel_rfl) (by kernel_rfl) (fun _ _ _ h => h) (Or.inr ⟨by rfl, rfl⟩) hHeld ?_
              simp only [List.setIfInBounds_toArray, List.set_cons_zero, List.set_cons_succ]
              refine take_at 30 241 (undef) rfl rfl (by kernel_rfl) (by kernel_rfl) (by kernel_rfl) (fun _ _ _ h => h) (Or.inr ⟨by rfl, rfl⟩) hHeld ?_
              simp only [List.setIfInBounds_toArray, List.set_cons_zero, List.set_cons_succ]
              refine take_at 31 242 (undef) rfl rfl (by kernel_rfl) (by kernel_rfl) (by kernel_rfl) (fun _ _ _ h => h) (Or.inr ⟨by rfl, rfl⟩) hHeld ?_
              simp only [List.setIfInBounds_toArray, List.set_cons_zero, List.set_cons_succ]
              refine take_at 32 243 (.bool false) rfl rfl (by kernel_rfl) (by kernel_rfl) (by kernel_rfl) (fun _ _ _ h => h) (Or.inl ⟨by rfl, ?_⟩) hHeld ?_
              · intro w hSw; go_simp
              simp only [List.setIfInBounds_toArray, List.set_cons_zero, List.set_cons_succ]
              refine take_at 33 244 (.bool false) rfl rfl (by kernel_rfl) (by kernel_rfl) (by kernel_rfl) (fun _ _ _ h => h) (Or.inl ⟨by rfl, ?_⟩) hHeld ?_
              · intro w hSw; go_simp
              simp only [List.setIfInBounds_toArray, List.set_cons_zero, List.set_cons_succ]
              refine wpAnyH_done (by kernel_rfl) (NoPanic.normal ?_) _
              go_wp2_with fail
              go_roundw
              case rel => exact ⟨j + 1, by omega, by go_num, B15.out⟩
              case measure => simp [intOf]; omega
            · have q3 := And.intro (sees D14.out) (B14.out.acell (E2.out hal1) j hlt)
              rw [← Hc.out] at q3
              subst hal1
              clear B13 B14 D13 D14
              go_wp2_with fail
              refine wp_region_noPanic ?_
              refine wp_region_held_drew (S := fun w' => w'.cell? ⟨g, 0, none⟩ = some (.int .u8 (c.toNat : Int)) ∧ w'.cell? ⟨ab, j, none⟩ = some (.int .u8 (c.toNat : Int))) (by kernel_rfl) q3 (fun hHeld => ?_)
              refine take_at 0 211 (.bool true) rfl rfl (by kernel_rfl) (by kernel_rfl) (by kernel_rfl) (fun _ _ _ h => h) (Or.inl ⟨by rfl, ?_⟩) hHeld ?_
              · intro w hSw; go_simp
              simp only [List.setIfInBounds_toArray, List.set_cons_zero, List.set_cons_succ]
              refine take_at 1 212 (.bool false) rfl rfl (by kernel_rfl) (by kernel_rfl) (by kernel_rfl) (fun _ _ _ h => h) (Or.inl ⟨by rfl, ?_⟩) hHeld ?_
              · intro w hSw; go_simp
              simp only [List.setIfInBounds_toArray, List.set_cons_zero, List.set_cons_succ]
              refine take_at 2 213 (.bool false) rfl rfl (by kernel_rfl) (by kernel_rfl) (by kernel_rfl) (fun _ _ _ h => h) (Or.inl ⟨by rfl, ?_⟩) hHeld ?_
              · intro w hSw; go_simp
              simp only [List.setIfInBounds_toArray, List.set_cons_zero, List.set_cons_succ]
              refine take_at 3 214 (.bool true) rfl rfl (by kernel_rfl) (by kernel_rfl) (by kernel_rfl) (fun _ _ _ h => h) (Or.inl ⟨by rfl, ?_⟩) hHeld ?_
              · intro w hSw; go_simp
              simp only [List.setIfInBounds_toArray, List.set_cons_zero, List.set_cons_succ]
              refine take_at 4 215 (.bool false) rfl rfl (by kernel_rfl) (by kernel_rfl) (by kernel_rfl) (fun _ _ _ h => h) (Or.inl ⟨by rfl, ?_⟩) hHeld ?_
              · intro w hSw; go_simp
              simp only [List.setIfInBounds_toArray, List.set_cons_zero, List.set_cons_succ]
              refine take_at 5 216 (.bool false) rfl rfl (by kernel_rfl) (by kernel_rfl) (by kernel_rfl) (fun _ _ _ h => h) (Or.inl ⟨by rfl, ?_⟩) hHeld ?_
              · intro w hSw; go_simp
              simp only [List.setIfInBounds_toArray, List.set_cons_zero, List.set_cons_succ]
              refine take_at 6 217 (.bool false) rfl rfl (by kernel_rfl) (by kernel_rfl) (by kernel_rfl) (fun _ _ _ h => h) (Or.inl ⟨by rfl, ?_⟩) hHeld ?_
              · intro w hSw; go_simp
              simp only [List.setIfInBounds_toArray, List.set_cons_zero, List.set_cons_succ]
              refine take_at 7 218 (.int .i64 a3) rfl rfl (by kernel_rfl) (by kernel_rfl) (by kernel_rfl) (fun _ _ _ h => h) (Or.inl ⟨by rfl, ?_⟩) hHeld ?_
              · intro w hSw; go_simp
              simp only [List.setIfInBounds_toArray, List.set_cons_zero, List.set_cons_succ]
              refine take_at 8 219 (.int .i64 2) rfl rfl (by kernel_rfl) (by kernel_rfl) (by kernel_rfl) (fun _ _ _ h => h) (Or.inl ⟨by rfl, ?_⟩) hHeld ?_
              · intro w hSw; go_simp
              simp only [List.setIfInBounds_toArray, List.set_cons_zero, List.set_cons_succ]
              refine take_at 9 220 (.bool false) rfl rfl (by kernel_rfl) (by kernel_rfl) (by kernel_rfl) (fun _ _ _ h => h) (Or.inl ⟨by rfl, ?_⟩) hHeld ?_
              · intro w hSw; go_simp
              simp only [List.setIfInBounds_toArray, List.set_cons_zero, List.set_cons_succ]
              refine take_at 10 221 (.bool false) rfl rfl (by kernel_rfl) (by kernel_rfl) (by kernel_rfl) (fun _ _ _ h => h) (Or.inl ⟨by rfl, ?_⟩) hHeld ?_
              · intro w hSw; go_simp
              simp only [List.setIfInBounds_toArray, List.set_cons_zero, List.set_cons_succ]
              refine take_at 11 222 (undef) rfl rfl (by kernel_rfl) (by kernel_rfl) (by kernel_rfl) (fun _ _ _ h => h) (Or.inr ⟨by rfl, rfl⟩) hHeld ?_
              simp only [List.setIfInBounds_toArray, List.set_cons_zero, List.set_cons_succ]
              refine take_at 12 223 (undef) rfl rfl (by kernel_rfl) (by kernel_rfl) (by kernel_rfl) (fun _ _ _ h => h) (Or.inr ⟨by rfl, rfl⟩) hHeld ?_
              simp only [List.setIfInBounds_toArray, List.set_cons_zero, List.set_cons_succ]
              refine take_at 13 224 (undef) rfl rfl (by kernel_rfl) (by kernel_rfl) (by kernel_rfl) (fun _ _ _ h => h) (Or.inr ⟨by rfl, rfl⟩) hHeld ?_
              simp only [List.setIfInBounds_toArray, List.set_cons_zero, List.set_cons_succ]
              refine take_at 14 225 (undef) rfl rfl (by kernel_rfl) (by kernel_rfl) (by kernel_rfl) (fun _ _ _ h => h) (Or.inr ⟨by rfl, rfl⟩) hHeld ?_
              simp only [List.setIfInBounds_toArray, List.set_cons_zero, List.set_cons_succ]
              refine take_at 15 226 (undef) rfl rfl (by kernel_rfl) (by kernel_rfl) (by kernel_rfl) (fun _ _ _ h => h) (Or.inr ⟨by rfl, rfl⟩) hHeld ?_
              simp only [List.setIfInBounds_toArray, List.set_cons_zero, List.set_cons_succ]
              refine take_at 16 227 (undef) rfl rfl (by kernel_rfl) (by kernel_rfl) (by kernel_rfl) (fun _ _ _ h => h) (Or.inr ⟨by rfl, rfl⟩) hHeld ?_
              simp only [List.setIfInBounds_toArray, List.set_cons_zero, List.set_cons_succ]
              refine take_at 17 228 (undef) rfl rfl (by kernel_rfl) (by kernel_rfl) (by kernel_rfl) (fun _ _ _ h => h) (Or.inr ⟨by rfl, rfl⟩) hHeld ?_
              simp only [List.setIfInBounds_toArray, List.set_cons_zero, List.set_cons_succ]
              refine take_at 18 229 (.bool false) rfl rfl (by kernel_rfl) (by kernel_rfl) (by kernel_rfl) (fun _ _ _ h => h) (Or.inl ⟨by rfl, ?_⟩) hHeld ?_
              · intro w hSw; go_simp
              simp only [List.setIfInBounds_toArray, List.set_cons_zero, List.set_cons_succ]
              refine take_at 19 230 (.bool false) rfl rfl (by kernel_rfl) (by kernel_rfl) (by kernel_rfl) (fun _ _ _ h => h) (Or.inl ⟨by rfl, ?_⟩) hHeld ?_
              · intro w hSw; go_simp
              simp only [List.setIfInBounds_toArray, List.set_cons_zero, List.set_cons_succ]
              refine take_at 20 231 (.bool false) rfl rfl (by kernel_rfl) (by kernel_rfl) (by kernel_rfl) (fun _ _ _ h => h) (Or.inl ⟨by rfl, ?_⟩) hHeld ?_
              · intro w hSw; go_simp
              simp only [List.setIfInBounds_toArray, List.set_cons_zero, List.set_cons_succ]
              refine take_at 21 232 (.int .i64 a3) rfl rfl (by kernel_rfl) (by kernel_rfl) (by kernel_rfl) (fun _ _ _ h => h) (Or.inl ⟨by rfl, ?_⟩) hHeld ?_
              · intro w hSw; go_simp
              simp only [List.setIfInBounds_toArray, List.set_cons_zero, List.set_cons_succ]
              refine take_at 22 233 (.int .i64 2) rfl rfl (by kernel_rfl) (by kernel_rfl) (by kernel_rfl) (fun _ _ _ h => h) (Or.inl ⟨by rfl, ?_⟩) hHeld ?_
              · intro w hSw; go_simp
              simp only [List.setIfInBounds_toArray, List.set_cons_zero, List.set_cons_succ]
              refine take_at 23 234 (.bool true) rfl rfl (by kernel_rfl) (by kernel_rfl) (by kernel_rfl) (fun _ _ _ h => h) (Or.inl ⟨by rfl, ?_⟩) hHeld ?_
              · intro w hSw; go_simp
              simp only [List.setIfInBounds_toArray, List.set_cons_zero, List.set_cons_succ]
              refine take_at 24 235 (.bool true) rfl rfl (by kernel_rfl) (by kernel_rfl) (by kernel_rfl) (fun _ _ _ h => h) (Or.inl ⟨by rfl, ?_⟩) hHeld ?_
              · intro w hSw; go_simp
              simp only [List.setIfInBounds_toArray, List.set_cons_zero, List.set_cons_succ]
              refine take_at 25 236 (.slice (some ⟨g, 0, none⟩) 512 p) rfl rfl (by kernel_rfl) (by kernel_rfl) (by kernel_rfl) (fun _ _ _ h => h) (Or.inl ⟨by rfl, ?_⟩) hHeld ?_
              · intro w hSw; go_simp
              simp only [List.setIfInBounds_toArray, List.set_cons_zero, List.set_cons_succ]
              refine take_at 26 237 (.pointer (some ⟨g, 0, none⟩)) rfl rfl (by kernel_rfl) (by kernel_rfl) (by kernel_rfl) (fun _ _ _ h => h) (Or.inl ⟨by rfl, ?_⟩) hHeld ?_
              · intro w hSw; go_simp
              simp only [List.setIfInBounds_toArray, List.set_cons_zero, List.set_cons_succ]
              refine take_at 27 238 (.int .u8 (c.toNat : Int)) rfl rfl (by kernel_rfl) (by kernel_rfl) (by kernel_rfl) (fun _ _ _ h => h) (Or.inl ⟨by rfl, ?_⟩) hHeld ?_
              · intro w hSw; obtain ⟨s1, s2⟩ := hSw; go_simp
              simp only [List.setIfInBounds_toArray, List.set_cons_zero, List.set_cons_succ]
              refine take_at 28 239 (.int .i64 j) rfl rfl (by kernel_rfl) (by kernel_rfl) (by kernel_rfl) (fun _ _ _ h => h) (Or.inl ⟨by rfl, ?_⟩) hHeld ?_
              · intro w hSw; go_simp
              simp only [List.setIfInBounds_toArray, List.set_cons_zero, List.set_cons_succ]
              refine take_at 29 240 (.pointer (some ⟨ab, j, none⟩)) rfl rfl (by kernel_rfl) (by kernel_rfl) (by kernel_rfl) (fun _ _ _ h => h) (Or.inl ⟨by rfl, ?_⟩) hHeld ?_
              · intro w hSw; go_simp
              simp only [List.setIfInBounds_toArray, List.set_cons_zero, List.set_cons_succ]
              refine take_at 30 241 (.int .u8 (c.toNat : Int)) rfl rfl (by kernel_rfl) (by kernel_rfl) (by kernel_rfl) (fun _ _ _ h => h) (Or.inl ⟨by rfl, ?_⟩) hHeld ?_
              · intro w hSw; obtain ⟨s1, s2⟩ := hSw; go_simp
              simp only [List.setIfInBounds_toArray, List.set_cons_zero, List.set_cons_succ]
              refine take_at 31 242 (.bool false) rfl rfl (by kernel_rfl) (by kernel_rfl) (by kernel_rfl) (fun _ _ _ h => h) (Or.inl ⟨by rfl, ?_⟩) hHeld ?_
              · intro w hSw; go_simp
              simp only [List.setIfInBounds_toArray, List.set_cons_zero, List.set_cons_succ]
              refine take_at 32 243 (.bool false) rfl rfl (by kernel_rfl) (by kernel_rfl) (by kernel_rfl) (fun _ _ _ h => h) (Or.inl ⟨by rfl, ?_⟩) hHeld ?_
              · intro w hSw; go_simp
              simp only [List.setIfInBounds_toArray, List.set_cons_zero, List.set_cons_succ]
              refine take_at 33 244 (.bool false) rfl rfl (by kernel_rfl) (by kernel_rfl) (by kernel_rfl) (fun _ _ _ h => h) (Or.inl ⟨by rfl, ?_⟩) hHeld ?_
              · intro w hSw; go_simp
              simp only [List.setIfInBounds_toArray, List.set_cons_zero, List.set_cons_succ]
              refine wpAnyH_done (by kernel_rfl) (NoPanic.normal ?_) _
              go_wp2_with fail
              go_roundw
              case rel => exact ⟨j + 1, by omega, by go_num, B15.out⟩
              case measure => simp [intOf]; omega
            · have n1 : ((al : Int) == 1) = false := beq_eq_false_iff_ne.2 (by omega)
              have n2 : ((al : Int) == 2) = false := beq_eq_false_iff_ne.2 (by omega)
              clear B13 B14 D13 D14
              go_wp2_with fail
              refine wp_region_noPanic ?_
              refine wp_region_held_drew (S := fun _ => True) (by kernel_rfl) trivial (fun hHeld => ?_)
              refine take_at 0 211 (.bool true) rfl rfl (by kernel_rfl) (by kernel_rfl) (by kernel_rfl) (fun _ _ _ h => h) (Or.inl ⟨by rfl, ?_⟩) hHeld ?_
              · intro w hSw; go_simp
              simp only [List.setIfInBounds_toArray, List.set_cons_zero, List.set_cons_succ]
              refine take_at 1 212 (.bool false) rfl rfl (by kernel_rfl) (by kernel_rfl) (by kernel_rfl) (fun _ _ _ h => h) (Or.inl ⟨by rfl, ?_⟩) hHeld ?_
              · intro w hSw; go_simp
              simp only [List.setIfInBounds_toArray, List.set_cons_zero, List.set_cons_succ]
              refine take_at 2 213 (.bool false) rfl rfl (by kernel_rfl) (by kernel_rfl) (by kernel_rfl) (fun _ _ _ h => h) (Or.inl ⟨by rfl, ?_⟩) hHeld ?_
              · intro w hSw; go_simp
              simp only [List.setIfInBounds_toArray, List.set_cons_zero, List.set_cons_succ]
              refine take_at 3 214 (.bool true) rfl rfl (by kernel_rfl) (by kernel_rfl) (by kernel_rfl) (fun _ _ _ h => h) (Or.inl ⟨by rfl, ?_⟩) hHeld ?_
              · intro w hSw; go_simp
              simp only [List.setIfInBounds_toArray, List.set_cons_zero, List.set_cons_succ]
              refine take_at 4 215 (.bool false) rfl rfl (by kernel_rfl) (by kernel_rfl) (by kernel_rfl) (fun _ _ _ h => h) (Or.inl ⟨by rfl, ?_⟩) hHeld ?_
              · intro w hSw; go_simp
              simp only [List.setIfInBounds_toArray, List.set_cons_zero, List.set_cons_succ]
              refine take_at 5 216 (.bool false) rfl rfl (by kernel_rfl) (by kernel_rfl) (by kernel_rfl) (fun _ _ _ h => h) (Or.inl ⟨by rfl, ?_⟩) hHeld ?_
              · intro w hSw; go_simp
              simp only [List.setIfInBounds_toArray, List.set_cons_zero, List.set_cons_succ]
              refine take_at 6 217 (.bool false) rfl rfl (by kernel_rfl) (by kernel_rfl) (by kernel_rfl) (fun _ _ _ h => h) (Or.inl ⟨by rfl, ?_⟩) hHeld ?_
              · intro w hSw; go_simp
              simp only [List.setIfInBounds_toArray, List.set_cons_zero, List.set_cons_succ]
              refine take_at 7 218 (.int .i64 a3) rfl rfl (by kernel_rfl) (by kernel_rfl) (by kernel_rfl) (fun _ _ _ h => h) (Or.inl ⟨by rfl, ?_⟩) hHeld ?_
              · intro w hSw; go_simp
              simp only [List.setIfInBounds_toArray, List.set_cons_zero, List.set_cons_succ]
              refine take_at 8 219 (.int .i64 al) rfl rfl (by kernel_rfl) (by kernel_rfl) (by kernel_rfl) (fun _ _ _ h => h) (Or.inl ⟨by rfl, ?_⟩) hHeld ?_
              · intro w hSw; go_simp
              simp only [List.setIfInBounds_toArray, List.set_cons_zero, List.set_cons_succ]
              refine take_at 9 220 (.bool false) rfl rfl (by kernel_rfl) (by kernel_rfl) (by kernel_rfl) (fun _ _ _ h => h) (Or.inl ⟨by rfl, ?_⟩) hHeld ?_
              · intro w hSw; go_simp
              simp only [List.setIfInBounds_toArray, List.set_cons_zero, List.set_cons_succ]
              refine take_at 10 221 (.bool false) rfl rfl (by kernel_rfl) (by kernel_rfl) (by kernel_rfl) (fun _ _ _ h => h) (Or.inl ⟨by rfl, ?_⟩) hHeld ?_
              · intro w hSw; go_simp
              simp only [List.setIfInBounds_toArray, List.set_cons_zero, List.set_cons_succ]
              refine take_at 11 222 (undef) rfl rfl (by kernel_rfl) (by kernel_rfl) (by kernel_rfl) (fun _ _ _ h => h) (Or.inr ⟨by rfl, rfl⟩) hHeld ?_
              simp only [List.setIfInBounds_toArray, List.set_cons_zero, List.set_cons_succ]
              refine take_at 12 223 (undef) rfl rfl (by kernel_rfl) (by kernel_rfl) (by kernel_rfl) (fun _ _ _ h => h) (Or.inr ⟨by rfl, rfl⟩) hHeld ?_
              simp only [List.setIfInBounds_toArray, List.set_cons_zero, List.set_cons_succ]
              refine take_at 13 224 (undef) rfl rfl (by kernel_rfl) (by kernel_rfl) (by kernel_rfl) (fun _ _ _ h => h) (Or.inr ⟨by rfl, rfl⟩) hHeld ?_
              simp only [List.setIfInBounds_toArray, List.set_cons_zero, List.set_cons_succ]
              refine take_at 14 225 (undef) rfl rfl (by kernel_rfl) (by kernel_rfl) (by kernel_rfl) (fun _ _ _ h => h) (Or.inr ⟨by rfl, rfl⟩) hHeld ?_
              simp only [List.setIfInBounds_toArray, List.set_cons_zero, List.set_cons_succ]
              refine take_at 15 226 (undef) rfl rfl (by kernel_rfl) (by kernel_rfl) (by kernel_rfl) (fun _ _ _ h => h) (Or.inr ⟨by rfl, rfl⟩) hHeld ?_
              simp only [List.setIfInBounds_toArray, List.set_cons_zero, List.set_cons_succ]
              refine take_at 16 227 (undef) rfl rfl (by kernel_rfl) (by kernel_rfl) (by kernel_rfl) (fun _ _ _ h => h) (Or.inr ⟨by rfl, rfl⟩) hHeld ?_
              simp only [List.setIfInBounds_toArray, List.set_cons_zero, List.set_cons_succ]
              refine take_at 17 228 (undef) rfl rfl (by kernel_rfl) (by kernel_rfl) (by kernel_rfl) (fun _ _ _ h => h) (Or.inr ⟨by rfl, rfl⟩) hHeld ?_
              simp only [List.setIfInBounds_toArray, List.set_cons_zero, List.set_cons_succ]
              refine take_at 18 229 (.bool false) rfl rfl (by kernel_rfl) (by kernel_rfl) (by kernel_rfl) (fun _ _ _ h => h) (Or.inl ⟨by rfl, ?_⟩) hHeld ?_
              · intro w hSw; go_simp
              simp only [List.setIfInBounds_toArray, List.set_cons_zero, List.set_cons_succ]
              refine take_at 19 230 (.bool false) rfl rfl (by kernel_rfl) (by kernel_rfl) (by kernel_rfl) (fun _ _ _ h => h) (Or.inl ⟨by rfl, ?_⟩) hHeld ?_
              · intro w hSw; go_simp
              simp only [List.setIfInBounds_toArray, List.set_cons_zero, List.set_cons_succ]
              refine take_at 20 231 (.bool false) rfl rfl (by kernel_rfl) (by kernel_rfl) (by kernel_rfl) (fun _ _ _ h => h) (Or.inl ⟨by rfl, ?_⟩) hHeld ?_
              · intro w hSw; go_simp
              simp only [List.setIfInBounds_toArray, List.set_cons_zero, List.set_cons_succ]
              refine take_at 21 232 (.int .i64 a3) rfl rfl (by kernel_rfl) (by kernel_rfl) (by kernel_rfl) (fun _ _ _ h => h) (Or.inl ⟨by rfl, ?_⟩) hHeld ?_
              · intro w hSw; go_simp
              simp only [List.setIfInBounds_toArray, List.set_cons_zero, List.set_cons_succ]
              refine take_at 22 233 (.int .i64 al) rfl rfl (by kernel_rfl) (by kernel_rfl) (by kernel_rfl) (fun _ _ _ h => h) (Or.inl ⟨by rfl, ?_⟩) hHeld ?_
              · intro w hSw; go_simp
              simp only [List.setIfInBounds_toArray, List.set_cons_zero, List.set_cons_succ]
              refine take_at 23 234 (.bool false) rfl rfl (by kernel_rfl) (by kernel_rfl) (by kernel_rfl) (fun _ _ _ h => h) (Or.inl ⟨by rfl, ?_⟩) hHeld ?_
              · intro w hSw; go_simp
              simp only [List.setIfInBounds_toArray, List.set_cons_zero, List.set_cons_succ]
              refine take_at 24 235 (.bool false) rfl rfl (by kernel_rfl) (by kernel_rfl) (by kernel_rfl) (fun _ _ _ h => h) (Or.inl ⟨by rfl, ?_⟩) hHeld ?_
              · intro w hSw; go_simp
              simp only [List.setIfInBounds_toArray, List.set_cons_zero, List.set_cons_succ]
              refine take_at 25 236 (undef) rfl rfl (by kernel_rfl) (by kernel_rfl) (by kernel_rfl) (fun _ _ _ h => h) (Or.inr ⟨by rfl, rfl⟩) hHeld ?_
              simp only [List.setIfInBounds_toArray, List.set_cons_zero, List.set_cons_succ]
              refine take_at 26 237 (undef) rfl rfl (by kernel_rfl) (by kernel_rfl) (by kernel_rfl) (fun _ _ _ h => h) (Or.inr ⟨by rfl, rfl⟩) hHeld ?_
              simp only [List.setIfInBounds_toArray, List.set_cons_zero, List.set_cons_succ]
              refine take_at 27 238 (undef) rfl rfl (by kernel_rfl) (by kernel_rfl) (by kernel_rfl) (fun _ _ _ h => h) (Or.inr ⟨by rfl, rfl⟩) hHeld ?_
              simp only [List.setIfInBounds_toArray, List.set_cons_zero, List.set_cons_succ]
              refine take_at 28 239 (undef) rfl rfl (by kernel_rfl) (by kernel_rfl) (by kernel_rfl) (fun _ _ _ h => h) (Or.inr ⟨by rfl, rfl⟩) hHeld ?_
              simp only [List.setIfInBounds_toArray, List.set_cons_zero, List.set_cons_succ]
              refine take_at 29 240 (undef) rfl rfl (by kernel_rfl) (by kernel_rfl) (by kernel_rfl) (fun _ _ _ h => h) (Or.inr ⟨by rfl, rfl⟩) hHeld ?_
              simp only [List.setIfInBounds_toArray, List.set_cons_zero, List.set_cons_succ]
              refine take_at 30 241 (undef) rfl rfl (by kernel_rfl) (by kernel_rfl) (by kernel_rfl) (fun _ _ _ h => h) (Or.inr ⟨by rfl, rfl⟩) hHeld ?_
              simp only [List.setIfInBounds_toArray, List.set_cons_zero, List.set_cons_succ]
              refine take_at 31 242 (undef) rfl rfl (by kernel_rfl) (by kernel_rfl) (by kernel_rfl) (fun _ _ _ h => h) (Or.inr ⟨by rfl, rfl⟩) hHeld ?_
              simp only [List.setIfInBounds_toArray, List.set_cons_zero, List.set_cons_succ]
              refine take_at 32 243 (.bool false) rfl rfl (by kernel_rfl) (by kernel_rfl) (by kernel_rfl) (fun _ _ _ h => h) (Or.inl ⟨by rfl, ?_⟩) hHeld ?_
              · intro w hSw; go_simp
              simp only [List.setIfInBounds_toArray, List.set_cons_zero, List.set_cons_succ]
              refine take_at 33 244 (.bool false) rfl rfl (by kernel_rfl) (by kernel_rfl) (by kernel_rfl) (fun _ _ _ h => h) (Or.inl ⟨by rfl, ?_⟩) hHeld ?_
              · intro w hSw; go_simp
              simp only [List.setIfInBounds_toArray, List.set_cons_zero, List.set_cons_succ]
              refine wpAnyH_done (by kernel_rfl) (NoPanic.normal ?_) _
              go_wp2_with fail
              go_roundw
              case rel => exact ⟨j + 1, by omega, by go_num, B15.out⟩
              case measure => simp [intOf]; omega
        · have i1 : ¬ (j : Int) < 4 := by omega
          go_wp2_with fail
          go_ret
          exact ⟨rfl, C1.out.trans B.out.st.calm⟩
end Go.Proofs.Ytekghiheblkggaa
