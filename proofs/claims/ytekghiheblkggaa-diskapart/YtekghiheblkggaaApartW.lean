/-
  DiskApart: the walk.
-/
import Derived.Test.YtekghiheblkggaaLaw1c
import Derived.Test.YtekghiheblkggaaRegion
import Derived.Test.YtekghiheblkggaaArgsW
import Derived.Deep.DeepCutAuto
import Derived.Deep.CutBlock
namespace Go.Proofs.Ytekghiheblkggaa
open Go.RowKit
set_option linter.all false

/-- A disk of n sectors, up, nothing armed, each sector full of its byte; the bytes at block lb, outside of the disk. -/
structure Both (w1 w : World) (R : Nat → Prop) (d lb n m : Nat) (S : DS) (cs : List UInt8) (more : Nat := 0) : Prop where
  st : St w1 w R d S
  up : S.down = false
  free : S.arm = none
  ops : S.ops ≤ 2 * m + more
  wait : S.wait.length ≤ m
  secs : S.secs.length = n
  out : ¬ R lb
  lo : w1.heap.size ≤ lb
  row : Row w lb 5 (cs.map bv).toArray
  len : cs.length = n
  now : ∀ x, x < n → S.now x = full (cs.getD x 0)

theorem Both.op {w1 w : World} {R : Nat → Prop} {d lb n m e : Nat} {S : DS} {cs : List UInt8} (h : Both w1 w R d lb n m S cs e) : S.op = (true, { S with ops := S.ops + 1 }) := by
  simp [DS.op, h.up, h.free]
theorem Both.wrote {w1 w w' w'' : World} {R : Nat → Prop} {d lb n m t : Nat} {S : DS} {cs : List UInt8} {c : UInt8} (h : Both w1 w R d lb n m S cs) (hc : Calm w w') (ht : t < n)
    (hs : St w1 w'' (Grow R w' w'') d { { S with ops := S.ops + 1 } with wait := S.wait ++ [(t, full c)] }) (k : Keep R w' w'') :
    Both w1 (w''.setCell ⟨lb, t, none⟩ (bv c)) (Grow R w' w'') d lb n (m + 1) { { S with ops := S.ops + 1 } with wait := S.wait ++ [(t, full c)] } (cs.set t c) := by
  have hlt := Nat.lt_of_lt_of_le h.row.lt hc.size
  have ho : ¬ Grow R w' w'' lb := fun e => e.elim h.out (fun e => by omega)
  have hr : Row w'' lb 5 (cs.map bv).toArray := (h.row.keep hc (fun e => e)).keep k h.out
  refine ⟨hs.touch (p := ⟨lb, t, none⟩) ho h.lo _, h.up, h.free, ?_, ?_, h.secs, ho, h.lo, ?_, ?_, ?_⟩
  · have := h.ops
    show S.ops + 1 ≤ _
    omega
  · have := h.wait; simp; omega
  · have := hr.store t (bv c)
    rw [List.setIfInBounds_toArray] at this
    rw [List.map_set]
    exact this
  · simp [h.len]
  · intro x hx
    have e := write_now { S with ops := S.ops + 1 } t (full c) x
    rw [e]
    have hl := h.len
    by_cases ex : t = x
    · subst ex
      rw [if_pos rfl]
      simp [List.getD, List.getElem?_set, hl, hx]
    · rw [if_neg ex]
      have := h.now x hx
      simp only [List.getD, List.getElem?_set, ex, if_false] at this ⊢
      exact this
theorem Both.barriered {w1 w w' : World} {R : Nat → Prop} {d lb n m : Nat} {S : DS} {cs : List UInt8} (h : Both w1 w R d lb n m S cs) (hs : St w1 w' R d (DS.settled { S with ops := S.ops + 1 })) (k : Keep R w w') (ho : S.ops + 1 ≤ 2 * m) : Both w1 w' R d lb n m (DS.settled { S with ops := S.ops + 1 }) cs := by
  refine ⟨hs, h.up, h.free, ho, by simp [DS.settled], by simp [DS.settled, putTo_len, h.secs], h.out, h.lo, h.row.keep k h.out, h.len, fun x hx => ?_⟩
  rw [settled_now _ x (by rw [show ({ S with ops := S.ops + 1 } : DS).secs = S.secs from rfl, h.secs]; exact hx)]
  exact h.now x hx
theorem Both.bounds {w1 w : World} {R : Nat → Prop} {d lb n m e : Nat} {S : DS} {cs : List UInt8} (h : Both w1 w R d lb n m S cs e) (hm : m ≤ 1000 ∧ e ≤ 2 := by omega) : S.wait.length ≤ 1000000 ∧ S.ops ≤ 1000000000 := by
  have := h.ops
  have := h.wait
  omega

theorem Both.looked {w1 w w' : World} {R : Nat → Prop} {d lb n m e : Nat} {S : DS} {cs : List UInt8} (h : Both w1 w R d lb n m S cs e) (hs : St w1 w' R d { S with ops := S.ops + 1 }) (k : Keep R w w') : Both w1 w' R d lb n m { S with ops := S.ops + 1 } cs (e + 1) :=
  ⟨hs, h.up, h.free, by have := h.ops; show S.ops + 1 ≤ _; omega, h.wait, h.secs, h.out, h.lo, h.row.keep k h.out, h.len, h.now⟩
theorem Both.rest {w1 w w' : World} {R : Nat → Prop} {d lb n m e : Nat} {S : DS} {cs : List UInt8} (h : Both w1 w R d lb n m S cs e) (hc : Calm w w') : Both w1 w' R d lb n m S cs e :=
  ⟨h.st.rest hc, h.up, h.free, h.ops, h.wait, h.secs, h.out, h.lo, h.row.keep hc (fun e => e), h.len, h.now⟩
theorem Both.touch {w1 w : World} {R : Nat → Prop} {d lb n m e : Nat} {S : DS} {cs : List UInt8} (h : Both w1 w R d lb n m S cs e) {p : Addr} (hR : ¬ R p.block) (hn : w1.heap.size ≤ p.block) (hl : lb ≠ p.block) (u : Value) : Both w1 (w.setCell p u) R d lb n m S cs e :=
  ⟨h.st.touch hR hn u, h.up, h.free, h.ops, h.wait, h.secs, h.out, h.lo, h.row.far hl u, h.len, h.now⟩
theorem Both.more {w1 w : World} {R : Nat → Prop} {d lb n m : Nat} {S : DS} {cs : List UInt8} (h : Both w1 w R d lb n m S cs (1 + 1)) : Both w1 w R d lb n (m + 1) S cs :=
  ⟨h.st, h.up, h.free, by have := h.ops; omega, by have := h.wait; omega, h.secs, h.out, h.lo, h.row, h.len, h.now⟩

set_option maxRecDepth 100000 in
set_option maxHeartbeats 6400000 in
theorem diskApart_c (a0 : Int) (v1 : Value) (zs : List Int) (w : World) (h1 : Nums .u16 w v1 zs) (c1 : Fits v1) :
    Calls Try.prog 6 #[.int .i64 a0, v1] w fun e w' => e = .returned (.bool true) ∧ Calm w w' := by
  obtain ⟨A1, p1, rfl⟩ := h1.form
  have m1 := Nat.le_trans (c1 _ _ _ rfl).1 (c1 _ _ _ rfl).2
  obtain ⟨n, hn, en⟩ := mask_nat a0 4 15 (by omega) (by decide)
  obtain ⟨N, hN⟩ : ∃ N : Nat, N = 1 + n := ⟨_, rfl⟩
  have eN : (1 : Int) + (n : Int) = (N : Int) := by omega
  have N1 : 1 ≤ N := by omega
  have N2 : N ≤ 16 := by omega
  have H1 := Lib.hid h1
  unfold maxLen at m1
  clear h1 c1 hN
  go_enter Try.func6, Try.ntmps6
  go_wp2_with fail
  refine (shown_c w).mono ?_
  rintro e w1 ⟨rfl, hc⟩
  have C1 := Lib.hid hc
  clear hc
  go_wp2_with fail
  refine (new_ok w1 N (by omega) (by omega)).mono ?_
  rintro e w2 ⟨d, rfl, hd, hc⟩
  have s2 := Lib.hid (St.made hd hc)
  clear hd hc en
  generalize Grow (fun _ => False) w1 w2 = R2 at s2
  have q := run_makeI w2 N N rfl (by omega)
  have B3 : Hid (Both w1 (w2.alloc (.cells (zeros (.int .u8 0) N) 5)) R2 d w2.heap.size N 0 ⟨List.replicate N (full 0), [], none, false, 0⟩ (List.replicate N 0)) := by
    refine ⟨s2.out.rest ((Keep.refl _ w2).alloc _), rfl, rfl, by simp, by simp, by simp, s2.out.fresh (Nat.le_refl _), s2.out.calm.size, ?_, by simp, fun x hx => ?_⟩
    · have := Row.made w2 5 (zeros (.int .u8 0) N)
      simpa [zeros, bv] using this
    · simp [DS.now, nowOf, hx]
  clear s2
  go_upto_block 0 with fail
  go_cut [] (fun wc => ∃ (j : Nat) (R : Nat → Prop) (S : DS) (cs : List UInt8), j ≤ 50 ∧ Both w1 wc R d w2.heap.size N j S cs)
  case first =>
    go_wp2_with fail
    go_loopw [9] (fun i wr => ∃ (j : Nat) (R : Nat → Prop) (S : DS) (cs : List UInt8), j ≤ 50 ∧ j ≤ zs.length ∧ i = .int .i64 j ∧ Both w1 wr R d w2.heap.size N j S cs) (fun i _ => 50 - (intOf i).toNat)
    case atStart => exact ⟨0, R2, _, _, by omega, by omega, rfl, B3.out⟩
    case round =>
      obtain ⟨j, R, S, cs, hj, hjl, rfl, hB⟩ := hrel
      have HB := Lib.hid hB
      clear hB B3 q
      by_cases hlt : j < zs.length ∧ j < 50
      · obtain ⟨i1, i2⟩ := hlt
        obtain ⟨ad, rfl, cf⟩ := H1.out.at_ (C1.out.trans HB.out.st.calm) j i1
        obtain ⟨x, hx, ex⟩ := H1.out.u16 j i1
        rw [ex] at cf
        have ea : bits .and .u16 (x : Int) 255 = ((x % 256 : Nat) : Int) := u16_and x 255 8 hx (by omega) (by omega)
        obtain ⟨y, hy, ey⟩ : ∃ y : Nat, y < 256 ∧ bits .and .u16 (x : Int) 255 = (y : Int) := ⟨x % 256, by omega, ea⟩
        obtain ⟨t, ht, et⟩ : ∃ t : Nat, t < N ∧ (y : Int) % (N : Int) = (t : Int) := ⟨y % N, Nat.mod_lt _ (by omega), by simp⟩
        obtain ⟨c, ec⟩ : ∃ c : UInt8, (x : Int) / 256 = (c.toNat : Int) := ⟨UInt8.ofNat (x / 256), by rw [UInt8.toNat_ofNat']; omega⟩
        have hy0 : (0 : Int) ≤ (y : Int) := by omega
        have hN0 : (0 : Int) < (N : Int) := by omega
        have ht1 : (t : Int) < (N : Int) := by omega
        have Ex := Lib.hid ex
        clear ea ex
        go_wp2_with fail
        refine (sector_c c wr).mono ?_
        rintro e w4 ⟨g4, q4, rfl, hd, hcc⟩
        have s4 := Lib.hid (HB.out.st.rest hcc)
        have C4 := Lib.hid hcc
        have D4 := Lib.hid hd
        have Q4 := Lib.hid (fun k (hk : k = g4 ∧ wr.heap.size ≤ k) => HB.out.st.fresh hk.2)
        clear hd hcc
        go_wp2_with fail
        refine (st_write s4.out (HB.out.bounds (by omega)).1 (HB.out.bounds (by omega)).2 HB.out.op t (by rw [HB.out.secs]; exact ht) g4 q4 (full c) D4.out Q4.out).mono ?_
        rintro e w5 ⟨rfl, h, k⟩
        have B5 := Lib.hid (HB.out.wrote C4.out ht h k)
        have r5 := ((HB.out.row.keep C4.out (fun e => e)).keep k HB.out.out)
        have f5 := r5.soft t
        have c5 := r5.cell t
        have c5' : w5.cell? ⟨w2.heap.size, t, none⟩ = some (bv (cs[t]'(by rw [HB.out.len]; exact ht))) := by rw [c5]; simp [HB.out.len, ht]
        simp only [bv] at c5'
        have cx := C1.out.trans h.calm
        obtain ⟨ad', e', cf'⟩ := H1.out.at_ cx j i1
        injection e' with e'
        subst e'
        rw [Ex.out] at cf'
        have had2 : (ad.add j).block ≠ w2.heap.size := by
          have := HB.out.lo
          have hw := C1.out.size
          obtain ⟨⟨A', cap', e'', hz⟩, _⟩ := H1.out
          injection e'' with e1 _ e2
          obtain ⟨ad2, e3, e4, _⟩ := hz j _ (List.getElem?_eq_getElem i1)
          rw [← e1] at e3
          injection e3 with e3
          subst e3
          rw [Addr.add_block]
          omega
        have cf2 : (w5.setCell ⟨w2.heap.size, t, none⟩ (.int .u8 (c.toNat : Int))).cell? (ad.add j) = some (.int .u16 (x : Int)) := (World.cell?_setCell_other _ _ _ _ (fun e => had2 (by rw [← e]))).trans cf'
        clear h k r5 c5 cx cf had2
        obtain ⟨b, hb⟩ : ∃ b, (bits .and .u16 (x : Int) 128 != 0) = b := ⟨_, rfl⟩
        cases b
        · go_wp2_with fail
          go_roundw
          case rel => exact ⟨j + 1, _, _, _, by omega, by omega, by go_num, B5.out⟩
          case measure => simp [intOf]; omega
        · go_wp2_with fail
          refine (st_barrier B5.out.st (B5.out.bounds (by omega)).1 (B5.out.bounds (by omega)).2 B5.out.op).mono ?_
          rintro e w6 ⟨rfl, h, k⟩
          have B6 := Lib.hid (B5.out.barriered h k (by have := HB.out.ops; show S.ops + 1 + 1 ≤ _; omega))
          clear h k
          go_wp2_with fail
          go_roundw
          case rel => exact ⟨j + 1, _, _, _, by omega, by omega, by go_num, B6.out⟩
          case measure => simp [intOf]; omega
      · by_cases i1 : j < zs.length
        · have i2 : ¬ j < 50 := fun e => hlt ⟨i1, e⟩
          clear hlt
          go_wp2_with fail
          go_meet
          case rel => exact ⟨j, R, S, cs, hj, HB.out⟩
        · clear hlt
          go_wp2_with fail
          go_meet
          case rel => exact ⟨j, R, S, cs, hj, HB.out⟩
  case rest =>
    obtain ⟨w6, rfl⟩ : ∃ x : World, x = wc := ⟨_, rfl⟩
    obtain ⟨j, R, S, cs, hj, hB⟩ := hcut
    have B6 := Lib.hid hB
    clear hB B3 q
    go_wp2_with fail
    go_loopw [11] (fun i wr => ∃ (i' : Nat) (S : DS), i' ≤ N ∧ i = .int .i64 i' ∧ Both w1 wr R d w2.heap.size N (50 + i') S cs) (fun i _ => N - (intOf i).toNat)
    case atStart => exact ⟨0, S, by omega, rfl, ⟨B6.out.st, B6.out.up, B6.out.free, by have := B6.out.ops; omega, by have := B6.out.wait; omega, B6.out.secs, B6.out.out, B6.out.lo, B6.out.row, B6.out.len, B6.out.now⟩⟩
    case round =>
      obtain ⟨t, S, ht, rfl, hB⟩ := hrel
      have HB := Lib.hid hB
      clear hB B6
      by_cases hlt : t < N
      · go_wp2_with fail
        refine (st_read HB.out.st (HB.out.bounds (by omega)).1 (HB.out.bounds (by omega)).2 HB.out.op t (by rw [HB.out.secs]; exact hlt)).mono ?_
        rintro e w7 ⟨g, p, rfl, hd, h, k⟩
        obtain ⟨c, hcs⟩ : ∃ c, c = cs.getD t 0 := ⟨_, rfl⟩
        have hnow : (DS.now { S with ops := S.ops + 1 } t) = full c := by rw [hcs]; exact HB.out.now t hlt
        rw [hnow] at hd
        have B7 := Lib.hid (HB.out.looked h k)
        have D7 := Lib.hid hd
        have Q7 := Lib.hid (fun k (hk : k = g ∧ wr.heap.size ≤ k) => HB.out.st.fresh hk.2)
        have hg : wr.heap.size ≤ g ∧ g < w7.heap.size ∧ ∃ cur, Row w7 g 5 cur ∧ cur.size = p ∧ 512 ≤ p := by
          obtain ⟨g', p', cur, e1, e2, e3, _, e4, _, e5⟩ := hd
          injection e1 with e1 _ e6
          injection e1 with e1
          injection e1 with e1
          subst e1; subst e6
          exact ⟨e5.2, e2.lt, cur, e2, e4, e3⟩
        have hlb := B7.out.row.lt
        have hc : w7.cell? ⟨w2.heap.size, t, none⟩ = some (.int .u8 (c.toNat : Int)) := by
          rw [B7.out.row.cell, hcs]
          simp [bv, B7.out.len, hlt]
        have q' := And.intro (conv_data (w := w7.drew) D7.out) hc
        have ti0 : (0 : Int) ≤ (t : Int) := by omega
        have ti1 : (t : Int) < (N : Int) := by omega
        clear hd h k hnow hcs
        go_wp2_with fail
        refine wp_region_noPanic ?_
        refine wp_region_held_drew (S := fun w' => Sem.run Try.prog (convert 45 9 (.slice (some ⟨g, 0, none⟩) 512 p)) w' = .ok (.string (str (full c))) w' ∧ w'.cell? ⟨w2.heap.size, t, none⟩ = some (.int .u8 (c.toNat : Int))) (by kernel_rfl) q' (fun hHeld => ?_)
        refine take_at 0 91 (.int .i64 0) rfl rfl (by kernel_rfl) (by kernel_rfl) (by kernel_rfl) (fun _ _ _ h => h) (Or.inl ⟨by rfl, ?_⟩) hHeld ?_
        · intro w hSw; go_simp
        simp only [List.setIfInBounds_toArray, List.set_cons_zero, List.set_cons_succ]
        refine take_at 1 92 (.bool false) rfl rfl (by kernel_rfl) (by kernel_rfl) (by kernel_rfl) (fun _ _ _ h => h) (Or.inl ⟨by rfl, ?_⟩) hHeld ?_
        · intro w hSw; go_simp
        simp only [List.setIfInBounds_toArray, List.set_cons_zero, List.set_cons_succ]
        refine take_at 2 93 (.bool false) rfl rfl (by kernel_rfl) (by kernel_rfl) (by kernel_rfl) (fun _ _ _ h => h) (Or.inl ⟨by rfl, ?_⟩) hHeld ?_
        · intro w hSw; go_simp
        simp only [List.setIfInBounds_toArray, List.set_cons_zero, List.set_cons_succ]
        refine take_at 3 94 (.slice (some ⟨g, 0, none⟩) 512 p) rfl rfl (by kernel_rfl) (by kernel_rfl) (by kernel_rfl) (fun _ _ _ h => h) (Or.inl ⟨by rfl, ?_⟩) hHeld ?_
        · intro w hSw; go_simp
        simp only [List.setIfInBounds_toArray, List.set_cons_zero, List.set_cons_succ]
        refine take_at 4 95 (.string (str (full c))) rfl rfl (by kernel_rfl) (by kernel_rfl) (by kernel_rfl) (fun _ _ _ h => h) (Or.inl ⟨by rfl, ?_⟩) hHeld ?_
        · intro w hSw; go_simp
        simp only [List.setIfInBounds_toArray, List.set_cons_zero, List.set_cons_succ]
        refine take_at 5 96 (.slice (some ⟨w2.heap.size, 0, none⟩) N N) rfl rfl (by kernel_rfl) (by kernel_rfl) (by kernel_rfl) (fun _ _ _ h => h) (Or.inl ⟨by rfl, ?_⟩) hHeld ?_
        · intro w hSw; go_simp
        simp only [List.setIfInBounds_toArray, List.set_cons_zero, List.set_cons_succ]
        refine take_at 6 97 (.int .i64 t) rfl rfl (by kernel_rfl) (by kernel_rfl) (by kernel_rfl) (fun _ _ _ h => h) (Or.inl ⟨by rfl, ?_⟩) hHeld ?_
        · intro w hSw; go_simp
        simp only [List.setIfInBounds_toArray, List.set_cons_zero, List.set_cons_succ]
        refine take_at 7 98 (.pointer (some ⟨w2.heap.size, t, none⟩)) rfl rfl (by kernel_rfl) (by kernel_rfl) (by kernel_rfl) (fun _ _ _ h => h) (Or.inl ⟨by rfl, ?_⟩) hHeld ?_
        · intro w hSw; go_simp
        simp only [List.setIfInBounds_toArray, List.set_cons_zero, List.set_cons_succ]
        refine take_at 8 99 (.int .u8 (c.toNat : Int)) rfl rfl (by kernel_rfl) (by kernel_rfl) (by kernel_rfl) (fun _ _ _ h => h) (Or.inl ⟨by rfl, ?_⟩) hHeld ?_
        · intro w hSw; go_simp
        simp only [List.setIfInBounds_toArray, List.set_cons_zero, List.set_cons_succ]
        refine wpAnyH_ready (rs := [9]) (by kernel_rfl) (by simp) ?_
        refine AllReadyH.cons rfl (fun K hK => ?_) AllReadyH.nil
        go_simp
        refine (sector_c c _).mono ?_
        rintro e w8 ⟨gs, ps, rfl, hds, hcs⟩
        have qs := conv_data hds
        have qk := And.intro (conv_data (Data.keep (w := w7.drew) D7.out hcs (fun _ _ e => e))) ((hcs.cell (p := ⟨w2.heap.size, t, none⟩) (show w2.heap.size < w7.drew.heap.size from hlb) (fun e => e)).trans hc)
        have Cw8 := Lib.hid hcs
        clear hds hcs
        refine hK.out _ _ qk (fun hHeld => ?_)
        clear hK K
        try simp only [List.setIfInBounds_toArray, List.set_cons_zero, List.set_cons_succ]
        refine wpAnyH_ready (rs := [10]) (by kernel_rfl) (by simp) ?_
        refine AllReadyH.cons rfl (fun K hK => ?_) AllReadyH.nil
        go_simp
        refine hK.out _ _ qk (fun hHeld => ?_)
        clear hK K
        try simp only [List.setIfInBounds_toArray, List.set_cons_zero, List.set_cons_succ]
        refine wpAnyH_ready (rs := [11]) (by kernel_rfl) (by simp) ?_
        refine AllReadyH.cons rfl (fun K hK => ?_) AllReadyH.nil
        go_simp
        refine hK.out _ _ qk (fun hHeld => ?_)
        clear hK K
        try simp only [List.setIfInBounds_toArray, List.set_cons_zero, List.set_cons_succ]
        refine wpAnyH_ready (rs := [12]) (by kernel_rfl) (by simp) ?_
        refine AllReadyH.cons rfl (fun K hK => ?_) AllReadyH.nil
        go_simp
        refine hK.out _ _ qk (fun hHeld => ?_)
        clear hK K
        try simp only [List.setIfInBounds_toArray, List.set_cons_zero, List.set_cons_succ]
        refine wpAnyH_done (by kernel_rfl) (NoPanic.normal ?_) _
        clear q' qs qk hc
        have B8 := Lib.hid (B7.out.rest (w' := w8) (Keep.trans (Keep.drew (Keep.refl _ w7)) Cw8.out))
        obtain ⟨hg1, hg2, cur, hg3, hg4, hg5⟩ := hg
        have r8 : Row w8 g 5 cur := (hg3.drew).keep Cw8.out (fun e => e)
        have hgo : ¬ R g := HB.out.st.fresh hg1
        have hgl : w2.heap.size ≠ g := by have := HB.out.row.lt; omega
        have hgn : w1.heap.size ≤ g := Nat.le_trans HB.out.st.calm.size hg1
        clear B7 D7 Q7 HB hg3 Cw8
        obtain ⟨wo, rfl⟩ : ∃ x : World, x = wr := ⟨_, rfl⟩
        go_wp2_with fail
        go_loopw [14] (fun i wr => ∃ (k : Nat) (cur : Array Value), k ≤ 512 ∧ i = .int .i64 k ∧ Both w1 wr R d w2.heap.size N (50 + t) { S with ops := S.ops + 1 } cs (1) ∧ Row wr g 5 cur ∧ cur.size = p) (fun i _ => 512 - (intOf i).toNat)
        case atStart => exact ⟨0, cur, by omega, rfl, B8.out, r8, hg4⟩
        case round =>
          obtain ⟨k, cur, hk, rfl, hB, hr, hsz⟩ := hrel
          have B9 := Lib.hid hB
          have r9 := Lib.hid hr
          clear hB hr B8 r8 hg4
          by_cases hk5 : k < 512
          · have c9 : wr.cell? ⟨g, k, none⟩ = some (cur[k]'(by omega)) := by rw [r9.out.cell]; simp [show k < cur.size by omega]
            have f9 := r9.out.soft k
            have k1 : (k : Int) < 512 := by omega
            go_wp2_with fail
            go_roundw
            case rel => exact ⟨k + 1, cur.setIfInBounds k (.int .u8 99), by omega, by go_num, B9.out.touch (p := ⟨g, k, none⟩) hgo hgn hgl _, r9.out.store k _, by simp [hsz]⟩
            case measure => simp [intOf]; omega
          · go_wp2_with fail
            refine (st_read B9.out.st (B9.out.bounds (by omega)).1 (B9.out.bounds (by omega)).2 B9.out.op t (by rw [B9.out.secs]; exact hlt)).mono ?_
            rintro e w10 ⟨g2, p2, rfl, hd, h, k⟩
            have hcs : ∃ c, c = cs.getD t 0 := ⟨_, rfl⟩
            obtain ⟨c, hcs⟩ := hcs
            have hnow : (DS.now { { S with ops := S.ops + 1 } with ops := S.ops + 1 + 1 } t) = full c := by rw [hcs]; exact B9.out.now t hlt
            rw [hnow] at hd
            have B10 := Lib.hid (B9.out.looked h k)
            have D10 := Lib.hid hd
            have hlb := B10.out.row.lt
            have hc : w10.cell? ⟨w2.heap.size, t, none⟩ = some (.int .u8 (c.toNat : Int)) := by
              rw [B10.out.row.cell, hcs]
              simp [bv, B10.out.len, hlt]
            have q' := And.intro (conv_data (w := w10.drew) D10.out) hc
            clear hd h k hnow hcs
            go_wp2_with fail
            refine wp_region_noPanic ?_
            refine wp_region_held_drew (S := fun w' => Sem.run Try.prog (convert 45 9 (.slice (some ⟨g2, 0, none⟩) 512 p2)) w' = .ok (.string (str (full c))) w' ∧ w'.cell? ⟨w2.heap.size, t, none⟩ = some (.int .u8 (c.toNat : Int))) (by kernel_rfl) q' (fun hHeld => ?_)
            refine take_at 0 119 (.slice (some ⟨g2, 0, none⟩) 512 p2) rfl rfl (by kernel_rfl) (by kernel_rfl) (by kernel_rfl) (fun _ _ _ h => h) (Or.inl ⟨by rfl, ?_⟩) hHeld ?_
            · intro w hSw; go_simp
            simp only [List.setIfInBounds_toArray, List.set_cons_zero, List.set_cons_succ]
            refine take_at 1 120 (.string (str (full c))) rfl rfl (by kernel_rfl) (by kernel_rfl) (by kernel_rfl) (fun _ _ _ h => h) (Or.inl ⟨by rfl, ?_⟩) hHeld ?_
            · intro w hSw; go_simp
            simp only [List.setIfInBounds_toArray, List.set_cons_zero, List.set_cons_succ]
            refine take_at 2 121 (.slice (some ⟨w2.heap.size, 0, none⟩) N N) rfl rfl (by kernel_rfl) (by kernel_rfl) (by kernel_rfl) (fun _ _ _ h => h) (Or.inl ⟨by rfl, ?_⟩) hHeld ?_
            · intro w hSw; go_simp
            simp only [List.setIfInBounds_toArray, List.set_cons_zero, List.set_cons_succ]
            refine take_at 3 122 (.int .i64 t) rfl rfl (by kernel_rfl) (by kernel_rfl) (by kernel_rfl) (fun _ _ _ h => h) (Or.inl ⟨by rfl, ?_⟩) hHeld ?_
            · intro w hSw; go_simp
            simp only [List.setIfInBounds_toArray, List.set_cons_zero, List.set_cons_succ]
            refine take_at 4 123 (.pointer (some ⟨w2.heap.size, t, none⟩)) rfl rfl (by kernel_rfl) (by kernel_rfl) (by kernel_rfl) (fun _ _ _ h => h) (Or.inl ⟨by rfl, ?_⟩) hHeld ?_
            · intro w hSw; go_simp
            simp only [List.setIfInBounds_toArray, List.set_cons_zero, List.set_cons_succ]
            refine take_at 5 124 (.int .u8 (c.toNat : Int)) rfl rfl (by kernel_rfl) (by kernel_rfl) (by kernel_rfl) (fun _ _ _ h => h) (Or.inl ⟨by rfl, ?_⟩) hHeld ?_
            · intro w hSw; go_simp
            simp only [List.setIfInBounds_toArray, List.set_cons_zero, List.set_cons_succ]
            refine wpAnyH_ready (rs := [6]) (by kernel_rfl) (by simp) ?_
            refine AllReadyH.cons rfl (fun K hK => ?_) AllReadyH.nil
            go_simp
            refine (sector_c c _).mono ?_
            rintro e w11 ⟨gs, ps, rfl, hds, hcs⟩
            have qs := conv_data hds
            have qk := And.intro (conv_data (Data.keep (w := w10.drew) D10.out hcs (fun _ _ e => e))) ((hcs.cell (p := ⟨w2.heap.size, t, none⟩) (show w2.heap.size < w10.drew.heap.size from hlb) (fun e => e)).trans hc)
            have Cw11 := Lib.hid hcs
            clear hds hcs
            refine hK.out _ _ qk (fun hHeld => ?_)
            clear hK K
            try simp only [List.setIfInBounds_toArray, List.set_cons_zero, List.set_cons_succ]
            refine wpAnyH_ready (rs := [7]) (by kernel_rfl) (by simp) ?_
            refine AllReadyH.cons rfl (fun K hK => ?_) AllReadyH.nil
            go_simp
            refine hK.out _ _ qk (fun hHeld => ?_)
            clear hK K
            try simp only [List.setIfInBounds_toArray, List.set_cons_zero, List.set_cons_succ]
            refine wpAnyH_ready (rs := [8]) (by kernel_rfl) (by simp) ?_
            refine AllReadyH.cons rfl (fun K hK => ?_) AllReadyH.nil
            go_simp
            refine hK.out _ _ qk (fun hHeld => ?_)
            clear hK K
            try simp only [List.setIfInBounds_toArray, List.set_cons_zero, List.set_cons_succ]
            refine wpAnyH_done (by kernel_rfl) (NoPanic.normal ?_) _
            clear q' qs qk hc
            have B11 := Lib.hid (B10.out.rest (w' := w11) (Keep.trans (Keep.drew (Keep.refl _ w10)) Cw11.out))
            clear B10 D10 B9 Cw11
            go_wp2_with fail
            go_roundw
            case rel => exact ⟨t + 1, _, by omega, by go_num, B11.out.more⟩
            case measure => simp [intOf]; omega
      · go_wp2_with fail
        go_ret
        exact ⟨rfl, C1.out.trans HB.out.st.calm⟩
end Go.Proofs.Ytekghiheblkggaa
