/-
  Package store: record, choose, thingOf.
-/
import Derived.Test.YtfigiofiakkbdaaDoorS1
import Derived.Test.YtfigiofiakkbdaaDoorRegion
import Derived.Deep.RegionLaw
import Derived.Laws.CopyOwn
namespace Go.Proofs.YtfigiofiakkbdaaDoor
open Go.RowKit
set_option linter.all false

theorem putTill_app (bs : List UInt8) (n m : Nat) (h : 8 ≤ m) (hb : bs.length = m) : (putTill (zeros8 m) 0 n 8) = ((le 8 n ++ List.replicate (m - 8) 0).map bv).toArray := by
  unfold putTill
  rw [zeros8_bv]
  simp
set_option maxHeartbeats 1600000 in
theorem srecord_c {w : World} {tb y n : Nat} {dv : Value} {bs : List UInt8} (hr : Row w tb 79 #[.int .i64 (y : Int), .int .u64 (n : Int), dv]) (hd : Rd w dv bs) (hl : bs.length ≤ 10000000) (hn : n < 18446744073709551616) :
    Calls Tryd.prog 55 #[.pointer (some ⟨tb, 0, none⟩)] w fun e w' => ∃ g, e = .returned (.slice (some ⟨g, 0, none⟩) (8 + bs.length) (8 + bs.length)) ∧ w.heap.size ≤ g ∧ BRow w' g (le 8 n ++ bs) ∧ Calm w w' := by
  obtain ⟨A, cap, rfl, h1, h2⟩ := hd.form
  have t1 : w.cell? ⟨tb, 1, none⟩ = some (.int .u64 (n : Int)) := by rw [hr.cell]; rfl
  have t2 : w.cell? ⟨tb, 2, none⟩ = some (.slice A bs.length cap) := by rw [hr.cell]; rfl
  have htb := hr.lt
  have qm := run_make8 w (8 + bs.length) (by omega)
  have i0 : (bs.length : Int) ≤ 10000000 := by omega
  have hw : ((8 + bs.length : Nat) : Int) = 8 + (bs.length : Int) := by omega
  rw [hw] at qm
  have HD := Lib.hid hd
  clear hd hr hw
  go_enter Tryd.func55, Tryd.ntmps55
  go_wp2_with fail
  have B0 : Hid (Row (w.alloc (.cells (zeros8 (8 + bs.length)) 5)) w.heap.size 5 (zeros8 (8 + bs.length))) := Lib.hid (Row.made w _ _)
  have C0 : Hid (Calm w (w.alloc (.cells (zeros8 (8 + bs.length)) 5))) := Lib.hid ((Keep.refl _ w).alloc _)
  have Z : Hid ((zeros8 (8 + bs.length)).size = 8 + bs.length) := Lib.hid (by simp [zeros8])
  generalize hcs : zeros8 (8 + bs.length) = cs at *
  have HCS := Lib.hid hcs
  clear hcs
  generalize World.alloc w _ = w2 at B0 C0 ⊢
  clear qm
  obtain ⟨L, hL⟩ : ∃ L, L = bs.length := ⟨_, rfl⟩
  rw [← hL] at i0 Z ⊢
  have HL := Lib.hid hL
  clear hL
  go_loopw [12] (fun i wr => ∃ j : Nat, j ≤ 8 ∧ i = .int .i64 j ∧ Calm w wr ∧ Row wr w.heap.size 5 (putTill cs 0 n j)) (fun i _ => 8 - (intOf i).toNat)
  case atStart => exact ⟨0, by omega, rfl, C0.out, by rw [putTill_zero]; exact B0.out⟩
  case round =>
    obtain ⟨j, hj, rfl, hkp, hrow⟩ := hrel
    have i8 : (j : Int) ≤ 8 := by omega
    have s1 : wr.cell? ⟨tb, 1, none⟩ = some (.int .u64 (n : Int)) := (hkp.cell (p := ⟨tb, 1, none⟩) htb (fun e => e)).trans t1
    have s2 : wr.cell? ⟨tb, 2, none⟩ = some (.slice A L cap) := by rw [HL.out]; exact (hkp.cell (p := ⟨tb, 2, none⟩) htb (fun e => e)).trans t2
    by_cases hlt : j < 8
    · have e1 : wr.frozen? ⟨w.heap.size, j, none⟩ = false := hrow.soft _
      have hsz := putTill_size cs 0 n j (by rw [Z.out]; omega)
      have e2 : ∃ v, wr.cell? ⟨w.heap.size, j, none⟩ = some v := ⟨_, by rw [hrow.cell]; exact Array.getElem?_eq_getElem (by rw [hsz, Z.out]; omega)⟩
      obtain ⟨v9, e2⟩ := e2
      have Hv := Lib.hid (put_val n j (by omega))
      have hst := putTill_set cs 0 n j (by rw [Z.out]; omega)
      rw [Nat.zero_add] at hst
      have Hst := Lib.hid hst
      have Hkp := Lib.hid hkp
      have Hrow := Lib.hid hrow
      have i1 : (j : Int) < 8 := by omega
      clear hkp hrow hsz hst
      go_wp2_with fail
      go_roundw
      case rel =>
        rw [← Hv.out]
        exact ⟨j + 1, by omega, by go_num, Hkp.out.store (p := ⟨w.heap.size, j, none⟩) (fun e => absurd e (Nat.lt_irrefl _)) _, by rw [← Hst.out]; exact Hrow.out.store j (bv (UInt8.ofNat (n / 256 ^ j)))⟩
      case measure => simp [intOf]; omega
    · obtain rfl : j = 8 := by omega
      have V6 := Lib.hid (HD.out.calm hkp.drew)
      have HB : Hid (Below w.heap.size w wr.drew) := Lib.hid (Calm.to hkp.drew)
      obtain ⟨sp, hpos⟩ : ∃ cs : List Value, cs = bs.map bv := ⟨_, rfl⟩
      obtain ⟨cur, hcur⟩ : ∃ cur : List Value, cur = (le 8 n ++ List.replicate L 0).map bv := ⟨_, rfl⟩
      have hcl : cur.length = 8 + L := by rw [hcur]; simp [le_len]
      have hR : wr.drew.heap[w.heap.size]? = some (.cells cur.toArray 5 (0, 0)) := by
        have := hrow
        rw [← HCS.out, putTill_app (List.replicate (8 + bs.length) 0) n (8 + bs.length) (by omega) (by simp)] at this
        rw [hcur]
        have h3 : wr.heap[w.heap.size]? = _ := this
        rw [HL.out, show wr.drew.heap = wr.heap from rfl, h3, Nat.add_sub_cancel_left]
      have hcl6 : sp.length = Nat.min L L := by rw [hpos, HL.out]; simp
      obtain ⟨DP, hdp⟩ : ∃ DP, (if L = 0 then some (⟨w.heap.size, 0, none⟩ : Addr) else some ⟨w.heap.size, 8, none⟩) = DP := ⟨_, rfl⟩
      have i88 : (8 : Int) ≤ 8 + (L : Int) := by omega
      have hps : 0 < sp.length → DP = some ⟨w.heap.size, 8, none⟩ ∧ ∃ ad, A = some ad ∧ ∀ j v, sp[j]? = some v → wr.drew.cell? (ad.add j) = some v := by
        intro h0
        refine ⟨by rw [← hdp, if_neg (by rw [HL.out]; rw [hpos] at h0; simp at h0; omega)], ?_⟩
        rcases V6.out with ⟨e, rfl⟩ | ⟨ad, cap, e, h1, h2, h3⟩
        · simp [hpos] at h0
        · injection e with e1 e2 e3
          refine ⟨ad, e1, fun j v hj => ?_⟩
          rw [hpos, List.getElem?_map, Option.map_eq_some_iff] at hj
          obtain ⟨b, hb, rfl⟩ := hj
          exact h3 j b hb
      have hfit : 8 + sp.length ≤ cur.length := by rw [hcl, hpos, HL.out]; simp
      have hone : ∀ v ∈ sp, v.oneCell' = true := by rw [hpos]; exact bv_one bs
      have FIN : ∀ w', Hid (w'.heap[w.heap.size]? = some (.cells (splice cur 8 sp).toArray 5 (0, 0))) → BRow w' w.heap.size (le 8 n ++ bs) := by
        intro w' h
        show w'.heap[w.heap.size]? = _
        rw [h.out]
        congr 2
        rw [hpos, hcur]
        unfold splice
        simp [le_len, HL.out]
      have HFIN := Lib.hid FIN
      have HRR := Lib.hid hR
      have HP := Lib.hid hps
      have H1 := Lib.hid hcl6
      have H2 := Lib.hid hone
      have H3 := Lib.hid hfit
      clear FIN hR hps hcl6 hone hfit hkp hrow hcl hcur hpos V6
      go_wp2_with fail
      go_region_law (refine step_copy_splice rfl (.tmp 28) (.tmp 32) 31 31 rfl 5 Tryd.underlying31 (by kernel_rfl) DP A L L L cap rfl rfl w.heap.size 8 cur 5 HRR.out sp H1.out HP.out H3.out H2.out w.heap.size w HB.out (Nat.le_refl _) ?_; intro w7 hg7 hb7)
      have G7 := Lib.hid hg7
      have B7 := Lib.hid hb7
      clear hg7 hb7
      go_wp2_with fail
      go_ret
      rw [HL.out]
      exact ⟨w.heap.size, rfl, Nat.le_refl _, HFIN.out w7 G7.out, Keep.of_below B7.out _⟩
end Go.Proofs.YtfigiofiakkbdaaDoor
