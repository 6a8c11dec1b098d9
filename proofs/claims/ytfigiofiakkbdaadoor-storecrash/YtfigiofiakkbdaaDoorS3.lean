/-
  Package store: choose, thingOf.
-/
import Derived.Test.YtfigiofiakkbdaaDoorS2
import Derived.BigQuiet
import Derived.RegionTactic
namespace Go.Proofs.YtfigiofiakkbdaaDoor
open Go.RowKit
set_option linter.all false

/-- What stays of two. -/
def chooseO (o t : Option (Nat × Nat × List UInt8)) : Option (Nat × Nat × List UInt8) := match t with
  | none => o
  | some (y, n, b) => match o with
    | none => some (y, n, b)
    | some (z, m, c) => if m < n then some (y, n, b) else some (z, m, c)
/-- What a half has, whose records are these. -/
def thingO (y : Nat) (out : List (List UInt8)) : Option (Nat × Nat × List UInt8) := match out with
  | [] => none
  | b :: _ => if b.length < 8 then none else if 4611686018427387904 < num (b.take 8) then none else some (y, num (b.take 8), b.drop 8)

set_option maxHeartbeats 1600000 in
theorem schoose_c {w : World} {T : Nat → Prop} {sb : Nat} {p0 p1 hv kv fv tv : Value} {o t : Option (Nat × Nat × List UInt8)} (hr : Row w sb 75 #[p0, p1, hv, kv, fv]) (ho : KeptIs w T kv o) (ht : KeptIs w T tv t) :
    Calls Tryd.prog 46 #[.pointer (some ⟨sb, 0, none⟩), tv] w fun e w' => e = .returned (.tuple #[]) ∧ Keep (· = sb) w w' ∧ ∃ kv', Row w' sb 75 #[p0, p1, hv, kv', fv] ∧ KeptIs w' T kv' (chooseO o t) := by
  have c3 : w.cell? ⟨sb, 3, none⟩ = some kv := by rw [hr.cell]; rfl
  have f3 := hr.soft 3
  have HR := Lib.hid hr
  have put' : ∀ (nq : Nat) kv' o', KeptIs w T kv' o' → Hid (Keep (· = sb) w ((w.drewN nq).setCell ⟨sb, 3, none⟩ kv') ∧ Row ((w.drewN nq).setCell ⟨sb, 3, none⟩ kv') sb 75 #[p0, p1, hv, kv', fv] ∧ KeptIs ((w.drewN nq).setCell ⟨sb, 3, none⟩ kv') T kv' o') := by
    intro nq kv' o' hk
    have k0 : Keep (· = sb) w (w.drewN nq) := (Keep.refl _ w).drewN nq
    have k1 : Keep (· = sb) w ((w.drewN nq).setCell ⟨sb, 3, none⟩ kv') := k0.store (p := ⟨sb, 3, none⟩) (fun _ => rfl) _
    refine Lib.hid ⟨k1, ?_, ?_⟩
    · have : Row (w.drewN nq) sb 75 #[p0, p1, hv, kv, fv] := hr.drewN nq
      simpa using this.store 3 kv'
    · refine hk.keepT k1 (fun g t cur _ ht hrow e => ?_)
      subst e
      exact (hrow.ne hr (by rcases ht with rfl | rfl <;> decide)) rfl
  rcases t with _ | ⟨y, n, b⟩
  · have e : tv = .pointer none := ht
    subst e
    have HO := Lib.hid ho
    clear ho ht hr put'
    go_enter Tryd.func46, Tryd.ntmps46
    go_wp2_with fail
    go_quiet (fail)
    go_wp2_with fail
    go_end0
    exact ⟨rfl, (Keep.refl _ w).drewN _, kv, HR.out, HO.out⟩
  · have ht0 := ht
    obtain ⟨hy, hn, tb, dv, rfl, _, htr, _⟩ := ht0
    have t1 : w.cell? ⟨tb, 1, none⟩ = some (.int .u64 (n : Int)) := by rw [htr.cell]; rfl
    rcases o with _ | ⟨z, m, c⟩
    · have e : kv = .pointer none := ho
      subst e
      have P := fun nq => put' nq _ _ ht
      clear ho ht hr put' htr
      go_enter Tryd.func46, Tryd.ntmps46
      go_wp2_with fail
      go_quiet (fail)
      go_wp2_with fail
      go_end0
      exact ⟨rfl, (P _).out.1, _, (P _).out.2⟩
    · have ho0 := ho
      obtain ⟨hz, hm, kb, dk, rfl, _, hkr, _⟩ := ho0
      have k1 : w.cell? ⟨kb, 1, none⟩ = some (.int .u64 (m : Int)) := by rw [hkr.cell]; rfl
      by_cases hlt : m < n
      · have P := fun nq => put' nq _ _ ht
        have hc : Hid (chooseO (some (z, m, c)) (some (y, n, b)) = some (y, n, b)) := Lib.hid (by simp [chooseO, hlt])
        have d1 : decide (m < n) = true := decide_eq_true hlt
        clear ho ht hr put' htr hkr hlt
        go_enter Tryd.func46, Tryd.ntmps46
        go_wp2_with fail
        go_quiet (fail)
        go_wp2_with fail
        go_end0
        rw [hc.out]
        exact ⟨rfl, (P _).out.1, _, (P _).out.2⟩
      · have HO := Lib.hid ho
        have hc : Hid (chooseO (some (z, m, c)) (some (y, n, b)) = some (z, m, c)) := Lib.hid (by simp [chooseO, hlt])
        have d1 : decide (m < n) = false := decide_eq_false hlt
        clear ho ht hr put' htr hkr hlt
        go_enter Tryd.func46, Tryd.ntmps46
        go_wp2_with fail
        go_quiet (fail)
        go_wp2_with fail
        go_end0
        rw [hc.out]
        exact ⟨rfl, (Keep.refl _ w).drewN _, _, HR.out, HO.out⟩

set_option maxHeartbeats 1600000 in
theorem sthingOf_c {w : World} {base y A n c : Nat} {out : List (List UInt8)} (hy : y ≤ 1) {v : Value} (hrc : Recs w base v out) (hbase : base ≤ w.heap.size) :
    Calls Tryd.prog 47 #[.int .i64 (y : Int), v] w fun e w' => ∃ tv, e = .returned tv ∧ Calm w w' ∧ KeptIs w' (fun k => base ≤ k ∧ k < w'.heap.size) tv (thingO y out) := by
  obtain ⟨A, c, rfl⟩ := hrc.form
  rcases out with _ | ⟨b, l⟩
  · clear hrc
    go_enter Tryd.func47, Tryd.ntmps47
    go_wp2_with fail
    go_ret
    exact ⟨_, rfl, Keep.refl _ _, rfl⟩
  obtain ⟨g, x, rfl, hcell, hx⟩ := hrc.at_ 0 b rfl
  obtain ⟨xg, xo, xc, cur, rfl, hxb, hxr, hx1, hx2, hx3⟩ := hx
  unfold maxLen at hx2
  by_cases h8 : b.length < 8
  · have hq : Hid (thingO y (b :: l) = none) := Lib.hid (by simp [thingO, h8])
    have d1 : decide ((b.length : Int) < 8) = true := decide_eq_true (by omega)
    have i1 : ((((b :: l).length : Nat) : Int) == 0) = false := by rw [beq_eq_false_iff_ne]; simp; omega
    have i2 : (0 : Int) < (((b :: l).length : Nat) : Int) := by rw [List.length_cons]; omega
    generalize (b :: l).length = nn at *
    clear hrc hxr hx3
    go_enter Tryd.func47, Tryd.ntmps47
    go_wp2_with fail
    go_ret
    exact ⟨_, rfl, Keep.refl _ _, by rw [hq.out]; rfl⟩
  have hl8 : 8 ≤ b.length := by omega
  have hb8 : (b.take 8).length = 8 := by simp; omega
  obtain ⟨bs, hbs⟩ : ∃ bs, bs = b.take 8 := ⟨_, rfl⟩
  rw [← hbs] at hb8
  have hc8 : ∀ j x, bs[j]? = some x → w.cell? ⟨xg, xo + j, none⟩ = some (.int .u8 (x.toNat : Int)) := by
    intro j x hj
    rw [hbs, List.getElem?_take] at hj
    split at hj
    · rw [hxr.cell, hx3 j x hj]; rfl
    · simp at hj
  have i1 : ((((b :: l).length : Nat) : Int) == 0) = false := by rw [beq_eq_false_iff_ne]; simp; omega
  have i2 : (0 : Int) < (((b :: l).length : Nat) : Int) := by rw [List.length_cons]; omega
  have d1 : decide ((b.length : Int) < 8) = false := decide_eq_false (by omega)
  obtain ⟨DP, hdp⟩ : ∃ DP, (if xc = 8 then some (⟨xg, xo, none⟩ : Addr) else some ⟨xg, xo + 8, none⟩) = DP := ⟨_, rfl⟩
  have i3 : (8 : Int) ≤ (b.length : Int) := by omega
  have i4 : (8 : Int) ≤ (xc : Int) := by omega
  have i5 : (b.length : Int) ≤ (xc : Int) := by omega
  have HI : Hid (InT w (fun k => base ≤ k ∧ k < w.heap.size) (.slice DP (b.length - 8) (xc - 8)) (b.drop 8)) := Lib.hid (by
    refine .inr ⟨xg, (if xc = 8 then xo else xo + 8), xc - 8, cur, by rw [← hdp]; simp; split <;> rfl, ⟨hxb, hxr.lt⟩, hxr, by simp; omega, by unfold maxLen; omega, fun i q hi => ?_⟩
    rw [List.getElem?_drop] at hi
    have hlt : 8 + i < b.length := (List.getElem?_eq_some_iff.1 hi).1
    rw [if_neg (by omega), Nat.add_assoc]
    exact hx3 _ q hi)
  have HC8 := Lib.hid hc8
  have HQ : Hid (thingO y (b :: l) = if 4611686018427387904 < num bs then none else some (y, num bs, b.drop 8)) := Lib.hid (by simp [thingO, h8, hbs])
  have hn64 := num_lt64 bs (by omega)
  generalize (b :: l).length = nn at *
  generalize thingO y (b :: l) = TO at *
  clear hrc hx3 hc8 hxr hbs h8
  have HD := Lib.hid hdp
  clear hdp
  have hdp := HD.out
  go_enter Tryd.func47, Tryd.ntmps47
  go_wp2_with fail
  clear hdp
  obtain ⟨DV, hDV⟩ : ∃ DV, DV = Value.slice DP (b.length - 8) (xc - 8) := ⟨_, rfl⟩
  rw [← hDV] at HI ⊢
  have B0 : Hid (Row (w.alloc (.cells #[.int .i64 (y : Int), .int .u64 0, DV] 79)) w.heap.size 79 #[.int .i64 (y : Int), .int .u64 0, DV]) := Lib.hid (Row.made w _ _)
  have C0 : Hid (Calm w (w.alloc (.cells #[.int .i64 (y : Int), .int .u64 0, DV] 79))) := Lib.hid ((Keep.refl _ w).alloc _)
  have hxl : xg < w.heap.size ∧ g < w.heap.size := ⟨World.block_lt_of_cell? _ _ (HC8.out 0 (bs[0]'(by omega)) (List.getElem?_eq_getElem _)), World.block_lt_of_cell? _ _ hcell⟩
  clear hDV
  generalize World.alloc w _ = w2 at B0 C0 ⊢
  go_loopw [30] (fun i wr => ∃ j : Nat, j ≤ 8 ∧ i = .int .i64 j ∧ Calm w wr ∧ Row wr w.heap.size 79 #[.int .i64 (y : Int), .int .u64 ((num (bs.take j) : Nat) : Int), DV]) (fun i _ => 8 - (intOf i).toNat)
  case atStart => exact ⟨0, by omega, rfl, C0.out, B0.out⟩
  case round =>
    obtain ⟨j, hj, rfl, hkp, hrow⟩ := hrel
    have i8 : (j : Int) ≤ 8 := by omega
    by_cases hlt : j < 8
    · obtain ⟨x, hx⟩ : ∃ x, bs[j]? = some x := ⟨_, List.getElem?_eq_getElem (by omega)⟩
      have e0 : wr.cell? ⟨xg, xo + j, none⟩ = some (.int .u8 (x.toNat : Int)) := (hkp.cell (p := ⟨xg, xo + j, none⟩) hxl.1 (fun e => e)).trans (HC8.out j x hx)
      have e1 : wr.cell? ⟨w.heap.size, 1, none⟩ = some (.int .u64 ((num (bs.take j) : Nat) : Int)) := by rw [hrow.cell]; rfl
      have e2 : wr.frozen? ⟨w.heap.size, 1, none⟩ = false := hrow.soft 1
      have hor := Lib.hid (num_step bs j x hx (by omega))
      have hxx := u8_u64 x
      have HK := Lib.hid hkp
      have HRW := Lib.hid hrow
      generalize hz : num (bs.take (j + 1)) = z at hor
      generalize num (bs.take j) = q at hor e1 HRW
      have Hz := Lib.hid hz
      have i1 : (j : Int) < 8 := by omega
      clear hkp hrow hx hz
      go_wp2_with fail
      go_region
      all_goals
        go_wp2_with fail
        go_roundw
        case rel => exact ⟨j + 1, by omega, by go_num, (HK.out.drew.store (p := ⟨w.heap.size, 1, none⟩) (fun e => absurd e (Nat.lt_irrefl _)) _), by rw [Hz.out, ← hor.out]; simpa using (HRW.out.store 1 (.int .u64 (bits .or .u64 (q : Int) (IntKind.u64.wrap ((x.toNat : Int) * 2 ^ (8 * j)))))).drew⟩
        case measure => simp [intOf]; omega
    · obtain rfl : j = 8 := by omega
      rw [show bs.take 8 = bs from List.take_of_length_le (by omega)] at hrow
      have e1 : wr.cell? ⟨w.heap.size, 1, none⟩ = some (.int .u64 ((num bs : Nat) : Int)) := by rw [hrow.cell]; rfl
      have HK := Lib.hid hkp
      have HRW := Lib.hid hrow
      have hlw : w.heap.size < wr.heap.size := hrow.lt
      generalize num bs = q at *
      clear hkp hrow
      by_cases hbig : 4611686018427387904 < q
      · have d2 : decide ((4611686018427387904 : Int) < (q : Int)) = true := decide_eq_true (by omega)
        have HQ2 : Hid (TO = none) := Lib.hid (by rw [HQ.out, if_pos hbig])
        clear hbig
        go_wp2_with fail
        go_ret
        exact ⟨_, rfl, HK.out, by rw [HQ2.out]; rfl⟩
      · have d2 : decide ((4611686018427387904 : Int) < (q : Int)) = false := decide_eq_false (by omega)
        have HQ2 : Hid (TO = some (y, q, b.drop 8) ∧ q ≤ 4611686018427387904) := Lib.hid ⟨by rw [HQ.out, if_neg hbig], by omega⟩
        clear hbig
        go_wp2_with fail
        go_ret
        refine ⟨_, rfl, HK.out, ?_⟩
        rw [HQ2.out.1]
        exact ⟨hy, HQ2.out.2, w.heap.size, DV, rfl, ⟨hbase, hlw⟩, HRW.out, (HI.out.keep HK.out (fun _ _ e => e)).mono (fun k hk => ⟨hk.1, Nat.lt_of_lt_of_le hk.2 HK.out.size⟩)⟩
end Go.Proofs.YtfigiofiakkbdaaDoor
