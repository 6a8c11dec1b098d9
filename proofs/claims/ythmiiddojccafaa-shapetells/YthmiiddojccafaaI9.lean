/-
  Package isa: Decode.
-/
import Derived.Test.YthmiiddojccafaaI5
import Derived.Test.YthmiiddojccafaaI6
import Derived.Laws.MakeOwn
namespace Go.Proofs.Ythmiiddojccafaa
open Go.RowKit
set_option linter.all false

def decO (bs : List UInt8) : Bool := decide (bs.length % 8 = 0 ∧ 1 ≤ bs.length / 8 ∧ bs.length / 8 ≤ 512) && rightO (decL bs)
theorem infoI : (Try.prog.info? 34).map (fun i => (i.zero, i.size, i.bytes)) = some (some (.agg #[.int .u8 0, .int .u8 0, .int .u8 0, .int .i16 0, .int .i32 0]), 5, 12) := by kernel_rfl
theorem info_partsI : ∃ i0 : TypeInfo, Try.prog.info? 34 = some i0 ∧ i0.zero = some (.agg #[.int .u8 0, .int .u8 0, .int .u8 0, .int .i16 0, .int .i32 0]) ∧ i0.size = 5 ∧ i0.bytes = 12 := by
  obtain ⟨i, h1, h2⟩ := Option.map_eq_some_iff.1 infoI
  simp only [Prod.mk.injEq] at h2
  exact ⟨i, h1, h2.1, h2.2.1, h2.2.2⟩
theorem run_makeI (w : World) (n : Nat) (hn : n ≤ 1000000) :
    ∃ cs : Array Value, cs.size = n * 5 ∧ Sem.run Try.prog (Instr.makeSlice 22 (.int .i64 (n : Int)) (.int .i64 (n : Int))) w = .ok (.slice (some ⟨w.heap.size, 0, none⟩) n n) (w.alloc (.cells cs 34)) := by
  obtain ⟨i, hi, hz0, hz1, hz2⟩ := info_partsI
  have hb' : (i.bytes : Int) * (n : Int) ≤ 281474976710656 := by rw [hz2]; omega
  have hr := run_make (P := Try.prog) w 22 34 i _ Try.underlying22 hi hz0 .i64 .i64 n n (by omega) (Int.le_refl _) hb' (by omega)
  simp only [Int.toNat_natCast, hz1] at hr
  exact ⟨_, by simp [madeCells], hr⟩
theorem add_off (ad : Addr) (i r : Nat) (hr : 0 < r) : (⟨(ad.add i).block, (ad.add i).off + r, none⟩ : Addr) = ad.add (i + r) := by
  unfold Addr.add
  by_cases h : i = 0
  · subst h
    rw [if_pos rfl, if_neg (by omega), Nat.zero_add]
  · rw [if_neg h, if_neg (by omega)]
    simp [Nat.add_assoc]
theorem set5_same (cur : Array Value) (k : Nat) (a b c d e : Value) (h : k * 5 + 5 ≤ cur.size) (r : Nat) (hr : r < 5) : (((((cur.setIfInBounds (k * 5) a).setIfInBounds (k * 5 + 1) b).setIfInBounds (k * 5 + 2) c).setIfInBounds (k * 5 + 3) d).setIfInBounds (k * 5 + 4) e)[k * 5 + r]? = [a, b, c, d, e][r]? := by
  have : r = 0 ∨ r = 1 ∨ r = 2 ∨ r = 3 ∨ r = 4 := by omega
  rcases this with rfl | rfl | rfl | rfl | rfl <;> simp [Array.getElem?_setIfInBounds] <;> omega
theorem set5_other (cur : Array Value) (k j : Nat) (a b c d e : Value) (hj : j ≠ k) (r : Nat) (hr : r < 5) : (((((cur.setIfInBounds (k * 5) a).setIfInBounds (k * 5 + 1) b).setIfInBounds (k * 5 + 2) c).setIfInBounds (k * 5 + 3) d).setIfInBounds (k * 5 + 4) e)[j * 5 + r]? = cur[j * 5 + r]? := by
  rw [Array.getElem?_setIfInBounds_ne (by omega), Array.getElem?_setIfInBounds_ne (by omega), Array.getElem?_setIfInBounds_ne (by omega), Array.getElem?_setIfInBounds_ne (by omega), Array.getElem?_setIfInBounds_ne (by omega)]
set_option maxHeartbeats 3200000 in
theorem decode_c {w : World} {v : Value} {bs : List UInt8} (h : Rd w v bs) : Calls Try.prog 20 #[v] w fun x w' => Calm w w' ∧ ((decO bs = true ∧ ∃ vv, x = .returned (.tuple #[vv, .int .i64 0]) ∧ Ins w' vv (decL bs)) ∨ (decO bs = false ∧ x = .returned (.tuple #[.slice none 0 0, .int .i64 2]))) := by
  obtain ⟨A, cap, rfl, hcap, hmax⟩ := h.form
  unfold maxLen at hmax
  have H := Lib.hid h
  obtain ⟨n, hn⟩ : ∃ n, n = bs.length := ⟨_, rfl⟩
  have HN := Lib.hid hn
  have i9 : (n : Int) ≤ 9223372036854775807 := by omega
  have i8 : (n : Int) ≤ (cap : Int) := by omega
  have HCAP := Lib.hid (And.intro hcap hmax)
  rw [← hn] at H HCAP ⊢
  clear h hn hcap hmax
  by_cases h8 : n % 8 = 0
  rotate_left
  · have i1 : ((n : Int) % 8 != 0) = true := by simp; omega
    have HD : Hid (decO bs = false) := Lib.hid (by unfold decO; rw [← HN.out, decide_eq_false (fun h => h8 h.1)]; rfl)
    clear h8
    go_enter Try.func20, Try.ntmps20
    go_wp2_with fail
    go_ret2
    exact ⟨Keep.refl _ _, .inr ⟨HD.out, rfl⟩⟩
  obtain ⟨m, rfl⟩ : ∃ m, n = m * 8 := ⟨n / 8, by omega⟩
  have hm8 : m * 8 / 8 = m := by omega
  have i1 : ((((m * 8 : Nat) : Int) % 8) != 0) = false := by simp
  have i2 : (((m * 8 : Nat) : Int) / 8) = (m : Int) := by omega
  have CF := Lib.hid (fun w => countFits_c m w)
  by_cases hfit : 1 ≤ m ∧ m ≤ 512
  rotate_left
  · have hd : decide (1 ≤ m ∧ m ≤ 512) = false := decide_eq_false hfit
    have HD : Hid (decO bs = false) := Lib.hid (by unfold decO; rw [← HN.out, hm8, decide_eq_false (fun h => hfit h.2)]; rfl)
    rw [hd] at CF
    clear hd hfit h8 hm8
    go_enter Try.func20, Try.ntmps20
    go_wp2_with fail
    refine (CF.out _).mono ?_
    rintro e' w1 ⟨rfl, rfl⟩
    go_wp2_with fail
    go_ret2
    exact ⟨Keep.refl _ _, .inr ⟨HD.out, rfl⟩⟩
  have hd : decide (1 ≤ m ∧ m ≤ 512) = true := decide_eq_true hfit
  have HD : Hid (decO bs = rightO (decL bs)) := Lib.hid (by unfold decO; rw [← HN.out, hm8, decide_eq_true ⟨h8, hfit⟩]; rfl)
  rw [hd] at CF
  have j1 : (m : Int) ≤ 512 := by omega
  have j2 : (1 : Int) ≤ (m : Int) := by omega
  clear hd hfit h8 hm8
  obtain ⟨cs, hcs, qm⟩ := run_makeI w m (by omega)
  go_enter Try.func20, Try.ntmps20
  go_wp2_with fail
  refine (CF.out _).mono ?_
  rintro e' w1 ⟨rfl, rfl⟩
  go_wp2_with fail
  have R0 : Hid (Row (w.alloc (.cells cs 34)) w.heap.size 34 cs) := Lib.hid (Row.made w _ _)
  have C0 : Hid (Calm w (w.alloc (.cells cs 34))) := Lib.hid ((Keep.refl _ w).alloc _)
  obtain ⟨w3, hw3⟩ : ∃ w3, w3 = w.alloc (.cells cs 34) := ⟨_, rfl⟩
  rw [← hw3] at R0 C0 ⊢
  obtain ⟨g, hg⟩ : ∃ g, g = w.heap.size := ⟨_, rfl⟩
  rw [← hg] at R0 ⊢
  have HG := Lib.hid hg
  have HCS := Lib.hid hcs
  have HLEN := Lib.hid (decL_len m bs (by rw [← HN.out]; omega))
  clear hg hw3 qm hcs CF
  go_loopw [23] (fun i wr => ∃ k : Nat, k ≤ m ∧ i = .int .i64 k ∧ Calm w wr ∧ ∃ cur : Array Value, Row wr g 34 cur ∧ cur.size = m * 5 ∧ ∀ (j : Nat) x, j < k → (decL bs)[j]? = some x → ∀ r, r < 5 → cur[j * 5 + r]? = x.vs[r]?) (fun i _ => m - (intOf i).toNat)
  case atStart => exact ⟨0, by omega, rfl, C0.out, cs, R0.out, HCS.out, fun j x hj => absurd hj (Nat.not_lt_zero _)⟩
  case round =>
    obtain ⟨k, hk, rfl, hcal, cur, hrow, hsz, hcur⟩ := hrel
    have HC := Lib.hid hcal
    have HR := Lib.hid hrow
    have HZ := Lib.hid hsz
    have HU := Lib.hid hcur
    clear hcal hrow hsz hcur
    by_cases hlt : k < m
    · have i3 : (k : Int) < (m : Int) := by omega
      have hb8 : k * 8 + 8 ≤ bs.length := by rw [← HN.out]; omega
      have hrd := H.out.calm HC.out
      obtain ⟨ad, hA⟩ : ∃ ad, A = some ad := by
        obtain ⟨ad, b, hA, _⟩ := Rd.at_ H.out (Keep.refl _ w) (k * 8) (by omega)
        exact ⟨ad, hA⟩
      subst hA
      have hcell : ∀ r (hr : k * 8 + r < bs.length), wr.cell? (ad.add (k * 8 + r)) = some (.int .u8 (bs[k * 8 + r].toNat : Int)) := fun r hr => by
        obtain ⟨ad', b, e1, e2, e3⟩ := Rd.at_ H.out HC.out (k * 8 + r) hr
        cases e1
        rw [List.getElem?_eq_getElem hr] at e2
        injection e2 with e2
        rw [e3, ← e2]
      have e0 : wr.cell? (ad.add (k * 8)) = some (.int .u8 (bs[k * 8].toNat : Int)) := hcell 0 (by omega)
      have e1 := hcell 1 (by omega)
      have e2 := hcell 2 (by omega)
      have e3 := hcell 3 (by omega)
      have e4 := hcell 4 (by omega)
      have e5 := hcell 5 (by omega)
      have e6 := hcell 6 (by omega)
      have e7 := hcell 7 (by omega)
      rw [← add_off _ _ _ (by decide)] at e1 e2 e3 e4 e5 e6 e7
      have hd := decL_at k bs (by omega)
      have h8k : 8 * k = k * 8 := Nat.mul_comm _ _
      simp only [h8k] at hd
      have IO := Lib.hid (insnOf_c _ _ _ _ _ _ _ _ (w := wr) (A := ad.add (k * 8)) (cap := cap - k * 8) (by have := HCAP.out.1; omega) e0 e1 e2 e3 e4 e5 e6 e7)
      generalize dec1 bs[k * 8] bs[k * 8 + 1] bs[k * 8 + 2] bs[k * 8 + 3] bs[k * 8 + 4] bs[k * 8 + 5] bs[k * 8 + 6] bs[k * 8 + 7] = x at IO hd
      have HDX := Lib.hid hd
      have h88 : (k + 1) * 8 - k * 8 = 8 := by omega
      have HHB := Lib.hid hb8
      unfold In.v at IO
      clear hcell e0 e1 e2 e3 e4 e5 e6 e7 hd h8k hrd hb8
      go_wp2_with fail
      refine IO.out.mono ?_
      rintro e' w5 ⟨rfl, hc5⟩
      have hrow := HR.out.keep hc5 (fun e => e)
      have HC5 := Lib.hid (HC.out.trans hc5)
      have hz := HZ.out
      have hcx : ∀ r, r < 5 → ∃ v, w5.cell? ⟨g, k * 5 + r, none⟩ = some v := fun r hr => ⟨_, by rw [hrow.cell]; exact Array.getElem?_eq_getElem (by rw [hz]; omega)⟩
      obtain ⟨v0, d0⟩ := hcx 0 (by decide)
      rw [Nat.add_zero] at d0
      obtain ⟨v1, d1⟩ := hcx 1 (by decide)
      obtain ⟨v2, d2⟩ := hcx 2 (by decide)
      obtain ⟨v3, d3⟩ := hcx 3 (by decide)
      obtain ⟨v4, d4⟩ := hcx 4 (by decide)
      have f0 : ∀ i, w5.frozen? ⟨g, i, none⟩ = false := fun i => hrow.soft i
      have HROW := Lib.hid hrow
      clear hcx hrow hz hc5 IO h88
      go_wp2_with fail
      go_roundw
      case rel =>
        refine ⟨k + 1, by omega, by go_num, (Keep.store (Keep.store (Keep.store (Keep.store (Keep.store HC5.out (p := ⟨g, k * 5, none⟩) (fun e => absurd e (by show ¬ g < _; rw [HG.out]; exact Nat.lt_irrefl _)) _) (p := ⟨g, k * 5 + 1, none⟩) (fun e => absurd e (by show ¬ g < _; rw [HG.out]; exact Nat.lt_irrefl _)) _) (p := ⟨g, k * 5 + 2, none⟩) (fun e => absurd e (by show ¬ g < _; rw [HG.out]; exact Nat.lt_irrefl _)) _) (p := ⟨g, k * 5 + 3, none⟩) (fun e => absurd e (by show ¬ g < _; rw [HG.out]; exact Nat.lt_irrefl _)) _) (p := ⟨g, k * 5 + 4, none⟩) (fun e => absurd e (by show ¬ g < _; rw [HG.out]; exact Nat.lt_irrefl _)) _), _, (((((HROW.out.store (k * 5) _).store (k * 5 + 1) _).store (k * 5 + 2) _).store (k * 5 + 3) _).store (k * 5 + 4) _), by simp [HZ.out], fun j y hj hy r hr => ?_⟩
        by_cases hjk : j = k
        · subst hjk
          rw [HDX.out] at hy
          cases hy
          exact set5_same _ _ _ _ _ _ _ (by rw [HZ.out]; omega) r hr
        · rw [set5_other _ _ _ _ _ _ _ _ hjk r hr]
          exact HU.out j y (by omega) hy r hr
      case measure => simp [intOf]; omega
    · obtain rfl : k = m := by omega
      have hin : Ins wr (.slice (some ⟨g, 0, none⟩) k k) (decL bs) := by
        refine .inr ⟨_, k, by rw [HLEN.out], by rw [HLEN.out]; exact Nat.le_refl _, by unfold maxLen; omega, fun j x hx => ?_⟩
        have hj : j < k := by have := (List.getElem?_eq_some_iff.1 hx).1; rw [HLEN.out] at this; exact this
        have hu := HU.out j x hj hx
        rw [addr_mid, Nat.zero_add]
        exact ⟨(HR.out.cell _).trans (hu 0 (by decide)), (HR.out.cell _).trans (hu 1 (by decide)), (HR.out.cell _).trans (hu 2 (by decide)), (HR.out.cell _).trans (hu 3 (by decide)), (HR.out.cell _).trans (hu 4 (by decide))⟩
      have AK := Lib.hid (allKnown_c hin (fun i hi => (decL_wf k bs (by rw [← HN.out]; omega) i hi).op))
      have HIN := Lib.hid hin
      clear hin
      go_wp2_with fail
      refine AK.out.mono ?_
      rintro e' w4 ⟨rfl, hc4⟩
      have C4 := Lib.hid hc4
      clear hc4 AK
      generalize hB : rightO (decL bs) = B
      have HB := Lib.hid hB
      clear hB
      cases B
      · go_wp2_with fail
        go_ret2
        exact ⟨HC.out.trans C4.out, .inr ⟨by rw [HD.out, HB.out], rfl⟩⟩
      · go_wp2_with fail
        go_ret2
        exact ⟨HC.out.trans C4.out, .inl ⟨by rw [HD.out, HB.out], _, rfl, HIN.out.calm C4.out⟩⟩
end Go.Proofs.Ythmiiddojccafaa
