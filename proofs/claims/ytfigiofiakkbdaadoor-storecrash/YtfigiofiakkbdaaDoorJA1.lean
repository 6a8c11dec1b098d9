/-
  Package journal: numbers as bytes.
-/
import Derived.Test.YtfigiofiakkbdaaDoorLRd
import Derived.Test.YtfigiofiakkbdaaDoorJN2
namespace Go.Proofs.YtfigiofiakkbdaaDoor
open Go.RowKit
set_option linter.all false

theorem le_at (k n j : Nat) (h : j < k) : (le k n)[j]? = some (UInt8.ofNat (n / 256 ^ j)) := by
  induction k generalizing n j with
  | zero => omega
  | succ k ih =>
    cases j with
    | zero => simp [le]
    | succ j =>
      simp only [le, List.getElem?_cons_succ]
      rw [ih (n / 256) j (by omega), Nat.div_div_eq_div_mul, Nat.pow_succ, Nat.mul_comm]
theorem num_app (a b : List UInt8) : num (a ++ b) = num a + 256 ^ a.length * num b := by
  induction a with
  | nil => simp [num]
  | cons x a ih =>
    simp only [List.cons_append, num, ih, List.length_cons, Nat.pow_succ]
    rw [Nat.mul_add, Nat.mul_comm (256 ^ a.length) 256, Nat.mul_assoc]; omega
theorem pow256 (j : Nat) : 256 ^ j = 2 ^ (8 * j) := by rw [show (256 : Nat) = 2 ^ 8 from rfl, ← Nat.pow_mul]
theorem pow256_le (j : Nat) (h : j ≤ 8) : 256 ^ j ≤ 18446744073709551616 := by
  have := Nat.pow_le_pow_right (n := 256) (by decide) h
  exact Nat.le_trans this (by decide)
theorem num_lt64 (bs : List UInt8) (h : bs.length ≤ 8) : num bs < 18446744073709551616 := Nat.lt_of_lt_of_le (num_lt bs) (pow256_le _ h)
theorem num_step (bs : List UInt8) (j : Nat) (b : UInt8) (hb : bs[j]? = some b) (hl : bs.length ≤ 8) :
    bits .or .u64 ((num (bs.take j) : Nat) : Int) (IntKind.u64.wrap ((b.toNat : Int) * 2 ^ (8 * j))) = ((num (bs.take (j + 1)) : Nat) : Int) := by
  have hj : j < bs.length := (List.getElem?_eq_some_iff.1 hb).1
  have hlt : (bs.take j).length = j := by simp; omega
  have h1 := num_lt (bs.take j)
  rw [hlt] at h1
  have h2 : num (bs.take (j + 1)) = num (bs.take j) + 256 ^ j * b.toNat := by
    rw [List.take_add_one, hb, num_app, hlt]; simp [num]
  have hb8 := u8_lt b
  have h3 : 256 ^ j * b.toNat < 18446744073709551616 := by
    have := num_lt64 (bs.take (j + 1)) (by simp; omega)
    omega
  have h4 : num (bs.take j) < 18446744073709551616 := num_lt64 _ (by omega)
  have e : ((b.toNat : Int) * 2 ^ (8 * j)) = ((256 ^ j * b.toNat : Nat) : Int) := by
    rw [pow256, Int.natCast_mul, Int.mul_comm]; simp
  rw [e, IntKind.wrap_u64, show (((256 ^ j * b.toNat : Nat) : Int) % 18446744073709551616) = ((256 ^ j * b.toNat : Nat) : Int) by omega]
  rw [u64_or_nat _ _ h4 h3, h2, Nat.or_comm, nat_join (8 * j) _ _ (by rw [pow256]; exact Nat.mul_mod_right _ _) (by rw [← pow256]; exact h1), Nat.add_comm]
theorem u8_u64 (b : UInt8) : IntKind.u64.wrap (b.toNat : Int) = (b.toNat : Int) := by
  have := u8_lt b
  rw [IntKind.wrap_u64]; omega

set_option maxHeartbeats 800000 in
theorem get_c (A : Option Addr) (cap : Nat) (bs : List UInt8) (w : World) (hl : bs.length ≤ 8)
    (hcell : ∀ (i : Nat) b, bs[i]? = some b → ∃ ad, A = some ad ∧ w.cell? (ad.add i) = some (bv b)) :
    Calls Tryd.prog 74 #[.slice A bs.length cap] w fun e w' => e = .returned (.int .u64 ((num bs : Nat) : Int)) ∧ w = w' := by
  have Hcell := Lib.hid hcell
  clear hcell
  go_enter Tryd.func74, Tryd.ntmps74
  go_wp2_with fail
  go_loopw [3, 8] (fun c i wr => ∃ j : Nat, j ≤ bs.length ∧ i = .int .i64 j ∧ c = .int .u64 ((num (bs.take j) : Nat) : Int) ∧ w = wr) (fun _ i _ => bs.length - (intOf i).toNat)
  case atStart => exact ⟨0, by omega, rfl, rfl, rfl⟩
  case round =>
    obtain ⟨j, hj, rfl, rfl, rfl⟩ := hrel
    by_cases hlt : j < bs.length
    · have hb : bs[j]? = some bs[j] := List.getElem?_eq_getElem hlt
      obtain ⟨ad, rfl, hc⟩ := Hcell.out j bs[j] hb
      have hor := Lib.hid (num_step bs j bs[j] hb hl)
      have hx := u8_u64 bs[j]
      unfold bv at hc
      generalize hz : num (bs.take (j + 1)) = z at hor
      generalize num (bs.take j) = x at hor ⊢
      generalize bs[j] = b at hc hor hx
      have Hz := Lib.hid hz
      have i0 : (j : Int) < 8 := by omega
      clear hb hz
      go_wp2_with fail
      go_roundw
      case rel => exact ⟨j + 1, by omega, by go_num, by rw [hor.out, Hz.out], trivial⟩
      case measure => simp [intOf]; omega
    · obtain rfl : j = bs.length := by omega
      rw [List.take_length]
      go_wp2_with fail
      go_ret
      exact ⟨rfl, rfl⟩

/-- Some cells of a row written anew. -/
def spl (cs : Array Value) (o k : Nat) (vs : List Value) : Array Value := (cs.toList.take o ++ vs ++ cs.toList.drop (o + k)).toArray
/-- What put has filled, j of k. -/
def putTill (cs : Array Value) (o n j : Nat) : Array Value := (cs.toList.take o ++ ((le j n).map bv ++ cs.toList.drop (o + j))).toArray
theorem putTill_zero (cs : Array Value) (o n : Nat) : putTill cs o n 0 = cs := by simp [putTill, le]
theorem putTill_size (cs : Array Value) (o n j : Nat) (h : o + j ≤ cs.size) : (putTill cs o n j).size = cs.size := by
  simp [putTill, le_len]; omega
theorem le_succ (j n : Nat) : le (j + 1) n = le j n ++ [UInt8.ofNat (n / 256 ^ j)] := by
  induction j generalizing n with
  | zero => simp [le]
  | succ j ih =>
    rw [le, ih (n / 256)]
    simp only [le, List.cons_append]
    rw [Nat.div_div_eq_div_mul, Nat.pow_succ, Nat.mul_comm]
theorem putTill_set (cs : Array Value) (o n j : Nat) (h : o + j < cs.size) : (putTill cs o n j).setIfInBounds (o + j) (bv (UInt8.ofNat (n / 256 ^ j))) = putTill cs o n (j + 1) := by
  apply Array.toList_inj.1
  have h1 : (cs.toList.take o).length = o := by simp; omega
  have h2 : ((le j n).map bv).length = j := by simp [le_len]
  have h3 : cs.toList.drop (o + j) = (cs.toList[o + j]'(by simpa using h)) :: cs.toList.drop (o + (j + 1)) := List.drop_eq_getElem_cons (by simpa using h)
  simp only [putTill, Array.toList_setIfInBounds]
  rw [List.set_append_right _ _ (by omega), h1, show o + j - o = j by omega, List.set_append_right _ _ (by omega), h2, Nat.sub_self, h3, List.set_cons_zero, le_succ]
  simp
theorem put_val (n j : Nat) (hj : j ≤ 8) : (((UInt8.ofNat (n / 256 ^ j)).toNat : Nat) : Int) = ((n : Int) / 2 ^ (8 * j)) % 256 := by
  rw [UInt8.toNat_ofNat', pow256]
  simp

set_option maxHeartbeats 800000 in
theorem put_c (g o k cap n : Nat) (cs : Array Value) (w : World) (hk : k ≤ 8) (hr : Row w g 5 cs) (ho : o + k ≤ cs.size) (hcs : ∃ bs : List UInt8, cs.toList = bs.map bv) (hn : n < 18446744073709551616) :
    Calls Tryd.prog 80 #[.slice (some ⟨g, o, none⟩) k cap, .int .u64 (n : Int)] w fun e w' => e = .returned (.tuple #[]) ∧ Keep (· = g) w w' ∧ Row w' g 5 (putTill cs o n k) := by
  have Hr := Lib.hid hr
  have Hcs := Lib.hid hcs
  clear hr hcs
  go_enter Tryd.func80, Tryd.ntmps80
  go_wp2_with fail
  go_loopw [7] (fun i wr => ∃ j : Nat, j ≤ k ∧ i = .int .i64 j ∧ Keep (· = g) w wr ∧ Row wr g 5 (putTill cs o n j)) (fun i _ => k - (intOf i).toNat)
  case atStart => exact ⟨0, by omega, rfl, Keep.refl _ _, by rw [putTill_zero]; exact Hr.out⟩
  case round =>
    obtain ⟨j, hj, rfl, hkp, hrow⟩ := hrel
    by_cases hlt : j < k
    · have e1 : wr.frozen? ⟨g, o + j, none⟩ = false := hrow.soft _
      have hsz := putTill_size cs o n j (by omega)
      have e2 : ∃ v, wr.cell? ⟨g, o + j, none⟩ = some v := ⟨_, by rw [hrow.cell]; exact Array.getElem?_eq_getElem (by omega)⟩
      obtain ⟨v9, e2⟩ := e2
      have Hv := Lib.hid (put_val n j (by omega))
      have Hst := Lib.hid (putTill_set cs o n j (by omega))
      have Hkp := Lib.hid hkp
      have Hrow := Lib.hid hrow
      have i0 : (j : Int) < 8 := by omega
      clear hkp hrow hsz
      go_wp2_with fail
      go_roundw
      case rel =>
        rw [← Hv.out]
        exact ⟨j + 1, by omega, by go_num, Hkp.out.store (p := ⟨g, o + j, none⟩) (fun _ => rfl) _, by rw [← Hst.out]; exact Hrow.out.store (o + j) (bv (UInt8.ofNat (n / 256 ^ j)))⟩
      case measure => simp [intOf]; omega
    · obtain rfl : j = k := by omega
      have Hkp := Lib.hid hkp
      have Hrow := Lib.hid hrow
      clear hkp hrow
      go_wp2_with fail
      go_end0
      exact ⟨rfl, Hkp.out, Hrow.out⟩

set_option maxHeartbeats 800000 in
theorem sectorsOf_c (n : Nat) (w : World) (hn : n ≤ 1000000000000) :
    Calls Tryd.prog 79 #[.int .i64 (n : Int)] w fun e w' => e = .returned (.int .i64 ((secsOf n : Nat) : Int)) ∧ w = w' := by
  have e : (16 + (n : Int) + 512 - 1) / 512 = ((secsOf n : Nat) : Int) := by unfold secsOf; omega
  have H := Lib.hid e
  clear e
  go_enter Tryd.func79, Tryd.ntmps79
  go_wp2_with fail
  go_ret
  exact ⟨by rw [H.out]; rfl, rfl⟩
/-- What is read of a row's cells. -/
theorem Rd.cells0 {w : World} {g n cap : Nat} {bs : List UInt8} (h : Rd w (.slice (some ⟨g, 0, none⟩) n cap) bs) : n = bs.length ∧ bs.length ≤ cap ∧ cap ≤ maxLen ∧ ∀ (i : Nat) b, bs[i]? = some b → w.cell? ⟨g, i, none⟩ = some (bv b) := by
  rcases h with ⟨e, _⟩ | ⟨ad, c, e, h1, h2, h3⟩
  · cases e
  · injection e with e1 e2 e3
    injection e1 with e1
    subst e1; subst e3
    refine ⟨e2, h1, h2, fun i b hi => ?_⟩
    have := h3 i b hi
    rwa [addr_mid, Nat.zero_add] at this

set_option maxHeartbeats 800000 in
theorem number_c (g n cap : Nat) (bs : List UInt8) (w : World) (h : Rd w (.slice (some ⟨g, 0, none⟩) n cap) bs) (hl : 16 ≤ bs.length) :
    Calls Tryd.prog 58 #[.slice (some ⟨g, 0, none⟩) n cap] w fun e w' => e = .returned (.int .u64 ((num (bs.take 8) : Nat) : Int)) ∧ w = w' := by
  obtain ⟨rfl, h1, h2, h3⟩ := h.cells0
  unfold maxLen at h2
  have G := get_c (some ⟨g, 0, none⟩) cap (bs.take 8) w (by simp; omega) (fun i b hi => ⟨_, rfl, by
    rw [addr_mid, Nat.zero_add]
    rw [List.getElem?_take] at hi
    split at hi
    · exact h3 i b hi
    · simp at hi⟩)
  rw [show (bs.take 8).length = 8 by simp; omega] at G
  have HG := Lib.hid G
  clear G h3 h
  go_enter Tryd.func58, Tryd.ntmps58
  go_wp2_with fail
  refine HG.out.mono ?_
  rintro e w1 ⟨rfl, rfl⟩
  go_wp2_with fail
  go_ret
  exact ⟨rfl, rfl⟩
set_option maxHeartbeats 800000 in
theorem length_c (g n cap : Nat) (bs : List UInt8) (w : World) (h : Rd w (.slice (some ⟨g, 0, none⟩) n cap) bs) (hl : 16 ≤ bs.length) :
    Calls Tryd.prog 71 #[.slice (some ⟨g, 0, none⟩) n cap] w fun e w' => e = .returned (.int .u64 ((num ((bs.take 12).drop 8) : Nat) : Int)) ∧ w = w' := by
  obtain ⟨rfl, h1, h2, h3⟩ := h.cells0
  unfold maxLen at h2
  have G := get_c (some ⟨g, 8, none⟩) (cap - 8) ((bs.take 12).drop 8) w (by simp; omega) (fun i b hi => ⟨_, rfl, by
    rw [addr_mid]
    rw [List.getElem?_drop, List.getElem?_take] at hi
    split at hi
    · exact h3 _ b hi
    · simp at hi⟩)
  rw [show ((bs.take 12).drop 8).length = 4 by simp; omega] at G
  have HG := Lib.hid G
  clear G h3 h
  go_enter Tryd.func71, Tryd.ntmps71
  go_wp2_with fail
  refine HG.out.mono ?_
  rintro e w1 ⟨rfl, rfl⟩
  go_wp2_with fail
  go_ret
  exact ⟨rfl, rfl⟩
set_option maxHeartbeats 800000 in
theorem told_c (g n cap : Nat) (bs : List UInt8) (w : World) (h : Rd w (.slice (some ⟨g, 0, none⟩) n cap) bs) (hl : 16 ≤ bs.length) :
    Calls Tryd.prog 72 #[.slice (some ⟨g, 0, none⟩) n cap] w fun e w' => e = .returned (.int .u64 ((num ((bs.take 16).drop 12) : Nat) : Int)) ∧ w = w' := by
  obtain ⟨rfl, h1, h2, h3⟩ := h.cells0
  unfold maxLen at h2
  have G := get_c (some ⟨g, 12, none⟩) (cap - 12) ((bs.take 16).drop 12) w (by simp; omega) (fun i b hi => ⟨_, rfl, by
    rw [addr_mid]
    rw [List.getElem?_drop, List.getElem?_take] at hi
    split at hi
    · exact h3 _ b hi
    · simp at hi⟩)
  rw [show ((bs.take 16).drop 12).length = 4 by simp; omega] at G
  have HG := Lib.hid G
  clear G h3 h
  go_enter Tryd.func72, Tryd.ntmps72
  go_wp2_with fail
  refine HG.out.mono ?_
  rintro e w1 ⟨rfl, rfl⟩
  go_wp2_with fail
  go_ret
  exact ⟨rfl, rfl⟩
end Go.Proofs.YtfigiofiakkbdaaDoor
