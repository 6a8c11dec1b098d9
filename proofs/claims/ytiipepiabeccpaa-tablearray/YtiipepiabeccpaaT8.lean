/-
  Tables: kinds: find, use.
-/
import Derived.Test.YtiipepiabeccpaaT7
namespace Go.Proofs.Ytiipepiabeccpaa
open Go.RowKit Go.Deep
open Go.Maps (Keyed)
set_option linter.all false
attribute [local go_sem] Oper.semAt_some

/-- How a look-up is told. -/
def fv (vl : Nat) : Option Nat → Value
  | some g => slv vl g
  | none => .slice none 0 0
/-- What a use makes of the keys. -/
def useKB (kind : Nat) (k : List UInt8) (kb : KB) : KB := if kind = 3 then useL k kb else kb

/-! A key of an Array -/
def kNum (a b c d : UInt8) : Nat := a.toNat + 256 * b.toNat + 65536 * c.toNat + 16777216 * d.toNat
theorem kNum_lt (a b c d : UInt8) : kNum a b c d < 4294967296 := by
  have := a.toNat_lt; have := b.toNat_lt; have := c.toNat_lt; have := d.toNat_lt
  unfold kNum; omega
theorem numK_kNum (a b c d : UInt8) : numK (kNum a b c d) = [a, b, c, d] := by
  have ha := a.toNat_lt; have hb := b.toNat_lt; have hc := c.toNat_lt; have hd := d.toNat_lt
  have e : ∀ (x : UInt8) (n : Nat), n = x.toNat → UInt8.ofNat n = x := fun x n h => by rw [h]; exact UInt8.ofNat_toNat
  unfold numK kNum
  rw [e a _ (by omega), e b _ (by omega), e c _ (by omega), e d _ (by omega)]
theorem numK_inj32 {i j : Nat} (hi : i < 4294967296) (hj : j < 4294967296) (h : numK i = numK j) : i = j := by
  unfold numK at h
  simp only [List.cons.injEq] at h
  have h1 := congrArg UInt8.toNat h.1
  have h2 := congrArg UInt8.toNat h.2.1
  have h3 := congrArg UInt8.toNat h.2.2.1
  have h4 := congrArg UInt8.toNat h.2.2.2.1
  simp only [UInt8.toNat_ofNat'] at h1 h2 h3 h4
  omega
theorem or_u32 (x y : Int) : bits .or .u32 x y = IntKind.u32.wrap (((x % 4294967296).toNat ||| (y % 4294967296).toNat : Nat) : Int) := by
  show IntKind.u32.wrap ((BitVec.ofInt 32 x ||| BitVec.ofInt 32 y).toNat : Nat) = _
  rw [BitVec.toNat_or, BitVec.toNat_ofInt, BitVec.toNat_ofInt]
  rfl
theorem wrap_u32 (n : Int) : IntKind.u32.wrap n = n % 4294967296 := by
  simp [IntKind.wrap, IntKind.bits, IntKind.signed]
theorem or_join (a b k n : Nat) (ha : a < 2 ^ k) (hn : n = a + b * 2 ^ k) (hl : n < 4294967296) : bits .or .u32 (a : Int) (((b * 2 ^ k : Nat) : Int)) = (n : Int) := by
  subst hn
  rw [or_u32, wrap_u32]
  have e1 : ((a : Int) % 4294967296).toNat = a := by omega
  have e2 : (((b * 2 ^ k : Nat) : Int) % 4294967296).toNat = b * 2 ^ k := by omega
  have e3 : b * 2 ^ k % 2 ^ k = 0 := Nat.mul_mod_left b _
  rw [e1, e2, Nat.or_comm, Go.nat_join k (b * 2 ^ k) a e3 ha]
  omega
abbrev byAt (s : ByteArray) (i : Nat) (h : i < s.size) : UInt8 := @getElem ByteArray Nat UInt8 (fun a i => i < a.size) ByteArray.instGetElemNatUInt8LtSize s i h

set_option maxHeartbeats 2000000 in
theorem find_arr {w : World} {A n vl : Nat} {kb : KB} (hn : n ≤ 1024) (hr : Row w A 22 (kb.map (fun x => slv vl x.2)).toArray) (hkeys : keysL kb = (List.range n).map numK) (k : List UInt8) (hk : k.length ≤ maxLen) :
    Calls Try.prog 110 #[.agg #[.slice (some ⟨A, 0, none⟩) n n], .string (str k)] w fun e w' => e = .returned (.tuple #[fv vl (getL k kb), .bool (getL k kb).isSome]) ∧ Calm w w' := by
  have hz := str_size k
  have hl := hr.lt
  unfold maxLen at hk
  by_cases h4 : k.length = 4
  · obtain ⟨a, b, c, d, rfl⟩ : ∃ a b c d, k = [a, b, c, d] := by
      match k, h4 with
      | [a, b, c, d], _ => exact ⟨a, b, c, d, rfl⟩
    have ha := a.toNat_lt; have hb := b.toNat_lt; have hc := c.toNat_lt; have hd := d.toNat_lt
    have e0 : ∀ h, @getElem ByteArray Nat UInt8 (fun a i => i < a.size) ByteArray.instGetElemNatUInt8LtSize (str [a, b, c, d]) 0 h = a := fun _ => rfl
    have e1 : ∀ h, @getElem ByteArray Nat UInt8 (fun a i => i < a.size) ByteArray.instGetElemNatUInt8LtSize (str [a, b, c, d]) 1 h = b := fun _ => rfl
    have e2 : ∀ h, @getElem ByteArray Nat UInt8 (fun a i => i < a.size) ByteArray.instGetElemNatUInt8LtSize (str [a, b, c, d]) 2 h = c := fun _ => rfl
    have e3 : ∀ h, @getElem ByteArray Nat UInt8 (fun a i => i < a.size) ByteArray.instGetElemNatUInt8LtSize (str [a, b, c, d]) 3 h = d := fun _ => rfl
    have m0 : ((a.toNat : Nat) : Int) % 4294967296 = (a.toNat : Int) := by omega
    obtain ⟨x1, hx1⟩ : ∃ x : Nat, x = b.toNat * 256 := ⟨_, rfl⟩
    obtain ⟨x2, hx2⟩ : ∃ x : Nat, x = c.toNat * 65536 := ⟨_, rfl⟩
    obtain ⟨x3, hx3⟩ : ∃ x : Nat, x = d.toNat * 16777216 := ⟨_, rfl⟩
    have m1 : ((b.toNat : Nat) : Int) % 4294967296 * 256 % 4294967296 = (x1 : Int) := by omega
    have m2 : ((c.toNat : Nat) : Int) % 4294967296 * 65536 % 4294967296 = (x2 : Int) := by omega
    have m3 : ((d.toNat : Nat) : Int) % 4294967296 * 16777216 % 4294967296 = (x3 : Int) := by omega
    obtain ⟨n1, hn1⟩ : ∃ x : Nat, x = a.toNat + b.toNat * 256 := ⟨_, rfl⟩
    obtain ⟨n2, hn2⟩ : ∃ x : Nat, x = n1 + c.toNat * 65536 := ⟨_, rfl⟩
    obtain ⟨n3, hn3⟩ : ∃ x : Nat, x = n2 + d.toNat * 16777216 := ⟨_, rfl⟩
    have o1 : bits .or .u32 (a.toNat : Int) (x1 : Int) = (n1 : Int) := by rw [hx1]; exact or_join a.toNat b.toNat 8 n1 ha hn1 (by omega)
    have o2 : bits .or .u32 (n1 : Int) (x2 : Int) = (n2 : Int) := by rw [hx2]; exact or_join n1 c.toNat 16 n2 (by omega) hn2 (by omega)
    have o3 : bits .or .u32 (n2 : Int) (x3 : Int) = (n3 : Int) := by rw [hx3]; exact or_join n2 d.toNat 24 n3 (by omega) hn3 (by omega)
    have hnk : n3 = kNum a b c d := by unfold kNum; omega
    have hN := numK_kNum a b c d
    rw [← hnk] at hN
    have hn32 : n3 < 4294967296 := by omega
    have HN := Lib.hid (And.intro hN hn32)
    have HR := Lib.hid hr
    have HKe := Lib.hid hkeys
    have HZ := Lib.hid hl
    have hc2 : (n : Int) % 4294967296 = (n : Int) := by omega
    have HB := Lib.hid hn32
    clear hx1 hx2 hx3 hn1 hn2 hn3 hnk hN hn32 hr hkeys hl ha hb hc hd
    go_enter Try.func110, Try.ntmps110
    go_wp2_with fail
    go_region
    simp only [e0, e1, e2, e3, m0, m1, m2, m3, o1, o2, o3]
    clear e0 e1 e2 e3 m0 m1 m2 m3 o1 o2 o3
    by_cases hnn : n3 < n
    · have hnn' : (n3 : Int) < (n : Int) := by omega
      obtain ⟨x, hx⟩ : ∃ x, kb[n3]? = some x := by
        have := congrArg List.length HKe.out
        simp [keysL] at this
        exact ⟨_, List.getElem?_eq_getElem (by omega)⟩
      have hcell : w.cell? ⟨A, n3, none⟩ = some (slv vl x.2) := by
        rw [HR.out.cell n3]
        simp [hx]
      have hxk : x.1 = [a, b, c, d] := by
        have := congrArg (fun l => l[n3]?) HKe.out
        simp [keysL, hx, hnn] at this
        rw [this, HN.out.1]
      have hg : getL [a, b, c, d] kb = some x.2 := getL_mem (by rw [HKe.out]; exact numK_nodup (by omega)) (by rw [← hxk]; exact List.mem_of_getElem? hx)
      have hl := HZ.out
      have Hg := Lib.hid hg
      clear hg hxk hx
      unfold slv at hcell
      go_wp2
      go_ret2
      exact ⟨by rw [Hg.out]; rfl, ((Keep.refl _ w).alloc _).drew⟩
    · have hnn' : (n : Int) ≤ (n3 : Int) := by omega
      have hno : getL [a, b, c, d] kb = none := getL_miss (fun hc => by
        rw [HKe.out] at hc
        obtain ⟨i, hi, e⟩ := List.mem_map.1 hc
        rw [List.mem_range] at hi
        rw [← HN.out.1] at e
        exact hnn (by rw [← numK_inj32 (by omega) HN.out.2 e]; exact hi))
      have Hg := Lib.hid hno
      clear hno
      go_wp2
      go_ret2
      exact ⟨by rw [Hg.out]; rfl, ((Keep.refl _ w).alloc _).drew⟩
  · have hno : getL k kb = none := getL_miss (fun hc => by
      rw [hkeys] at hc
      obtain ⟨i, _, rfl⟩ := List.mem_map.1 hc
      exact h4 rfl)
    rw [hno]
    have h4' : ((k.length : Int) != 4) = true := by rw [bne_iff_ne]; omega
    go_enter Try.func110, Try.ntmps110
    go_wp2
    go_ret2
    exact ⟨rfl, (Keep.refl _ w).alloc _⟩
end Go.Proofs.Ytiipepiabeccpaa
