/-
  The reference of layer 7: In, same, Ops.
-/
import Derived.Test.YtilkmopclijclaaAS
namespace Go.Proofs.Ytilkmopclijclaa
open Go.RowKit
set_option linter.all false

theorem Lit.at_ {w w' : World} {ad : Addr} {n c : Nat} {bs : List UInt8} (h : Rd w (.slice (some ad) n c) bs) (hc : Calm w w') (k : Nat) (hk : k < bs.length) : ∃ b, bs[k]? = some b ∧ w'.cell? (ad.add k) = some (.int .u8 (b.toNat : Int)) := by
  obtain ⟨ad', b, e, h1, h2⟩ := h.at_ hc k hk
  injection e with e
  subst e
  exact ⟨b, h1, h2⟩
set_option maxHeartbeats 800000 in
theorem rin_c {w : World} {v : Value} {bs : List UInt8} (h : Lit w v bs) (hl : bs.length < 1000) (op : Nat) : Calls Try.prog 14 #[v, .int .u8 (op : Int)] w fun e w' => e = .returned (.bool (decide (op ∈ bs.map UInt8.toNat))) ∧ Calm w w' := by
  obtain ⟨hr, ad, c, rfl⟩ := h
  have HR := Lib.hid hr
  obtain ⟨n, hn⟩ : ∃ n, n = bs.length := ⟨_, rfl⟩
  rw [← hn] at HR hl ⊢
  have HN := Lib.hid hn
  have hni : (n : Int) < 1000 := by omega
  clear hr hn hl
  go_enter Try.func14, Try.ntmps14
  go_wp2_with fail
  go_loopw [5] (fun i wr => ∃ k : Nat, k ≤ n ∧ i = .int .i64 k ∧ (∀ b ∈ bs.take k, b.toNat ≠ op) ∧ Calm w wr) (fun i _ => n - (intOf i).toNat)
  case atStart => exact ⟨0, by omega, rfl, fun b hb => by simp at hb, Keep.refl _ w⟩
  case round =>
    obtain ⟨k, hk, rfl, hno, hcal⟩ := hrel
    have HC := Lib.hid hcal
    have HNO := Lib.hid hno
    clear hcal hno
    by_cases hlt : k < n
    · have i1 : (k : Int) < (n : Int) := by omega
      obtain ⟨b, hb, c0⟩ := Lit.at_ HR.out HC.out k (by rw [← HN.out]; exact hlt)
      have HB := Lib.hid hb
      obtain ⟨z, hz⟩ : ∃ z, z = b.toNat := ⟨_, rfl⟩
      rw [← hz] at c0
      have HZ := Lib.hid hz
      clear hb hz
      by_cases he : z = op
      · have t1 : ((z : Int) == (op : Int)) = true := by rw [he]; simp
        have HE := Lib.hid he
        clear he
        go_wp2_with fail
        go_ret
        refine ⟨?_, HC.out⟩
        have : op ∈ bs.map UInt8.toNat := List.mem_map.2 ⟨b, List.mem_of_getElem? HB.out, by rw [← HZ.out, HE.out]⟩
        rw [decide_eq_true this]
        rfl
      · have t1 : ((z : Int) == (op : Int)) = false := by
          have : ¬ (z : Int) = (op : Int) := by omega
          simpa using this
        have HE := Lib.hid he
        clear he
        go_wp2_with fail
        go_roundw
        case rel => exact ⟨k + 1, by omega, by go_num, fun b' hb' => by
          rw [List.take_add_one, HB.out] at hb'
          rcases List.mem_append.1 hb' with h | h
          · exact HNO.out b' h
          · simp at h
            rw [h, ← HZ.out]
            exact HE.out, HC.out⟩
        case measure => simp [intOf]; omega
    · obtain rfl : k = n := by omega
      clear hlt hk
      go_wp2_with fail
      go_ret
      refine ⟨?_, HC.out⟩
      have : ¬ op ∈ bs.map UInt8.toNat := fun hm => by
        obtain ⟨b, hb, e⟩ := List.mem_map.1 hm
        have := HNO.out b (by rw [HN.out, List.take_length]; exact hb)
        exact this e
      rw [decide_eq_false this]
      rfl
set_option maxHeartbeats 800000 in
theorem same7_c {w : World} {u v : Value} {bs : List UInt8} (h : Lit w u bs) (h' : Lit w v bs) (hl : bs.length < 1000) : Calls Try.prog 16 #[u, v] w fun e w' => e = .returned (.bool true) ∧ Calm w w' := by
  obtain ⟨hr, ad, c, rfl⟩ := h
  obtain ⟨hr', ad', c', rfl⟩ := h'
  have HR := Lib.hid hr
  have HR' := Lib.hid hr'
  obtain ⟨n, hn⟩ : ∃ n, n = bs.length := ⟨_, rfl⟩
  rw [← hn] at HR HR' hl ⊢
  have HN := Lib.hid hn
  have hni : (n : Int) < 1000 := by omega
  clear hr hr' hn hl
  go_enter Try.func16, Try.ntmps16
  go_wp2_with fail
  go_loopw [5] (fun i wr => ∃ k : Nat, k ≤ n ∧ i = .int .i64 k ∧ Calm w wr) (fun i _ => n - (intOf i).toNat)
  case atStart => exact ⟨0, by omega, rfl, Keep.refl _ w⟩
  case round =>
    obtain ⟨k, hk, rfl, hcal⟩ := hrel
    have HC := Lib.hid hcal
    clear hcal
    by_cases hlt : k < n
    · have i1 : (k : Int) < (n : Int) := by omega
      obtain ⟨b, hb, c0⟩ := Lit.at_ HR.out HC.out k (by rw [← HN.out]; exact hlt)
      obtain ⟨b', hb', c1⟩ := Lit.at_ HR'.out HC.out k (by rw [← HN.out]; exact hlt)
      obtain rfl : b = b' := by rw [hb] at hb'; injection hb'
      obtain ⟨z, hz⟩ : ∃ z, z = b.toNat := ⟨_, rfl⟩
      rw [← hz] at c0 c1
      clear hb hb' hz
      go_wp2_with fail
      go_region
      go_wp2_with fail
      go_roundw
      case rel => exact ⟨k + 1, by omega, by go_num, HC.out.drew⟩
      case measure => simp [intOf]; omega
    · obtain rfl : k = n := by omega
      clear hlt hk
      go_wp2_with fail
      go_ret
      exact ⟨rfl, HC.out⟩

def opsTo (k : Nat) : List UInt8 := (List.range k).map fun i => UInt8.ofNat (16 * i)
theorem opsTo_len (k : Nat) : (opsTo k).length = k := by simp [opsTo]
theorem opsTo_succ (k : Nat) : opsTo (k + 1) = opsTo k ++ [UInt8.ofNat (16 * k)] := by simp [opsTo, List.range_succ]
theorem opsTo_all : opsTo 13 = opsL := by decide
set_option maxHeartbeats 800000 in
theorem rops_c (w : World) : Calls Try.prog 17 #[] w fun e w' => ∃ v, e = .returned v ∧ Calm w w' ∧ Lit w' v opsL := by
  go_enter Try.func17, Try.ntmps17
  go_wp2_with fail
  go_loopw [1, 2] (fun v i wr => ∃ (k g c : Nat), k ≤ 13 ∧ i = .int .i64 ((16 * k : Nat) : Int) ∧ v = .slice (some ⟨g, 0, none⟩) k c ∧ Own wr w.heap.size (.slice (some ⟨g, 0, none⟩) k c) (opsTo k) ∧ Calm w wr) (fun _ i _ => 208 - (intOf i).toNat)
  case atStart => exact ⟨0, w.heap.size, 0, by omega, rfl, rfl, Own.made w, (Keep.refl _ w).alloc _⟩
  case round =>
    obtain ⟨k, g, c, hk, rfl, rfl, how, hcal⟩ := hrel
    have HC := Lib.hid hcal
    have HO := Lib.hid how
    clear hcal how
    obtain ⟨q, hq⟩ : ∃ q, q = 16 * k := ⟨_, rfl⟩
    rw [← hq]
    by_cases hlt : k < 13
    · have i1 : (q : Int) ≤ 192 := by omega
      have i2 : q ≤ 192 := by omega
      have HQ := Lib.hid hq
      have HL := Lib.hid hlt
      have RD : Hid (Rd (wr.alloc (.cells #[.int .u8 (q : Int)] 5)) (.slice (some ⟨wr.heap.size, 0, none⟩) 1 1) [UInt8.ofNat q]) := Lib.hid (Rd.made wr [UInt8.ofNat q] 1 _ rfl (by
        show [Value.int .u8 (q : Int)] = [Value.int .u8 ((UInt8.ofNat q).toNat : Int)]
        rw [UInt8.toNat_ofNat', Nat.mod_eq_of_lt (by omega)]) (by decide))
      have C1 : Hid (Calm w (wr.alloc (.cells #[.int .u8 (q : Int)] 5))) := Lib.hid (HC.out.alloc _)
      have O1 : Hid (Own (wr.alloc (.cells #[.int .u8 (q : Int)] 5)) w.heap.size (.slice (some ⟨g, 0, none⟩) k c) (opsTo k)) := Lib.hid (HO.out.moved ((Keep.refl _ _).alloc _))
      have hb : Hid (w.heap.size ≤ g) := Lib.hid (by obtain ⟨_, _, h, _⟩ := HO.out.form; exact h)
      clear hq hlt hk i2
      go_wp2_with (at_builtin; go_loud (refine append_own rfl (.tmp 8) (.tmp 11) rfl w.heap.size g k c (opsTo k) rfl O1.out _ [UInt8.ofNat q] rfl RD.out (by rw [opsTo_len]; have := HL.out; simp; omega) C1.out.size ?_); rintro g' c2 w5 ho hg; have HO5 := Lib.hid ho; have HG5 := Lib.hid hg; clear ho hg)
      go_roundw
      case rel => exact ⟨k + 1, g', c2, by have := HL.out; omega, by rw [HQ.out]; exact congrArg _ (by omega), by rw [opsTo_len], by
        have := HO5.out
        rw [opsTo_len, HQ.out, ← opsTo_succ] at this
        exact this, C1.out.grown HG5.out (fun j e hj => by injection e with e; have := hb.out; omega)⟩
      case measure => simp [intOf]; have := HQ.out; have := HL.out; omega
    · obtain rfl : k = 13 := by omega
      subst hq
      have HR := Lib.hid (HO.out.rd ⟨_, _, _, rfl⟩)
      rw [opsTo_all] at HR
      clear hlt hk HO
      go_wp2_with fail
      go_ret
      exact ⟨_, rfl, HC.out, HR.out, _, _, rfl⟩
end Go.Proofs.Ytilkmopclijclaa
