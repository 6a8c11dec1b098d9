/-
  Contracts of the reference of layer 5: Decode.
-/
import Derived.Test.YtohnemcdldpgaaaR5L
import Derived.Test.YtohnemcdldpgaaaR5R
import Derived.Test.YtohnemcdldpgaaaIA
namespace Go.Proofs.Ytohnemcdldpgaaa
open Go.RowKit
set_option linter.all false

theorem take8 (bs : List UInt8) (k : Nat) (h : k * 8 + 8 ≤ bs.length) : (bs.take (k * 8 + 8)).drop (k * 8) = [bs[k * 8], bs[k * 8 + 1], bs[k * 8 + 2], bs[k * 8 + 3], bs[k * 8 + 4], bs[k * 8 + 5], bs[k * 8 + 6], bs[k * 8 + 7]] := by
  apply List.ext_getElem?
  intro j
  rw [List.getElem?_drop, List.getElem?_take]
  match j with
  | 0 => rw [if_pos (by omega), List.getElem?_eq_getElem (by omega)]; rfl
  | 1 => rw [if_pos (by omega), List.getElem?_eq_getElem (by omega)]; rfl
  | 2 => rw [if_pos (by omega), List.getElem?_eq_getElem (by omega)]; rfl
  | 3 => rw [if_pos (by omega), List.getElem?_eq_getElem (by omega)]; rfl
  | 4 => rw [if_pos (by omega), List.getElem?_eq_getElem (by omega)]; rfl
  | 5 => rw [if_pos (by omega), List.getElem?_eq_getElem (by omega)]; rfl
  | 6 => rw [if_pos (by omega), List.getElem?_eq_getElem (by omega)]; rfl
  | 7 => rw [if_pos (by omega), List.getElem?_eq_getElem (by omega)]; rfl
  | j + 8 => rw [if_neg (by omega)]; rfl
set_option maxRecDepth 100000 in
set_option maxHeartbeats 3200000 in
theorem rdecode_c (bs : List UInt8) (hlen : bs.length ≤ 5000) (w : World) : Calls Try.prog 15 #[.string (str bs)] w fun x w' => Calm w w' ∧ ((decO bs = true ∧ ∃ vv, x = .returned (.tuple #[vv, .int .i64 0]) ∧ Ins w' vv (decL bs)) ∨ (decO bs = false ∧ x = .returned (.tuple #[.slice none 0 0, .int .i64 2]))) := by
  obtain ⟨n, hn⟩ : ∃ n, n = bs.length := ⟨_, rfl⟩
  have HN := Lib.hid hn
  have hsz : (str bs).size = n := by rw [str_size, hn]
  have hem : bs ≠ [] → (str bs).toList.isEmpty = false := str_some bs
  have hem0 : bs = [] → (str bs).toList.isEmpty = true := fun e => by rw [e]; exact str_none
  have hex : ∀ k, k * 8 + 8 ≤ n → ∃ s8, (str bs).extract (k * 8) (k * 8 + 8) = s8 ∧ ∃ x : In, (decL bs)[k]? = some x ∧ ∀ w, Calls Try.prog 26 #[.string s8] w fun e w' => e = .returned x.v ∧ Calm w w' := fun k hk => by
    rw [hn] at hk
    refine ⟨_, rfl, _, decL_at k bs (by omega), fun w => ?_⟩
    have h8 : 8 * k = k * 8 := Nat.mul_comm _ _
    simp only [h8]
    exact one5_c _ _ _ _ _ _ _ _ _ (by rw [str_extract, take8 bs k hk]) w
  generalize str bs = s at hsz hem hem0 hex ⊢
  have i9 : (n : Int) ≤ 5000 := by omega
  by_cases h0 : bs = []
  · have g0 := hem0 h0
    have HD : Hid (decO bs = false) := Lib.hid (by rw [h0]; rfl)
    clear hem hem0 hex h0 hn hlen
    go_enter Try.func15, Try.ntmps15
    go_wp2_with fail
    go_ret2
    exact ⟨Keep.refl _ _, .inr ⟨HD.out, rfl⟩⟩
  have g0 := hem h0
  have hpos : 0 < n := by rw [hn]; exact List.length_pos_iff.2 h0
  clear hem hem0 h0
  by_cases h8 : n % 8 = 0
  rotate_left
  · have g1 : ((n : Int) % 8 != 0) = true := by rw [bne_iff_ne]; omega
    have HD : Hid (decO bs = false) := Lib.hid (by unfold decO; rw [← HN.out, decide_eq_false (fun h => h8 h.1)]; rfl)
    clear hex hn hlen h8
    go_enter Try.func15, Try.ntmps15
    go_wp2_with fail
    go_ret2
    exact ⟨Keep.refl _ _, .inr ⟨HD.out, rfl⟩⟩
  obtain ⟨m, hm⟩ : ∃ m, n = m * 8 := ⟨n / 8, by omega⟩
  have hm8 : n / 8 = m := by omega
  have g1 : (((m * 8 : Nat) : Int) % 8 != 0) = false := by simp
  have g1b : ((m : Int) * 8 % 8 != 0) = false := by simp
  by_cases h512 : 512 < m
  · have g2 : (4096 : Int) < (m : Int) * 8 := by omega
    have HD : Hid (decO bs = false) := Lib.hid (by unfold decO; rw [← HN.out, hm8, decide_eq_false (by omega)]; rfl)
    subst hm
    clear hex hn hlen h8 hm8 h512
    go_enter Try.func15, Try.ntmps15
    go_wp2_with fail
    go_ret2
    exact ⟨Keep.refl _ _, .inr ⟨HD.out, rfl⟩⟩
  have g2 : decide ((4096 : Int) < (m : Int) * 8) = false := decide_eq_false (by omega)
  have HD : Hid (decO bs = rightO (decL bs)) := Lib.hid (by unfold decO; rw [← HN.out, hm8, decide_eq_true (by omega)]; rfl)
  have HEX := Lib.hid hex
  have HLEN := Lib.hid (decL_len m bs (by rw [← HN.out]; exact hm8))
  subst hm
  have j1 : (m : Int) ≤ 512 := by omega
  clear hex hn hlen h8 hm8 h512
  go_enter Try.func15, Try.ntmps15
  go_wp2_with fail
  have O0 : Hid (OwnI (w.alloc (.cells #[] 24)) w.heap.size (.slice (some ⟨w.heap.size, 0, none⟩) 0 0) []) := Lib.hid (OwnI.made w)
  have C0 : Hid (Calm w (w.alloc (.cells #[] 24))) := Lib.hid ((Keep.refl _ w).alloc _)
  obtain ⟨w3, hw3⟩ : ∃ w3, w3 = w.alloc (.cells #[] 24) := ⟨_, rfl⟩
  rw [← hw3] at O0 C0 ⊢
  clear hw3
  go_loopw [4, 5] (fun o i wr => ∃ k : Nat, k ≤ m ∧ i = .int .i64 ((k : Int) * 8) ∧ Calm w wr ∧ ∃ g c, o = .slice (some ⟨g, 0, none⟩) k c ∧ OwnI wr w.heap.size o ((decL bs).take k)) (fun _ i _ => m * 8 - (intOf i).toNat)
  case atStart => exact ⟨0, by omega, rfl, C0.out, _, _, rfl, O0.out⟩
  case round =>
    obtain ⟨k, hk, rfl, hcal, g, c, rfl, how⟩ := hrel
    have HC := Lib.hid hcal
    have HO := Lib.hid how
    clear hcal how
    by_cases hlt : k < m
    · have i3 : (k : Int) < (m : Int) := by omega
      have i4 : (k : Int) * 8 < (m : Int) * 8 := by omega
      obtain ⟨s8, hs8, x, hx, hone⟩ := HEX.out k (by omega)
      have HX := Lib.hid hx
      have ONE := Lib.hid hone
      unfold In.v at ONE
      clear hx hone
      go_wp2_with fail
      refine (ONE.out _).mono ?_
      rintro e w5 ⟨rfl, hc5⟩
      have C5 := Lib.hid (HC.out.trans hc5)
      have O5 := Lib.hid (HO.out.moved hc5)
      have I6 : Hid (Ins (w5.alloc (.cells #[.int .u8 (x.op : Int), .int .u8 (x.dst : Int), .int .u8 (x.src : Int), .int .i16 x.off, .int .i32 x.imm] 24)) (.slice (some ⟨w5.heap.size, 0, none⟩) 1 1) [x]) := Lib.hid (Ins.made1 w5 x)
      have C6 : Hid (Calm w5 (w5.alloc (.cells #[.int .u8 (x.op : Int), .int .u8 (x.dst : Int), .int .u8 (x.src : Int), .int .i16 x.off, .int .i32 x.imm] 24))) := Lib.hid ((Keep.refl _ w5).alloc _)
      have HLK : Hid (((decL bs).take k).length = k) := Lib.hid (by rw [List.length_take, HLEN.out]; omega)
      clear hc5
      go_wp2_with (at_builtin; go_loud (refine append_ins rfl (.tmp 27) (.tmp 34) rfl w.heap.size g k c ((decL bs).take k) rfl (O5.out.moved C6.out) (.slice (some ⟨w5.heap.size, 0, none⟩) 1 1) [x] rfl I6.out (by rw [HLK.out]; show k + 1 ≤ _; omega) (Nat.le_trans C5.out.size C6.out.size) ?_); rintro g' c' w7 ho hg)
      have HO7 := Lib.hid ho
      have HC7 : Hid (Calm w w7) := Lib.hid ((C5.out.trans C6.out).grown hg (fun k' e hk' => by
        injection e with e
        have := HO.out.low.1
        omega))
      clear ho hg
      go_wp2_with fail
      go_roundw
      case rel =>
        have hst : (decL bs).take (k + 1) = (decL bs).take k ++ [x] := by rw [List.take_add_one, HX.out]; rfl
        have emin : min k (decL bs).length = k := by rw [HLEN.out]; omega
        refine ⟨k + 1, by omega, by go_num, HC7.out, g', c', ?_, ?_⟩
        · rw [emin]
        · rw [hst, emin]
          have := HO7.out
          rw [HLK.out] at this
          exact this
      case measure => simp [intOf]; omega
    · obtain rfl : k = m := by omega
      have HF : Hid ((decL bs).take k = decL bs) := Lib.hid (by rw [← HLEN.out, List.take_length])
      have hin : Ins wr (.slice (some ⟨g, 0, none⟩) k c) (decL bs) := by have := HO.out.ins; rwa [HF.out] at this
      have RC := Lib.hid (rright_c hin (fun i hi => (decL_wf _ bs rfl i hi).op))
      have HIN := Lib.hid hin
      clear hin
      go_wp2_with fail
      refine RC.out.mono ?_
      rintro e w4 ⟨rfl, hc4⟩
      have C4 := Lib.hid hc4
      clear hc4 RC
      generalize hB : rightO (decL bs) = B
      have HB := Lib.hid hB
      clear hB
      cases B
      · go_wp2_with fail
        go_ret2
        exact ⟨HC.out.trans C4.out, .inr ⟨by rw [HD.out, HB.out], rfl⟩⟩
      · go_wp2_with fail
        go_ret2
        exact ⟨HC.out.trans C4.out, .inl ⟨by rw [HD.out, HB.out], _, rfl, HIN.out.calm C4.out⟩⟩
end Go.Proofs.Ytohnemcdldpgaaa
