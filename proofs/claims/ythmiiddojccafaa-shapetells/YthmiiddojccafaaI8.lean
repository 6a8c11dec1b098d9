/-
  Package isa: Encode.
-/
import Derived.Test.YthmiiddojccafaaI7
import Derived.Laws.MakeOwn
namespace Go.Proofs.Ythmiiddojccafaa
open Go.RowKit
set_option linter.all false

def encO (l : List In) : Bool := decide (1 ≤ l.length ∧ l.length ≤ 512) && rightO l
theorem run_make0 (w : World) (n : Nat) (hn : n ≤ 1000000) :
    Sem.run Try.prog (Instr.makeSlice 36 (.int .i64 0) (.int .i64 (n : Int))) w = .ok (.slice (some ⟨w.heap.size, 0, none⟩) 0 n) (w.alloc (.cells (zeros8 n) 5)) := by
  obtain ⟨i, hi, hz0, hz1, hz2⟩ := info_parts8
  have hb' : (i.bytes : Int) * (n : Int) ≤ 281474976710656 := by rw [hz2]; omega
  have hr := run_make (P := Try.prog) w 36 5 i _ Try.underlying36 hi hz0 .i64 .i64 0 n (by omega) (by omega) hb' (by omega)
  have hm : madeCells (Value.int .u8 0).cells (n * 1) = zeros8 n := by
    apply Array.toList_inj.1
    show (madeCells #[Value.int .u8 0] (n * 1)).toList = _
    rw [toList_madeCells_one, Nat.mul_one]
    rfl
  simp only [Int.toNat_natCast, hz1] at hr
  rw [hr, hm]
  rfl
set_option maxHeartbeats 3200000 in
theorem encode_c {w : World} {v : Value} {l : List In} (h : Ins w v l) (hw : ∀ i ∈ l, i.Wf) : Calls Try.prog 19 #[v] w fun x w' => Calm w w' ∧ ((encO l = true ∧ ∃ vv, x = .returned (.tuple #[vv, .int .i64 0]) ∧ Rd w' vv (encL l)) ∨ (encO l = false ∧ x = .returned (.tuple #[.slice none 0 0, .int .i64 1]))) := by
  obtain ⟨A, cap, rfl, hcap, hmax⟩ := h.form
  unfold maxLen at hmax
  have H := Lib.hid h
  have HW := Lib.hid hw
  obtain ⟨n, hn⟩ : ∃ n, n = l.length := ⟨_, rfl⟩
  have HN := Lib.hid hn
  have i9 : (n : Int) ≤ 9223372036854775807 := by omega
  have CF := Lib.hid (fun w => countFits_c n w)
  have AK := Lib.hid (allKnown_c h (fun i hi => (hw i hi).op))
  rw [← hn] at H AK ⊢
  clear h hw hn hcap hmax
  go_enter Try.func19, Try.ntmps19
  go_wp2_with fail
  refine (CF.out _).mono ?_
  rintro e' w1 ⟨rfl, rfl⟩
  by_cases hfit : 1 ≤ n ∧ n ≤ 512
  rotate_left
  · have hd : decide (1 ≤ n ∧ n ≤ 512) = false := decide_eq_false hfit
    have HE : Hid (encO l = false) := Lib.hid (by unfold encO; rw [← HN.out, hd]; rfl)
    rw [hd]
    clear hd hfit
    go_wp2_with fail
    go_ret2
    exact ⟨Keep.refl _ _, .inr ⟨HE.out, rfl⟩⟩
  have hd : decide (1 ≤ n ∧ n ≤ 512) = true := decide_eq_true hfit
  have HE : Hid (encO l = rightO l) := Lib.hid (by unfold encO; rw [← HN.out, hd]; rfl)
  rw [hd]
  have i1 : (n : Int) ≤ 512 := by omega
  have i2 : (1 : Int) ≤ (n : Int) := by omega
  clear hd hfit
  go_wp2_with fail
  refine AK.out.mono ?_
  rintro e' w2 ⟨rfl, hc2⟩
  have C2 := Lib.hid hc2
  clear hc2 AK CF
  have HRT : Hid (rightO l = rightO l) := Lib.hid rfl
  generalize hB : rightO l = B
  have HB := Lib.hid hB
  clear hB
  cases B
  · go_wp2_with fail
    go_ret2
    exact ⟨C2.out, .inr ⟨by rw [HE.out, HB.out], rfl⟩⟩
  have qm := run_make0 w2 (n * 8) (by omega)
  have hw8 : ((n * 8 : Nat) : Int) = (n : Int) * 8 := by omega
  rw [hw8] at qm
  clear hw8
  go_wp2_with fail
  have OW : Hid (Own (w2.alloc (.cells (zeros8 (n * 8)) 5)) w.heap.size (.slice (some ⟨w2.heap.size, 0, none⟩) 0 (n * 8)) []) := Lib.hid (World.ownsRow_made w2 _ (n * 8) C2.out.size (by unfold maxLen; omega) (by simp [zeros8]))
  have C3 : Hid (Calm w (w2.alloc (.cells (zeros8 (n * 8)) 5))) := Lib.hid (C2.out.alloc _)
  obtain ⟨w3, hw3⟩ : ∃ w3, w3 = w2.alloc (.cells (zeros8 (n * 8)) 5) := ⟨_, rfl⟩
  rw [← hw3] at OW C3 ⊢
  clear qm hw3
  have HIN := Lib.hid (And.intro i1 i2)
  go_loopw [4, 22] (fun b i wr => ∃ k : Nat, k ≤ n ∧ i = .int .i64 k ∧ Calm w wr ∧ ∃ g c, b = .slice (some ⟨g, 0, none⟩) (encL (l.take k)).length c ∧ Own wr w.heap.size b (encL (l.take k))) (fun _ i _ => n - (intOf i).toNat)
  case atStart => exact ⟨0, by omega, rfl, C3.out, _, _, rfl, OW.out⟩
  case round =>
    obtain ⟨k, hk, rfl, hcal, g, c, rfl, how⟩ := hrel
    have HC := Lib.hid hcal
    have HO := Lib.hid how
    clear hcal how
    by_cases hlt : k < n
    · have i3 : (k : Int) < (n : Int) := by omega
      obtain ⟨ad, x, rfl, hx, hat⟩ := H.out.at_ HC.out k (by rw [← HN.out]; exact hlt)
      have e0 := hat.c0
      have e1 := hat.c1
      have e2 := hat.c2
      have e3 := hat.c3
      have e4 := hat.c4
      have HX := Lib.hid hx
      have hmem := List.mem_of_getElem? hx
      have HXW := Lib.hid (And.intro (HW.out x hmem) (right_small l HB.out x hmem))
      clear hat hx hmem
      go_wp2_with fail
      have AP := appendInsn_c x HXW.out.1 HXW.out.2 (HO.out.moved (w'' := wr.alloc (.cells #[.int .u8 (x.op : Int), .int .u8 (x.dst : Int), .int .u8 (x.src : Int), .int .i16 x.off, .int .i32 x.imm] 34)) ((Keep.refl _ wr).alloc _)) (Nat.le_trans HC.out.size (by simp)) (by rw [encL_len, List.length_take]; omega)
      refine AP.mono ?_
      rintro e' w5 ⟨g', c', rfl, ho5, hk5⟩
      have HO5 := Lib.hid ho5
      have HC5 : Hid (Calm w w5) := Lib.hid ((HC.out.alloc _).then_ hk5 (fun i hi e => by
        subst e
        have := HO.out.form.choose_spec.2.1
        omega))
      clear ho5 hk5 AP e0 e1 e2 e3 e4
      go_wp2_with fail
      go_roundw
      case rel =>
        have hst : l.take (k + 1) = l.take k ++ [x] := by
          rw [List.take_add_one, HX.out]; rfl
        have hen : encL (l.take (k + 1)) = encL (l.take k) ++ enc1 x := by rw [hst, encL_app]; simp [encL]
        have hle : (encL (l.take (k + 1))).length = (encL (l.take k)).length + 8 := by rw [hen, List.length_append]; rfl
        exact ⟨k + 1, by omega, by go_num, HC5.out, g', c', by rw [hle], by rw [hen]; exact HO5.out⟩
      case measure => simp [intOf]; omega
    · obtain rfl : k = n := by omega
      have hfull : l.take k = l := by rw [HN.out, List.take_length]
      have HF := Lib.hid hfull
      clear hfull
      go_wp2_with fail
      go_ret2
      refine ⟨HC.out, .inl ⟨by rw [HE.out, HB.out], _, rfl, ?_⟩⟩
      have := HO.out.rd ⟨_, _, _, rfl⟩
      rw [HF.out] at this
      show Rd wr (.slice (some ⟨g, 0, none⟩) (encL (l.take k)).length c) (encL l)
      rw [HF.out]
      exact this
end Go.Proofs.Ythmiiddojccafaa
