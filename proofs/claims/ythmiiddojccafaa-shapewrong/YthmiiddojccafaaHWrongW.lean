/-
  The walk of ShapeWrong.
-/
import Derived.Test.YthmiiddojccafaaH9
import Derived.Test.YthmiiddojccafaaHP
import Derived.Test.YthmiiddojccafaaMasks
namespace Go.Proofs.Ythmiiddojccafaa
open Go.RowKit
set_option linter.all false

def badL : List In := [⟨183, 10, 0, 0, 0⟩, ⟨97, 10, 1, 0, 0⟩, ⟨183, 11, 0, 0, 0⟩, ⟨191, 1, 12, 0, 0⟩, ⟨133, 0, 0, 0, 4⟩, ⟨133, 0, 0, 0, -1⟩, ⟨5, 0, 0, -1, 0⟩, ⟨21, 0, 0, 300, 0⟩]
def badV : Array Value := (flat badL).toArray
/-- Each of the eight is known, and wrong ahead of whatever is right, if it is not too long. -/
theorem bad_fine {x : In} (hx : x ∈ badL) : knownI x = true ∧ x.op ≠ 24 ∧ encO [x] = true ∧ decO (encL [x]) = true ∧ (decL (encL [x])).length = 1 ∧ x.Wf ∧ (wr1 x = true ∨ wr2 x = true ∨ wr3 x = true ∨ (jumpsO x.op = true ∧ (x.off < 0 ∨ 300 ≤ x.off))) := by
  simp only [badL, List.mem_cons, List.not_mem_nil, or_false] at hx
  rcases hx with rfl | rfl | rfl | rfl | rfl | rfl | rfl | rfl <;> exact ⟨by decide +kernel, by decide, by decide +kernel, by decide +kernel, by decide +kernel, ⟨by decide, by decide, by decide, by decide, by decide⟩, by decide +kernel⟩
theorem bad_ahead {x : In} (hx : x ∈ badL) {L : List In} (hS : shapeO L = true) (hl : L.length ≤ 200) : rightP ([x] ++ L) = 0 ∧ rightE ([x] ++ L) = 7 := by
  obtain ⟨h1, h2, -, -, -, -, h3⟩ := bad_fine hx
  obtain ⟨_, _, _, hr, _⟩ := shape_small hS
  refine right_told (enc_intro (by simp) (by simp; omega) ?_) (by simp) ?_ (fun j hj => by omega)
  · rw [right_tame (fun y hy => by simp at hy; subst hy; exact ⟨h1, h2⟩), hr]
  · rw [wrongO_some (x := x) (by simp)]
    unfold wrongI
    rcases h3 with h | h | h | ⟨hj, h⟩
    · rw [h]; rfl
    · rw [h]; simp
    · rw [h]; simp
    · have : leadO ([x] ++ L) 0 x = false := by
        unfold leadO
        rcases h with h | h
        · rw [decide_eq_false (by omega)]; rfl
        · have : decide (((0 : Nat) : Int) + 1 + x.off < (([x] ++ L).length : Int)) = false := decide_eq_false (by simp; omega)
          rw [this]; simp
      unfold wr4
      rw [hj, this]
      simp

set_option maxRecDepth 100000 in
set_option maxHeartbeats 12800000 in
theorem shapeWrong_c {w : World} {v : Value} {l : List In} (hl : Ins w v l) (hw : ∀ i ∈ l, i.Wf) (which : Int) : Calls Try.prog 6 #[v, .int .i64 which] w fun e w' => e = .returned (.bool true) ∧ Calm w w' := by
  obtain ⟨A, ca, rfl, hca, hma⟩ := hl.form
  unfold maxLen at hma
  have H1 := Lib.hid hl
  have HW := Lib.hid hw
  obtain ⟨n, hn⟩ : ∃ n, n = l.length := ⟨_, rfl⟩
  have HN := Lib.hid hn
  have i9 : (n : Int) ≤ 9223372036854775807 := by omega
  have i7 : (n : Int) ≤ (ca : Int) := by omega
  obtain ⟨q, hq0, hq1, hq2, hq3⟩ := cut_len n 200
  have hq : min (n : Int) 200 = (q : Int) := by omega
  rw [← hn] at H1 ⊢
  have I1 : Hid (Ins w (.slice A q ca) (l.take q)) := Lib.hid (by have := H1.out; rw [HN.out] at this; exact this.cut q (by rw [← HN.out]; exact hq2))
  have HQ : Hid ((l.take q).length = q) := Lib.hid (by rw [List.length_take, ← HN.out]; omega)
  have HWL : Hid (∀ i ∈ l.take q, i.Wf) := Lib.hid (fun i hi => HW.out i (List.mem_of_mem_take hi))
  generalize l.take q = L at I1 HQ HWL
  have j1 : (q : Int) ≤ 200 := by omega
  have j2 : (q : Int) ≤ (ca : Int) := by omega
  have HQ2 : Hid (q ≤ 200) := Lib.hid hq1
  clear hl hw hn hca hma hq0 hq3 H1 HW HN
  go_enter Try.func6, Try.ntmps6
  go_wp2_with fail
  refine (shown6_c w).mono ?_
  rintro e w1 ⟨rfl, hc1⟩
  have C1 := Lib.hid hc1
  have I0 := Lib.hid (I1.out.calm hc1)
  clear hc1 I1
  have E1 := Lib.hid (right_c I0.out HWL.out)
  go_wp2_with fail
  refine E1.out.mono ?_
  rintro e w2 ⟨rfl, hc2⟩
  have C2 := Lib.hid (C1.out.trans hc2)
  have I2 := Lib.hid (I0.out.calm hc2)
  clear hc2 I0 E1 C1 hq hq1 hq2 i9 i7
  by_cases hE : rightE L = 0
  rotate_left
  · obtain ⟨E, hEE⟩ : ∃ E : Int, E = (rightE L : Int) := ⟨_, rfl⟩
    have d1 : (E != 0) = true := by rw [bne_iff_ne]; omega
    rw [← hEE]
    clear hE hEE
    go_wp2_with fail
    go_ret
    exact ⟨rfl, C2.out⟩
  have HS := Lib.hid (rightE_zero hE)
  rw [hE]
  clear hE
  obtain ⟨r, hr8, hm⟩ := mask_nat which 3 7 (by decide) rfl
  have HR8 : Hid (r < 8) := Lib.hid hr8
  have i8 : (r : Int) < 8 := by omega
  clear hr8
  have IB := Lib.hid (Ins.lit w2 badL 8 badV rfl (by rw [badV]) (by decide))
  obtain ⟨ad', x, e1, hx, hat⟩ := IB.out.at_ (Keep.refl _ _) r (by have := HR8.out; simpa [badL] using this)
  cases e1
  have HX := Lib.hid (List.mem_of_getElem? hx)
  have C3 : Hid (Calm w (w2.alloc (.cells badV 34))) := Lib.hid (C2.out.alloc _)
  have I3 : Hid (Ins (w2.alloc (.cells badV 34)) (.slice A q ca) L) := Lib.hid (I2.out.calm ((Keep.refl _ _).alloc _))
  have HAT := Lib.hid hat
  clear hx hat
  have hbv : (w2.alloc (.cells #[.int .u8 183, .int .u8 10, .int .u8 0, .int .i16 0, .int .i32 0, .int .u8 97, .int .u8 10, .int .u8 1, .int .i16 0, .int .i32 0, .int .u8 183, .int .u8 11, .int .u8 0, .int .i16 0, .int .i32 0, .int .u8 191, .int .u8 1, .int .u8 12, .int .i16 0, .int .i32 0, .int .u8 133, .int .u8 0, .int .u8 0, .int .i16 0, .int .i32 4, .int .u8 133, .int .u8 0, .int .u8 0, .int .i16 0, .int .i32 (-1), .int .u8 5, .int .u8 0, .int .u8 0, .int .i16 (-1), .int .i32 0, .int .u8 21, .int .u8 0, .int .u8 0, .int .i16 300, .int .i32 0] 34)) = w2.alloc (.cells badV 34) := rfl
  go_upto_region 7 with fail
  obtain ⟨ad, had⟩ : ∃ ad : Addr, ad = ⟨w2.heap.size, 0, none⟩ := ⟨_, rfl⟩
  rw [← had] at HAT IB ⊢
  generalize w2.alloc (.cells badV 34) = w3 at C3 I3 IB HAT ⊢
  clear had hbv
  obtain ⟨e0, e1, e2, e3, e4⟩ := HAT.out
  go_upto_region 8 with fail
  have C4 : Hid (Calm w (w3.alloc (.cells #[.int .u8 (x.op : Int), .int .u8 (x.dst : Int), .int .u8 (x.src : Int), .int .i16 x.off, .int .i32 x.imm] 34))) := Lib.hid (C3.out.alloc _)
  have I4 : Hid (Ins (w3.alloc (.cells #[.int .u8 (x.op : Int), .int .u8 (x.dst : Int), .int .u8 (x.src : Int), .int .i16 x.off, .int .i32 x.imm] 34)) (.slice A q ca) L) := Lib.hid (I3.out.calm ((Keep.refl _ _).alloc _))
  have R4 : Hid (Row (w3.alloc (.cells #[.int .u8 (x.op : Int), .int .u8 (x.dst : Int), .int .u8 (x.src : Int), .int .i16 x.off, .int .i32 x.imm] 34)) w3.heap.size 34 #[.int .u8 (x.op : Int), .int .u8 (x.dst : Int), .int .u8 (x.src : Int), .int .i16 x.off, .int .i32 x.imm]) := Lib.hid (Row.made w3 _ _)
  obtain ⟨g, hg⟩ : ∃ g, g = w3.heap.size := ⟨_, rfl⟩
  rw [← hg] at R4 ⊢
  generalize w3.alloc (.cells #[.int .u8 (x.op : Int), .int .u8 (x.dst : Int), .int .u8 (x.src : Int), .int .i16 x.off, .int .i32 x.imm] 34) = w4 at C4 I4 R4 ⊢
  clear hg e0 e1 e2 e3 e4 HAT IB C3 I3
  obtain ⟨e0, e1, e2, e3, e4⟩ : Box w4 g x.op x.dst x.src x.off x.imm := ⟨R4.out.cell 0, R4.out.cell 1, R4.out.cell 2, R4.out.cell 3, R4.out.cell 4⟩
  have OX : Hid (OwnI (w4.alloc (.cells #[.int .u8 (x.op : Int), .int .u8 (x.dst : Int), .int .u8 (x.src : Int), .int .i16 x.off, .int .i32 x.imm] 34)) w4.heap.size (.slice (some ⟨w4.heap.size, 0, none⟩) 1 1) [x]) := Lib.hid (OwnI.lit w4 [x] 1 _ rfl rfl (by decide))
  have C5 : Hid (Calm w4 (w4.alloc (.cells #[.int .u8 (x.op : Int), .int .u8 (x.dst : Int), .int .u8 (x.src : Int), .int .i16 x.off, .int .i32 x.imm] 34))) := Lib.hid ((Keep.refl _ w4).alloc _)
  go_wp2_with (at_builtin; go_loud (refine append_ins (by rfl) (.tmp 46) (.tmp 47) rfl w4.heap.size w4.heap.size 1 1 [x] rfl OX.out (.slice A q ca) L rfl (I4.out.calm C5.out) (by have := HQ.out; have := HQ2.out; simp; omega) (by simp) ?_); rintro g6 c6 w6 ho6 hg6)
  have C6 : Hid (Calm w4 w6) := Lib.hid (C5.out.grown hg6 (fun k hk hlt => by cases hk; exact absurd hlt (Nat.lt_irrefl _)))
  have I6 := Lib.hid ho6.ins
  have RC := right_c I6.out (fun i hi => by
    rcases List.mem_append.1 hi with h | h
    · simp at h; subst h; exact (bad_fine HX.out).2.2.2.2.2.1
    · exact HWL.out i h)
  have hbad := bad_ahead HX.out HS.out (by have := HQ.out; have := HQ2.out; omega)
  rw [hbad.1, hbad.2] at RC
  have RH := Lib.hid RC
  clear RC hbad ho6 hg6 C5 OX e0 e1 e2 e3 e4
  go_wp2_with fail
  refine RH.out.mono ?_
  rintro e w7 ⟨rfl, hc7⟩
  have C7 := Lib.hid (C6.out.trans hc7)
  clear hc7 RH C6 I6
  obtain ⟨e0, e1, e2, e3, e4⟩ := (⟨R4.out.cell 0, R4.out.cell 1, R4.out.cell 2, R4.out.cell 3, R4.out.cell 4⟩ : Box w4 g x.op x.dst x.src x.off x.imm).calm C7.out
  have EC := Lib.hid (encode_c (Ins.lit w7 [x] 1 #[.int .u8 (x.op : Int), .int .u8 (x.dst : Int), .int .u8 (x.src : Int), .int .i16 x.off, .int .i32 x.imm] rfl rfl (by decide)) (fun i hi => by simp at hi; subst hi; exact (bad_fine HX.out).2.2.2.2.2.1))
  go_wp2_with fail
  refine EC.out.mono ?_
  rintro e w8 ⟨hc8, hcase⟩
  rcases hcase with ⟨-, vb, rfl, hrd⟩ | ⟨hno, -⟩
  rotate_left
  · rw [(bad_fine HX.out).2.2.1] at hno; cases hno
  have C8 := Lib.hid ((C7.out.alloc _).trans hc8)
  have DC := Lib.hid (decode_c hrd)
  obtain ⟨AB, cb, rfl, -, -⟩ := hrd.form
  clear hrd hc8 EC C7 e0 e1 e2 e3 e4
  go_wp2_with fail
  refine DC.out.mono ?_
  rintro e w9 ⟨hc9, hcase⟩
  rcases hcase with ⟨-, vm, rfl, hin⟩ | ⟨hno, -⟩
  rotate_left
  · rw [(bad_fine HX.out).2.2.2.1] at hno; cases hno
  have C9 := Lib.hid (C4.out.trans (C8.out.trans hc9))
  obtain ⟨AM, cm, rfl, -, -⟩ := hin.form
  rw [(bad_fine HX.out).2.2.2.2.1]
  clear hin hc9 DC C8 C4
  go_wp2_with fail
  go_ret
  exact ⟨rfl, C9.out⟩
end Go.Proofs.Ythmiiddojccafaa
