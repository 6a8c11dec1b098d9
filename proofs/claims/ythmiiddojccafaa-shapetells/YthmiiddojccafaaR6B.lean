/-
  The reference of layer 6: bad, Right.
-/
import Derived.Test.YthmiiddojccafaaHEndsW
import Derived.Test.YthmiiddojccafaaR5W
namespace Go.Proofs.Ythmiiddojccafaa
open Go.RowKit
set_option linter.all false

/-- Wrong, but for the end. -/
def badO (l : List In) (k : Nat) (x : In) : Bool := wr1 x || (wr3 x || (wr2 x || wr4 l k x))
theorem known_at {l : List In} (hr : rightO l = true) {k : Nat} {x : In} (hx : l[k]? = some x) (hh : isHalfO l k = false) : knownI x = true := by
  have h0 : x.op ≠ 0 := fun e => by rw [op0_half hr k x hx e] at hh; cases hh
  have hd := (right_cut l k x hr hx).2
  rw [right_at l k x hx, decide_eq_true h0] at hd
  simp only [Bool.and_eq_true] at hd
  exact hd.1
theorem known_class0 {x : In} (h : knownI x = true) (h0 : x.op % 8 = 0) : x.op = 24 := by
  unfold knownI knownO okO at h
  rw [h0] at h
  simp only [Bool.and_eq_true, decide_eq_true_eq] at h
  exact h.1.1
theorem wrong_split {l : List In} (hr : rightO l = true) {k : Nat} {x : In} (hx : l[k]? = some x) : wrongO l k = ((!isHalfO l k && badO l k x) || wr5 l k x) := by
  rw [wrongO_some hx]
  unfold wrongI badO
  rcases hh : isHalfO l k with _ | _
  · cases wr1 x <;> cases wr2 x <;> cases wr3 x <;> cases wr4 l k x <;> cases wr5 l k x <;> rfl
  · obtain ⟨y, hy, h0, h1, h2, _⟩ := half_zero hr hh
    rw [hx] at hy
    cases hy
    have e1 : wr1 x = false := by unfold wr1; rw [h1, h2]; rfl
    have e2 : wr2 x = false := by unfold wr2; rw [h1]; rfl
    have e3 : wr3 x = false := by unfold wr3; rw [h0]; rfl
    have e4 : wr4 l k x = false := by unfold wr4; rw [h0]; rfl
    rw [e1, e2, e3, e4]
    rfl
set_option maxHeartbeats 12800000 in
theorem rbad_c {w : World} {v : Value} {l : List In} (h : Ins w v l) (hl : l.length ≤ 512) (hr : rightO l = true) {k : Nat} {x : In} (hx : l[k]? = some x) (hw : x.Wf) (hkn : knownI x = true) : Calls Try.prog 34 #[v, .int .i64 (k : Int)] w fun y w' => y = .returned (.bool (badO l k x)) ∧ Calm w w' := by
  obtain ⟨A, cap, rfl, hcap, hmax⟩ := h.form
  have hk := (List.getElem?_eq_some_iff.1 hx).1
  obtain ⟨ad, y, rfl, hy, hat⟩ := h.at_ (Keep.refl _ w) k hk
  obtain rfl : x = y := by rw [hx] at hy; injection hy
  obtain ⟨e0, e1, e2, e3, e4⟩ := hat
  have HI := Lib.hid h
  obtain ⟨n, hn⟩ : ∃ n, n = l.length := ⟨_, rfl⟩
  rw [← hn] at hl hk HI ⊢
  have i1 : (k : Int) < (n : Int) := by omega
  have i2 : (n : Int) ≤ 512 := by omega
  have i2' : (k : Int) ≤ 512 := by omega
  have i3 : -32768 ≤ x.off := hw.off.1
  have i4 : x.off < 32768 := hw.off.2
  have HN := Lib.hid hn
  have HR := Lib.hid hr
  have HKN := Lib.hid hkn
  obtain ⟨c, hc⟩ : ∃ c : Int, c = ((x.op % 8 : Nat) : Int) := ⟨_, rfl⟩
  have q1 : (x.op : Int).tmod 8 = c := by rw [Int.tmod_eq_emod_of_nonneg (by omega)]; omega
  have q2 : (x.op : Int) % 8 = c := by omega
  have HCC := Lib.hid hc
  have PC := Lib.hid (fun w => rhelper_c w x.imm)
  have JC := Lib.hid (fun w => rjump_c (op := x.op) x.dst x.src x.off x.imm w hw.op)
  have HB : Hid (Box (w.alloc (.cells #[.int .u8 (x.op : Int), .int .u8 (x.dst : Int), .int .u8 (x.src : Int), .int .i16 x.off, .int .i32 x.imm] 34)) w.heap.size x.op x.dst x.src x.off x.imm) := Lib.hid (Box.made w _ _ _ _ _)
  have C1 : Hid (Calm w (w.alloc (.cells #[.int .u8 (x.op : Int), .int .u8 (x.dst : Int), .int .u8 (x.src : Int), .int .i16 x.off, .int .i32 x.imm] 34))) := Lib.hid ((Keep.refl _ w).alloc _)
  clear h hl hr hx hw hkn hk hy hn hcap hmax hc
  by_cases hd : 10 < x.dst
  · have d1 : decide ((10 : Int) < (x.dst : Int)) = true := decide_eq_true (by omega)
    have d1' : (10 : Int) < (x.dst : Int) := by omega
    have HRES : Hid (badO l k x = true) := Lib.hid (by
        unfold badO wr1; rw [decide_eq_true hd]; rfl)
    clear HKN HR
    try clear hd
    try clear hs
    try clear h133
    try clear h10
    try clear hJ
    try clear hH
    try clear hoff
    try clear hto
    try clear c0
    try clear c1
    try clear c4
    try clear c7
    try clear hm
    go_enter Try.func34, Try.ntmps34
    go_wp2_with fail
    go_ret
    exact ⟨by rw [HRES.out]; rfl, C1.out⟩
  have d1 : (x.dst : Int) ≤ 10 := by omega
  by_cases hs : 10 < x.src
  · have d2 : (10 : Int) < (x.src : Int) := by omega
    have HRES : Hid (badO l k x = true) := Lib.hid (by
        unfold badO wr1; rw [decide_eq_true hs]; simp)
    clear HKN HR
    try clear hd
    try clear hs
    try clear h133
    try clear h10
    try clear hJ
    try clear hH
    try clear hoff
    try clear hto
    try clear c0
    try clear c1
    try clear c4
    try clear c7
    try clear hm
    go_enter Try.func34, Try.ntmps34
    go_wp2_with fail
    go_ret
    exact ⟨by rw [HRES.out]; rfl, C1.out⟩
  have d2 : (x.src : Int) ≤ 10 := by omega
  have W1 : Hid (wr1 x = false) := Lib.hid (by unfold wr1; rw [decide_eq_false hd, decide_eq_false hs]; rfl)
  by_cases h133 : x.op = 133
  · have d3 : ((x.op : Int) == 133) = true := by rw [beq_iff_eq]; omega
    rcases hH : helpO x.imm with _ | _
    · have HHP : Hid (helpO x.imm = false) := Lib.hid hH
      have HRES : Hid (badO l k x = true) := Lib.hid (by
          unfold badO wr3; rw [W1.out, decide_eq_true h133, hH]; rfl)
      clear HKN HR
      try clear hd
      try clear hs
      try clear h133
      try clear h10
      try clear hJ
      try clear hH
      try clear hoff
      try clear hto
      try clear c0
      try clear c1
      try clear c4
      try clear c7
      try clear hm
      go_enter Try.func34, Try.ntmps34
      go_wp2_with fail
      refine (PC.out _).mono ?_
      rintro e' w2 ⟨rfl, hc⟩
      rw [HHP.out]
      have C2 := Lib.hid (C1.out.trans hc)
      have B2 := Lib.hid ((HB.out).calm hc)
      clear hc
      clear e0 e1 e2 e3 e4
      obtain ⟨e0, e1, e2, e3, e4⟩ := B2.out
      go_wp2_with fail
      go_ret
      exact ⟨by rw [HRES.out]; rfl, C2.out⟩
    have HHP : Hid (helpO x.imm = true) := Lib.hid hH
    have W3 : Hid (wr3 x = false) := Lib.hid (by unfold wr3; rw [hH]; simp)
    by_cases h10 : x.dst = 10
    · have d5 : ((x.dst : Int) == 10) = true := by rw [beq_iff_eq]; omega
      by_cases c0 : c = 0
      · have W2 : Hid (wr2 x = true) := Lib.hid (by
          unfold wr2 writesO
          rw [decide_eq_true h10]
          refine decide_eq_true ?_
          have := HCC.out
          have := known_class0 HKN.out (by omega)
          omega)
        have HRES0 : Hid (badO l k x = true) := Lib.hid (by unfold badO; rw [W1.out, W2.out, W3.out]; rfl)
        subst c0
        clear HCC
        have HRES : Hid (badO l k x = true) := Lib.hid (by
            exact HRES0.out)
        clear HKN HR
        try clear hd
        try clear hs
        try clear h133
        try clear h10
        try clear hJ
        try clear hH
        try clear hoff
        try clear hto
        try clear c0
        try clear c1
        try clear c4
        try clear c7
        try clear hm
        go_enter Try.func34, Try.ntmps34
        go_wp2_with fail
        refine (PC.out _).mono ?_
        rintro e' w2 ⟨rfl, hc⟩
        rw [HHP.out]
        have C2 := Lib.hid (C1.out.trans hc)
        have B2 := Lib.hid ((HB.out).calm hc)
        clear hc
        clear e0 e1 e2 e3 e4
        obtain ⟨e0, e1, e2, e3, e4⟩ := B2.out
        go_wp2_with fail
        go_ret
        exact ⟨by rw [HRES.out]; rfl, C2.out⟩
      have f0 : (c == 0) = false := by rw [beq_eq_false_iff_ne]; exact c0
      by_cases c1 : c = 1
      · have W2 : Hid (wr2 x = true) := Lib.hid (by
          unfold wr2 writesO
          rw [decide_eq_true h10]
          refine decide_eq_true ?_
          have := HCC.out
          omega)
        have HRES0 : Hid (badO l k x = true) := Lib.hid (by unfold badO; rw [W1.out, W2.out, W3.out]; rfl)
        subst c1
        clear HCC
        have HRES : Hid (badO l k x = true) := Lib.hid (by
            exact HRES0.out)
        clear HKN HR
        try clear hd
        try clear hs
        try clear h133
        try clear h10
        try clear hJ
        try clear hH
        try clear hoff
        try clear hto
        try clear c0
        try clear c1
        try clear c4
        try clear c7
        try clear hm
        go_enter Try.func34, Try.ntmps34
        go_wp2_with fail
        refine (PC.out _).mono ?_
        rintro e' w2 ⟨rfl, hc⟩
        rw [HHP.out]
        have C2 := Lib.hid (C1.out.trans hc)
        have B2 := Lib.hid ((HB.out).calm hc)
        clear hc
        clear e0 e1 e2 e3 e4
        obtain ⟨e0, e1, e2, e3, e4⟩ := B2.out
        go_wp2_with fail
        go_ret
        exact ⟨by rw [HRES.out]; rfl, C2.out⟩
      have f1 : (c == 1) = false := by rw [beq_eq_false_iff_ne]; exact c1
      by_cases c4 : c = 4
      · have W2 : Hid (wr2 x = true) := Lib.hid (by
          unfold wr2 writesO
          rw [decide_eq_true h10]
          refine decide_eq_true ?_
          have := HCC.out
          omega)
        have HRES0 : Hid (badO l k x = true) := Lib.hid (by unfold badO; rw [W1.out, W2.out, W3.out]; rfl)
        subst c4
        clear HCC
        have HRES : Hid (badO l k x = true) := Lib.hid (by
            exact HRES0.out)
        clear HKN HR
        try clear hd
        try clear hs
        try clear h133
        try clear h10
        try clear hJ
        try clear hH
        try clear hoff
        try clear hto
        try clear c0
        try clear c1
        try clear c4
        try clear c7
        try clear hm
        go_enter Try.func34, Try.ntmps34
        go_wp2_with fail
        refine (PC.out _).mono ?_
        rintro e' w2 ⟨rfl, hc⟩
        rw [HHP.out]
        have C2 := Lib.hid (C1.out.trans hc)
        have B2 := Lib.hid ((HB.out).calm hc)
        clear hc
        clear e0 e1 e2 e3 e4
        obtain ⟨e0, e1, e2, e3, e4⟩ := B2.out
        go_wp2_with fail
        go_ret
        exact ⟨by rw [HRES.out]; rfl, C2.out⟩
      have f4 : (c == 4) = false := by rw [beq_eq_false_iff_ne]; exact c4
      by_cases c7 : c = 7
      · have W2 : Hid (wr2 x = true) := Lib.hid (by
          unfold wr2 writesO
          rw [decide_eq_true h10]
          refine decide_eq_true ?_
          have := HCC.out
          omega)
        have HRES0 : Hid (badO l k x = true) := Lib.hid (by unfold badO; rw [W1.out, W2.out, W3.out]; rfl)
        subst c7
        clear HCC
        have HRES : Hid (badO l k x = true) := Lib.hid (by
            exact HRES0.out)
        clear HKN HR
        try clear hd
        try clear hs
        try clear h133
        try clear h10
        try clear hJ
        try clear hH
        try clear hoff
        try clear hto
        try clear c0
        try clear c1
        try clear c4
        try clear c7
        try clear hm
        go_enter Try.func34, Try.ntmps34
        go_wp2_with fail
        refine (PC.out _).mono ?_
        rintro e' w2 ⟨rfl, hc⟩
        rw [HHP.out]
        have C2 := Lib.hid (C1.out.trans hc)
        have B2 := Lib.hid ((HB.out).calm hc)
        clear hc
        clear e0 e1 e2 e3 e4
        obtain ⟨e0, e1, e2, e3, e4⟩ := B2.out
        go_wp2_with fail
        go_ret
        exact ⟨by rw [HRES.out]; rfl, C2.out⟩
      have f7 : (c == 7) = false := by rw [beq_eq_false_iff_ne]; exact c7
      have W2 : Hid (wr2 x = false) := Lib.hid (by
          have hw0 : writesO x.op = false := decide_eq_false (by have := HCC.out; omega)
          unfold wr2
          rw [hw0, Bool.and_false])
      clear c0 c1 c4 c7
      rcases hJ : jumpsO x.op with _ | _
      · have HJJ : Hid (jumpsO x.op = false) := Lib.hid hJ
        have HRES : Hid (badO l k x = false) := Lib.hid (by
            unfold badO wr4; rw [W1.out, W2.out, W3.out, hJ]; rfl)
        clear HKN HR
        try clear hd
        try clear hs
        try clear h133
        try clear h10
        try clear hJ
        try clear hH
        try clear hoff
        try clear hto
        try clear c0
        try clear c1
        try clear c4
        try clear c7
        try clear hm
        go_enter Try.func34, Try.ntmps34
        go_wp2_with fail
        refine (PC.out _).mono ?_
        rintro e' w2 ⟨rfl, hc⟩
        rw [HHP.out]
        have C2 := Lib.hid (C1.out.trans hc)
        have B2 := Lib.hid ((HB.out).calm hc)
        clear hc
        clear e0 e1 e2 e3 e4
        obtain ⟨e0, e1, e2, e3, e4⟩ := B2.out
        go_wp2_with fail
        refine (JC.out _).mono ?_
        rintro e' w3 ⟨rfl, hc⟩
        rw [HJJ.out]
        have C3 := Lib.hid (C2.out.trans hc)
        have B3 := Lib.hid ((B2.out).calm hc)
        clear hc
        clear e0 e1 e2 e3 e4
        obtain ⟨e0, e1, e2, e3, e4⟩ := B3.out
        go_wp2_with fail
        go_ret
        exact ⟨by rw [HRES.out]; rfl, C3.out⟩
      have HJJ : Hid (jumpsO x.op = true) := Lib.hid hJ
      by_cases hoff : x.off < 0
      · have d7 : decide (x.off < 0) = true := decide_eq_true hoff
        have HRES : Hid (badO l k x = true) := Lib.hid (by
            unfold badO wr4 leadO; rw [W1.out, W2.out, W3.out, hJ, decide_eq_false (by omega)]; rfl)
        clear HKN HR
        try clear hd
        try clear hs
        try clear h133
        try clear h10
        try clear hJ
        try clear hH
        try clear hoff
        try clear hto
        try clear c0
        try clear c1
        try clear c4
        try clear c7
        try clear hm
        go_enter Try.func34, Try.ntmps34
        go_wp2_with fail
        refine (PC.out _).mono ?_
        rintro e' w2 ⟨rfl, hc⟩
        rw [HHP.out]
        have C2 := Lib.hid (C1.out.trans hc)
        have B2 := Lib.hid ((HB.out).calm hc)
        clear hc
        clear e0 e1 e2 e3 e4
        obtain ⟨e0, e1, e2, e3, e4⟩ := B2.out
        go_wp2_with fail
        refine (JC.out _).mono ?_
        rintro e' w3 ⟨rfl, hc⟩
        rw [HJJ.out]
        have C3 := Lib.hid (C2.out.trans hc)
        have B3 := Lib.hid ((B2.out).calm hc)
        clear hc
        clear e0 e1 e2 e3 e4
        obtain ⟨e0, e1, e2, e3, e4⟩ := B3.out
        go_wp2_with fail
        go_ret
        exact ⟨by rw [HRES.out]; rfl, C3.out⟩
      have d7 : decide (x.off < 0) = false := decide_eq_false hoff
      by_cases hto : (n : Int) ≤ (k : Int) + 1 + x.off
      · have d8 : decide ((n : Int) ≤ (k : Int) + 1 + x.off) = true := decide_eq_true hto
        have HRES : Hid (badO l k x = true) := Lib.hid (by
            unfold badO wr4 leadO; rw [W1.out, W2.out, W3.out, hJ, decide_eq_true (by omega : 0 ≤ x.off), decide_eq_false (by rw [← HN.out]; omega)]; rfl)
        clear HKN HR
        try clear hd
        try clear hs
        try clear h133
        try clear h10
        try clear hJ
        try clear hH
        try clear hoff
        try clear hto
        try clear c0
        try clear c1
        try clear c4
        try clear c7
        try clear hm
        go_enter Try.func34, Try.ntmps34
        go_wp2_with fail
        refine (PC.out _).mono ?_
        rintro e' w2 ⟨rfl, hc⟩
        rw [HHP.out]
        have C2 := Lib.hid (C1.out.trans hc)
        have B2 := Lib.hid ((HB.out).calm hc)
        clear hc
        clear e0 e1 e2 e3 e4
        obtain ⟨e0, e1, e2, e3, e4⟩ := B2.out
        go_wp2_with fail
        refine (JC.out _).mono ?_
        rintro e' w3 ⟨rfl, hc⟩
        rw [HJJ.out]
        have C3 := Lib.hid (C2.out.trans hc)
        have B3 := Lib.hid ((B2.out).calm hc)
        clear hc
        clear e0 e1 e2 e3 e4
        obtain ⟨e0, e1, e2, e3, e4⟩ := B3.out
        go_wp2_with fail
        go_ret
        exact ⟨by rw [HRES.out]; rfl, C3.out⟩
      have d8 : decide ((n : Int) ≤ (k : Int) + 1 + x.off) = false := decide_eq_false hto
      obtain ⟨m, hm⟩ : ∃ m : Nat, (k : Int) + 1 + x.off = (m : Int) := ⟨((k : Int) + 1 + x.off).toNat, by omega⟩
      have FC := Lib.hid (fun w' (hc : Calm w w') => rhalf_c (HI.out.calm hc) m (by rw [← HN.out]; omega))
      have HRES0 : Hid (badO l k x = isHalfO l m) := Lib.hid (by unfold badO wr4 leadO; rw [W1.out, W2.out, W3.out, hJ, decide_eq_true (by omega : 0 ≤ x.off), decide_eq_true (by rw [← HN.out]; omega), hm]; simp)
      have HH := Lib.hid (hfR_right HR.out m (by rw [← HN.out]; omega))
      rw [HH.out] at FC
      rw [hm] at d8
      have d9 : (m : Int) < (n : Int) := by omega
      have d10 : decide (n ≤ m) = false := decide_eq_false (by omega)
      have HRES : Hid (badO l k x = isHalfO l m) := Lib.hid (by
          exact HRES0.out)
      try clear hd
      try clear hs
      try clear h133
      try clear h10
      try clear hJ
      try clear hH
      try clear hoff
      try clear hto
      try clear c0
      try clear c1
      try clear c4
      try clear c7
      go_enter Try.func34, Try.ntmps34
      go_wp2_with fail
      refine (PC.out _).mono ?_
      rintro e' w2 ⟨rfl, hc⟩
      rw [HHP.out]
      have C2 := Lib.hid (C1.out.trans hc)
      have B2 := Lib.hid ((HB.out).calm hc)
      clear hc
      clear e0 e1 e2 e3 e4
      obtain ⟨e0, e1, e2, e3, e4⟩ := B2.out
      go_wp2_with fail
      refine (JC.out _).mono ?_
      rintro e' w3 ⟨rfl, hc⟩
      rw [HJJ.out]
      have C3 := Lib.hid (C2.out.trans hc)
      have B3 := Lib.hid ((B2.out).calm hc)
      clear hc
      clear e0 e1 e2 e3 e4
      obtain ⟨e0, e1, e2, e3, e4⟩ := B3.out
      go_wp2_with fail
      refine (FC.out _ C3.out).mono ?_
      rintro e' w4 ⟨rfl, hc⟩
      have C4 := Lib.hid (C3.out.trans hc)
      have B4 := Lib.hid ((B3.out).calm hc)
      clear hc
      clear e0 e1 e2 e3 e4
      obtain ⟨e0, e1, e2, e3, e4⟩ := B4.out
      go_wp2_with fail
      go_ret
      exact ⟨by rw [HRES.out]; rfl, C4.out⟩
    have d5 : ((x.dst : Int) == 10) = false := by rw [beq_eq_false_iff_ne]; omega
    have W2 : Hid (wr2 x = false) := Lib.hid (by unfold wr2; rw [decide_eq_false h10]; rfl)
    rcases hJ : jumpsO x.op with _ | _
    · have HJJ : Hid (jumpsO x.op = false) := Lib.hid hJ
      have HRES : Hid (badO l k x = false) := Lib.hid (by
          unfold badO wr4; rw [W1.out, W2.out, W3.out, hJ]; rfl)
      clear HKN HR
      try clear hd
      try clear hs
      try clear h133
      try clear h10
      try clear hJ
      try clear hH
      try clear hoff
      try clear hto
      try clear c0
      try clear c1
      try clear c4
      try clear c7
      try clear hm
      go_enter Try.func34, Try.ntmps34
      go_wp2_with fail
      refine (PC.out _).mono ?_
      rintro e' w2 ⟨rfl, hc⟩
      rw [HHP.out]
      have C2 := Lib.hid (C1.out.trans hc)
      have B2 := Lib.hid ((HB.out).calm hc)
      clear hc
      clear e0 e1 e2 e3 e4
      obtain ⟨e0, e1, e2, e3, e4⟩ := B2.out
      go_wp2_with fail
      refine (JC.out _).mono ?_
      rintro e' w3 ⟨rfl, hc⟩
      rw [HJJ.out]
      have C3 := Lib.hid (C2.out.trans hc)
      have B3 := Lib.hid ((B2.out).calm hc)
      clear hc
      clear e0 e1 e2 e3 e4
      obtain ⟨e0, e1, e2, e3, e4⟩ := B3.out
      go_wp2_with fail
      go_ret
      exact ⟨by rw [HRES.out]; rfl, C3.out⟩
    have HJJ : Hid (jumpsO x.op = true) := Lib.hid hJ
    by_cases hoff : x.off < 0
    · have d7 : decide (x.off < 0) = true := decide_eq_true hoff
      have HRES : Hid (badO l k x = true) := Lib.hid (by
          unfold badO wr4 leadO; rw [W1.out, W2.out, W3.out, hJ, decide_eq_false (by omega)]; rfl)
      clear HKN HR
      try clear hd
      try clear hs
      try clear h133
      try clear h10
      try clear hJ
      try clear hH
      try clear hoff
      try clear hto
      try clear c0
      try clear c1
      try clear c4
      try clear c7
      try clear hm
      go_enter Try.func34, Try.ntmps34
      go_wp2_with fail
      refine (PC.out _).mono ?_
      rintro e' w2 ⟨rfl, hc⟩
      rw [HHP.out]
      have C2 := Lib.hid (C1.out.trans hc)
      have B2 := Lib.hid ((HB.out).calm hc)
      clear hc
      clear e0 e1 e2 e3 e4
      obtain ⟨e0, e1, e2, e3, e4⟩ := B2.out
      go_wp2_with fail
      refine (JC.out _).mono ?_
      rintro e' w3 ⟨rfl, hc⟩
      rw [HJJ.out]
      have C3 := Lib.hid (C2.out.trans hc)
      have B3 := Lib.hid ((B2.out).calm hc)
      clear hc
      clear e0 e1 e2 e3 e4
      obtain ⟨e0, e1, e2, e3, e4⟩ := B3.out
      go_wp2_with fail
      go_ret
      exact ⟨by rw [HRES.out]; rfl, C3.out⟩
    have d7 : decide (x.off < 0) = false := decide_eq_false hoff
    by_cases hto : (n : Int) ≤ (k : Int) + 1 + x.off
    · have d8 : decide ((n : Int) ≤ (k : Int) + 1 + x.off) = true := decide_eq_true hto
      have HRES : Hid (badO l k x = true) := Lib.hid (by
          unfold badO wr4 leadO; rw [W1.out, W2.out, W3.out, hJ, decide_eq_true (by omega : 0 ≤ x.off), decide_eq_false (by rw [← HN.out]; omega)]; rfl)
      clear HKN HR
      try clear hd
      try clear hs
      try clear h133
      try clear h10
      try clear hJ
      try clear hH
      try clear hoff
      try clear hto
      try clear c0
      try clear c1
      try clear c4
      try clear c7
      try clear hm
      go_enter Try.func34, Try.ntmps34
      go_wp2_with fail
      refine (PC.out _).mono ?_
      rintro e' w2 ⟨rfl, hc⟩
      rw [HHP.out]
      have C2 := Lib.hid (C1.out.trans hc)
      have B2 := Lib.hid ((HB.out).calm hc)
      clear hc
      clear e0 e1 e2 e3 e4
      obtain ⟨e0, e1, e2, e3, e4⟩ := B2.out
      go_wp2_with fail
      refine (JC.out _).mono ?_
      rintro e' w3 ⟨rfl, hc⟩
      rw [HJJ.out]
      have C3 := Lib.hid (C2.out.trans hc)
      have B3 := Lib.hid ((B2.out).calm hc)
      clear hc
      clear e0 e1 e2 e3 e4
      obtain ⟨e0, e1, e2, e3, e4⟩ := B3.out
      go_wp2_with fail
      go_ret
      exact ⟨by rw [HRES.out]; rfl, C3.out⟩
    have d8 : decide ((n : Int) ≤ (k : Int) + 1 + x.off) = false := decide_eq_false hto
    obtain ⟨m, hm⟩ : ∃ m : Nat, (k : Int) + 1 + x.off = (m : Int) := ⟨((k : Int) + 1 + x.off).toNat, by omega⟩
    have FC := Lib.hid (fun w' (hc : Calm w w') => rhalf_c (HI.out.calm hc) m (by rw [← HN.out]; omega))
    have HRES0 : Hid (badO l k x = isHalfO l m) := Lib.hid (by unfold badO wr4 leadO; rw [W1.out, W2.out, W3.out, hJ, decide_eq_true (by omega : 0 ≤ x.off), decide_eq_true (by rw [← HN.out]; omega), hm]; simp)
    have HH := Lib.hid (hfR_right HR.out m (by rw [← HN.out]; omega))
    rw [HH.out] at FC
    rw [hm] at d8
    have d9 : (m : Int) < (n : Int) := by omega
    have d10 : decide (n ≤ m) = false := decide_eq_false (by omega)
    have HRES : Hid (badO l k x = isHalfO l m) := Lib.hid (by
        exact HRES0.out)
    try clear hd
    try clear hs
    try clear h133
    try clear h10
    try clear hJ
    try clear hH
    try clear hoff
    try clear hto
    try clear c0
    try clear c1
    try clear c4
    try clear c7
    go_enter Try.func34, Try.ntmps34
    go_wp2_with fail
    refine (PC.out _).mono ?_
    rintro e' w2 ⟨rfl, hc⟩
    rw [HHP.out]
    have C2 := Lib.hid (C1.out.trans hc)
    have B2 := Lib.hid ((HB.out).calm hc)
    clear hc
    clear e0 e1 e2 e3 e4
    obtain ⟨e0, e1, e2, e3, e4⟩ := B2.out
    go_wp2_with fail
    refine (JC.out _).mono ?_
    rintro e' w3 ⟨rfl, hc⟩
    rw [HJJ.out]
    have C3 := Lib.hid (C2.out.trans hc)
    have B3 := Lib.hid ((B2.out).calm hc)
    clear hc
    clear e0 e1 e2 e3 e4
    obtain ⟨e0, e1, e2, e3, e4⟩ := B3.out
    go_wp2_with fail
    refine (FC.out _ C3.out).mono ?_
    rintro e' w4 ⟨rfl, hc⟩
    have C4 := Lib.hid (C3.out.trans hc)
    have B4 := Lib.hid ((B3.out).calm hc)
    clear hc
    clear e0 e1 e2 e3 e4
    obtain ⟨e0, e1, e2, e3, e4⟩ := B4.out
    go_wp2_with fail
    go_ret
    exact ⟨by rw [HRES.out]; rfl, C4.out⟩
  have d3 : ((x.op : Int) == 133) = false := by rw [beq_eq_false_iff_ne]; omega
  have W3 : Hid (wr3 x = false) := Lib.hid (by unfold wr3; rw [decide_eq_false h133]; rfl)
  by_cases h10 : x.dst = 10
  · have d5 : ((x.dst : Int) == 10) = true := by rw [beq_iff_eq]; omega
    by_cases c0 : c = 0
    · have W2 : Hid (wr2 x = true) := Lib.hid (by
        unfold wr2 writesO
        rw [decide_eq_true h10]
        refine decide_eq_true ?_
        have := HCC.out
        have := known_class0 HKN.out (by omega)
        omega)
      have HRES0 : Hid (badO l k x = true) := Lib.hid (by unfold badO; rw [W1.out, W2.out, W3.out]; rfl)
      subst c0
      clear HCC
      have HRES : Hid (badO l k x = true) := Lib.hid (by
          exact HRES0.out)
      clear HKN HR
      try clear hd
      try clear hs
      try clear h133
      try clear h10
      try clear hJ
      try clear hH
      try clear hoff
      try clear hto
      try clear c0
      try clear c1
      try clear c4
      try clear c7
      try clear hm
      go_enter Try.func34, Try.ntmps34
      go_wp2_with fail
      go_ret
      exact ⟨by rw [HRES.out]; rfl, C1.out⟩
    have f0 : (c == 0) = false := by rw [beq_eq_false_iff_ne]; exact c0
    by_cases c1 : c = 1
    · have W2 : Hid (wr2 x = true) := Lib.hid (by
        unfold wr2 writesO
        rw [decide_eq_true h10]
        refine decide_eq_true ?_
        have := HCC.out
        omega)
      have HRES0 : Hid (badO l k x = true) := Lib.hid (by unfold badO; rw [W1.out, W2.out, W3.out]; rfl)
      subst c1
      clear HCC
      have HRES : Hid (badO l k x = true) := Lib.hid (by
          exact HRES0.out)
      clear HKN HR
      try clear hd
      try clear hs
      try clear h133
      try clear h10
      try clear hJ
      try clear hH
      try clear hoff
      try clear hto
      try clear c0
      try clear c1
      try clear c4
      try clear c7
      try clear hm
      go_enter Try.func34, Try.ntmps34
      go_wp2_with fail
      go_ret
      exact ⟨by rw [HRES.out]; rfl, C1.out⟩
    have f1 : (c == 1) = false := by rw [beq_eq_false_iff_ne]; exact c1
    by_cases c4 : c = 4
    · have W2 : Hid (wr2 x = true) := Lib.hid (by
        unfold wr2 writesO
        rw [decide_eq_true h10]
        refine decide_eq_true ?_
        have := HCC.out
        omega)
      have HRES0 : Hid (badO l k x = true) := Lib.hid (by unfold badO; rw [W1.out, W2.out, W3.out]; rfl)
      subst c4
      clear HCC
      have HRES : Hid (badO l k x = true) := Lib.hid (by
          exact HRES0.out)
      clear HKN HR
      try clear hd
      try clear hs
      try clear h133
      try clear h10
      try clear hJ
      try clear hH
      try clear hoff
      try clear hto
      try clear c0
      try clear c1
      try clear c4
      try clear c7
      try clear hm
      go_enter Try.func34, Try.ntmps34
      go_wp2_with fail
      go_ret
      exact ⟨by rw [HRES.out]; rfl, C1.out⟩
    have f4 : (c == 4) = false := by rw [beq_eq_false_iff_ne]; exact c4
    by_cases c7 : c = 7
    · have W2 : Hid (wr2 x = true) := Lib.hid (by
        unfold wr2 writesO
        rw [decide_eq_true h10]
        refine decide_eq_true ?_
        have := HCC.out
        omega)
      have HRES0 : Hid (badO l k x = true) := Lib.hid (by unfold badO; rw [W1.out, W2.out, W3.out]; rfl)
      subst c7
      clear HCC
      have HRES : Hid (badO l k x = true) := Lib.hid (by
          exact HRES0.out)
      clear HKN HR
      try clear hd
      try clear hs
      try clear h133
      try clear h10
      try clear hJ
      try clear hH
      try clear hoff
      try clear hto
      try clear c0
      try clear c1
      try clear c4
      try clear c7
      try clear hm
      go_enter Try.func34, Try.ntmps34
      go_wp2_with fail
      go_ret
      exact ⟨by rw [HRES.out]; rfl, C1.out⟩
    have f7 : (c == 7) = false := by rw [beq_eq_false_iff_ne]; exact c7
    have W2 : Hid (wr2 x = false) := Lib.hid (by
        have hw0 : writesO x.op = false := decide_eq_false (by have := HCC.out; omega)
        unfold wr2
        rw [hw0, Bool.and_false])
    clear c0 c1 c4 c7
    rcases hJ : jumpsO x.op with _ | _
    · have HJJ : Hid (jumpsO x.op = false) := Lib.hid hJ
      have HRES : Hid (badO l k x = false) := Lib.hid (by
          unfold badO wr4; rw [W1.out, W2.out, W3.out, hJ]; rfl)
      clear HKN HR
      try clear hd
      try clear hs
      try clear h133
      try clear h10
      try clear hJ
      try clear hH
      try clear hoff
      try clear hto
      try clear c0
      try clear c1
      try clear c4
      try clear c7
      try clear hm
      go_enter Try.func34, Try.ntmps34
      go_wp2_with fail
      refine (JC.out _).mono ?_
      rintro e' w2 ⟨rfl, hc⟩
      rw [HJJ.out]
      have C2 := Lib.hid (C1.out.trans hc)
      have B2 := Lib.hid ((HB.out).calm hc)
      clear hc
      clear e0 e1 e2 e3 e4
      obtain ⟨e0, e1, e2, e3, e4⟩ := B2.out
      go_wp2_with fail
      go_ret
      exact ⟨by rw [HRES.out]; rfl, C2.out⟩
    have HJJ : Hid (jumpsO x.op = true) := Lib.hid hJ
    by_cases hoff : x.off < 0
    · have d7 : decide (x.off < 0) = true := decide_eq_true hoff
      have HRES : Hid (badO l k x = true) := Lib.hid (by
          unfold badO wr4 leadO; rw [W1.out, W2.out, W3.out, hJ, decide_eq_false (by omega)]; rfl)
      clear HKN HR
      try clear hd
      try clear hs
      try clear h133
      try clear h10
      try clear hJ
      try clear hH
      try clear hoff
      try clear hto
      try clear c0
      try clear c1
      try clear c4
      try clear c7
      try clear hm
      go_enter Try.func34, Try.ntmps34
      go_wp2_with fail
      refine (JC.out _).mono ?_
      rintro e' w2 ⟨rfl, hc⟩
      rw [HJJ.out]
      have C2 := Lib.hid (C1.out.trans hc)
      have B2 := Lib.hid ((HB.out).calm hc)
      clear hc
      clear e0 e1 e2 e3 e4
      obtain ⟨e0, e1, e2, e3, e4⟩ := B2.out
      go_wp2_with fail
      go_ret
      exact ⟨by rw [HRES.out]; rfl, C2.out⟩
    have d7 : decide (x.off < 0) = false := decide_eq_false hoff
    by_cases hto : (n : Int) ≤ (k : Int) + 1 + x.off
    · have d8 : decide ((n : Int) ≤ (k : Int) + 1 + x.off) = true := decide_eq_true hto
      have HRES : Hid (badO l k x = true) := Lib.hid (by
          unfold badO wr4 leadO; rw [W1.out, W2.out, W3.out, hJ, decide_eq_true (by omega : 0 ≤ x.off), decide_eq_false (by rw [← HN.out]; omega)]; rfl)
      clear HKN HR
      try clear hd
      try clear hs
      try clear h133
      try clear h10
      try clear hJ
      try clear hH
      try clear hoff
      try clear hto
      try clear c0
      try clear c1
      try clear c4
      try clear c7
      try clear hm
      go_enter Try.func34, Try.ntmps34
      go_wp2_with fail
      refine (JC.out _).mono ?_
      rintro e' w2 ⟨rfl, hc⟩
      rw [HJJ.out]
      have C2 := Lib.hid (C1.out.trans hc)
      have B2 := Lib.hid ((HB.out).calm hc)
      clear hc
      clear e0 e1 e2 e3 e4
      obtain ⟨e0, e1, e2, e3, e4⟩ := B2.out
      go_wp2_with fail
      go_ret
      exact ⟨by rw [HRES.out]; rfl, C2.out⟩
    have d8 : decide ((n : Int) ≤ (k : Int) + 1 + x.off) = false := decide_eq_false hto
    obtain ⟨m, hm⟩ : ∃ m : Nat, (k : Int) + 1 + x.off = (m : Int) := ⟨((k : Int) + 1 + x.off).toNat, by omega⟩
    have FC := Lib.hid (fun w' (hc : Calm w w') => rhalf_c (HI.out.calm hc) m (by rw [← HN.out]; omega))
    have HRES0 : Hid (badO l k x = isHalfO l m) := Lib.hid (by unfold badO wr4 leadO; rw [W1.out, W2.out, W3.out, hJ, decide_eq_true (by omega : 0 ≤ x.off), decide_eq_true (by rw [← HN.out]; omega), hm]; simp)
    have HH := Lib.hid (hfR_right HR.out m (by rw [← HN.out]; omega))
    rw [HH.out] at FC
    rw [hm] at d8
    have d9 : (m : Int) < (n : Int) := by omega
    have d10 : decide (n ≤ m) = false := decide_eq_false (by omega)
    have HRES : Hid (badO l k x = isHalfO l m) := Lib.hid (by
        exact HRES0.out)
    try clear hd
    try clear hs
    try clear h133
    try clear h10
    try clear hJ
    try clear hH
    try clear hoff
    try clear hto
    try clear c0
    try clear c1
    try clear c4
    try clear c7
    go_enter Try.func34, Try.ntmps34
    go_wp2_with fail
    refine (JC.out _).mono ?_
    rintro e' w2 ⟨rfl, hc⟩
    rw [HJJ.out]
    have C2 := Lib.hid (C1.out.trans hc)
    have B2 := Lib.hid ((HB.out).calm hc)
    clear hc
    clear e0 e1 e2 e3 e4
    obtain ⟨e0, e1, e2, e3, e4⟩ := B2.out
    go_wp2_with fail
    refine (FC.out _ C2.out).mono ?_
    rintro e' w3 ⟨rfl, hc⟩
    have C3 := Lib.hid (C2.out.trans hc)
    have B3 := Lib.hid ((B2.out).calm hc)
    clear hc
    clear e0 e1 e2 e3 e4
    obtain ⟨e0, e1, e2, e3, e4⟩ := B3.out
    go_wp2_with fail
    go_ret
    exact ⟨by rw [HRES.out]; rfl, C3.out⟩
  have d5 : ((x.dst : Int) == 10) = false := by rw [beq_eq_false_iff_ne]; omega
  have W2 : Hid (wr2 x = false) := Lib.hid (by unfold wr2; rw [decide_eq_false h10]; rfl)
  rcases hJ : jumpsO x.op with _ | _
  · have HJJ : Hid (jumpsO x.op = false) := Lib.hid hJ
    have HRES : Hid (badO l k x = false) := Lib.hid (by
        unfold badO wr4; rw [W1.out, W2.out, W3.out, hJ]; rfl)
    clear HKN HR
    try clear hd
    try clear hs
    try clear h133
    try clear h10
    try clear hJ
    try clear hH
    try clear hoff
    try clear hto
    try clear c0
    try clear c1
    try clear c4
    try clear c7
    try clear hm
    go_enter Try.func34, Try.ntmps34
    go_wp2_with fail
    refine (JC.out _).mono ?_
    rintro e' w2 ⟨rfl, hc⟩
    rw [HJJ.out]
    have C2 := Lib.hid (C1.out.trans hc)
    have B2 := Lib.hid ((HB.out).calm hc)
    clear hc
    clear e0 e1 e2 e3 e4
    obtain ⟨e0, e1, e2, e3, e4⟩ := B2.out
    go_wp2_with fail
    go_ret
    exact ⟨by rw [HRES.out]; rfl, C2.out⟩
  have HJJ : Hid (jumpsO x.op = true) := Lib.hid hJ
  by_cases hoff : x.off < 0
  · have d7 : decide (x.off < 0) = true := decide_eq_true hoff
    have HRES : Hid (badO l k x = true) := Lib.hid (by
        unfold badO wr4 leadO; rw [W1.out, W2.out, W3.out, hJ, decide_eq_false (by omega)]; rfl)
    clear HKN HR
    try clear hd
    try clear hs
    try clear h133
    try clear h10
    try clear hJ
    try clear hH
    try clear hoff
    try clear hto
    try clear c0
    try clear c1
    try clear c4
    try clear c7
    try clear hm
    go_enter Try.func34, Try.ntmps34
    go_wp2_with fail
    refine (JC.out _).mono ?_
    rintro e' w2 ⟨rfl, hc⟩
    rw [HJJ.out]
    have C2 := Lib.hid (C1.out.trans hc)
    have B2 := Lib.hid ((HB.out).calm hc)
    clear hc
    clear e0 e1 e2 e3 e4
    obtain ⟨e0, e1, e2, e3, e4⟩ := B2.out
    go_wp2_with fail
    go_ret
    exact ⟨by rw [HRES.out]; rfl, C2.out⟩
  have d7 : decide (x.off < 0) = false := decide_eq_false hoff
  by_cases hto : (n : Int) ≤ (k : Int) + 1 + x.off
  · have d8 : decide ((n : Int) ≤ (k : Int) + 1 + x.off) = true := decide_eq_true hto
    have HRES : Hid (badO l k x = true) := Lib.hid (by
        unfold badO wr4 leadO; rw [W1.out, W2.out, W3.out, hJ, decide_eq_true (by omega : 0 ≤ x.off), decide_eq_false (by rw [← HN.out]; omega)]; rfl)
    clear HKN HR
    try clear hd
    try clear hs
    try clear h133
    try clear h10
    try clear hJ
    try clear hH
    try clear hoff
    try clear hto
    try clear c0
    try clear c1
    try clear c4
    try clear c7
    try clear hm
    go_enter Try.func34, Try.ntmps34
    go_wp2_with fail
    refine (JC.out _).mono ?_
    rintro e' w2 ⟨rfl, hc⟩
    rw [HJJ.out]
    have C2 := Lib.hid (C1.out.trans hc)
    have B2 := Lib.hid ((HB.out).calm hc)
    clear hc
    clear e0 e1 e2 e3 e4
    obtain ⟨e0, e1, e2, e3, e4⟩ := B2.out
    go_wp2_with fail
    go_ret
    exact ⟨by rw [HRES.out]; rfl, C2.out⟩
  have d8 : decide ((n : Int) ≤ (k : Int) + 1 + x.off) = false := decide_eq_false hto
  obtain ⟨m, hm⟩ : ∃ m : Nat, (k : Int) + 1 + x.off = (m : Int) := ⟨((k : Int) + 1 + x.off).toNat, by omega⟩
  have FC := Lib.hid (fun w' (hc : Calm w w') => rhalf_c (HI.out.calm hc) m (by rw [← HN.out]; omega))
  have HRES0 : Hid (badO l k x = isHalfO l m) := Lib.hid (by unfold badO wr4 leadO; rw [W1.out, W2.out, W3.out, hJ, decide_eq_true (by omega : 0 ≤ x.off), decide_eq_true (by rw [← HN.out]; omega), hm]; simp)
  have HH := Lib.hid (hfR_right HR.out m (by rw [← HN.out]; omega))
  rw [HH.out] at FC
  rw [hm] at d8
  have d9 : (m : Int) < (n : Int) := by omega
  have d10 : decide (n ≤ m) = false := decide_eq_false (by omega)
  have HRES : Hid (badO l k x = isHalfO l m) := Lib.hid (by
      exact HRES0.out)
  try clear hd
  try clear hs
  try clear h133
  try clear h10
  try clear hJ
  try clear hH
  try clear hoff
  try clear hto
  try clear c0
  try clear c1
  try clear c4
  try clear c7
  go_enter Try.func34, Try.ntmps34
  go_wp2_with fail
  refine (JC.out _).mono ?_
  rintro e' w2 ⟨rfl, hc⟩
  rw [HJJ.out]
  have C2 := Lib.hid (C1.out.trans hc)
  have B2 := Lib.hid ((HB.out).calm hc)
  clear hc
  clear e0 e1 e2 e3 e4
  obtain ⟨e0, e1, e2, e3, e4⟩ := B2.out
  go_wp2_with fail
  refine (FC.out _ C2.out).mono ?_
  rintro e' w3 ⟨rfl, hc⟩
  have C3 := Lib.hid (C2.out.trans hc)
  have B3 := Lib.hid ((B2.out).calm hc)
  clear hc
  clear e0 e1 e2 e3 e4
  obtain ⟨e0, e1, e2, e3, e4⟩ := B3.out
  go_wp2_with fail
  go_ret
  exact ⟨by rw [HRES.out]; rfl, C3.out⟩
set_option maxHeartbeats 6400000 in
theorem rright6_c {w : World} {v : Value} {l : List In} (h : Ins w v l) (hw : ∀ i ∈ l, i.Wf) : Calls Try.prog 12 #[v] w fun x w' => x = .returned (.tuple #[.int .i64 (rightP l : Int), .int .i64 (rightE l : Int)]) ∧ Calm w w' := by
  have EC := Lib.hid (rencode_c h hw)
  obtain ⟨A, cap, rfl, hcap, hmax⟩ := h.form
  have HI := Lib.hid h
  have HW := Lib.hid hw
  obtain ⟨n, hn⟩ : ∃ n, n = l.length := ⟨_, rfl⟩
  have HN := Lib.hid hn
  rw [← hn] at HI EC ⊢
  clear h hw hn hcap hmax
  go_enter Try.func12, Try.ntmps12
  go_wp2_with fail
  refine EC.out.mono ?_
  rintro e' w1 ⟨hc1, hcase⟩
  have C1 := Lib.hid hc1
  clear EC hc1
  rcases hcase with ⟨hen, rfl⟩ | ⟨hen, rfl⟩
  rotate_left
  · have HE : Hid (rightP l = 0 ∧ rightE l = 1) := Lib.hid (by unfold rightP rightE; rw [hen]; exact ⟨rfl, rfl⟩)
    clear hen
    go_wp2_with fail
    go_ret2
    exact ⟨by rw [HE.out.1, HE.out.2]; rfl, C1.out⟩
  have HP := Lib.hid (enc_parts hen)
  have HE := Lib.hid hen
  have i1 : (1 : Int) ≤ (n : Int) := by have := HP.out.1; rw [← HN.out] at this; omega
  have i2 : (n : Int) ≤ 512 := by have := HP.out.2.1; rw [← HN.out] at this; omega
  clear hen
  generalize str (encL l) = ST
  go_wp2_with fail
  go_loopw [6] (fun i wr => ∃ k : Nat, k ≤ n ∧ i = .int .i64 k ∧ Calm w wr ∧ ∀ j, j < k → wrongO l j = false) (fun i _ => n - (intOf i).toNat)
  case atStart => exact ⟨0, by omega, rfl, C1.out, fun j hj => by omega⟩
  case round =>
    obtain ⟨k, hk, rfl, hcal, hno⟩ := hrel
    have HC := Lib.hid hcal
    have HO := Lib.hid hno
    clear hcal hno
    by_cases hlt : k < n
    · have i3 : (k : Int) < (n : Int) := by omega
      have HLT : Hid (k < l.length) := Lib.hid (by rw [← HN.out]; exact hlt)
      obtain ⟨ad, x, rfl, hx, hat⟩ := HI.out.at_ HC.out k HLT.out
      have HX := Lib.hid hx
      have HXW := Lib.hid (HW.out x (List.mem_of_getElem? hx))
      have FC := rhalf_c (HI.out.calm HC.out) k (by have := HLT.out; omega)
      rw [hfR_right HP.out.2.2 k (by have := HLT.out; omega)] at FC
      have FC := Lib.hid FC
      have HS := Lib.hid (wrong_split HP.out.2.2 hx)
      have HAT := Lib.hid hat
      clear hx hat
      go_wp2_with fail
      refine FC.out.mono ?_
      rintro e' w2 ⟨rfl, hc2⟩
      have C2 := Lib.hid (HC.out.trans hc2)
      have HAT2 := Lib.hid (HAT.out.calm hc2)
      clear hc2 FC HC HAT
      have key : ∀ wx, Calm w wx → InAt wx (ad.add (k * 5)) x → wrongO l k = wr5 l k x → Hid (Calm w wx ∧ InAt wx (ad.add (k * 5)) x ∧ wrongO l k = wr5 l k x) := fun wx a b c => Lib.hid ⟨a, b, c⟩
      rcases hH : isHalfO l k with _ | _
      · have BC := Lib.hid (rbad_c (HI.out.calm C2.out) HP.out.2.1 HP.out.2.2 HX.out HXW.out (known_at HP.out.2.2 HX.out hH))
        rw [hH] at HS
        clear hH
        go_wp2_with fail
        refine BC.out.mono ?_
        rintro e' w3 ⟨rfl, hc3⟩
        have C3 := Lib.hid (C2.out.trans hc3)
        have HAT3 := Lib.hid (HAT2.out.calm hc3)
        clear hc3 BC C2 HAT2
        rcases hB : badO l k x with _ | _
        · have K := key w3 C3.out HAT3.out (by rw [HS.out, hB]; rfl)
          clear hB C3 HAT3 key HS
          obtain ⟨e0, e1, e2, e3, e4⟩ := K.out.2.1
          by_cases hend : k + 1 = n
          · have d1 : ((k : Int) == (n : Int) - 1) = true := by rw [beq_iff_eq]; omega
            by_cases h9 : x.op = 149
            · have d2 : ((x.op : Int) != 149) = false := by rw [h9]; rfl
              have HA : Hid (∀ j, j < k + 1 → wrongO l j = false) := Lib.hid (fun j hj => by
                rcases Nat.lt_or_ge j k with hlt | hge
                · exact HO.out j hlt
                · obtain rfl : j = k := by omega
                  rw [K.out.2.2]; unfold wr5; rw [h9]; simp)
              clear h9 hend
              go_wp2_with fail
              go_roundw
              case rel => exact ⟨k + 1, by omega, by go_num, K.out.1, HA.out⟩
              case measure => simp [intOf]; omega
            · have d2 : ((x.op : Int) != 149) = true := by rw [bne_iff_ne]; omega
              have hz : firstO l = some k := firstO_some.2 ⟨HLT.out, by rw [K.out.2.2]; unfold wr5; rw [decide_eq_true (by rw [← HN.out]; exact hend), decide_eq_true h9]; rfl, HO.out⟩
              have HZ : Hid (rightP l = k ∧ rightE l = 7) := Lib.hid (by unfold rightP rightE firstP firstE; rw [HE.out, hz]; exact ⟨rfl, rfl⟩)
              clear hz h9 hend
              go_wp2_with fail
              go_ret2
              exact ⟨by rw [HZ.out.1, HZ.out.2]; rfl, K.out.1⟩
          · have d1 : ((k : Int) == (n : Int) - 1) = false := by rw [beq_eq_false_iff_ne]; omega
            have HA : Hid (∀ j, j < k + 1 → wrongO l j = false) := Lib.hid (fun j hj => by
              rcases Nat.lt_or_ge j k with hlt | hge
              · exact HO.out j hlt
              · obtain rfl : j = k := by omega
                rw [K.out.2.2]; unfold wr5; rw [decide_eq_false (by rw [← HN.out]; exact hend)]; rfl)
            clear hend
            go_wp2_with fail
            go_roundw
            case rel => exact ⟨k + 1, by omega, by go_num, K.out.1, HA.out⟩
            case measure => simp [intOf]; omega
        · have hz : firstO l = some k := firstO_some.2 ⟨HLT.out, by rw [HS.out, hB]; rfl, HO.out⟩
          have HZ : Hid (rightP l = k ∧ rightE l = 7) := Lib.hid (by unfold rightP rightE firstP firstE; rw [HE.out, hz]; exact ⟨rfl, rfl⟩)
          clear hz hB key HS
          go_wp2_with fail
          go_ret2
          exact ⟨by rw [HZ.out.1, HZ.out.2]; rfl, C3.out⟩
      · have K := key w2 C2.out HAT2.out (by rw [HS.out, hH]; rfl)
        clear hH C2 HAT2 key HS
        obtain ⟨e0, e1, e2, e3, e4⟩ := K.out.2.1
        by_cases hend : k + 1 = n
        · have d1 : ((k : Int) == (n : Int) - 1) = true := by rw [beq_iff_eq]; omega
          by_cases h9 : x.op = 149
          · have d2 : ((x.op : Int) != 149) = false := by rw [h9]; rfl
            have HA : Hid (∀ j, j < k + 1 → wrongO l j = false) := Lib.hid (fun j hj => by
              rcases Nat.lt_or_ge j k with hlt | hge
              · exact HO.out j hlt
              · obtain rfl : j = k := by omega
                rw [K.out.2.2]; unfold wr5; rw [h9]; simp)
            clear h9 hend
            go_wp2_with fail
            go_roundw
            case rel => exact ⟨k + 1, by omega, by go_num, K.out.1, HA.out⟩
            case measure => simp [intOf]; omega
          · have d2 : ((x.op : Int) != 149) = true := by rw [bne_iff_ne]; omega
            have hz : firstO l = some k := firstO_some.2 ⟨HLT.out, by rw [K.out.2.2]; unfold wr5; rw [decide_eq_true (by rw [← HN.out]; exact hend), decide_eq_true h9]; rfl, HO.out⟩
            have HZ : Hid (rightP l = k ∧ rightE l = 7) := Lib.hid (by unfold rightP rightE firstP firstE; rw [HE.out, hz]; exact ⟨rfl, rfl⟩)
            clear hz h9 hend
            go_wp2_with fail
            go_ret2
            exact ⟨by rw [HZ.out.1, HZ.out.2]; rfl, K.out.1⟩
        · have d1 : ((k : Int) == (n : Int) - 1) = false := by rw [beq_eq_false_iff_ne]; omega
          have HA : Hid (∀ j, j < k + 1 → wrongO l j = false) := Lib.hid (fun j hj => by
            rcases Nat.lt_or_ge j k with hlt | hge
            · exact HO.out j hlt
            · obtain rfl : j = k := by omega
              rw [K.out.2.2]; unfold wr5; rw [decide_eq_false (by rw [← HN.out]; exact hend)]; rfl)
          clear hend
          go_wp2_with fail
          go_roundw
          case rel => exact ⟨k + 1, by omega, by go_num, K.out.1, HA.out⟩
          case measure => simp [intOf]; omega
    · obtain rfl : k = n := by omega
      have hz : firstO l = none := firstO_none.2 (fun j hj => HO.out j (by rw [HN.out]; exact hj))
      have HZ : Hid (rightP l = 0 ∧ rightE l = 0) := Lib.hid (by unfold rightP rightE firstP firstE; rw [HE.out, hz]; exact ⟨rfl, rfl⟩)
      clear hz
      go_wp2_with fail
      go_ret2
      exact ⟨by rw [HZ.out.1, HZ.out.2]; rfl, HC.out⟩
end Go.Proofs.Ythmiiddojccafaa
