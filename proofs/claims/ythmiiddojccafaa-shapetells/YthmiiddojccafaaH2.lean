/-
  Package shape: mayLead, and what Right looks for.
-/
import Derived.Test.YthmiiddojccafaaH1
namespace Go.Proofs.Ythmiiddojccafaa
open Go.RowKit
set_option linter.all false

set_option maxHeartbeats 1600000 in
theorem mayLead_c {w : World} {v : Value} {l : List In} (h : Ins w v l) (hl : l.length ≤ 512) {k : Nat} {x : In} (hx : l[k]? = some x) (hw : x.Wf) : Calls Try.prog 31 #[v, .int .i64 (k : Int)] w fun y w' => y = .returned (.bool (leadO l k x)) ∧ Calm w w' := by
  have TC := Lib.hid (target_c h hl hx hw)
  obtain ⟨A, cap, rfl, hcap, hmax⟩ := h.form
  have hk := (List.getElem?_eq_some_iff.1 hx).1
  obtain ⟨ad, y, rfl, hy, hat⟩ := h.at_ (Keep.refl _ w) k hk
  obtain rfl : x = y := by rw [hx] at hy; injection hy
  obtain ⟨e0, e1, e2, e3, e4⟩ := hat
  have HI := Lib.hid h
  obtain ⟨n, hn⟩ : ∃ n, n = l.length := ⟨_, rfl⟩
  rw [← hn] at hl hk HI ⊢
  have i1 : (k : Int) < (n : Int) := by omega
  have i2 : (k : Int) ≤ 512 := by omega
  have HN := Lib.hid hn
  have HX := Lib.hid hx
  have HW := Lib.hid hw
  have HL := Lib.hid hl
  have hd : decide ((k : Int) + 1 + x.off < (l.length : Int)) = decide ((k : Int) + 1 + x.off < (n : Int)) := by rw [hn]
  rw [← hn] at TC
  clear h hl hx hw hk hy hn hcap hmax
  by_cases h1 : 0 ≤ x.off
  · by_cases h2 : (k : Int) + 1 + x.off < (n : Int)
    · obtain ⟨m, hm⟩ : ∃ m : Nat, (k : Int) + 1 + x.off = (m : Int) := ⟨((k : Int) + 1 + x.off).toNat, by omega⟩
      rw [hm] at TC
      have hR : leadO l k x = !isHalfO l m := by
        unfold leadO
        rw [hd, decide_eq_true h1, decide_eq_true h2, hm]
        rfl
      rw [hR]
      have d1 : decide (0 ≤ x.off) = true := decide_eq_true h1
      rw [hm] at h2
      have HC := Lib.hid (fun w' (hc : Calm w w') => isHalf_c (HI.out.calm hc) (by rw [← HN.out]; exact HL.out) m (by rw [← HN.out]; omega))
      clear hR hd hm HI HX HW HL HN
      go_enter Try.func31, Try.ntmps31
      go_wp2_with fail
      refine TC.out.mono ?_
      rintro e' w1 ⟨rfl, hc1⟩
      have HK := Lib.hid hc1
      have f3 := (hc1.cell (World.block_lt_of_cell? _ _ e3) (fun e => e)).trans e3
      clear hc1 TC e0 e1 e2 e3 e4
      go_wp2_with fail
      refine (HC.out _ HK.out).mono ?_
      rintro e' w2 ⟨rfl, hc2⟩
      go_wp2_with fail
      go_ret
      exact ⟨rfl, HK.out.trans hc2⟩
    · have hR : leadO l k x = false := by
        unfold leadO
        rw [hd, decide_eq_false h2]
        simp
      rw [hR]
      have d1 : decide (0 ≤ x.off) = true := decide_eq_true h1
      have d2 : decide ((k : Int) + 1 + x.off < (n : Int)) = false := decide_eq_false h2
      clear hR hd HI HX HW HL HN h1 h2
      go_enter Try.func31, Try.ntmps31
      go_wp2_with fail
      refine TC.out.mono ?_
      rintro e' w1 ⟨rfl, hc1⟩
      have HK := Lib.hid hc1
      have f3 := (hc1.cell (World.block_lt_of_cell? _ _ e3) (fun e => e)).trans e3
      clear hc1 TC e0 e1 e2 e3 e4
      go_wp2_with fail
      go_ret
      exact ⟨rfl, HK.out⟩
  · have hR : leadO l k x = false := by
      unfold leadO
      rw [decide_eq_false h1]
      rfl
    rw [hR]
    have d1 : decide (0 ≤ x.off) = false := decide_eq_false h1
    clear hR hd HI HX HW HL HN h1
    go_enter Try.func31, Try.ntmps31
    go_wp2_with fail
    refine TC.out.mono ?_
    rintro e' w1 ⟨rfl, hc1⟩
    have HK := Lib.hid hc1
    have f3 := (hc1.cell (World.block_lt_of_cell? _ _ e3) (fun e => e)).trans e3
    clear hc1 TC e0 e1 e2 e3 e4
    go_wp2_with fail
    go_ret
    exact ⟨rfl, HK.out⟩

/-- What is wrong, one by one. -/
def wr1 (x : In) : Bool := decide (10 < x.dst) || decide (10 < x.src)
def wr2 (x : In) : Bool := decide (x.dst = 10) && writesO x.op
def wr3 (x : In) : Bool := decide (x.op = 133) && !helpO x.imm
def wr4 (l : List In) (k : Nat) (x : In) : Bool := jumpsO x.op && !leadO l k x
def wr5 (l : List In) (k : Nat) (x : In) : Bool := decide (k + 1 = l.length) && decide (x.op ≠ 149)

set_option maxHeartbeats 1600000 in
theorem clo1_c {w : World} {v : Value} {l : List In} (h : Ins w v l) (hl : l.length ≤ 512) {k : Nat} {x : In} (hx : l[k]? = some x) (hw : x.Wf) {g : Nat} (hg : w.cell? ⟨g, 0, none⟩ = some v) : Calls Try.prog 24 #[.int .i64 (k : Int), .pointer (some ⟨g, 0, none⟩)] w fun y w' => y = .returned (.bool (wr1 x)) ∧ Calm w w' := by
  obtain ⟨A, cap, rfl, hcap, hmax⟩ := h.form
  have hk := (List.getElem?_eq_some_iff.1 hx).1
  obtain ⟨ad, y, rfl, hy, hat⟩ := h.at_ (Keep.refl _ w) k hk
  obtain rfl : x = y := by rw [hx] at hy; injection hy
  obtain ⟨e0, e1, e2, e3, e4⟩ := hat
  have HI := Lib.hid h
  obtain ⟨n, hn⟩ : ∃ n, n = l.length := ⟨_, rfl⟩
  rw [← hn] at hl hk HI hg
  have i1 : (k : Int) < (n : Int) := by omega
  have i2 : (k : Int) ≤ 512 := by omega
  have HN := Lib.hid hn
  have HX := Lib.hid hx
  have HW := Lib.hid hw
  clear h hl hx hw hk hy hn hcap hmax HI HX HW HN
  by_cases h1 : 10 < x.dst
  · have hR : wr1 x = true := by unfold wr1; rw [decide_eq_true h1]; rfl
    rw [hR]
    have d1 : decide ((10 : Int) < (x.dst : Int)) = true := decide_eq_true (by omega)
    clear hR h1
    go_enter Try.func24, Try.ntmps24
    go_wp2_with fail
    go_ret
    exact ⟨rfl, Keep.refl _ w⟩
  · have hR : wr1 x = decide (10 < x.src) := by unfold wr1; rw [decide_eq_false h1]; rfl
    rw [hR]
    have d1 : decide ((10 : Int) < (x.dst : Int)) = false := decide_eq_false (by omega)
    have d2 : decide ((10 : Int) < (x.src : Int)) = decide (10 < x.src) := decide_eq_decide.2 (by omega)
    clear hR h1
    generalize decide (10 < x.src) = B at d2 ⊢
    go_enter Try.func24, Try.ntmps24
    go_wp2_with fail
    go_ret
    exact ⟨rfl, Keep.refl _ w⟩
set_option maxHeartbeats 1600000 in
theorem clo2_c {w : World} {v : Value} {l : List In} (h : Ins w v l) (hl : l.length ≤ 512) {k : Nat} {x : In} (hx : l[k]? = some x) (hw : x.Wf) {g : Nat} (hg : w.cell? ⟨g, 0, none⟩ = some v) : Calls Try.prog 25 #[.int .i64 (k : Int), .pointer (some ⟨g, 0, none⟩)] w fun y w' => y = .returned (.bool (wr2 x)) ∧ Calm w w' := by
  obtain ⟨A, cap, rfl, hcap, hmax⟩ := h.form
  have hk := (List.getElem?_eq_some_iff.1 hx).1
  obtain ⟨ad, y, rfl, hy, hat⟩ := h.at_ (Keep.refl _ w) k hk
  obtain rfl : x = y := by rw [hx] at hy; injection hy
  obtain ⟨e0, e1, e2, e3, e4⟩ := hat
  have HI := Lib.hid h
  obtain ⟨n, hn⟩ : ∃ n, n = l.length := ⟨_, rfl⟩
  rw [← hn] at hl hk HI hg
  have i1 : (k : Int) < (n : Int) := by omega
  have i2 : (k : Int) ≤ 512 := by omega
  have HN := Lib.hid hn
  have HX := Lib.hid hx
  have HW := Lib.hid hw
  have WC := Lib.hid (fun w => writes_c (op := x.op) x.dst x.src x.off x.imm w hw.op)
  clear h hl hx hw hk hy hn hcap hmax HI HX HW HN
  by_cases h1 : x.dst = 10
  · have hR : wr2 x = writesO x.op := by unfold wr2; rw [decide_eq_true h1]; rfl
    rw [hR]
    have d1 : ((x.dst : Int) == 10) = true := by rw [beq_iff_eq]; omega
    clear hR h1
    go_enter Try.func25, Try.ntmps25
    go_wp2_with fail
    refine (WC.out _).mono ?_
    rintro e' w1 ⟨rfl, hc1⟩
    go_wp2_with fail
    go_ret
    exact ⟨rfl, hc1⟩
  · have hR : wr2 x = false := by unfold wr2; rw [decide_eq_false h1]; rfl
    rw [hR]
    have d1 : ((x.dst : Int) == 10) = false := by rw [beq_eq_false_iff_ne]; omega
    clear hR h1
    go_enter Try.func25, Try.ntmps25
    go_wp2_with fail
    go_ret
    exact ⟨rfl, Keep.refl _ w⟩
set_option maxHeartbeats 1600000 in
theorem clo3_c {w : World} {v : Value} {l : List In} (h : Ins w v l) (hl : l.length ≤ 512) {k : Nat} {x : In} (hx : l[k]? = some x) (hw : x.Wf) {g : Nat} (hg : w.cell? ⟨g, 0, none⟩ = some v) : Calls Try.prog 27 #[.int .i64 (k : Int), .pointer (some ⟨g, 0, none⟩)] w fun y w' => y = .returned (.bool (wr3 x)) ∧ Calm w w' := by
  obtain ⟨A, cap, rfl, hcap, hmax⟩ := h.form
  have hk := (List.getElem?_eq_some_iff.1 hx).1
  obtain ⟨ad, y, rfl, hy, hat⟩ := h.at_ (Keep.refl _ w) k hk
  obtain rfl : x = y := by rw [hx] at hy; injection hy
  obtain ⟨e0, e1, e2, e3, e4⟩ := hat
  have HI := Lib.hid h
  obtain ⟨n, hn⟩ : ∃ n, n = l.length := ⟨_, rfl⟩
  rw [← hn] at hl hk HI hg
  have i1 : (k : Int) < (n : Int) := by omega
  have i2 : (k : Int) ≤ 512 := by omega
  have HN := Lib.hid hn
  have HX := Lib.hid hx
  have HW := Lib.hid hw
  have WC := Lib.hid (fun w => isHelper_c w x.imm)
  clear h hl hx hw hk hy hn hcap hmax HI HX HW HN
  by_cases h1 : x.op = 133
  · have hR : wr3 x = !helpO x.imm := by unfold wr3; rw [decide_eq_true h1]; rfl
    rw [hR]
    have d1 : ((x.op : Int) == 133) = true := by rw [beq_iff_eq]; omega
    clear hR h1
    go_enter Try.func27, Try.ntmps27
    go_wp2_with fail
    refine (WC.out _).mono ?_
    rintro e' w1 ⟨rfl, hc1⟩
    go_wp2_with fail
    go_ret
    exact ⟨rfl, hc1⟩
  · have hR : wr3 x = false := by unfold wr3; rw [decide_eq_false h1]; rfl
    rw [hR]
    have d1 : ((x.op : Int) == 133) = false := by rw [beq_eq_false_iff_ne]; omega
    clear hR h1
    go_enter Try.func27, Try.ntmps27
    go_wp2_with fail
    go_ret
    exact ⟨rfl, Keep.refl _ w⟩
set_option maxHeartbeats 1600000 in
theorem clo4_c {w : World} {v : Value} {l : List In} (h : Ins w v l) (hl : l.length ≤ 512) {k : Nat} {x : In} (hx : l[k]? = some x) (hw : x.Wf) {g : Nat} (hg : w.cell? ⟨g, 0, none⟩ = some v) : Calls Try.prog 29 #[.int .i64 (k : Int), .pointer (some ⟨g, 0, none⟩)] w fun y w' => y = .returned (.bool (wr4 l k x)) ∧ Calm w w' := by
  obtain ⟨A, cap, rfl, hcap, hmax⟩ := h.form
  have hk := (List.getElem?_eq_some_iff.1 hx).1
  obtain ⟨ad, y, rfl, hy, hat⟩ := h.at_ (Keep.refl _ w) k hk
  obtain rfl : x = y := by rw [hx] at hy; injection hy
  obtain ⟨e0, e1, e2, e3, e4⟩ := hat
  have HI := Lib.hid h
  obtain ⟨n, hn⟩ : ∃ n, n = l.length := ⟨_, rfl⟩
  rw [← hn] at hl hk HI hg
  have i1 : (k : Int) < (n : Int) := by omega
  have i2 : (k : Int) ≤ 512 := by omega
  have HN := Lib.hid hn
  have HX := Lib.hid hx
  have HW := Lib.hid hw
  have JC := Lib.hid (fun w => jumps_c (op := x.op) x.dst x.src x.off x.imm w hw.op)
  have HC := Lib.hid (fun w' (hc : Calm w w') => mayLead_c (HI.out.calm hc) (by rw [← HN.out]; exact hl) HX.out HW.out)
  clear h hl hx hw hk hy hn hcap hmax HI HX HW HN
  have hR : wr4 l k x = (jumpsO x.op && !leadO l k x) := rfl
  rw [hR]
  clear hR
  obtain ⟨B, hB⟩ : ∃ B, B = jumpsO x.op := ⟨_, rfl⟩
  rw [← hB] at JC ⊢
  clear hB
  go_enter Try.func29, Try.ntmps29
  go_wp2_with fail
  refine (JC.out _).mono ?_
  rintro e' w1 ⟨rfl, hc1⟩
  have HK := Lib.hid hc1
  have hg' := (hc1.cell (World.block_lt_of_cell? _ _ hg) (fun e => e)).trans hg
  clear hc1 JC e0 e1 e2 e3 e4 hg
  cases B
  · go_wp2_with fail
    go_ret
    exact ⟨rfl, HK.out⟩
  · go_wp2_with fail
    refine (HC.out _ HK.out).mono ?_
    rintro e' w2 ⟨rfl, hc2⟩
    go_wp2_with fail
    go_ret
    exact ⟨rfl, HK.out.trans hc2⟩
set_option maxHeartbeats 1600000 in
theorem clo5_c {w : World} {v : Value} {l : List In} (h : Ins w v l) (hl : l.length ≤ 512) {k : Nat} {x : In} (hx : l[k]? = some x) (hw : x.Wf) {g : Nat} (hg : w.cell? ⟨g, 0, none⟩ = some v) : Calls Try.prog 32 #[.int .i64 (k : Int), .pointer (some ⟨g, 0, none⟩)] w fun y w' => y = .returned (.bool (wr5 l k x)) ∧ Calm w w' := by
  obtain ⟨A, cap, rfl, hcap, hmax⟩ := h.form
  have hk := (List.getElem?_eq_some_iff.1 hx).1
  obtain ⟨ad, y, rfl, hy, hat⟩ := h.at_ (Keep.refl _ w) k hk
  obtain rfl : x = y := by rw [hx] at hy; injection hy
  obtain ⟨e0, e1, e2, e3, e4⟩ := hat
  have HI := Lib.hid h
  obtain ⟨n, hn⟩ : ∃ n, n = l.length := ⟨_, rfl⟩
  rw [← hn] at hl hk HI hg
  have i1 : (k : Int) < (n : Int) := by omega
  have i2 : (k : Int) ≤ 512 := by omega
  have HN := Lib.hid hn
  have HX := Lib.hid hx
  have HW := Lib.hid hw
  have i3 : (n : Int) ≤ 512 := by omega
  by_cases h1 : k + 1 = n
  · have hR : wr5 l k x = ((x.op : Int) != 149) := by
      unfold wr5
      rw [decide_eq_true (by rw [← hn]; exact h1)]
      by_cases h2 : x.op = 149
      · rw [h2]; rfl
      · have : ((x.op : Int) != 149) = true := by rw [bne_iff_ne]; omega
        rw [this]; simp [h2]
    rw [hR]
    have d1 : ((k : Int) == (n : Int) - 1) = true := by rw [beq_iff_eq]; omega
    clear hR h1 h hl hx hw hk hy hn hcap hmax HI HX HW HN
    go_enter Try.func32, Try.ntmps32
    go_wp2_with fail
    go_ret
    exact ⟨rfl, Keep.refl _ w⟩
  · have hR : wr5 l k x = false := by
      unfold wr5
      rw [decide_eq_false (by rw [← hn]; exact h1)]
      rfl
    rw [hR]
    have d1 : ((k : Int) == (n : Int) - 1) = false := by rw [beq_eq_false_iff_ne]; omega
    clear hR h1 h hl hx hw hk hy hn hcap hmax HI HX HW HN
    go_enter Try.func32, Try.ntmps32
    go_wp2_with fail
    go_ret
    exact ⟨rfl, Keep.refl _ w⟩
end Go.Proofs.Ythmiiddojccafaa
