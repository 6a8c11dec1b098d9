/-
  Package store: Load, Save.
-/
import Derived.Test.YtfigiofiakkbdaaDoorS5
namespace Go.Proofs.YtfigiofiakkbdaaDoor
open Go.RowKit
set_option linter.all false

section
variable {w0 w : World} {T : Nat → Prop} {d sb : Nat} {σ : SS}
set_option maxHeartbeats 800000 in
theorem sload_none (h : Sm w0 w T d sb σ) (hk : σ.kept = none) :
    Calls Tryd.prog 18 #[.pointer (some ⟨sb, 0, none⟩)] w fun e w' => e = .returned (.tuple #[.slice none 0 0, .int .i64 3]) ∧ w = w' := by
  obtain ⟨-, -, -, c4⟩ := h.cells
  have c3 := h.kept0 hk
  clear h hk
  go_enter Tryd.func18, Tryd.ntmps18
  go_wp2_with fail
  go_ret2
  exact ⟨rfl, rfl⟩
set_option maxHeartbeats 800000 in
theorem sload_some (h : Sm w0 w T d sb σ) {y n : Nat} {bs : List UInt8} (hk : σ.kept = some (y, n, bs)) (hl : bs.length ≤ 1000000000) :
    Calls Tryd.prog 18 #[.pointer (some ⟨sb, 0, none⟩)] w fun e w' => ∃ A cap, e = .returned (.tuple #[.slice A bs.length cap, .int .i64 0]) ∧ Own w' w.heap.size (.slice A bs.length cap) bs ∧ Calm w w' := by
  obtain ⟨-, -, -, c4⟩ := h.cells
  obtain ⟨-, -, tb, dv, c3, t0, t1, t2, hi⟩ := h.kept1 hk
  have CL := Lib.hid (cloneB_rd hi.rd hl)
  obtain ⟨A0, cap0, rfl⟩ := hi.form
  clear h hk hi
  go_enter Tryd.func18, Tryd.ntmps18
  go_wp2_with fail
  refine CL.out.mono ?_
  rintro e w1 ⟨v', rfl, h1, c1⟩
  obtain ⟨A, cap, rfl, -⟩ := h1.any
  have H1 := Lib.hid h1
  have C1 := Lib.hid c1
  clear h1 c1 CL
  go_wp2_with fail
  go_ret2
  exact ⟨A, cap, rfl, H1.out, C1.out⟩
set_option maxHeartbeats 800000 in
theorem ssave_full (h : Sm w0 w T d sb σ) (h1 : 1 ≤ σ.h) (h2 : σ.h ≤ 4096) (A : Option Addr) (n c : Nat) (hn : ((σ.h : Int) - 1) * 512 - 24 < (n : Int)) :
    Calls Tryd.prog 15 #[.pointer (some ⟨sb, 0, none⟩), .slice A n c] w fun e w' => e = .returned (.int .i64 5) ∧ w = w' := by
  obtain ⟨-, -, -, c4⟩ := h.cells
  have RM := Lib.hid (sroom_c h h1 h2)
  have t : decide (((σ.h : Int) - 1) * 512 - 24 < (n : Int)) = true := decide_eq_true hn
  generalize ((σ.h : Int) - 1) * 512 - 24 = rm at *
  clear h h1 h2
  go_enter Tryd.func15, Tryd.ntmps15
  go_wp2_with (refine RM.out.mono ?_; rintro e w1 ⟨rfl, rfl⟩)
  go_ret
  exact ⟨rfl, rfl⟩
end
theorem SS.jp_T {w0 w : World} {T : Nat → Prop} {d sb : Nat} {σ : SS} (h : Sm w0 w T d sb σ) (y : Nat) : T (σ.jp y) := by unfold SS.jp; split; exact h.ta; exact h.tb
theorem Sm.jrow {w0 w : World} {T : Nat → Prop} {d sb : Nat} {σ : SS} (h : Sm w0 w T d sb σ) (y : Nat) : JRow w (σ.jp y) d (σ.J y) := by unfold SS.jp SS.J; split; exact h.ra; exact h.rb
theorem Sm.jcell {w0 w : World} {T : Nat → Prop} {d sb : Nat} {σ : SS} (h : Sm w0 w T d sb σ) {y : Nat} (hy : y ≤ 1) : w.cell? ⟨sb, y, none⟩ = some (.pointer (some ⟨σ.jp y, 0, none⟩)) := by
  obtain ⟨c0, c1, -, -⟩ := h.cells
  unfold SS.jp
  split
  · rename_i e; subst e; exact c0
  · obtain rfl : y = 1 := by omega
    exact c1
/-- A half's journal is turned, and something new is kept. -/
theorem Sm.turned {w0 w w' : World} {T T' Q : Nat → Prop} {d sb : Nat} {σ : SS} (h : Sm w0 w T d sb σ) {y : Nat} (hy : y ≤ 1) {J' : JS} (hj : JRow w' (σ.jp y) d J') (k : Keep Q w w') (hQ : ∀ g, T g → g ≠ σ.jp y → ¬ Q g) {kv : Value} {o : Option (Nat × Nat × List UInt8)} (hT : ∀ k, T k → T' k) (hn : ∀ k, T' k → w0.heap.size ≤ k) (hlt : ∀ k, T' k → k < w'.heap.size) (hk : KeptIs w' T' kv o) :
    Sm w0 (w'.setCell ⟨sb, 3, none⟩ kv) T' d sb { σ.put y J' with kept := o } := by
  obtain ⟨kv0, h1, h2⟩ := h.row
  have nja : σ.ja ≠ sb := fun e => (Row.ne h.ra h1 (by decide)) e
  have njb : σ.jb ≠ sb := fun e => (Row.ne h.rb h1 (by decide)) e
  have nsj : sb ≠ σ.jp y := by unfold SS.jp; split; exact nja.symm; exact njb.symm
  have r1 : Row w' sb 75 #[.pointer (some ⟨σ.ja, 0, none⟩), .pointer (some ⟨σ.jb, 0, none⟩), .int .i64 (σ.h : Int), kv0, .bool false] := h1.keep k (hQ sb h.ts nsj)
  have r2 := r1.store 3 kv
  have kk : Keep (· = sb) w' (w'.setCell ⟨sb, 3, none⟩ kv) := (Keep.refl (· = sb) w').store (p := ⟨sb, 3, none⟩) (fun _ => rfl) _
  have hk2 : KeptIs (w'.setCell ⟨sb, 3, none⟩ kv) T' kv o := hk.keepT kk (fun g t cur _ ht hrow e => by subst e; exact (hrow.ne r1 (by rcases ht with rfl | rfl <;> decide)) rfl)
  have hjj : JRow (w'.setCell ⟨sb, 3, none⟩ kv) (σ.jp y) d J' := hj.keep kk nsj.symm
  have hz : (w'.setCell ⟨sb, 3, none⟩ kv).heap.size = w'.heap.size := by rw [World.size_setCell]
  by_cases e : y = 0
  · subst e
    have hb : JRow w' σ.jb d σ.B := h.rb.keep k (hQ _ h.tb (fun e => h.ne e.symm))
    exact ⟨⟨kv, by simpa [SS.put] using r2, hk2⟩, by simpa [SS.put, SS.jp] using hjj, by simpa [SS.put] using hb.keep kk njb, hT _ h.ts, by simpa [SS.put] using hT _ h.ta, by simpa [SS.put] using hT _ h.tb, by simpa [SS.put] using h.ne, hn, fun k hk => by rw [hz]; exact hlt k hk⟩
  · obtain rfl : y = 1 := by omega
    have ha : JRow w' σ.ja d σ.A := h.ra.keep k (hQ _ h.ta h.ne)
    exact ⟨⟨kv, by simpa [SS.put] using r2, hk2⟩, by simpa [SS.put] using ha.keep kk nja, by simpa [SS.put, SS.jp] using hjj, hT _ h.ts, by simpa [SS.put] using hT _ h.ta, by simpa [SS.put] using hT _ h.tb, by simpa [SS.put] using h.ne, hn, fun k hk => by rw [hz]; exact hlt k hk⟩

/-- The store behind a Save. -/
def SS.saved (σ : SS) (bs : List UInt8) : SS :=
  { σ.put σ.other { σ.J σ.other with free := (σ.J σ.other).from_ + 1 + secsOf (8 + bs.length), last := (σ.J σ.other).last + 2 } with kept := some (σ.other, σ.count + 1, bs) }
/-- What Save answers, where there is room. -/
def SaRes (w0 w : World) (R T : Nat → Prop) (d sb : Nat) (bs : List UInt8) (S : DS) (σ : SS) (e : Ending) (w' : World) : Prop :=
  ∃ R' T' S1, ((S.sv (σ.J σ.other) (le 8 (σ.count + 1) ++ bs) = (true, S1) ∧ e = .returned (.int .i64 0) ∧ Sto w0 w' R' T' d sb S1 (σ.saved bs)) ∨
    (S.sv (σ.J σ.other) (le 8 (σ.count + 1) ++ bs) = (false, S1) ∧ e = .returned (.int .i64 11) ∧ Sd w0 w' R' d S1)) ∧ Ext R R' w ∧ Ext T T' w ∧ Keep (fun k => R k ∨ T k) w w'

set_option maxRecDepth 100000 in
set_option maxHeartbeats 8000000 in
theorem ssave_c {w0 w : World} {R T : Nat → Prop} {d sb : Nat} {S : DS} {σ : SS} (hT : Tab w0) (h : Sto w0 w R T d sb S σ) (hfa : (σ.J σ.other).failed = false) (h1 : 2 ≤ σ.h) (hee : (σ.J σ.other).end_ = (σ.J σ.other).from_ + σ.h) (hen : (σ.J σ.other).end_ ≤ S.secs.length)
    (v : Value) (bs : List UInt8) (hv : Rd w v bs) (hroom : (bs.length : Int) ≤ ((σ.h : Int) - 1) * 512 - 24) (hc : σ.count < 4611686018427387904) (hl : (σ.J σ.other).last + 1 < 4611686018427387904) (hf : S.fine (secsOf (8 + bs.length) + 4)) :
    Calls Tryd.prog 15 #[.pointer (some ⟨sb, 0, none⟩), v] w (SaRes w0 w R T d sb bs S σ) := by
  have hfew := h.sd.few
  have hlb : bs.length ≤ 10000000 := by omega
  obtain ⟨A0, cap0, rfl, -, -⟩ := hv.form
  obtain ⟨-, -, -, c4⟩ := h.sm.cells
  have hy : σ.other ≤ 1 := by unfold SS.other; split <;> omega
  have f3 := h.sm.soft 3
  have f4 := h.sm.soft 4
  have RM := Lib.hid (sroom_c h.sm (by omega) (by omega))
  have t : decide (((σ.h : Int) - 1) * 512 - 24 < (bs.length : Int)) = false := decide_eq_false (by omega)
  have CT := Lib.hid (scount_c h.sm)
  have OT := Lib.hid (sother_c h.sm)
  have t2 : ((σ.count : Int) == 4611686018427387904) = false := by rw [beq_eq_false_iff_ne]; omega
  have CL := Lib.hid (cloneB_rd hv (by omega))
  have H := Lib.hid h
  have HF := Lib.hid (And.intro hfa (And.intro hee (And.intro hen (And.intro hroom (And.intro hc (And.intro hl (And.intro hf h1)))))))
  have HT := Lib.hid hT
  unfold SaRes
  obtain ⟨y, hyd⟩ : ∃ y, y = σ.other := ⟨_, rfl⟩
  obtain ⟨n, hnd⟩ : ∃ n, n = σ.count := ⟨_, rfl⟩
  rw [← hyd] at hy OT HF ⊢
  rw [← hnd] at CT t2 HF ⊢
  have HY := Lib.hid (And.intro hyd hnd)
  generalize ((σ.h : Int) - 1) * 512 - 24 = rm at RM t
  have ni : (n : Int) < 4611686018427387904 := by omega
  clear h hfa hee hen hroom hc hl hf hT hv hyd hnd hfew h1
  go_enter Tryd.func15, Tryd.ntmps15
  go_wp2_with (first | (go_at_call 21; refine RM.out.mono ?_; rintro e w1 ⟨rfl, rfl⟩) | (go_at_call 32; refine CT.out.mono ?_; rintro e w1 ⟨rfl, rfl⟩) | (go_at_call 33; refine OT.out.mono ?_; rintro e w1 ⟨rfl, rfl⟩))
  refine CL.out.mono ?_
  rintro e w1 ⟨v', rfl, ho1, hc1⟩
  obtain ⟨A1, cap1, rfl, -⟩ := ho1.any
  have O1 := Lib.hid ho1
  have C1 := Lib.hid hc1
  have TB : Hid (Row (w1.alloc (.cells #[.int .i64 (y : Int), .int .u64 ((n : Int) + 1), .slice A1 bs.length cap1] 79)) w1.heap.size 79 #[.int .i64 (y : Int), .int .u64 ((n : Int) + 1), .slice A1 bs.length cap1]) := Lib.hid (Row.made w1 _ _)
  have C2 : Hid (Calm w1 (w1.alloc (.cells #[.int .i64 (y : Int), .int .u64 ((n : Int) + 1), .slice A1 bs.length cap1] 79))) := Lib.hid ((Keep.refl _ w1).alloc _)
  have Z2 : Hid ((w1.alloc (.cells #[.int .i64 (y : Int), .int .u64 ((n : Int) + 1), .slice A1 bs.length cap1] 79)).heap.size = w1.heap.size + 1) := Lib.hid (by simp)
  clear ho1 hc1 CL RM CT OT t t2
  go_wp2_with fail
  generalize World.alloc w1 _ = w2 at *
  have hjn : Jn w0 w2 R d (σ.jp y) S (σ.J y) := ⟨H.out.sd.rest (C1.out.trans C2.out), (H.out.sm.jrow y).calm (C1.out.trans C2.out), H.out.dis _ (SS.jp_T H.out.sm y), H.out.sm.new _ (SS.jp_T H.out.sm y)⟩
  have hjl : σ.jp y < w.heap.size := H.out.sm.lt _ (SS.jp_T H.out.sm y)
  have hz1 := C1.out.size
  have hfr : ∀ k, w.heap.size ≤ k → ¬ RJ R (σ.jp y) k := fun k hk e => e.elim (fun e => H.out.sd.st.fresh hk e) (fun e => by omega)
  have TB' : Row w2 w1.heap.size 79 #[.int .i64 (y : Int), .int .u64 ((n + 1 : Nat) : Int), .slice A1 bs.length cap1] := by rw [show ((n + 1 : Nat) : Int) = (n : Int) + 1 by omega]; exact TB.out
  have I2 : InT w2 (fun k => w.heap.size ≤ k ∧ k < w1.heap.size) (.slice A1 bs.length cap1) bs := (InT.of_own O1.out).keep C2.out (fun _ _ e => e)
  have hF := HF.out
  have WR := swrite_c HT.out hjn hF.1 (by rw [hF.2.1]; omega) hF.2.2.1 hy ((C1.out.trans C2.out).cell (p := ⟨sb, y, none⟩) (H.out.sm.lt _ H.out.sm.ts) (fun e => e) |>.trans (H.out.sm.jcell hy)) TB' (hfr _ hz1) (I2.mono (fun k hk => hfr k hk.1)) (by omega) (by rw [hF.2.1]; omega) hF.2.2.2.2.2.1 hF.2.2.2.2.2.2.1
  have HWR := Lib.hid WR
  have HI2 := Lib.hid I2
  have HTB := Lib.hid TB'
  have HFR := Lib.hid hfr
  have HJL := Lib.hid (And.intro hjl hz1)
  clear WR I2 TB' hjn hfr TB hF hjl hz1
  refine HWR.out.mono ?_
  rintro e w3 ⟨R3, S3, hcase, hx3, hk3⟩
  have X3 : Hid (Ext R R3 w) := Lib.hid (hx3.calm (C1.out.trans C2.out).size)
  have X3' := Lib.hid hx3
  have K3 := Lib.hid hk3
  clear hx3 hk3 HWR
  have KK : Hid (Keep (fun k => R k ∨ T k) w w3) := Lib.hid ((Calm.keep (C1.out.trans C2.out) _).then_ K3.out (fun i hi e => e.imp id (fun e => by rw [e]; exact SS.jp_T H.out.sm y)))
  have hsl : sb < w.heap.size := H.out.sm.lt _ H.out.sm.ts
  have njs : σ.jp y ≠ sb := by
    obtain ⟨kv0, h1, h2⟩ := H.out.sm.row
    exact Row.ne (H.out.sm.jrow y) h1 (by decide)
  have nRJ : ¬ RJ R (σ.jp y) sb := fun e => e.elim (H.out.dis _ H.out.sm.ts) (fun e => njs e.symm)
  have g3 : w3.frozen? ⟨sb, 3, none⟩ = false := (K3.out.soft (p := ⟨sb, 3, none⟩) (Nat.lt_of_lt_of_le hsl (C1.out.trans C2.out).size) nRJ).trans (((C1.out.trans C2.out).soft (p := ⟨sb, 3, none⟩) hsl (fun e => e)).trans f3)
  have g4 : w3.frozen? ⟨sb, 4, none⟩ = false := (K3.out.soft (p := ⟨sb, 4, none⟩) (Nat.lt_of_lt_of_le hsl (C1.out.trans C2.out).size) nRJ).trans (((C1.out.trans C2.out).soft (p := ⟨sb, 4, none⟩) hsl (fun e => e)).trans f4)
  have e4 : w3.cell? ⟨sb, 4, none⟩ = some (.bool false) := (K3.out.cell (p := ⟨sb, 4, none⟩) (Nat.lt_of_lt_of_le hsl (C1.out.trans C2.out).size) nRJ).trans (((C1.out.trans C2.out).cell (p := ⟨sb, 4, none⟩) hsl (fun e => e)).trans c4)
  obtain ⟨kv3, e3⟩ : ∃ kv, w3.cell? ⟨sb, 3, none⟩ = some kv := by
    obtain ⟨kv0, h1, h2⟩ := H.out.sm.row
    exact ⟨kv0, (K3.out.cell (p := ⟨sb, 3, none⟩) (Nat.lt_of_lt_of_le hsl (C1.out.trans C2.out).size) nRJ).trans (((C1.out.trans C2.out).cell (p := ⟨sb, 3, none⟩) hsl (fun e => e)).trans (by rw [h1.cell]; rfl))⟩
  clear c4 f3 f4
  have HN := Lib.hid (And.intro hsl nRJ)
  clear njs nRJ hsl
  rcases hcase with ⟨hw, rfl, hj⟩ | ⟨hw, rfl, hs⟩
  rotate_left
  · have HW := Lib.hid hw
    have HS := Lib.hid hs
    clear hw hs
    go_wp2_with fail
    go_ret
    have kx : Keep (· = sb) w3 (w3.setCell ⟨sb, 4, none⟩ (.bool true)) := (Keep.refl (· = sb) w3).store (p := ⟨sb, 4, none⟩) (fun _ => rfl) _
    refine ⟨R3, T, S3, .inr ⟨HW.out, rfl, HS.out.apart kx (fun i e => by subst e; exact ⟨X3.out.not (H.out.dis _ H.out.sm.ts) HN.out.1, H.out.sm.new _ H.out.sm.ts⟩)⟩, X3.out, Ext.refl _ _, KK.out.trans (kx.mono (fun i _ e => by subst e; exact .inr H.out.sm.ts))⟩
  · have HW := Lib.hid hw
    have HJ := Lib.hid hj
    clear hw hj
    go_wp2_with fail
    go_ret
    have hlen : (le 8 (n + 1) ++ bs).length = 8 + bs.length := by simp [le_len]
    have kx : Keep (· = sb) w3 (w3.setCell ⟨sb, 3, none⟩ (.pointer (some ⟨w1.heap.size, 0, none⟩))) := (Keep.refl (· = sb) w3).store (p := ⟨sb, 3, none⟩) (fun _ => rfl) _
    have hz3 := K3.out.size
    have hz2 := Z2.out
    have hjl := HJL.out
    have kp : KeptIs w3 (fun k => T k ∨ (w.heap.size ≤ k ∧ k < w2.heap.size)) (.pointer (some ⟨w1.heap.size, 0, none⟩)) (some (y, n + 1, bs)) := ⟨hy, by omega, w1.heap.size, _, rfl, .inr ⟨by omega, by omega⟩, HTB.out.keep K3.out (HFR.out _ (by omega)), (HI2.out.keep K3.out (fun g hg => HFR.out g hg.1)).mono (fun k hk => .inr ⟨hk.1, by omega⟩)⟩
    have SM := H.out.sm.turned (T' := fun k => T k ∨ (w.heap.size ≤ k ∧ k < w2.heap.size)) hy (HJ.out.row) ((Calm.keep (C1.out.trans C2.out) _).trans K3.out) (fun g hg hne e => e.elim (H.out.dis g hg) hne) (fun k hk => .inl hk) (fun k hk => hk.elim (H.out.sm.new k) (fun e => Nat.le_trans H.out.calm.size e.1)) (fun k hk => hk.elim (fun e => Nat.lt_of_lt_of_le (H.out.sm.lt k e) (by omega)) (fun e => by omega)) kp
    refine ⟨R3, (fun k => T k ∨ (w.heap.size ≤ k ∧ k < w2.heap.size)), S3, .inl ⟨HW.out, rfl, ⟨HJ.out.sd.apart kx (fun i e => by subst e; exact ⟨X3.out.not (H.out.dis _ H.out.sm.ts) HN.out.1, H.out.sm.new _ H.out.sm.ts⟩), ?_, ?_⟩⟩, X3.out, fun k hk => hk.elim .inl (fun e => .inr e.1), KK.out.trans (kx.mono (fun i _ e => by subst e; exact .inr H.out.sm.ts))⟩
    · have hJr := SM
      rw [hlen] at hJr
      unfold SS.saved
      rw [← HY.out.1, ← HY.out.2]
      exact hJr
    · intro k hk hR
      rcases hk with hk | hk
      · exact X3.out.not (H.out.dis k hk) (H.out.sm.lt k hk) hR
      · rcases X3'.out k hR with e | e
        · exact H.out.sd.st.fresh hk.1 e
        · omega
end Go.Proofs.YtfigiofiakkbdaaDoor
