/-
  Package store: write.
-/
import Derived.Test.YtfigiofiakkbdaaDoorS4
namespace Go.Proofs.YtfigiofiakkbdaaDoor
open Go.RowKit
set_option linter.all false

theorem DS.put_fine1 {S S1 : DS} {f m n : Nat} {p : List UInt8} {ok : Bool} (e : S.put f p m = (ok, S1)) (hf : S.fine (n + m + 2)) : S1.fine n := by
  unfold DS.put at e
  rcases hw : S.wrs (others f m p) with ⟨ok2, S2⟩
  rw [hw] at e
  have h2 := DS.wrs_fine (n := n + 2) hw (by rw [others_len]; exact hf.mono (by omega))
  cases ok2
  · simp only [Prod.mk.injEq] at e; obtain ⟨_, rfl⟩ := e; exact h2.1.mono (by omega)
  · simp only at e
    split at e
    · have h3 := DS.wr_fine (n := n + 1) e h2.1
      exact h3.1.mono (by omega)
    · rcases hb : S2.bar with ⟨ok3, S3⟩
      rw [hb] at e
      have h3 := DS.bar_fine (n := n + 1) hb h2.1
      cases ok3
      · simp only [Prod.mk.injEq] at e; obtain ⟨_, rfl⟩ := e; exact h3.1.mono (by omega)
      · exact (DS.wr_fine (n := n) e h3.1).1

/-- What write answers. -/
def SvRes (w0 w : World) (R : Nat → Prop) (d jb : Nat) (b : List UInt8) (S : DS) (J : JS) (e : Ending) (w' : World) : Prop :=
  ∃ R' S1, ((S.sv J b = (true, S1) ∧ e = .returned (.bool true) ∧ Jn w0 w' R' d jb S1 { J with free := J.from_ + 1 + secsOf b.length, last := J.last + 2 }) ∨ (S.sv J b = (false, S1) ∧ e = .returned (.bool false) ∧ Sd w0 w' R' d S1)) ∧ Ext R R' w ∧ Keep (RJ R jb) w w'

theorem do_at0 (jb p q : Nat) (w : World) : Sem.run Tryd.prog (Instr.index 102 (.agg #[.func (.func 56) #[.pointer (some ⟨jb, 0, none⟩)] #[], .func (.func 50) #[.pointer (some ⟨jb, 0, none⟩)] #[], .func (.func 53) #[] #[.pointer (some ⟨p, 0, none⟩), .pointer (some ⟨q, 0, none⟩)], .func (.func 50) #[.pointer (some ⟨jb, 0, none⟩)] #[]]) (.int .i64 0)) w = .ok (.func (.func 56) #[.pointer (some ⟨jb, 0, none⟩)] #[]) w := by kernel_rfl
theorem do_at1 (jb p q : Nat) (w : World) : Sem.run Tryd.prog (Instr.index 102 (.agg #[.func (.func 56) #[.pointer (some ⟨jb, 0, none⟩)] #[], .func (.func 50) #[.pointer (some ⟨jb, 0, none⟩)] #[], .func (.func 53) #[] #[.pointer (some ⟨p, 0, none⟩), .pointer (some ⟨q, 0, none⟩)], .func (.func 50) #[.pointer (some ⟨jb, 0, none⟩)] #[]]) (.int .i64 1)) w = .ok (.func (.func 50) #[.pointer (some ⟨jb, 0, none⟩)] #[]) w := by kernel_rfl
theorem do_at2 (jb p q : Nat) (w : World) : Sem.run Tryd.prog (Instr.index 102 (.agg #[.func (.func 56) #[.pointer (some ⟨jb, 0, none⟩)] #[], .func (.func 50) #[.pointer (some ⟨jb, 0, none⟩)] #[], .func (.func 53) #[] #[.pointer (some ⟨p, 0, none⟩), .pointer (some ⟨q, 0, none⟩)], .func (.func 50) #[.pointer (some ⟨jb, 0, none⟩)] #[]]) (.int .i64 2)) w = .ok (.func (.func 53) #[] #[.pointer (some ⟨p, 0, none⟩), .pointer (some ⟨q, 0, none⟩)]) w := by kernel_rfl
theorem do_at3 (jb p q : Nat) (w : World) : Sem.run Tryd.prog (Instr.index 102 (.agg #[.func (.func 56) #[.pointer (some ⟨jb, 0, none⟩)] #[], .func (.func 50) #[.pointer (some ⟨jb, 0, none⟩)] #[], .func (.func 53) #[] #[.pointer (some ⟨p, 0, none⟩), .pointer (some ⟨q, 0, none⟩)], .func (.func 50) #[.pointer (some ⟨jb, 0, none⟩)] #[]]) (.int .i64 3)) w = .ok (.func (.func 50) #[.pointer (some ⟨jb, 0, none⟩)] #[]) w := by kernel_rfl

set_option maxRecDepth 100000 in
set_option maxHeartbeats 8000000 in
theorem swrite_c {w0 w : World} {R : Nat → Prop} {d jb : Nat} {S : DS} {J : JS} (hT : Tab w0) (h : Jn w0 w R d jb S J) (hfa : J.failed = false) (hle : J.from_ + 1 ≤ J.end_) (hen : J.end_ ≤ S.secs.length) {sb tb y n : Nat} {dv : Value} {bs : List UInt8} (hy : y ≤ 1) (hs : w.cell? ⟨sb, y, none⟩ = some (.pointer (some ⟨jb, 0, none⟩)))
    (hr : Row w tb 79 #[.int .i64 (y : Int), .int .u64 (n : Int), dv]) (htb : ¬ RJ R jb tb) (hd : InT w (fun k => ¬ RJ R jb k) dv bs) (hn : n < 18446744073709551616)
    (hroom : (8 + bs.length : Int) ≤ ((J.end_ : Int) - (J.from_ + 1)) * 512 - 16) (hl : J.last + 1 < 4611686018427387904) (hf : S.fine (secsOf (8 + bs.length) + 4)) :
    Calls Tryd.prog 35 #[.pointer (some ⟨sb, 0, none⟩), .pointer (some ⟨tb, 0, none⟩)] w (SvRes w0 w R d jb (le 8 n ++ bs) S J) := by
  have t0 : w.cell? ⟨tb, 0, none⟩ = some (.int .i64 (y : Int)) := by rw [hr.cell]; rfl
  have iy : (y : Int) ≤ 1 := by omega
  have HJ := Lib.hid h
  have HR := Lib.hid hr
  have HD := Lib.hid hd
  have HF := Lib.hid (And.intro hfa (And.intro hle (And.intro hen (And.intro hroom (And.intro hl (And.intro hf (And.intro htb hn)))))))
  have HT := Lib.hid hT
  have hbl : tb < w.heap.size ∧ sb < w.heap.size ∧ jb < w.heap.size := ⟨hr.lt, World.block_lt_of_cell? _ _ hs, h.lt⟩
  unfold SvRes
  clear h hr hd hfa hle hen hroom hl hf hT htb
  have ntb : ¬ w.heap.size = tb := by omega
  have nsb : ¬ w.heap.size = sb := by omega
  go_enter Tryd.func35, Tryd.ntmps35
  go_wp2_with fail
  have s1 : (w.alloc (.cells #[.pointer (some ⟨tb, 0, none⟩)] 73)).cell? ⟨sb, y, none⟩ = some (.pointer (some ⟨jb, 0, none⟩)) := (World.cell?_alloc_lt w _ _ (by simp; omega)).trans hs
  have s2 : (w.alloc (.cells #[.pointer (some ⟨tb, 0, none⟩)] 73)).cell? ⟨tb, 0, none⟩ = some (.int .i64 (y : Int)) := (World.cell?_alloc_lt w _ _ (by simp; omega)).trans t0
  have s3 : (w.alloc (.cells #[.pointer (some ⟨tb, 0, none⟩)] 73)).cell? ⟨w.heap.size, 0, none⟩ = some (.pointer (some ⟨tb, 0, none⟩)) := by rw [(Row.made w 73 _).cell]; rfl
  go_region
  go_wp2_with fail
  have C1 : Hid (Calm w ((w.alloc (.cells #[.pointer (some ⟨tb, 0, none⟩)] 73)).alloc (.cells #[.pointer (some ⟨jb, 0, none⟩)] 67)).drew) := Lib.hid (((Keep.refl _ w).alloc _).alloc _).drew
  have p1 : (((w.alloc (.cells #[.pointer (some ⟨tb, 0, none⟩)] 73)).alloc (.cells #[.pointer (some ⟨jb, 0, none⟩)] 67)).drew).cell? ⟨w.heap.size, 0, none⟩ = some (.pointer (some ⟨tb, 0, none⟩)) := (World.cell?_alloc_lt (w.alloc (.cells #[.pointer (some ⟨tb, 0, none⟩)] 73)) _ _ (by simp)).trans s3
  have p2 : (((w.alloc (.cells #[.pointer (some ⟨tb, 0, none⟩)] 73)).alloc (.cells #[.pointer (some ⟨jb, 0, none⟩)] 67)).drew).cell? ⟨w.heap.size + 1, 0, none⟩ = some (.pointer (some ⟨jb, 0, none⟩)) := by
    have := (Row.made (w.alloc (.cells #[.pointer (some ⟨tb, 0, none⟩)] 73)) 67 #[.pointer (some ⟨jb, 0, none⟩)]).cell 0
    rw [World.size_alloc] at this
    exact this
  have z1 : (((w.alloc (.cells #[.pointer (some ⟨tb, 0, none⟩)] 73)).alloc (.cells #[.pointer (some ⟨jb, 0, none⟩)] 67)).drew).heap.size = w.heap.size + 2 := by simp
  clear s1 s2 s3 t0 hs ntb nsb
  generalize World.drew _ = w1 at C1 p1 p2 z1 ⊢
  have P1 := Lib.hid (And.intro p1 (And.intro p2 z1))
  have J1 := HJ.out.rest C1.out
  have RS := Lib.hid (jreset_c HT.out J1 HF.out.1 (by have := HF.out.2.2.2.2.1; omega) (by have := HF.out.2.1; have := HF.out.2.2.1; omega) (HF.out.2.2.2.2.2.1.mono (by omega)))
  have HJ1 := Lib.hid J1
  clear J1 p1 p2 z1
  have nq : ∀ (Rx : Nat → Prop), Ext R Rx w1 → ¬ RJ Rx jb w.heap.size ∧ ¬ RJ Rx jb (w.heap.size + 1) := fun Rx hx => by
    have hz := P1.out.2.2
    have hR : ∀ k, w.heap.size ≤ k → ¬ R k := fun k hk => HJ.out.sd.st.fresh hk
    refine ⟨fun e => ?_, fun e => ?_⟩
    · rcases e with e | e
      · rcases hx _ e with e | e
        · exact hR _ (Nat.le_refl _) e
        · omega
      · omega
    · rcases e with e | e
      · rcases hx _ e with e | e
        · exact hR _ (by omega) e
        · omega
      · omega
  have NQ := Lib.hid nq
  clear nq
  have q0 := do_at0 jb (w.heap.size + 1) w.heap.size
  refine wp_loop_rounds 5 ?_
  rw [rounds_succ]
  go_wp2_with fail
  refine RS.out.mono ?_
  rintro e w2 ⟨R2, S2, J2, hcase, hj2, hx2, hk2⟩
  have H2 := Lib.hid hj2
  have X2 := Lib.hid hx2
  have K2 := Lib.hid hk2
  clear hj2 hx2 hk2 RS
  rcases hcase with ⟨hw, rfl, hJ⟩ | ⟨hw, rfl, -⟩
  rotate_left
  · have HW : Hid (S.sv J (le 8 n ++ bs) = (false, S2)) := Lib.hid (by unfold DS.sv; rw [hw])
    clear hw
    go_wp2_with fail
    go_ret
    exact ⟨R2, S2, .inr ⟨HW.out, rfl, H2.out.sd⟩, X2.out.calm C1.out.size, (Calm.keep C1.out _).trans K2.out⟩
  have HW := Lib.hid hw
  have F2 := Lib.hid (DS.wr_fine (n := secsOf (8 + bs.length) + 3) hw HF.out.2.2.2.2.2.1)
  have HJ2 := Lib.hid hJ
  have CM := Lib.hid (jcommit_c H2.out (by rw [hJ]; exact HF.out.1) (F2.out.1.mono (by omega)))
  clear hw hJ
  go_wp2_with fail
  rw [rounds_succ]
  have q1 := do_at1 jb (w.heap.size + 1) w.heap.size
  clear q0
  go_wp2_with fail
  refine CM.out.mono ?_
  rintro e w3 ⟨R3, S3, J3, hcase, hj3, hx3, hk3⟩
  have H3 := Lib.hid hj3
  have X3 := Lib.hid (X2.out.trans hx3 K2.out.size)
  have K3 := Lib.hid (K2.out.two hk3 X2.out)
  clear hj3 hx3 hk3 CM
  rcases hcase with ⟨hw, rfl, hJ⟩ | ⟨hw, rfl, -⟩
  rotate_left
  · have HW3 : Hid (S.sv J (le 8 n ++ bs) = (false, S3)) := Lib.hid (by unfold DS.sv; rw [HW.out]; simp only; rw [hw])
    clear hw
    go_wp2_with fail
    go_ret
    exact ⟨R3, S3, .inr ⟨HW3.out, rfl, H3.out.sd⟩, X3.out.calm C1.out.size, (Calm.keep C1.out _).trans K3.out⟩
  have HW3 := Lib.hid hw
  have F3 := Lib.hid (DS.bar_fine (n := secsOf (8 + bs.length) + 2) hw F2.out.1)
  have hJ3 : J3 = { J with free := J.from_ + 1, last := J.last + 1 } := by rw [hJ, HJ2.out]
  have HJ3 := Lib.hid hJ3
  have hdv : Rd w3 dv bs := ((HD.out.keep (Calm.keep C1.out (fun _ => False)) (fun _ _ e => e)).keep K3.out (fun g hg => hg)).rd
  have hr3 : Row w3 tb 79 #[.int .i64 (y : Int), .int .u64 (n : Int), dv] := (HR.out.keep C1.out (fun e => e)).keep K3.out HF.out.2.2.2.2.2.2.1
  have N1 := NQ.out R (Ext.refl _ _)
  have N3 := NQ.out R3 X3.out
  have c1 : w3.cell? ⟨w.heap.size, 0, none⟩ = some (.pointer (some ⟨tb, 0, none⟩)) := (K3.out.cell (p := ⟨w.heap.size, 0, none⟩) (by have := P1.out.2.2; simp; omega) N1.1).trans P1.out.1
  have c2 : w3.cell? ⟨w.heap.size + 1, 0, none⟩ = some (.pointer (some ⟨jb, 0, none⟩)) := (K3.out.cell (p := ⟨w.heap.size + 1, 0, none⟩) (by have := P1.out.2.2; simp; omega) N1.2).trans P1.out.2.1
  have hlr := HF.out.2.2.2.1
  have AP := swrite1_c HT.out H3.out (by rw [hJ3]; exact HF.out.1) (by rw [hJ3]; exact HF.out.2.1) (by rw [hJ3, F3.out.2, F2.out.2]; exact HF.out.2.2.1) hr3 hdv HF.out.2.2.2.2.2.2.2 (by
    rw [hJ3]
    unfold JS.room
    simp only
    rw [if_neg (by omega)]
    have e : ((J.from_ + 1 : Nat) : Int) = (J.from_ : Int) + 1 := by omega
    rw [e]
    exact hlr) (by rw [hJ3]; exact HF.out.2.2.2.2.1) (F3.out.1.mono (by omega)) (w.heap.size + 1) w.heap.size c2 c1 N3.2 N3.1
  have HAP := Lib.hid AP
  clear hw hJ hJ3 hdv hr3 N1 N3 c1 c2 hlr AP
  go_wp2_with fail
  rw [rounds_succ]
  have q2 := do_at2 jb (w.heap.size + 1) w.heap.size
  clear q1
  go_wp2_with fail
  refine HAP.out.mono ?_
  rintro e w4 ⟨R4, S4, J4, hcase, hj4, hx4, hk4⟩
  have H4 := Lib.hid hj4
  have X4 := Lib.hid (X3.out.trans hx4 K3.out.size)
  have K4 := Lib.hid (K3.out.two hk4 X3.out)
  clear hj4 hx4 hk4 HAP
  rw [HJ3.out] at hcase
  simp only at hcase
  rcases hcase with ⟨hw, rfl, hJ⟩ | ⟨hw, rfl, -⟩
  rotate_left
  · have HW4 : Hid (S.sv J (le 8 n ++ bs) = (false, S4)) := Lib.hid (by unfold DS.sv; rw [HW.out]; simp only; rw [HW3.out]; simp only; rw [hw])
    clear hw
    go_wp2_with fail
    go_ret
    exact ⟨R4, S4, .inr ⟨HW4.out, rfl, H4.out.sd⟩, X4.out.calm C1.out.size, (Calm.keep C1.out _).trans K4.out⟩
  have HW4 : Hid (S.sv J (le 8 n ++ bs) = S4.bar) := Lib.hid (by unfold DS.sv; rw [HW.out]; simp only; rw [HW3.out]; simp only; rw [hw])
  have hlen : (le 8 n ++ bs).length = 8 + bs.length := by simp [le_len]
  have hp := secsOf_pos (8 + bs.length)
  have F4 := Lib.hid (DS.put_fine1 (n := 1) hw (F3.out.1.mono (by rw [hlen]; omega)))
  have HJ4 := Lib.hid hJ
  have CM := Lib.hid (jcommit_c H4.out (by rw [hJ]; exact HF.out.1) F4.out)
  clear hw hJ hlen hp
  go_wp2_with fail
  rw [rounds_succ]
  have q3 := do_at3 jb (w.heap.size + 1) w.heap.size
  clear q2
  go_wp2_with fail
  refine CM.out.mono ?_
  rintro e w5 ⟨R5, S5, J5, hcase, hj5, hx5, hk5⟩
  have H5 := Lib.hid hj5
  have X5 := Lib.hid (X4.out.trans hx5 K4.out.size)
  have K5 := Lib.hid (K4.out.two hk5 X4.out)
  clear hj5 hx5 hk5 CM
  rcases hcase with ⟨hw, rfl, hJ⟩ | ⟨hw, rfl, -⟩
  rotate_left
  · have HW5 : Hid (S.sv J (le 8 n ++ bs) = (false, S5)) := Lib.hid (by rw [HW4.out, hw])
    clear hw
    go_wp2_with fail
    go_ret
    exact ⟨R5, S5, .inr ⟨HW5.out, rfl, H5.out.sd⟩, X5.out.calm C1.out.size, (Calm.keep C1.out _).trans K5.out⟩
  have HW5 : Hid (S.sv J (le 8 n ++ bs) = (true, S5)) := Lib.hid (by rw [HW4.out, hw])
  have H6 : Hid (Jn w0 w5 R5 d jb S5 { J with free := J.from_ + 1 + secsOf (le 8 n ++ bs).length, last := J.last + 2 }) := Lib.hid (by have := H5.out; rw [hJ, HJ4.out] at this; exact this)
  clear hw hJ
  go_wp2_with fail
  rw [rounds_succ]
  clear q3
  go_wp2_with fail
  go_ret
  exact ⟨R5, S5, .inl ⟨HW5.out, rfl, H6.out⟩, X5.out.calm C1.out.size, (Calm.keep C1.out _).trans K5.out⟩
end Go.Proofs.YtfigiofiakkbdaaDoor
