/-
  The statements of layer 3: shown.
-/
import Derived.Test.YtglfmhheepgneaaDoorJC2
import Derived.Test.YtglfmhheepgneaaDoorLConv
namespace Go.Proofs.YtglfmhheepgneaaDoor
open Go.RowKit
set_option linter.all false

theorem Tab.of {w0 w : World} (h : Tab w0) (hc : Calm w0 w) : Tab w := h.calm hc
def abc : List UInt8 := [97, 98, 99]
set_option maxRecDepth 100000 in
set_option maxHeartbeats 4000000 in
theorem shown_c (w : World) (hT : Tab w) : Calls Tryd.prog 10 #[] w fun e w' => e = .returned (.bool true) ∧ Calm w w' := by
  have N := Lib.hid (new_up w 5 (by omega) (by omega))
  have HT := Lib.hid hT
  clear hT
  go_enter Tryd.func10, Tryd.ntmps10
  go_wp2_with fail
  refine N.out.mono ?_
  rintro e w1 ⟨R1, d, S1, rfl, h1, u1, s1, e1, o1, -⟩
  have F := Lib.hid (jformat_up (f := 1) (k := 4) HT.out h1 u1 s1 (by omega) (by omega) (by unfold DS.fine; rw [e1, o1]; simp))
  clear N h1 u1 s1 e1
  go_wp2_with fail
  refine F.out.mono ?_
  rintro e w2 ⟨R2, S2, jb, rfl, -, J2, -, -, e2, -, o2⟩
  have C2 : Hid (Calm w w2) := Lib.hid J2.jn.calm
  have r2 := Rd.marked w2 abc 3 #[.int .u8 97, .int .u8 98, .int .u8 99] (3, 4) rfl rfl (by omega)
  have c2 : Calm w2 (w2.alloc (.cells #[.int .u8 97, .int .u8 98, .int .u8 99] 5 (3, 4))) := (Keep.refl _ w2).alloc _
  have q2 := conv_const w2 #[.int .u8 97, .int .u8 98, .int .u8 99] 3
  simp only [List.size_toArray, List.length_cons, List.length_nil, Nat.reduceAdd] at q2
  have A := jappend_up HT.out (J2.rest c2) rfl (by simp only; omega) (by simp only; omega) _ abc r2 (by simp [JS.room, abc]) (by simp only; omega) (by unfold DS.fine; rw [e2, o2, o1]; simp [abc, secsOf])
  simp only [show secsOf abc.length = 1 from rfl] at A
  have HA := Lib.hid A
  have e2l : S2.wait.length ≤ 0 := by rw [e2]; simp
  clear J2 e2 r2 c2 F A
  go_wp2_with fail
  refine HA.out.mono ?_
  rintro e w3 ⟨R3, S3, rfl, J3, -, -, o3, q3, -⟩
  have CM := Lib.hid (jcommit_up J3 rfl (by unfold DS.fine; rw [o2, o1] at o3; omega))
  clear HA q2 J3
  go_wp2_with fail
  refine CM.out.mono ?_
  rintro e w4 ⟨R4, S4, rfl, J4, -, -, e4, b4, o4⟩
  have qm : Sem.run Tryd.prog (Instr.makeSlice 33 (.int .i64 2000) (.int .i64 2000)) w4 = .ok (.slice (some ⟨w4.heap.size, 0, none⟩) 2000 2000) (w4.alloc (.cells (zeros8 2000) 5)) := run_make8 w4 2000 (by omega)
  have c5 : Calm w4 (w4.alloc (.cells (zeros8 2000) 5)) := (Keep.refl _ w4).alloc _
  have FU := Lib.hid (jappend_full (J4.rest c5).jn.row rfl (by simp only; omega) (by simp only; omega) (by simp only; omega) (some ⟨w4.heap.size, 0, none⟩) 2000 2000 (.inl (by simp [JS.room])))
  have J5 := Lib.hid (J4.rest c5)
  have HB4 := Lib.hid b4
  have HE4 := Lib.hid (And.intro e4 o4)
  clear c5 CM J4 b4 e4 o4
  go_wp2_with fail
  refine FU.out.mono ?_
  rintro e w6 ⟨rfl, c6⟩
  have J6 := Lib.hid (J5.out.rest c6)
  clear c6 FU J5 qm
  have CR := Lib.hid (sd_crash0 J6.out.jn.sd (by rw [HE4.out.1]; simp))
  go_wp2_with fail
  refine CR.out.mono ?_
  rintro e w7 ⟨R7, rfl, h7, -, -⟩
  have ST := Lib.hid (sd_start h7 rfl)
  clear h7 CR
  go_wp2_with fail
  refine ST.out.mono ?_
  rintro e w8 ⟨R8, rfl, h8, -, -⟩
  have SH := DS.Shows.lost HB4.out J6.out.shows.1
  have OP := jopen_up (f := 1) (k := 4) HT.out h8 ⟨rfl, rfl⟩ SH (by omega) (by omega) (by unfold DS.fine; simp only [DS.crash]; rw [HE4.out.2]; rw [o2, o1] at o3; simp; omega)
  have hrep : Hid (replay (areaC (putAt (upd (fun _ => full 0) 1 (begP 1)) (1 + 1) (recP (1 + 1) abc) 0) 1 4) = some ([abc], 3, 2)) := Lib.hid (by
    have h1 := (Chain.beg (fun _ => full 0) 1 4 1 (by omega)).append abc (by simp [secsAll, abc, secsOf])
    have h2 := h1.told (by omega) (by simp) (by simp [abc]) (fun _ => by rw [num_full0]; simp) (by simp [full])
    exact h2)
  have HO := Lib.hid OP
  clear OP SH h8 ST
  go_wp2_with fail
  refine HO.out.mono ?_
  rintro e w9 ⟨R9, q9, -, -, -, -, ⟨hn, -⟩ | ⟨out, n', used, A, cc, jb9, hs, rfl, hrc, -, J9, -, -, -, -, -⟩⟩
  · rw [hrep.out] at hn; cases hn
  rw [hrep.out] at hs
  injection hs with hs
  injection hs with hs1 hs2
  injection hs2 with hs2 hs3
  subst hs1; subst hs2; subst hs3
  obtain ⟨g, x, rfl, hcell, hx⟩ := hrc.at_ 0 abc rfl
  have qv := conv_rd hx.rd
  obtain ⟨xg, xo, xc, xcur, rfl, -⟩ := id hx
  rw [show str abc = ⟨#[97, 98, 99]⟩ from rfl] at qv
  have NX := jnext_c J9.jn.row (by simp only; omega)
  have RM := jroom_c J9.jn.row (by simp only; omega) (by simp only; omega)
  rw [show (JS.mk 1 (1 + 4) (1 + 2) (3 - 1) false).room = 1008 from rfl] at RM
  have HNX := Lib.hid NX
  have HRM := Lib.hid RM
  have C9 := Lib.hid J9.jn.calm
  clear NX RM hrc hx HO J9
  go_wp2_with (first | (go_at_call 24; refine HNX.out.mono ?_; rintro e w10 ⟨rfl, rfl⟩))
  refine HRM.out.mono ?_
  rintro e w11 ⟨rfl, c11⟩
  have C11 := Lib.hid (C9.out.trans c11)
  clear c11 HRM
  go_wp2_with fail
  go_ret
  exact ⟨rfl, C11.out⟩
end Go.Proofs.YtglfmhheepgneaaDoor
