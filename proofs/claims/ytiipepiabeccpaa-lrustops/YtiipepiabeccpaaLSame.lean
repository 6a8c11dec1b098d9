/-
  same: a list is what the document says, if it is.
-/
import Derived.Test.YtiipepiabeccpaaLsi5
import Derived.Test.YtiipepiabeccpaaRG
import Derived.Test.YtiipepiabeccpaaQR
import Derived.Sort.QuietIn
import Derived.Sort.CutIn
import Derived.BigQuiet
import Derived.Deep.QuietTactic
namespace Go.Proofs.Ytiipepiabeccpaa
open Go.RowKit Go.Shelf
set_option linter.all false
attribute [local go_sem] Oper.semAt_some

theorem calm_own {w W W' : World} {row : Option Nat} {B : Nat} (h : Calm w W) (hB : w.heap.size ≤ B) (hg : W.grownBy W' row) (hr : ∀ r, row = some r → B ≤ r) : Calm w W' :=
  h.grown hg (fun k hk hlt => by have := hr k hk; omega)
theorem calm_put {w W : World} {D : Nat} (h : Calm w W) (hD : w.heap.size ≤ D) (o : Obj) : Calm w (W.putObj D o) := calm_own h hD (grownBy_putObj' W D o) (fun r e => by cases e; exact Nat.le_refl _)
theorem keepsFrom_drewN {B : Nat} (W : World) (n : Nat) : KeepsFrom B W (W.drewN n) := ⟨Nat.le_refl _, fun _ _ _ h _ => h⟩
theorem ks_ne {a b : List UInt8} (h : a ≠ b) : ¬ (str a).toList = (str b).toList := by
  rw [ByteArray.toList_eq, ByteArray.toList_eq, str_list, str_list]; exact h
/-- Between two rounds of same. -/
def SI (w W5 : World) (d : Nat) (es : List (Nat × List UInt8 × Int)) (I0 : Nat) (pre : List {x // x ∈ es.map (·.2)}) (W : World) : Prop :=
  pre = (es.map (·.2)).attach.take pre.length ∧ Calm w W ∧ W5.heap.size ≤ W.heap.size ∧ W.cell? ⟨w.heap.size, 0, none⟩ = some (.pointer (some ⟨d, 0, none⟩)) ∧ W.cell? ⟨w.heap.size + 1, 0, none⟩ = some (.bool false) ∧ W.frozen? ⟨w.heap.size + 1, 0, none⟩ = false ∧
    W.cell? ⟨I0, 0, none⟩ = some (.int .i64 (pre.length : Int)) ∧ W.frozen? ⟨I0, 0, none⟩ = false
theorem SI.own {w W5 : World} {d : Nat} {es : List (Nat × List UInt8 × Int)} {I0 : Nat} (hz : w.heap.size ≤ W5.heap.size) : OwnFrom W5.heap.size (SI w W5 d es I0) := by
  rintro s A B row ⟨h1, h2, h3, h4, h5, h6, h7, h8⟩ hg hr
  have hr' : ∀ r, row = some r → ∃ o : Obj, A.heap[r]? = some o ∧ o.isCells = false := fun r e => (hr r e).2
  exact ⟨h1, calm_own h2 hz hg (fun r e => (hr r e).1), Nat.le_trans h3 hg.size, cell_kept h4 hg hr', cell_kept h5 hg hr', (frozen_kept h5 hg hr').trans h6, cell_kept h7 hg hr', (frozen_kept h7 hg hr').trans h8⟩

set_option maxRecDepth 100000 in
set_option maxHeartbeats 8000000 in
theorem same_in {w : World} {R Q : Nat → Prop} {b d most most2 : Nat} {L : List KV} (h : LruIs siT w R b most L) (r : RefIs w Q d most2 L) :
    CallsIn Fence.wide 3 Try.prog 27 #[.pointer (some ⟨b, 0, none⟩), .pointer (some ⟨d, 0, none⟩)] w fun e w' => e = .returned (.bool true) ∧ Calm w w' := by
  refine callsIn_of_wp_marks Try.func27 rfl trivial ?_ rfl
  simp only [Try.ntmps27, List.size_toArray, List.length_cons, List.length_nil, Nat.reduceAdd, Nat.reduceSub, Array.replicate_succ, Array.replicate_zero, List.push_toArray, List.append_toArray, List.nil_append, List.cons_append]
  have H := Lib.hid h
  have HR := Lib.hid r
  obtain ⟨⟨lv, r1, r2, r3⟩, qd, qlt, _, _, _⟩ := r
  obtain ⟨A, c, rfl⟩ := r2.form
  have hdl := r1.lt
  have c1 : w.cell? ⟨d, 1, none⟩ = some (.slice A L.length c) := (r1.cell 1).trans rfl
  have R2 := Lib.hid r2
  have C1d := Lib.hid c1
  have hll := Nat.le_trans h.len h.pos.2
  clear h r1 r2 r3 qd qlt
  gi_wp2_with fail
  have A1 := Row.made w 37 #[.pointer (some ⟨d, 0, none⟩)]
  have A2 := Row.made (w.alloc (.cells #[.pointer (some ⟨d, 0, none⟩)] 37)) 4 #[.bool false]
  rw [World.size_alloc] at A2
  have B1 := A1.alloc (.cells #[.bool false] 4)
  have hC : Calm w ((w.alloc (.cells #[.pointer (some ⟨d, 0, none⟩)] 37)).alloc (.cells #[.bool false] 4)) := ((Keep.refl _ w).alloc _).alloc _
  have hz : ((w.alloc (.cells #[.pointer (some ⟨d, 0, none⟩)] 37)).alloc (.cells #[.bool false] 4)).heap.size = w.heap.size + 2 := by simp
  clear A1
  generalize (w.alloc (.cells #[.pointer (some ⟨d, 0, none⟩)] 37)).alloc (.cells #[.bool false] 4) = W0 at *
  have b1 : W0.cell? ⟨w.heap.size, 0, none⟩ = some (.pointer (some ⟨d, 0, none⟩)) := (B1.cell 0).trans rfl
  have b2 : W0.cell? ⟨w.heap.size + 1, 0, none⟩ = some (.bool false) := (A2.cell 0).trans rfl
  have b2f := A2.soft 0
  have e1 : W0.cell? ⟨d, 1, none⟩ = some (.slice A L.length c) := (hC.cell (p := ⟨d, 1, none⟩) hdl (fun e => e)).trans c1
  have HC := Lib.hid hC
  have Hz := Lib.hid hz
  have R3 := Lib.hid (R2.out.calm hC)
  have H0 := Lib.hid (H.out.calm hC)
  have HR0 := Lib.hid (HR.out.calm hC)
  clear B1 A2 hC hz c1
  refine ⟨trivial, ?_⟩
  obtain ⟨ov, ob, hO, hnil, hcons⟩ : ∃ (ov : Value) (ob : Bool), (Calls Try.prog 29 #[.pointer (some ⟨b, 0, none⟩)] W0 fun e w' => e = .returned (.tuple #[ov, .bool ob]) ∧ W0 = w') ∧ (L = [] → ov = .string ⟨#[]⟩ ∧ ob = false) ∧ (∀ x l, L = x :: l → ov = .string (str x.1) ∧ ob = true) := by
    cases L with
    | nil => exact ⟨_, _, si_Oldest' H0.out none rfl (.string ⟨#[]⟩) rfl false rfl, fun _ => ⟨rfl, rfl⟩, fun x l e => by cases e⟩
    | cons x l => exact ⟨_, _, si_Oldest' H0.out (some x.1) rfl (.string (str x.1)) rfl true rfl, fun e => (by cases e), fun y l' e => by cases e; exact ⟨rfl, rfl⟩⟩
  have Hnil := Lib.hid hnil
  have Hcons := Lib.hid hcons
  clear hnil hcons
  refine (callsIn_wide.2 hO).mono ?_
  rintro e w2 ⟨rfl, rfl⟩
  gi_upto_region 2 with fail
  gi_cut [54] from 15 (fun v wc => v = .bool false ∧ Calm W0 wc)
  case first =>
    cases L with
    | nil =>
      obtain ⟨rfl, rfl⟩ := Hnil.out rfl
      clear Hnil Hcons hO
      have hL : ∀ n, Calls Try.prog 30 #[.pointer (some ⟨b, 0, none⟩)] (W0.drewN n) fun e w' => e = .returned (.int .i64 0) ∧ w' = W0.drewN n := fun n => (si_Len (H0.out.calm ((Keep.refl _ W0).drewN n))).mono (fun e w' h => ⟨h.1, h.2.symm⟩)
      have HL := Lib.hid hL
      clear hL
      (refine wpIn_wide.2 ?_; go_quiet (first | (go_at_call 30; refine Calls.quiet_of_same (HL.out _))))
      gi_wp2
      gi_meet
      exact ⟨rfl, (Keep.refl _ _).drewN _⟩
    | cons x l =>
      obtain ⟨rfl, rfl⟩ := Hcons.out x l rfl
      clear Hnil Hcons hO
      obtain ⟨g3, c3, e3, q1, q2, _, hcell⟩ := R3.out.some_ (by simp)
      injection e3 with e3 _ e4
      subst e3; subst e4
      have x0 : W0.cell? ⟨g3, 0, none⟩ = some (.string (str x.1)) := hcell 0 _ rfl
      have hL : ∀ n, Calls Try.prog 30 #[.pointer (some ⟨b, 0, none⟩)] (W0.drewN n) fun e w' => e = .returned (.int .i64 ((l.length + 1 : Nat) : Int)) ∧ w' = W0.drewN n := fun n => (si_Len (H0.out.calm ((Keep.refl _ W0).drewN n))).mono (fun e w' h => ⟨h.1, h.2.symm⟩)
      have HL := Lib.hid hL
      have k1 := ks_same (a := x.1) (b := x.1) rfl
      simp only [List.length_cons] at e1 q1 ⊢
      have hp : (0 : Int) < ((l.length + 1 : Nat) : Int) := by omega
      clear hL hcell

      (refine wpIn_wide.2 ?_; go_quiet (first | (go_at_call 30; refine Calls.quiet_of_same (HL.out _))))
      gi_wp2
      gi_meet
      exact ⟨rfl, (Keep.refl _ _).drewN _⟩
  case rest =>
    obtain ⟨rfl, hc1⟩ := hcut
    clear Hnil Hcons hO
    have hz0 := Hz.out
    have b1' : wc.cell? ⟨w.heap.size, 0, none⟩ = some (.pointer (some ⟨d, 0, none⟩)) := (hc1.cell (p := ⟨w.heap.size, 0, none⟩) (by show w.heap.size < _; omega) (fun e => e)).trans b1
    have b2' : wc.cell? ⟨w.heap.size + 1, 0, none⟩ = some (.bool false) := (hc1.cell (p := ⟨w.heap.size + 1, 0, none⟩) (by show w.heap.size + 1 < _; omega) (fun e => e)).trans b2
    have b2f' : wc.frozen? ⟨w.heap.size + 1, 0, none⟩ = false := (hc1.soft (p := ⟨w.heap.size + 1, 0, none⟩) (by show w.heap.size + 1 < _; omega) (fun e => e)).trans b2f
    have H1 := Lib.hid (H0.out.calm hc1)
    have HR1 := Lib.hid (HR0.out.calm hc1)
    have HC1 := Lib.hid (HC.out.trans hc1)
    have Hz1 : Hid (w.heap.size + 2 ≤ wc.heap.size) := Lib.hid (by have := hc1.size; omega)
    clear b1 b2 b2f e1 R3 H0 HR0 HC Hz hc1 hz0
    gi_wp2_with fail
    refine ⟨trivial, ?_⟩
    refine (callsIn_wide.2 (si_all b _)).mono ?_
    rintro e w5 ⟨rfl, rfl⟩
    have A1 := Row.made wc 3 #[.int .i64 0]
    have A2 := Row.made (wc.alloc (.cells #[.int .i64 0] 3)) 35 #[.pointer (some ⟨b, 0, none⟩)]
    rw [World.size_alloc] at A2
    have A1' := A1.alloc (.cells #[.pointer (some ⟨b, 0, none⟩)] 35)
    have hC5 : Calm wc ((wc.alloc (.cells #[.int .i64 0] 3)).alloc (.cells #[.pointer (some ⟨b, 0, none⟩)] 35)) := ((Keep.refl _ wc).alloc _).alloc _
    have hz5 : ((wc.alloc (.cells #[.int .i64 0] 3)).alloc (.cells #[.pointer (some ⟨b, 0, none⟩)] 35)).heap.size = wc.heap.size + 2 := by simp
    rw [World.size_alloc]
    clear A1
    generalize (wc.alloc (.cells #[.int .i64 0] 3)).alloc (.cells #[.pointer (some ⟨b, 0, none⟩)] 35) = W5 at *
    have s1 : W5.cell? ⟨wc.heap.size, 0, none⟩ = some (.int .i64 0) := (A1'.cell 0).trans rfl
    have s1f := A1'.soft 0
    have s2 : W5.cell? ⟨wc.heap.size + 1, 0, none⟩ = some (.pointer (some ⟨b, 0, none⟩)) := (A2.cell 0).trans rfl
    have hz1 := Hz1.out
    have s3 : W5.cell? ⟨w.heap.size, 0, none⟩ = some (.pointer (some ⟨d, 0, none⟩)) := (hC5.cell (p := ⟨w.heap.size, 0, none⟩) (by show w.heap.size < _; omega) (fun e => e)).trans b1'
    have s4 : W5.cell? ⟨w.heap.size + 1, 0, none⟩ = some (.bool false) := (hC5.cell (p := ⟨w.heap.size + 1, 0, none⟩) (by show w.heap.size + 1 < _; omega) (fun e => e)).trans b2'
    have s4f : W5.frozen? ⟨w.heap.size + 1, 0, none⟩ = false := (hC5.soft (p := ⟨w.heap.size + 1, 0, none⟩) (by show w.heap.size + 1 < _; omega) (fun e => e)).trans b2f'
    have H5 := Lib.hid (H1.out.calm hC5)
    have HC5 := Lib.hid (HC1.out.trans hC5)
    have Hz5 := Lib.hid hz5
    clear A1' A2 b1' b2' b2f' HR1 HC1 hC5 hz5
    gi_wp2_with fail
    obtain ⟨m, nx, pv, D, es, hAt, hes, hle⟩ := H5.out
    have hEl : es.length = L.length := by rw [← hes]; simp
    have HAt := Lib.hid hAt
    have Hes := Lib.hid hes
    have hRl : ∀ k, R k → k < w.heap.size := H.out.lt
    have HRl := Lib.hid hRl
    have HEl := Lib.hid hEl
    clear hes hle hEl
    refine wpIn_rangeFunc_ownG (F := Fence.wide) (α := {x // x ∈ es.map (·.2)}) rfl (by omega) (gf := 61) (lb := #[.pointer (some ⟨wc.heap.size + 1, 0, none⟩)]) rfl trivial (enters_of Try.func61 (by kernel_rfl) rfl)
      (si_stops (3 - 1) (by omega) (wc.heap.size + 1) b m most hAt (by have := Hz5.out; omega) s2)
      (fun h k i hi => (k i hi).trans (h i hi)) (fun W l o o' hl _ _ _ k hk => World.putObj_heap_other (by
        have := Hz5.out
        have := Hz1.out
        rcases hk with hk | hk
        · have := HRl.out k hk; omega
        · omega)) (Below.refl _ _) (fun _ => rfl)
      (SI w W5 d es wc.heap.size) (fun _ pre _ => ¬ ∃ k, k ≤ es.length ∧ pre = (es.map (·.2)).attach.take k) (SI.own (by have := Hz5.out; have := Hz1.out; omega)) (fun c s A B row h _ _ => h)
      ⟨by simp, HC5.out, Nat.le_refl _, s3, s4, s4f, s1, s1f⟩ (fun x => { tmps := #[.pointer (some ⟨b, 0, none⟩), .pointer (some ⟨d, 0, none⟩), undef, .pointer (some ⟨w.heap.size, 0, none⟩), .pointer (some ⟨w.heap.size + 1, 0, none⟩), ov, .bool ob, .pointer (some ⟨wc.heap.size, 0, none⟩), .string (str x.1.1), .int .i64 x.1.2, .tuple #[ov, .bool ob], .pointer (some ⟨b, 0, none⟩), .tuple #[ov, .bool ob], ov, .bool ob, u15, u16, u17, u18, u19, u20, u21, u22, u23, u24, u25, u26, u27, u28, u29, u30, u31, u32, u33, u34, u35, u36, u37, u38, u39, u40, u41, u42, u43, u44, u45, u46, u47, u48, u49, u50, u51, u52, u53, .bool false, .pointer (some ⟨b, 0, none⟩), .func (.func 61) #[] #[.pointer (some ⟨wc.heap.size + 1, 0, none⟩)], .string (str x.1.1), .int .i64 x.1.2, u59, u60, u61, u62, u63, u64, u65, u66, u67, u68, u69, u70, u71, u72, u73, u74, u75, u76, u77, u78, u79, u80, u81, u82, u83, u84, u85, u86, u87, u88, u89, u90, u91, u92, u93, u94, u95, u96, u97, u98], defers := [] }) ?assign ?body ?done ?stop
    case assign =>
      intro l x W K hK
      have HK := Lib.hid hK
      clear hK
      unfold si_enc
      gi_wp2
      exact HK.out
    case body =>
      rintro l pre ⟨⟨xk, xv⟩, hx⟩ W ⟨p1, p2, p3, t1, t2, t2f, t3, t3f⟩ hlen
      obtain ⟨i, hi⟩ : ∃ i, i = pre.length := ⟨_, rfl⟩
      rw [← hi] at p1 hlen t3
      have hiL : i < L.length := by rw [← HEl.out]; exact hlen
      have hne : L ≠ [] := fun e => by rw [e] at hiL; simp at hiL
      obtain ⟨⟨yk, yv⟩, hy⟩ : ∃ y, L[i]? = some y := ⟨_, List.getElem?_eq_getElem hiL⟩
      obtain ⟨g3, c3, e3, q1, q2, _, hcell⟩ := (R2.out.calm p2).some_ hne
      injection e3 with e3 _ e4
      subst e3; subst e4
      have f0 : W.cell? ⟨g3, i * 2, none⟩ = some (.string (str yk)) := hcell _ _ (flatP_at L i _ hy).1
      have f1 : W.cell? ⟨g3, i * 2 + 1, none⟩ = some (.int .i64 yv) := hcell _ _ (flatP_at L i _ hy).2
      have dW : W.cell? ⟨d, 1, none⟩ = some (.slice (some ⟨g3, 0, none⟩) L.length c) := (p2.cell (p := ⟨d, 1, none⟩) hdl (fun e => e)).trans C1d.out
      have j1 : ¬ (L.length : Int) ≤ (i : Int) := by omega
      have j2 : (i : Int) < (L.length : Int) := by omega
      have j3 : (i : Int) ≤ 1100 := by omega
      have j4 : wrap64 ((i : Int) + 1) = (i : Int) + 1 := by unfold wrap64; omega
      unfold maxLen at q2
      have P1 := Lib.hid p1
      have P2 := Lib.hid p2
      have P3 := Lib.hid p3
      have HY := Lib.hid hy
      have HI := Lib.hid hi
      have HLN := Lib.hid hlen
      clear p1 p2 p3 hcell hy hi hne hlen
      have NOT : (yk, yv) ≠ (xk, xv) → ¬ ∃ k, k ≤ es.length ∧ pre ++ [⟨(xk, xv), hx⟩] = (es.map (·.2)).attach.take k := by
        intro hne
        have h1 := si_not (L := es.map (·.2)) (x := ⟨(xk, xv), hx⟩) P1.out (by rw [List.length_map]; exact HLN.out) (by
          show (es.map (·.2))[i]? ≠ some (xk, xv)
          rw [Hes.out, HY.out]
          intro e
          injection e with e
          exact hne e)
        rw [List.length_map] at h1
        exact h1
      have HNOT := Lib.hid NOT
      clear NOT
      by_cases hk : yk = xk
      · have hq := ks_same hk
        by_cases hv : yv = xv
        · subst hk
          subst hv
          have hp : pre ++ [⟨(yk, yv), hx⟩] = (es.map (·.2)).attach.take (i + 1) := si_pre P1.out (by rw [List.length_map]; exact HLN.out) (by show (es.map (·.2))[i]? = some (yk, yv); rw [Hes.out, HY.out])
          have HPp := Lib.hid hp
          have hv2 : (yv != yv) = false := by simp
          clear hp HNOT
          gi_wp2_with fail
          refine wpIn_round_quiet (by kernel_rfl) (by kernel_rfl) (by kernel_rfl) ?_
          repeat (first | gi_big_quiet_step (fail) | quiet_step_in (fail))
          refine wpQuietIn_nil ?_
          rintro _ ⟨nq, rfl⟩
          gi_wp2
          have hlp : (pre ++ [⟨(yk, yv), hx⟩] : List {x // x ∈ es.map (·.2)}).length = i + 1 := by have := HI.out; simp; omega
          have hz1 := Hz1.out
          refine ⟨KeepsFrom.trans (keepsFrom_drewN W nq) ((KeepsOthers.setCell (W.drewN nq) _ _).from _), fun k hk => Below.heap_setCell _ _ _ _ (by
            show k ≠ wc.heap.size
            rcases hk with hk | hk
            · have := HRl.out k hk; omega
            · omega), ⟨by rw [hlp]; exact HPp.out, (P2.out.drewN _).store (p := ⟨wc.heap.size, 0, none⟩) (fun h => by have h' : wc.heap.size < w.heap.size := h; omega) _, by simpa [World.setCell] using P3.out, ?_, ?_, ?_, ?_, ?_⟩⟩
          · exact (World.cell?_setCell_other _ _ _ _ (fun e => absurd (congrArg Addr.block e) (by show ¬ wc.heap.size = w.heap.size; omega))).trans t1
          · exact (World.cell?_setCell_other _ _ _ _ (fun e => absurd (congrArg Addr.block e) (by show ¬ wc.heap.size = w.heap.size + 1; omega))).trans t2
          · exact (World.frozen?_setCell _ _ _ _).trans t2f
          · rw [hlp]; exact World.cell?_setCell_same' _ _ _ (by rw [show (W.drewN _).cell? _ = W.cell? _ from rfl, t3]; rfl)
          · exact (World.frozen?_setCell _ _ _ _).trans t3f
        · have hv2 : (yv != xv) = true := by rw [bne_iff_ne]; exact hv
          have HN := Lib.hid (HNOT.out (fun e => hv (by injection e)))
          clear HNOT hv
          gi_wp2_with fail
          refine wpIn_round_quiet (by kernel_rfl) (by kernel_rfl) (by kernel_rfl) ?_
          repeat (first | gi_big_quiet_step (fail) | quiet_step_in (fail))
          refine wpQuietIn_nil ?_
          rintro _ ⟨nq, rfl⟩
          gi_wp2
          exact ⟨KeepsFrom.trans (keepsFrom_drewN W nq) ((KeepsOthers.setCell (W.drewN nq) _ _).from _), HN.out⟩
      · have hq := ks_unlike hk
        have hq3 := ks_ne hk
        have HN := Lib.hid (HNOT.out (fun e => hk (by injection e)))
        clear HNOT hk
        gi_wp2_with fail
        refine wpIn_round_quiet (by kernel_rfl) (by kernel_rfl) (by kernel_rfl) ?_
        repeat (first | gi_big_quiet_step (fail) | quiet_step_in (fail))
        refine wpQuietIn_nil ?_
        rintro _ ⟨nq, rfl⟩
        gi_wp2
        exact ⟨KeepsFrom.trans (keepsFrom_drewN W nq) ((KeepsOthers.setCell (W.drewN nq) _ _).from _), HN.out⟩
    case done =>
      rintro D ys W hD rfl ⟨p1, p2, p3, t1, t2, t2f, t3, t3f⟩ hK
      have hyl : ((es.map (·.2)).attach).length = L.length := by simp [HEl.out]
      rw [hyl] at t3
      have dW : W.cell? ⟨d, 1, none⟩ = some (.slice A L.length c) := (p2.cell (p := ⟨d, 1, none⟩) hdl (fun e => e)).trans C1d.out
      have P2 := Lib.hid p2
      have HD := Lib.hid hK
      have hz5 := Hz5.out
      have hz1 := Hz1.out
      have hDn : w.heap.size ≤ D := by omega
      clear p1 p2 p3 hyl hK
      gi_wp2_with fail
      refine wpIn_wide.2 ?_
      go_region
      gi_wp2
      have hD9 : ((W.setCell ⟨w.heap.size + 1, 0, none⟩ (.bool true)).drew).heap[D]? = some (.deferred (some [])) := (KeepsOthers.setCell W ⟨w.heap.size + 1, 0, none⟩ (.bool true)).same D _ HD.out rfl
      have hc5 : (((W.setCell ⟨w.heap.size + 1, 0, none⟩ (.bool true)).drew).putObj D (.deferred none)).cell? ⟨w.heap.size + 1, 0, none⟩ = some (.bool true) := cell_kept (W := (W.setCell ⟨w.heap.size + 1, 0, none⟩ (.bool true)).drew) (World.cell?_setCell_same' W ⟨w.heap.size + 1, 0, none⟩ (.bool true) (by rw [t2]; rfl)) (grownBy_putObj' _ D (.deferred none)) (fun r e => by cases e; exact ⟨_, hD9, rfl⟩)
      refine ⟨by simp, .inl ⟨_, _, rfl, run_takeDeferred hD9, ?_⟩⟩
      exact ⟨.bool true, by simp [results, Try.f27, go_sem, hc5], rfl, calm_put ((P2.out.store (p := ⟨w.heap.size + 1, 0, none⟩) (fun h => by have h' : w.heap.size + 1 < w.heap.size := h; omega) _).drew) hDn _⟩
    case stop =>
      rintro D c pre W hD ⟨k, hk, e⟩ hn hK
      exact absurd ⟨k, hk, e⟩ hn

theorem same_c {w : World} {R Q : Nat → Prop} {b d most most2 : Nat} {L : List KV} (h : LruIs siT w R b most L) (r : RefIs w Q d most2 L) :
    Calls Try.prog 27 #[.pointer (some ⟨b, 0, none⟩), .pointer (some ⟨d, 0, none⟩)] w fun e w' => e = .returned (.bool true) ∧ Calm w w' := callsIn_wide.1 (same_in h r)
end Go.Proofs.Ytiipepiabeccpaa
