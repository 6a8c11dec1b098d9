/-
  Tables: a new one.
-/
import Derived.Test.YtiipepiabeccpaaT3
import Derived.Test.YtiipepiabeccpaaRegion
import Derived.BigRegion
import Derived.Deep.OwnRows
namespace Go.Proofs.Ytiipepiabeccpaa
open Go.RowKit Go.Deep
open Go.Maps (Keyed)
set_option linter.all false
attribute [local go_sem] Oper.semAt_some

theorem infoBs : (Try.prog.info? 22).map (fun i => (i.zero, i.size, i.bytes)) = some (some (.slice none 0 0), 1, 24) := by kernel_rfl
def nils (n : Nat) : Array Value := (List.replicate n (Value.slice none 0 0)).toArray
theorem run_makeBs (w : World) (n : Nat) (hn : n ≤ 1000000000) :
    Sem.run Try.prog (Instr.makeSlice 142 (.int .i64 (n : Int)) (.int .i64 (n : Int))) w = .ok (.slice (some ⟨w.heap.size, 0, none⟩) n n) (w.alloc (.cells (nils n) 22)) := by
  have hr := run_make_row' (P := Try.prog) 142 22 (.slice none 0 0) 24 Try.underlying142 infoBs rfl .i64 .i64 n (by omega) (by omega) w
  have hm : madeCells #[(Value.slice none 0 0)] n = nils n := by
    apply Array.toList_inj.1
    rw [toList_madeCells_one]
    rfl
  rw [hm] at hr
  exact hr

structure ArrAt (w : World) (s : Nat) (W : World) (nm : List UInt8) (kd ky vl mx j : Nat) (gs : List Nat) : Prop where
  calm : Calm w W
  r0 : Row W s 58 #[.string (str nm), .int .i64 (kd : Int), .int .i64 (ky : Int), .int .i64 (vl : Int), .int .i64 (mx : Int)]
  r1 : Row W (s + 1) 144 #[.slice none 0 0]
  r3 : Row W (s + 1 + 1 + 1) 144 #[.slice (some ⟨s + 1 + 1, 0, none⟩) mx mx]
  ra : Row W (s + 1 + 1) 22 (gs.map (slv vl) ++ List.replicate (mx - j) (Value.slice none 0 0)).toArray
  len : gs.length = j
  nod : gs.Nodup
  ent : ∀ g ∈ gs, s + 4 ≤ g ∧ Row W g 5 ((List.replicate vl (0 : UInt8)).map bv).toArray
theorem ArrAt.cellA {w W : World} {s : Nat} {nm : List UInt8} {kd ky vl mx j : Nat} {gs : List Nat} (h : ArrAt w s W nm kd ky vl mx j gs) (hj : j < mx) : ∃ u, W.cell? ⟨s + 1 + 1, j, none⟩ = some u := by
  rw [h.ra.cell j]
  refine ⟨_, Array.getElem?_eq_getElem ?_⟩
  simp [h.len]
  omega
theorem ArrAt.step {w W : World} {s : Nat} {nm : List UInt8} {kd ky vl mx j : Nat} {gs : List Nat} (h : ArrAt w s W nm kd ky vl mx j gs) (hs : w.heap.size = s) (hj : j < mx) :
    ArrAt w s (((W.setCell ⟨s + 1 + 1, j, none⟩ (.slice (some ⟨W.heap.size, 0, none⟩) vl vl)).alloc (.cells (zeros8 vl) 5)).drew) nm kd ky vl mx (j + 1) (gs ++ [W.heap.size]) := by
  have hz := h.r3.lt
  have ez : (W.setCell ⟨s + 1 + 1, j, none⟩ (.slice (some ⟨W.heap.size, 0, none⟩) vl vl)).heap.size = W.heap.size := by simp [World.setCell]
  have za : zeros8 vl = ((List.replicate vl (0 : UInt8)).map bv).toArray := Array.toList_inj.1 (by rw [zeros8_bv])
  refine ⟨((h.calm.store (p := ⟨s + 1 + 1, j, none⟩) (fun hh => by have hh' : s + 1 + 1 < w.heap.size := hh; omega) _).alloc _).drew, ?_, ?_, ?_, ?_, by simp [h.len], ?_, ?_⟩
  · exact ((h.r0.far (p := ⟨s + 1 + 1, j, none⟩) (by show s ≠ s + 1 + 1; omega) _).alloc _).drew
  · exact ((h.r1.far (p := ⟨s + 1 + 1, j, none⟩) (by show s + 1 ≠ s + 1 + 1; omega) _).alloc _).drew
  · exact ((h.r3.far (p := ⟨s + 1 + 1, j, none⟩) (by show s + 1 + 1 + 1 ≠ s + 1 + 1; omega) _).alloc _).drew
  · have := ((h.ra.store j (.slice (some ⟨W.heap.size, 0, none⟩) vl vl)).alloc (.cells (zeros8 vl) 5)).drew
    have e : (gs.map (slv vl) ++ List.replicate (mx - j) (Value.slice none 0 0)).toArray.setIfInBounds j (.slice (some ⟨W.heap.size, 0, none⟩) vl vl) = ((gs ++ [W.heap.size]).map (slv vl) ++ List.replicate (mx - (j + 1)) (Value.slice none 0 0)).toArray := by
      apply Array.toList_inj.1
      rw [Array.toList_setIfInBounds]
      simp only [List.map_append, List.map_cons, List.map_nil]
      obtain ⟨m, hm⟩ : ∃ m, mx - j = m + 1 := ⟨mx - j - 1, by omega⟩
      rw [hm, show mx - (j + 1) = m by omega, List.replicate_succ, List.set_append_right _ _ (by simp [h.len])]
      simp [h.len, slv]
    rw [e] at this
    exact this
  · rw [List.nodup_append]
    refine ⟨h.nod, by simp, fun a ha c hc => ?_⟩
    simp only [List.mem_singleton] at hc
    subst hc
    have := (h.ent a ha).2.lt
    omega
  · intro g hg
    rcases List.mem_append.1 hg with hg | hg
    · obtain ⟨e1, e2⟩ := h.ent g hg
      exact ⟨e1, ((e2.far (p := ⟨s + 1 + 1, j, none⟩) (by show g ≠ s + 1 + 1; omega) _).alloc _).drew⟩
    · simp only [List.mem_singleton] at hg
      subst hg
      refine ⟨by omega, ?_⟩
      have := (Row.made (W.setCell ⟨s + 1 + 1, j, none⟩ (.slice (some ⟨W.heap.size, 0, none⟩) vl vl)) 5 (zeros8 vl)).drew
      rw [ez] at this
      rw [za] at this ⊢
      exact this

set_option maxHeartbeats 1000000 in
theorem newArray_c (q : MN) (hq : q.Ok) (w : World) : Calls Try.prog 81 #[q.mp.agg] w fun e w' => ∃ (A : Nat) (gs : List Nat), e = .returned (.agg #[.slice (some ⟨A, 0, none⟩) q.max q.max]) ∧ Calm w w' ∧ w.heap.size ≤ A ∧ Row w' A 22 (gs.map (slv q.val)).toArray ∧ gs.length = q.max ∧ gs.Nodup ∧ A ∉ gs ∧ ∀ g ∈ gs, w.heap.size ≤ g ∧ Row w' g 5 ((List.replicate q.val (0 : UInt8)).map bv).toArray := by
  have hv := hq.val
  have hm := hq.max
  obtain ⟨nm, kd, ky, vl, mx⟩ := q
  simp only at hv hm ⊢
  show Calls Try.prog 81 #[.agg #[.string (str nm), .int .i64 (kd : Int), .int .i64 (ky : Int), .int .i64 (vl : Int), .int .i64 (mx : Int)]] w _
  have hmb := fun W => run_makeBs W mx (by omega)
  go_enter Try.func81, Try.ntmps81
  go_wp2_with fail
  have R0 := Row.made w 58 #[.string (str nm), .int .i64 (kd : Int), .int .i64 (ky : Int), .int .i64 (vl : Int), .int .i64 (mx : Int)]
  have R1 := Row.made (w.alloc (.cells #[.string (str nm), .int .i64 (kd : Int), .int .i64 (ky : Int), .int .i64 (vl : Int), .int .i64 (mx : Int)] 58)) 144 #[.slice none 0 0]
  have RA := Row.made ((w.alloc (.cells #[.string (str nm), .int .i64 (kd : Int), .int .i64 (ky : Int), .int .i64 (vl : Int), .int .i64 (mx : Int)] 58)).alloc (.cells #[.slice none 0 0] 144)) 22 (nils mx)
  have R3 := Row.made (((w.alloc (.cells #[.string (str nm), .int .i64 (kd : Int), .int .i64 (ky : Int), .int .i64 (vl : Int), .int .i64 (mx : Int)] 58)).alloc (.cells #[.slice none 0 0] 144)).alloc (.cells (nils mx) 22)) 144 #[.slice (some ⟨w.heap.size + 1 + 1, 0, none⟩) mx mx]
  rw [World.size_alloc] at R1
  rw [World.size_alloc, World.size_alloc] at RA
  rw [World.size_alloc, World.size_alloc, World.size_alloc] at R3
  have R0' := ((R0.alloc (.cells #[.slice none 0 0] 144)).alloc (.cells (nils mx) 22)).alloc (.cells #[.slice (some ⟨w.heap.size + 1 + 1, 0, none⟩) mx mx] 144)
  have R1' := (R1.alloc (.cells (nils mx) 22)).alloc (.cells #[.slice (some ⟨w.heap.size + 1 + 1, 0, none⟩) mx mx] 144)
  have RA' := RA.alloc (.cells #[.slice (some ⟨w.heap.size + 1 + 1, 0, none⟩) mx mx] 144)
  have hC : Calm w ((((w.alloc (.cells #[.string (str nm), .int .i64 (kd : Int), .int .i64 (ky : Int), .int .i64 (vl : Int), .int .i64 (mx : Int)] 58)).alloc (.cells #[.slice none 0 0] 144)).alloc (.cells (nils mx) 22)).alloc (.cells #[.slice (some ⟨w.heap.size + 1 + 1, 0, none⟩) mx mx] 144)) := ((((Keep.refl _ w).alloc _).alloc _).alloc _).alloc _
  clear R0 R1 RA
  generalize (((w.alloc (.cells #[.string (str nm), .int .i64 (kd : Int), .int .i64 (ky : Int), .int .i64 (vl : Int), .int .i64 (mx : Int)] 58)).alloc (.cells #[.slice none 0 0] 144)).alloc (.cells (nils mx) 22)).alloc (.cells #[.slice (some ⟨w.heap.size + 1 + 1, 0, none⟩) mx mx] 144) = W4 at *
  generalize hs : w.heap.size = s at *
  have hI : ArrAt w s W4 nm kd ky vl mx 0 [] := ⟨hC, R0', R1', R3, by simpa [nils] using RA', rfl, List.nodup_nil, fun g hg => by cases hg⟩
  have HI := Lib.hid hI
  have Hs := Lib.hid hs
  clear hC R0' R1' R3 RA' hI hs
  go_loopw [12] (fun i wr => ∃ j : Nat, j ≤ mx ∧ i = .int .i64 (j : Int) ∧ ∃ gs : List Nat, ArrAt w s wr nm kd ky vl mx j gs) (fun i _ => mx - (intOf i).toNat)
  case atStart => exact ⟨0, Nat.zero_le _, rfl, [], HI.out⟩
  case round =>
    obtain ⟨j, hj, rfl, gs, h⟩ := hrel
    have H := Lib.hid h
    by_cases hl : j < mx
    · have c3 : wr.cell? ⟨s, 3, none⟩ = some (.int .i64 (vl : Int)) := (h.r0.cell 3).trans rfl
      have c4 : wr.cell? ⟨s + 1 + 1 + 1, 0, none⟩ = some (.slice (some ⟨s + 1 + 1, 0, none⟩) mx mx) := (h.r3.cell 0).trans rfl
      have hz := h.r3.lt
      have hmk := fun W => run_make8 W vl (by omega)
      obtain ⟨u, hu⟩ := h.cellA hl
      have huf := h.ra.soft j
      have hz2 : s + 1 + 1 < wr.heap.size := by omega
      have hz0 : s < wr.heap.size := by omega
      clear h HI
      go_wp2_with fail
      go_region
      have HS := Lib.hid (H.out.step Hs.out hl)
      clear H c3 c4 hz2 hz0 hz hmk hu huf
      go_wp2_with fail
      go_roundw
      case rel => exact ⟨j + 1, by omega, by go_num, _, HS.out⟩
      case measure => simp [intOf]; omega
    · obtain rfl : j = mx := by omega
      have c4 : wr.cell? ⟨s + 1 + 1 + 1, 0, none⟩ = some (.slice (some ⟨s + 1 + 1, 0, none⟩) j j) := (h.r3.cell 0).trans rfl
      have c1 : wr.cell? ⟨s + 1, 0, none⟩ = some (.slice none 0 0) := (h.r1.cell 0).trans rfl
      have f1 := h.r1.soft 0
      clear h HI
      go_wp2
      have d0 : (wr.setCell ⟨s + 1, 0, none⟩ (.slice (some ⟨s + 1 + 1, 0, none⟩) j j)).cell? ⟨s + 1, 0, none⟩ = some (.slice (some ⟨s + 1 + 1, 0, none⟩) j j) := World.cell?_setCell_same' _ _ _ (by rw [c1]; rfl)
      refine bodyPost_ret (by simp [results, Try.results81, go_sem, d0]; try rfl) rfl ?_
      have h := H.out
      have hs := Hs.out
      refine ⟨s + 1 + 1, gs, rfl, h.calm.store (p := ⟨s + 1, 0, none⟩) (fun hh => by have hh' : s + 1 < w.heap.size := hh; omega) _, by omega, ?_, h.len, h.nod, fun hc => by have := (h.ent _ hc).1; omega, fun g hg => ?_⟩
      · have := h.ra.far (p := ⟨s + 1, 0, none⟩) (by show s + 1 + 1 ≠ s + 1; omega) (.slice (some ⟨s + 1 + 1, 0, none⟩) j j)
        simpa using this
      · obtain ⟨e1, e2⟩ := h.ent g hg
        exact ⟨by omega, e2.far (p := ⟨s + 1, 0, none⟩) (by show g ≠ s + 1; omega) _⟩
end Go.Proofs.Ytiipepiabeccpaa
