import Derived.Test.YtnlojohjhfpbgaaT3
import Derived.Test.YtnlojohjhfpbgaaRegion
import Derived.BigRegion
import Derived.Deep.OwnRows
/-
  Tables: a new one.
-/
namespace Go.Proofs.Ytnlojohjhfpbgaa
open Go.RowKit Go.Deep
open Go.Maps (Keyed)
set_option linter.all false
attribute [local go_sem] Oper.semAt_some

theorem infoBs : (Try.prog.info? 22).map (fun i => (i.zero, i.size, i.bytes)) = some (some (.slice none 0 0), 1, 24) := by kernel_rfl
def nils (n : Nat) : Array Value := (List.replicate n (Value.slice none 0 0)).toArray
theorem run_makeBs (w : World) (n : Nat) (hn : n ≤ 1000000000) :
    Sem.run Try.prog (Instr.makeSlice 137 (.int .i64 (n : Int)) (.int .i64 (n : Int))) w = .ok (.slice (some ⟨w.heap.size, 0, none⟩) n n) (w.alloc (.cells (nils n) 22)) := by
  have hr := run_make_row' (P := Try.prog) 137 22 (.slice none 0 0) 24 Try.underlying137 infoBs rfl .i64 .i64 n (by omega) (by omega) w
  have hm : madeCells #[(Value.slice none 0 0)] n = nils n := by
    apply Array.toList_inj.1
    rw [toList_madeCells_one]
    rfl
  rw [hm] at hr
  exact hr

structure ArrAt (w : World) (s : Nat) (W : World) (nm : List UInt8) (kd ky vl mx j : Nat) (gs : List Nat) : Prop where
  calm : Calm w W
  r0 : Row W s 52 #[.string (str nm), .int .i64 (kd : Int), .int .i64 (ky : Int), .int .i64 (vl : Int), .int .i64 (mx : Int)]
  r1 : Row W (s + 1) 139 #[.slice none 0 0]
  r3 : Row W (s + 1 + 1 + 1) 139 #[.slice (some ⟨s + 1 + 1, 0, none⟩) mx mx]
  ra : Row W (s + 1 + 1) 22 (gs.map (slv vl) ++ List.replicate (mx - j) (Value.slice none 0 0)).toArray
  len : gs.length = j
  nod : gs.Nodup
  ent : ∀ g ∈ gs, s + 4 ≤ g ∧ Row W g 5 ((List.replicate vl (0 : UInt8)).map bv).toArray
theorem ArrAt.cellA {w W : World} {s : Nat} {nm : List UInt8} {kd ky vl mx j : Nat} {gs : List Nat} (h : ArrAt w s W nm kd ky vl mx j gs) (hj : j < mx) : ∃ u, W.cell? ⟨s + 1 + 1, j, none⟩ = some u := by
  rw [h.ra.cell j]
  refine ⟨_, Array.getElem?_eq_getElem ?_⟩
  simp [h.len]
  omega
theorem ArrAt.step {w W : World} {s : Nat} {nm : List UInt8} {kd ky vl mx j : Nat} {gs : List Nat} (h : ArrAt w s W nm kd ky vl mx j gs) (hs : w.heap.size = s) (hj : j < mx) :
    ArrAt w s (((W.setCell ⟨s + 1 + 1, j, none⟩ (.slice (some ⟨W.heap.size, 0, none⟩) vl vl)).alloc (.cells (zeros8 vl) 5)).drew) nm kd ky vl mx (j + 1) (gs ++ [W.heap.size]) := by
  have hz := h.r3.lt
  have ez : (W.setCell ⟨s + 1 + 1, j, none⟩ (.slice (some ⟨W.heap.size, 0, none⟩) vl vl)).heap.size = W.heap.size := by simp [World.setCell]
  have za : zeros8 vl = ((List.replicate vl (0 : UInt8)).map bv).toArray := Array.toList_inj.1 (by rw [zeros8_bv])
  refine ⟨((h.calm.store (p := ⟨s + 1 + 1, j, none⟩) (fun hh => by have hh' : s + 1 + 1 < w.heap.size := hh; omega) _).alloc _).drew, ?_, ?_, ?_, ?_, by simp [h.len], ?_, ?_⟩
  · exact ((h.r0.far (p := ⟨s + 1 + 1, j, none⟩) (by show s ≠ s + 1 + 1; omega) _).alloc _).drew
  · exact ((h.r1.far (p := ⟨s + 1 + 1, j, none⟩) (by show s + 1 ≠ s + 1 + 1; omega) _).alloc _).drew
  · exact ((h.r3.far (p := ⟨s + 1 + 1, j, none⟩) (by show s + 1 + 1 + 1 ≠ s + 1 + 1; omega) _).alloc _).drew
  · have := ((h.ra.store j (.slice (some ⟨W.heap.size, 0, none⟩) vl vl)).alloc (.cells (zeros8 vl) 5)).drew
    have e : (gs.map (slv vl) ++ List.replicate (mx - j) (Value.slice none 0 0)).toArray.setIfInBounds j (.slice (some ⟨W.heap.size, 0, none⟩) vl vl) = ((gs ++ [W.heap.size]).map (slv vl) ++ List.replicate (mx - (j + 1)) (Value.slice none 0 0)).toArray := by
      apply Array.toList_inj.1
      rw [Array.toList_setIfInBounds]
      simp only [List.map_append, List.map_cons, List.map_nil]
      obtain ⟨m, hm⟩ : ∃ m, mx - j = m + 1 := ⟨mx - j - 1, by omega⟩
      rw [hm, show mx - (j + 1) = m by omega, List.replicate_succ, List.set_append_right _ _ (by simp [h.len])]
      simp [h.len, slv]
    rw [e] at this
    exact this
  · rw [List.nodup_append]
    refine ⟨h.nod, by simp, fun a ha c hc => ?_⟩
    simp only [List.mem_singleton] at hc
    subst hc
    have := (h.ent a ha).2.lt
    omega
  · intro g hg
    rcases List.mem_append.1 hg with hg | hg
    · obtain ⟨e1, e2⟩ := h.ent g hg
      exact ⟨e1, ((e2.far (p := ⟨s + 1 + 1, j, none⟩) (by show g ≠ s + 1 + 1; omega) _).alloc _).drew⟩
    · simp only [List.mem_singleton] at hg
      subst hg
      refine ⟨by omega, ?_⟩
      have := (Row.made (W.setCell ⟨s + 1 + 1, j, none⟩ (.slice (some ⟨W.heap.size, 0, none⟩) vl vl)) 5 (zeros8 vl)).drew
      rw [ez] at this
      rw [za] at this ⊢
      exact this

set_option maxHeartbeats 1000000 in
theorem newArray_c (q : MN) (hq : q.Ok) (w : World) : Calls Try.prog 74 #[q.mp.agg] w fun e w' => ∃ (A : Nat) (gs : List Nat), e = .returned (.agg #[.slice (some ⟨A, 0, none⟩) q.max q.max]) ∧ Calm w w' ∧ w.heap.size ≤ A ∧ Row w' A 22 (gs.map (slv q.val)).toArray ∧ gs.length = q.max ∧ gs.Nodup ∧ A ∉ gs ∧ ∀ g ∈ gs, w.heap.size ≤ g ∧ Row w' g 5 ((List.replicate q.val (0 : UInt8)).map bv).toArray := by
  have hv := hq.val
  have hm := hq.max
  obtain ⟨nm, kd, ky, vl, mx⟩ := q
  simp only at hv hm ⊢
  show Calls Try.prog 74 #[.agg #[.string (str nm), .int .i64 (kd : Int), .int .i64 (ky : Int), .int .i64 (vl : Int), .int .i64 (mx : Int)]] w _
  have hmb := fun W => run_makeBs W mx (by omega)
  go_enter Try.func74, Try.ntmps74
  go_wp2_with fail
  have R0 := Row.made w 52 #[.string (str nm), .int .i64 (kd : Int), .int .i64 (ky : Int), .int .i64 (vl : Int), .int .i64 (mx : Int)]
  have R1 := Row.made (w.alloc (.cells #[.string (str nm), .int .i64 (kd : Int), .int .i64 (ky : Int), .int .i64 (vl : Int), .int .i64 (mx : Int)] 52)) 139 #[.slice none 0 0]
  have RA := Row.made ((w.alloc (.cells #[.string (str nm), .int .i64 (kd : Int), .int .i64 (ky : Int), .int .i64 (vl : Int), .int .i64 (mx : Int)] 52)).alloc (.cells #[.slice none 0 0] 139)) 22 (nils mx)
  have R3 := Row.made (((w.alloc (.cells #[.string (str nm), .int .i64 (kd : Int), .int .i64 (ky : Int), .int .i64 (vl : Int), .int .i64 (mx : Int)] 52)).alloc (.cells #[.slice none 0 0] 139)).alloc (.cells (nils mx) 22)) 139 #[.slice (some ⟨w.heap.size + 1 + 1, 0, none⟩) mx mx]
  rw [World.size_alloc] at R1
  rw [World.size_alloc, World.size_alloc] at RA
  rw [World.size_alloc, World.size_alloc, World.size_alloc] at R3
  have R0' := ((R0.alloc (.cells #[.slice none 0 0] 139)).alloc (.cells (nils mx) 22)).alloc (.cells #[.slice (some ⟨w.heap.size + 1 + 1, 0, none⟩) mx mx] 139)
  have R1' := (R1.alloc (.cells (nils mx) 22)).alloc (.cells #[.slice (some ⟨w.heap.size + 1 + 1, 0, none⟩) mx mx] 139)
  have RA' := RA.alloc (.cells #[.slice (some ⟨w.heap.size + 1 + 1, 0, none⟩) mx mx] 139)
  have hC : Calm w ((((w.alloc (.cells #[.string (str nm), .int .i64 (kd : Int), .int .i64 (ky : Int), .int .i64 (vl : Int), .int .i64 (mx : Int)] 52)).alloc (.cells #[.slice none 0 0] 139)).alloc (.cells (nils mx) 22)).alloc (.cells #[.slice (some ⟨w.heap.size + 1 + 1, 0, none⟩) mx mx] 139)) := ((((Keep.refl _ w).alloc _).alloc _).alloc _).alloc _
  clear R0 R1 RA
  generalize (((w.alloc (.cells #[.string (str nm), .int .i64 (kd : Int), .int .i64 (ky : Int), .int .i64 (vl : Int), .int .i64 (mx : Int)] 52)).alloc (.cells #[.slice none 0 0] 139)).alloc (.cells (nils mx) 22)).alloc (.cells #[.slice (some ⟨w.heap.size + 1 + 1, 0, none⟩) mx mx] 139) = W4 at *
  generalize hs : w.heap.size = s at *
  have hI : ArrAt w s W4 nm kd ky vl mx 0 [] := ⟨hC, R0', R1', R3, by simpa [nils] using RA', rfl, List.nodup_nil, fun g hg => by cases hg⟩
  have HI := Lib.hid hI
  have Hs := Lib.hid hs
  clear hC R0' R1' R3 RA' hI hs
  go_loopw [12] (fun i wr => ∃ j : Nat, j ≤ mx ∧ i = .int .i64 (j : Int) ∧ ∃ gs : List Nat, ArrAt w s wr nm kd ky vl mx j gs) (fun i _ => mx - (intOf i).toNat)
  case atStart => exact ⟨0, Nat.zero_le _, rfl, [], HI.out⟩
  case round =>
    obtain ⟨j, hj, rfl, gs, h⟩ := hrel
    have H := Lib.hid h
    by_cases hl : j < mx
    · have c3 : wr.cell? ⟨s, 3, none⟩ = some (.int .i64 (vl : Int)) := (h.r0.cell 3).trans rfl
      have c4 : wr.cell? ⟨s + 1 + 1 + 1, 0, none⟩ = some (.slice (some ⟨s + 1 + 1, 0, none⟩) mx mx) := (h.r3.cell 0).trans rfl
      have hz := h.r3.lt
      have hmk := fun W => run_make8 W vl (by omega)
      obtain ⟨u, hu⟩ := h.cellA hl
      have huf := h.ra.soft j
      have hz2 : s + 1 + 1 < wr.heap.size := by omega
      have hz0 : s < wr.heap.size := by omega
      clear h HI
      go_wp2_with fail
      go_region
      have HS := Lib.hid (H.out.step Hs.out hl)
      clear H c3 c4 hz2 hz0 hz hmk hu huf
      go_wp2_with fail
      go_roundw
      case rel => exact ⟨j + 1, by omega, by go_num, _, HS.out⟩
      case measure => simp [intOf]; omega
    · obtain rfl : j = mx := by omega
      have c4 : wr.cell? ⟨s + 1 + 1 + 1, 0, none⟩ = some (.slice (some ⟨s + 1 + 1, 0, none⟩) j j) := (h.r3.cell 0).trans rfl
      have c1 : wr.cell? ⟨s + 1, 0, none⟩ = some (.slice none 0 0) := (h.r1.cell 0).trans rfl
      have f1 := h.r1.soft 0
      clear h HI
      go_wp2
      have d0 : (wr.setCell ⟨s + 1, 0, none⟩ (.slice (some ⟨s + 1 + 1, 0, none⟩) j j)).cell? ⟨s + 1, 0, none⟩ = some (.slice (some ⟨s + 1 + 1, 0, none⟩) j j) := World.cell?_setCell_same' _ _ _ (by rw [c1]; rfl)
      refine bodyPost_ret (by simp [results, Try.results74, go_sem, d0]; try rfl) rfl ?_
      have h := H.out
      have hs := Hs.out
      refine ⟨s + 1 + 1, gs, rfl, h.calm.store (p := ⟨s + 1, 0, none⟩) (fun hh => by have hh' : s + 1 < w.heap.size := hh; omega) _, by omega, ?_, h.len, h.nod, fun hc => by have := (h.ent _ hc).1; omega, fun g hg => ?_⟩
      · have := h.ra.far (p := ⟨s + 1, 0, none⟩) (by show s + 1 + 1 ≠ s + 1; omega) (.slice (some ⟨s + 1 + 1, 0, none⟩) j j)
        simpa using this
      · obtain ⟨e1, e2⟩ := h.ent g hg
        exact ⟨by omega, e2.far (p := ⟨s + 1, 0, none⟩) (by show g ≠ s + 1; omega) _⟩
end Go.Proofs.Ytnlojohjhfpbgaa

/-
  Tables: New, Len, Map.
-/
namespace Go.Proofs.Ytnlojohjhfpbgaa
open Go.RowKit Go.Deep
open Go.Maps (Keyed)
set_option linter.all false
attribute [local go_sem] Oper.semAt_some

def arrE (vl : Nat) (gs : List Nat) : List Ent := (List.range gs.length).map (fun i => (numK i, gs.getD i 0, List.replicate vl (0 : UInt8)))
theorem arrE_blks (vl : Nat) (gs : List Nat) : blks (arrE vl gs) = gs := by
  unfold blks arrE
  rw [List.map_map]
  apply List.ext_getElem?
  intro i
  rw [List.getElem?_map]
  by_cases h : i < gs.length
  · rw [List.getElem?_range h]
    simp [List.getD, h]
  · rw [List.getElem?_eq_none (by simp; omega), List.getElem?_eq_none (by omega)]
    rfl
theorem arrE_keys (vl : Nat) (gs : List Nat) : keysL (arrE vl gs) = (List.range gs.length).map numK := by simp [keysL, arrE, Function.comp_def]
theorem arrE_kbs (vl : Nat) (gs : List Nat) : (kbs (arrE vl gs)).map (fun x => slv vl x.2) = gs.map (slv vl) := by
  have := arrE_blks vl gs
  unfold kbs mapv
  rw [List.map_map]
  conv => rhs; rw [← this]
  unfold blks
  rw [List.map_map]
  rfl
theorem numK_inj {i j : Nat} (hi : i < 65536) (hj : j < 65536) (h : numK i = numK j) : i = j := by
  unfold numK at h
  simp only [List.cons.injEq] at h
  have h1 := congrArg UInt8.toNat h.1
  have h2 := congrArg UInt8.toNat h.2.1
  simp only [UInt8.toNat_ofNat'] at h1 h2
  omega
theorem numK_nodup {n : Nat} (hn : n ≤ 65536) : ((List.range n).map numK).Nodup := by
  rw [List.Nodup, List.pairwise_map]
  refine List.Pairwise.imp_of_mem ?_ (List.nodup_range (n := n))
  intro a c ha hc hne e
  rw [List.mem_range] at ha hc
  exact hne (numK_inj (by omega) (by omega) e)
theorem numK_len (n : Nat) : (numK n).length = 4 := rfl

/-- The entries of a new table. -/
def NewE (q : MN) (E : List Ent) : Prop := if q.kind = 1 then ∃ gs : List Nat, gs.length = q.max ∧ E = arrE q.val gs else E = []
theorem NewE.keys {q : MN} {E : List Ent} (h : NewE q E) (hq : q.Ok) : (keysL E).Nodup ∧ (∀ x ∈ E, x.1.length = q.key) ∧ E.length ≤ q.max := by
  unfold NewE at h
  split at h
  · rename_i hk
    obtain ⟨gs, hl, rfl⟩ := h
    have := hq.max
    have h4 := hq.kind
    refine ⟨by rw [arrE_keys]; exact numK_nodup (by omega), fun x hx => ?_, by simp [arrE, hl]⟩
    obtain ⟨i, _, rfl⟩ := List.mem_map.1 hx
    show 4 = q.key
    omega
  · subst h
    refine ⟨List.nodup_nil, ?_, Nat.zero_le _⟩
    intro x hx
    cases hx

def NewK (q : MN) (w : World) (ev : Value) (w' : World) : Prop :=
  ∃ (R : Nat → Prop) (E : List Ent), Calm w w' ∧ KindIs w' R q (kbs E) ev ∧ NewE q E ∧ (∀ x ∈ E, DataAt w' q.val x) ∧ (blks E).Nodup ∧ (∀ x ∈ E, ¬ R x.2.1) ∧ (∀ i, R i ∨ i ∈ blks E → w.heap.size ≤ i ∧ i < w'.heap.size)

set_option maxHeartbeats 2000000 in
theorem newKind_c (q : MN) (hq : q.Ok) (w : World) : Calls Try.prog 55 #[q.mp.agg] w fun e w' => ∃ ev : Value, e = .returned ev ∧ NewK q w ev w' := by
  have hv := hq.val
  have hm := hq.max
  have hk := hq.kind
  have hA := fun W => newArray_c q hq W
  have hmm := @run_makeMap Try.prog
  obtain ⟨nm, kd, ky, vl, mx⟩ := q
  simp only at hv hm hk
  have HA := Lib.hid hA
  have HL := Lib.hid (fun W => sy_new (mx : Int) mx (by split <;> omega) hm.1 (by omega) W)
  have HK := Lib.hid (fun q w ev w' => (Iff.refl (NewK q w ev w')))
  clear hA
  show Calls Try.prog 55 #[.agg #[.string (str nm), .int .i64 (kd : Int), .int .i64 (ky : Int), .int .i64 (vl : Int), .int .i64 (mx : Int)]] w _
  have R0 : Calm w (w.alloc (.cells #[.string (str nm), .int .i64 (kd : Int), .int .i64 (ky : Int), .int .i64 (vl : Int), .int .i64 (mx : Int)] 52)) := (Keep.refl (fun _ => False) w).alloc _
  have HR0 := Lib.hid R0
  clear R0
  by_cases h1 : kd = 1
  · subst h1
    go_enter Try.func55, Try.ntmps55
    go_wp2_with fail
    refine (HA.out _).mono ?_
    rintro e w2 ⟨A, gs, rfl, hc, hA0, hr, hl, hn, hAn, hg⟩
    have HX := Lib.hid (And.intro hc (And.intro hA0 (And.intro hr (And.intro hl (And.intro hn (And.intro hAn hg))))))
    clear hc hA0 hr hl hn hAn hg
    go_wp2
    go_ret
    obtain ⟨hc, hA0, hr, hl, hn, hAn, hg⟩ := HX.out
    refine ⟨_, rfl, fun i => i = A, arrE vl gs, HR0.out.trans hc, ?_, ?_, ?_, by rw [arrE_blks]; exact hn, ?_, ?_⟩
    · refine .arr A rfl rfl ?_ ?_
      · rw [arrE_kbs]; exact hr
      · rw [keys_kbs, arrE_keys, hl]
    · exact (if_pos rfl).mpr ⟨gs, hl, rfl⟩
    · intro x hx
      obtain ⟨i, hi, rfl⟩ := List.mem_map.1 hx
      rw [List.mem_range] at hi
      refine ⟨?_, by simp⟩
      have hm : gs.getD i 0 ∈ gs := by rw [List.getD_eq_getElem?_getD, List.getElem?_eq_getElem hi]; exact List.getElem_mem hi
      exact (hg _ hm).2
    · intro x hx e
      have : x.2.1 ∈ blks (arrE vl gs) := List.mem_map.2 ⟨x, hx, rfl⟩
      rw [arrE_blks, e] at this
      exact hAn this
    · intro i hi
      rw [arrE_blks] at hi
      rw [World.size_alloc] at hA0
      rcases hi with rfl | hi
      · exact ⟨by omega, hr.lt⟩
      · obtain ⟨g1, g2⟩ := hg i hi
        rw [World.size_alloc] at g1
        exact ⟨by omega, g2.lt⟩
  · by_cases h2 : kd = 2
    · subst h2
      go_enter Try.func55, Try.ntmps55
      go_wp2
      go_ret
      refine ⟨_, rfl, fun i => i = w.heap.size + 1, [], HR0.out.alloc _, ?_, ?_, ?_, List.nodup_nil, ?_, ?_⟩
      · have := World.ownsMap_made (w.alloc (.cells #[.string (str nm), .int .i64 ((2 : Nat) : Int), .int .i64 (ky : Int), .int .i64 (vl : Int), .int .i64 (mx : Int)] 52)) Try.prog 9 (se vl)
        rw [World.size_alloc] at this
        exact .hash (w.heap.size + 1) (.map []) rfl rfl this ⟨rfl, fun x hx => (by cases hx), fun _ _ => rfl⟩
      · exact (if_neg (show ¬ (2 : Nat) = 1 by decide)).mpr rfl
      · intro x hx; cases hx
      · intro x hx; cases hx
      · rintro i (rfl | hi)
        · simp
        · cases hi
    · obtain rfl : kd = 3 := by omega
      go_enter Try.func55, Try.ntmps55
      go_wp2_with fail
      refine (HL.out _).mono ?_
      rintro e w2 ⟨rfl, hL, hc⟩
      have HX := Lib.hid (And.intro hL hc)
      clear hL hc
      go_wp2
      go_ret
      obtain ⟨hL, hc⟩ := HX.out
      rw [World.size_alloc] at hL
      refine ⟨_, rfl, fun i => i = w.heap.size + 1 ∨ i = w.heap.size + 1 + 1, [], HR0.out.trans hc, ?_, ?_, ?_, List.nodup_nil, ?_, ?_⟩
      · exact .lru (w.heap.size + 1 + 1) 0 _ rfl (fun i hi => hi) hL
      · exact (if_neg (show ¬ (3 : Nat) = 1 by decide)).mpr rfl
      · intro x hx; cases hx
      · intro x hx; cases hx
      · rintro i (hi | hi)
        · exact ⟨by omega, hL.lt i hi⟩
        · cases hi
end Go.Proofs.Ytnlojohjhfpbgaa

/-
  Tables: New.
-/
namespace Go.Proofs.Ytnlojohjhfpbgaa
open Go.RowKit Go.Deep
open Go.Maps (Keyed)
set_option linter.all false
attribute [local go_sem] Oper.semAt_some

set_option maxHeartbeats 2000000 in
theorem tNew_no (m : MP) (hs : m.name.length ≤ maxLen) (h : m.right = false) (w : World) : Calls Try.prog 27 #[m.agg] w fun e w' => e = .returned (.tuple #[.pointer none, .int .i64 1]) ∧ Calm w w' := by
  have HR := Lib.hid (fun W => tRight_c m hs W)
  rw [h] at HR
  obtain ⟨nm, kd, ky, vl, mx⟩ := m
  show Calls Try.prog 27 #[.agg #[.string (str nm), .int .i64 kd, .int .i64 ky, .int .i64 vl, .int .i64 mx]] w _
  have R0 : Calm w (w.alloc (.cells #[.string (str nm), .int .i64 kd, .int .i64 ky, .int .i64 vl, .int .i64 mx] 52)) := (Keep.refl (fun _ => False) w).alloc _
  have HR0 := Lib.hid R0
  clear R0 h
  go_enter Try.func27, Try.ntmps27
  go_wp2_with fail
  refine (HR.out _).mono ?_
  rintro e w1 ⟨rfl, hc⟩
  have HC := Lib.hid (HR0.out.trans hc)
  clear hc
  go_wp2
  go_ret2
  exact ⟨rfl, HC.out⟩

theorem NewK.calm {q : MN} {w w' : World} {ev : Value} (h : NewK q w ev w') : Calm w w' := by obtain ⟨_, _, h, _⟩ := h; exact h
theorem NewK.form {q : MN} {w w' : World} {ev : Value} (h : NewK q w ev w') : ∃ t v, ev = .iface t v := by
  obtain ⟨_, _, _, h, _⟩ := h
  cases h <;> exact ⟨_, _, rfl⟩
def NewT (q : MN) (w : World) (v : Value) (w' : World) : Prop := ∃ (tb : Nat) (E : List Ent), v = .pointer (some ⟨tb, 0, none⟩) ∧ NewE q E ∧ Tab w w' (fun _ => False) tb q E

theorem newT_of {q : MN} (hq : q.Ok) {w w1 w2 : World} {ev : Value} (hk : NewK q w1 ev w2) (hc : Calm w w1) (n : Nat) :
    NewT q w (.pointer (some ⟨w2.heap.size, 0, none⟩)) ((w2.alloc (.cells #[.string (str q.name), .int .i64 (q.kind : Int), .int .i64 (q.key : Int), .int .i64 (q.val : Int), .int .i64 (q.max : Int), ev] 122)).drewN n) := by
  obtain ⟨R, E, h1, h2, h3, h4, h5, h6, h7⟩ := hk
  have hs := hc.size
  have hc2 : Calm w2 ((w2.alloc (.cells #[.string (str q.name), .int .i64 (q.kind : Int), .int .i64 (q.key : Int), .int .i64 (q.val : Int), .int .i64 (q.max : Int), ev] 122)).drewN n) := ((Keep.refl _ w2).alloc _).drewN n
  obtain ⟨g1, g2, g3⟩ := h3.keys hq
  refine ⟨_, E, rfl, h3, fun i => R i ∨ i = w2.heap.size, ⟨hq, ⟨ev, (Row.made w2 _ _).drewN n, ?_⟩, .inr rfl, ?_, fun x hx => ⟨(h4 x hx).1.keep hc2 (fun e => e), (h4 x hx).2⟩, ?_, h5, g1, g2, g3⟩, ?_, fun _ h => h.elim, (hc.trans h1).trans hc2⟩
  · have := h2.keep (fun i hi => (h7 i (.inl hi)).2) hc2 (fun _ _ e => e)
    cases this with
    | arr A a b c d => exact .arr A a ⟨.inl b, by have := (h7 A (.inl b)).2; omega⟩ c d
    | hash b D a c d e => exact .hash b D a ⟨.inl c, by have := (h7 b (.inl c)).2; omega⟩ d e
    | lru b tb R0 a c d => exact .lru b tb R0 a (fun i hi => ⟨.inl (c i hi), by have := (h7 i (.inl (c i hi))).2; omega⟩) d
  · rintro i (hi | rfl)
    · have := (h7 i (.inl hi)).2
      have := hc2.size
      omega
    · show _ < _
      simp [World.drewN]
  · rintro x hx (hi | hi)
    · exact h6 x hx hi
    · have := (h7 x.2.1 (.inr (List.mem_map.2 ⟨x, hx, rfl⟩))).2
      omega
  · rintro i ((hi | rfl) | hi)
    · have := (h7 i (.inl hi)).1
      exact ⟨by omega, fun e => e⟩
    · have := h1.size
      exact ⟨by omega, fun e => e⟩
    · have := (h7 i (.inr hi)).1
      exact ⟨by omega, fun e => e⟩

set_option maxHeartbeats 2000000 in
theorem tNew_yes (q : MN) (hq : q.Ok) (w : World) : Calls Try.prog 27 #[q.mp.agg] w fun e w' => ∃ v : Value, e = .returned (.tuple #[v, .int .i64 0]) ∧ NewT q w v w' := by
  have hs : q.mp.name.length ≤ maxLen := by have := hq.name; unfold maxLen; show q.name.length ≤ _; omega
  have HR := Lib.hid (fun W => tRight_c q.mp hs W)
  rw [hq.right] at HR
  have HK := Lib.hid (fun W => newKind_c q hq W)
  have HO := Lib.hid (fun w1 w2 ev (a : NewK q w1 ev w2) (b : Calm w w1) n => newT_of hq a b n)
  obtain ⟨nm, kd, ky, vl, mx⟩ := q
  show Calls Try.prog 27 #[.agg #[.string (str nm), .int .i64 (kd : Int), .int .i64 (ky : Int), .int .i64 (vl : Int), .int .i64 (mx : Int)]] w _
  have R0 : Calm w (w.alloc (.cells #[.string (str nm), .int .i64 (kd : Int), .int .i64 (ky : Int), .int .i64 (vl : Int), .int .i64 (mx : Int)] 52)) := (Keep.refl (fun _ => False) w).alloc _
  have R1 := Row.made w 52 #[.string (str nm), .int .i64 (kd : Int), .int .i64 (ky : Int), .int .i64 (vl : Int), .int .i64 (mx : Int)]
  have HR0 := Lib.hid R0
  clear hs hq
  go_enter Try.func27, Try.ntmps27
  go_wp2_with fail
  refine (HR.out _).mono ?_
  rintro e w1 ⟨rfl, hc⟩
  have R2 := R1.keep hc (fun e => e)
  have c0 : w1.cell? ⟨w.heap.size, 0, none⟩ = some (.string (str nm)) := (R2.cell 0).trans rfl
  have c1 : w1.cell? ⟨w.heap.size, 1, none⟩ = some (.int .i64 (kd : Int)) := (R2.cell 1).trans rfl
  have c2 : w1.cell? ⟨w.heap.size, 2, none⟩ = some (.int .i64 (ky : Int)) := (R2.cell 2).trans rfl
  have c3 : w1.cell? ⟨w.heap.size, 3, none⟩ = some (.int .i64 (vl : Int)) := (R2.cell 3).trans rfl
  have c4 : w1.cell? ⟨w.heap.size, 4, none⟩ = some (.int .i64 (mx : Int)) := (R2.cell 4).trans rfl
  have HC := Lib.hid (HR0.out.trans hc)
  clear hc HR0 R0 R1 HR
  have hlt := R2.lt
  clear R2
  go_wp2_with fail
  go_region_with (refine (HK.out _).mono ?_; rintro e w2 ⟨ev, rfl, hk⟩; obtain ⟨tt, vv, rfl⟩ := hk.form; have d0 : w2.cell? ⟨w.heap.size, 0, none⟩ = some (.string (str nm)) := (hk.calm.cell (p := ⟨w.heap.size, 0, none⟩) hlt (fun e => e)).trans c0; have d1 : w2.cell? ⟨w.heap.size, 1, none⟩ = some (.int .i64 (kd : Int)) := (hk.calm.cell (p := ⟨w.heap.size, 1, none⟩) hlt (fun e => e)).trans c1; have d2 : w2.cell? ⟨w.heap.size, 2, none⟩ = some (.int .i64 (ky : Int)) := (hk.calm.cell (p := ⟨w.heap.size, 2, none⟩) hlt (fun e => e)).trans c2; have d3 : w2.cell? ⟨w.heap.size, 3, none⟩ = some (.int .i64 (vl : Int)) := (hk.calm.cell (p := ⟨w.heap.size, 3, none⟩) hlt (fun e => e)).trans c3; have d4 : w2.cell? ⟨w.heap.size, 4, none⟩ = some (.int .i64 (mx : Int)) := (hk.calm.cell (p := ⟨w.heap.size, 4, none⟩) hlt (fun e => e)).trans c4)
  all_goals
    go_wp2
    go_ret2
    first
    | exact ⟨_, rfl, HO.out _ _ _ hk HC.out.drew 0⟩
    | exact ⟨_, rfl, HO.out _ _ _ hk HC.out 0⟩
    | exact ⟨_, rfl, HO.out _ _ _ hk HC.out 1⟩
    | exact ⟨_, rfl, HO.out _ _ _ hk (HC.out.drewN 1) 1⟩
    | (trace_state; sorry)
end Go.Proofs.Ytnlojohjhfpbgaa

