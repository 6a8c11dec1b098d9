/-
  LruStops: the walk.
-/
import Derived.Test.YtiipepiabeccpaaLSame
import Derived.Test.YtiipepiabeccpaaLSh
import Derived.Test.YtiipepiabeccpaaLStv
import Derived.Test.YtiipepiabeccpaaMasks
import Derived.Test.YtiipepiabeccpaaLP
import Derived.Test.YtiipepiabeccpaaRegion
namespace Go.Proofs.Ytiipepiabeccpaa
open Go.RowKit Go.Shelf
set_option linter.all false
attribute [local go_sem] Oper.semAt_some

/-- Both lists, apart from one another, and the box that the document's lies in. -/
def Tb (w1 w' : World) (b d B : Nat) (L : List KV) (M : List KV) : Prop := ∃ R Q, LruIs siT w' R b 100 L ∧ RefIs w' Q d 100 M ∧ (∀ i, R i → ¬ Q i) ∧ (∀ i, R i ∨ Q i → w1.heap.size ≤ i ∧ i ≠ B) ∧ B < w'.heap.size ∧ Calm w1 w' ∧ w'.cell? ⟨B, 0, none⟩ = some (.pointer (some ⟨d, 0, none⟩))
theorem Tb.calm_ {w1 w' : World} {b d B : Nat} {L M : List KV} (h : Tb w1 w' b d B L M) : Calm w1 w' := by obtain ⟨_, _, _, _, _, _, _, h, _⟩ := h; exact h
theorem Tb.box {w1 w' : World} {b d B : Nat} {L M : List KV} (h : Tb w1 w' b d B L M) : w'.cell? ⟨B, 0, none⟩ = some (.pointer (some ⟨d, 0, none⟩)) := by obtain ⟨_, _, _, _, _, _, _, _, h⟩ := h; exact h
theorem Tb.bl {w1 w' : World} {b d B : Nat} {L M : List KV} (h : Tb w1 w' b d B L M) : B < w'.heap.size := by obtain ⟨_, _, _, _, _, _, h, _⟩ := h; exact h
theorem Tb.nodup {w1 w' : World} {b d B : Nat} {L M : List KV} (h : Tb w1 w' b d B L M) : (keysL L).Nodup := by obtain ⟨_, _, h, _⟩ := h; exact h.nodup
theorem Tb.rest {w1 w' w'' : World} {b d B : Nat} {L M : List KV} (h : Tb w1 w' b d B L M) (k : Calm w' w'') : Tb w1 w'' b d B L M := by
  obtain ⟨R, Q, h1, h2, h3, h4, h5, h6, h7⟩ := h
  exact ⟨R, Q, h1.calm k, h2.calm k, h3, h4, Nat.lt_of_lt_of_le h5 k.size, h6.trans k, (k.cell (p := ⟨B, 0, none⟩) h5 (fun e => e)).trans h7⟩
theorem put_small {L : List KV} (k : List UInt8) (v : Int) (h : L.length < 100) : ∃ L', putL 100 k v L = (none, L') ∧ L'.length ≤ L.length + 1 := by
  by_cases hk : k ∈ keysL L
  · exact ⟨_, putL_yes hk, by have : (dropL k L).length ≤ L.length := List.length_filter_le _ _; simp; omega⟩
  · exact ⟨_, putL_room hk h, by simp⟩
theorem tb_lput {w1 w' : World} {b d B : Nat} {L L' M : List KV} (h : Tb w1 w' b d B L M) (k : List UInt8) (v : Int) (hk : k.length ≤ maxLen) (e : putL 100 k v L = (none, L')) :
    Calls Try.prog 24 #[.pointer (some ⟨b, 0, none⟩), .string (str k), .int .i64 v] w' fun e w'' => e = .returned (.tuple #[.string ⟨#[]⟩, .bool false]) ∧ Tb w1 w'' b d B L' M := by
  obtain ⟨R, Q, h1, h2, h3, h4, h5, h6, h7⟩ := h
  refine (si_Put' h1 k v hk none L' e (.string ⟨#[]⟩) rfl false rfl).mono ?_
  rintro e w'' ⟨rfl, ⟨R', a, g⟩, c⟩
  exact ⟨rfl, R', Q, a, h2.keep c (fun i hq hr => h3 i hr hq), fun i hi hq => (g i hi).elim (fun e => h3 i e hq) (fun e => by have := h2.lt i hq; omega),
    fun i hi => hi.elim (fun hr => (g i hr).elim (fun e => h4 i (.inl e)) (fun e => ⟨Nat.le_trans h6.size e, by omega⟩)) (fun hq => h4 i (.inr hq)),
    Nat.lt_of_lt_of_le h5 c.size, h6.then_ c (fun i hi hc => by have := (h4 i (.inl hc)).1; omega), (c.cell (p := ⟨B, 0, none⟩) h5 (fun e => (h4 B (.inl e)).2 rfl)).trans h7⟩
theorem tb_rput {w1 w' : World} {b d B : Nat} {L M M' : List KV} (h : Tb w1 w' b d B L M) (hn : (keysL M).Nodup) (hl : M.length ≤ 100) (k : List UInt8) (v : Int) (e : putL 100 k v M = (none, M')) :
    Calls Try.prog 25 #[.pointer (some ⟨d, 0, none⟩), .string (str k), .int .i64 v] w' fun e w'' => e = .returned (.tuple #[.string ⟨#[]⟩, .bool false]) ∧ Tb w1 w'' b d B L M' := by
  obtain ⟨R, Q, h1, h2, h3, h4, h5, h6, h7⟩ := h
  refine (rput_c h2 hn hl k v none M' e (.string ⟨#[]⟩) rfl false rfl).mono ?_
  rintro e w'' ⟨rfl, ⟨Q', a, g⟩, c⟩
  exact ⟨rfl, R, Q', h1.keep c h3, a, fun i hr hi => (g i hi).elim (h3 i hr) (fun e => by have := h1.lt i hr; omega),
    fun i hi => hi.elim (fun hr => h4 i (.inl hr)) (fun hq => (g i hq).elim (fun e => h4 i (.inr e)) (fun e => ⟨Nat.le_trans h6.size e, by omega⟩)),
    Nat.lt_of_lt_of_le h5 c.size, h6.then_ c (fun i hi hc => by have := (h4 i (.inr hc)).1; omega), (c.cell (p := ⟨B, 0, none⟩) h5 (fun e => (h4 B (.inr e)).2 rfl)).trans h7⟩

/-- Between two rounds. -/
def SJ (w6 W5 : World) (n : Nat) (es : List (Nat × List UInt8 × Int)) (T0 : Nat) (pre : List {x // x ∈ es.map (·.2)}) (W : World) : Prop :=
  pre = (es.map (·.2)).attach.take pre.length ∧ pre.length ≤ n ∧ Calm w6 W ∧ W5.heap.size ≤ W.heap.size ∧ W.cell? ⟨T0, 0, none⟩ = some (.int .i64 (pre.length : Int)) ∧ W.frozen? ⟨T0, 0, none⟩ = false
theorem SJ.own {w6 W5 : World} {n : Nat} {es : List (Nat × List UInt8 × Int)} {T0 : Nat} (hz : w6.heap.size ≤ W5.heap.size) : OwnFrom W5.heap.size (SJ w6 W5 n es T0) := by
  rintro s A B row ⟨h1, h0, h2, h3, h7, h8⟩ hg hr
  have hr' : ∀ r, row = some r → ∃ o : Obj, A.heap[r]? = some o ∧ o.isCells = false := fun r e => (hr r e).2
  exact ⟨h1, h0, calm_own h2 hz hg (fun r e => (hr r e).1), Nat.le_trans h3 hg.size, cell_kept h7 hg hr', (frozen_kept h7 hg hr').trans h8⟩
/-- Behind a stop. -/
def SX (w6 W5 : World) (n : Nat) (es : List (Nat × List UInt8 × Int)) (T0 : Nat) (c : Code) (pre : List {x // x ∈ es.map (·.2)}) (W : World) : Prop :=
  (c = .exit 2 ∧ n ≤ es.length ∧ Calm w6 W ∧ W5.heap.size ≤ W.heap.size ∧ W.cell? ⟨T0, 0, none⟩ = some (.int .i64 (n : Int)) ∧ W.frozen? ⟨T0, 0, none⟩ = false) ∨ ¬ ∃ k, k ≤ es.length ∧ pre = (es.map (·.2)).attach.take k
theorem SX.own {w6 W5 : World} {n : Nat} {es : List (Nat × List UInt8 × Int)} {T0 : Nat} (hz : w6.heap.size ≤ W5.heap.size) (c : Code) : OwnFrom W5.heap.size (SX w6 W5 n es T0 c) := by
  rintro s A B row h hg hr
  have hr' : ∀ r, row = some r → ∃ o : Obj, A.heap[r]? = some o ∧ o.isCells = false := fun r e => (hr r e).2
  rcases h with ⟨h1, h0, h2, h3, h7, h8⟩ | h
  · exact .inl ⟨h1, h0, calm_own h2 hz hg (fun r e => (hr r e).1), Nat.le_trans h3 hg.size, cell_kept h7 hg hr', (frozen_kept h7 hg hr').trans h8⟩
  · exact .inr h

theorem kv_one {L : List KV} (h : (keysL L).Nodup) {k : List UInt8} {v v' : Int} (h1 : (k, v) ∈ L) (h2 : (k, v') ∈ L) : v = v' := by
  induction L with
  | nil => cases h1
  | cons x l ih =>
    have hn := List.nodup_cons.1 (show (x.1 :: keysL l).Nodup from h)
    rcases List.mem_cons.1 h1 with e1 | e1 <;> rcases List.mem_cons.1 h2 with e2 | e2
    · rw [← e1] at e2; injection e2 with _ e; exact e.symm
    · exact absurd (show x.1 ∈ keysL l from List.mem_map.2 ⟨_, e2, by rw [← e1]⟩) hn.1
    · exact absurd (show x.1 ∈ keysL l from List.mem_map.2 ⟨_, e1, by rw [← e2]⟩) hn.1
    · exact ih hn.2 e1 e2

theorem seq_there (x : Array Value) (W : World) : (binOp .eql 42 (.func (.func 61) #[] x) .nilFunc).run Try.prog W = .ok (.bool false) W := by
  have h : ∀ d : Nat, (Op.equalIn (d + 1) 42 (.func (.func 61) #[] x) .nilFunc).run Try.prog W = .ok false W := fun d => by
    simp [Op.equalIn, run_underlying Try.underlying42]
  simp only [binOp]
  simp [Op.equal, Op.maxDepth, h 9999]

set_option maxRecDepth 100000 in
set_option maxHeartbeats 8000000 in
theorem lruStops_in (a1 : Int) (v0 : Value) (ss : List (List UInt8)) (w : World) (hs : Strv w v0 ss) : CallsIn Fence.wide 3 Try.prog 4 #[v0, .int .i64 a1] w fun e w' => e = .returned (.bool true) ∧ Calm w w' := by
  obtain ⟨n, hn64, en⟩ := mask_nat a1 6 63 (by omega) (by decide)
  obtain ⟨A, cap, rfl, hm⟩ := hs.form
  have HS := Lib.hid hs
  have HM := Lib.hid hm
  have EN := Lib.hid en
  clear hs hm en
  refine callsIn_of_wp_marks Try.func4 rfl trivial ?_ rfl
  simp only [Try.ntmps4, List.size_toArray, List.length_cons, List.length_nil, Nat.reduceAdd, Nat.reduceSub, Array.replicate_succ, Array.replicate_zero, List.push_toArray, List.append_toArray, List.nil_append, List.cons_append]
  gi_wp2_with fail
  have A1 := Row.made w 3 #[.int .i64 a1]
  have A2 := Row.made (w.alloc (.cells #[.int .i64 a1] 3)) 4 #[.bool false]
  rw [World.size_alloc] at A2
  have B1 := A1.alloc (.cells #[.bool false] 4)
  have hC : Calm w ((w.alloc (.cells #[.int .i64 a1] 3)).alloc (.cells #[.bool false] 4)) := ((Keep.refl _ w).alloc _).alloc _
  have hz : ((w.alloc (.cells #[.int .i64 a1] 3)).alloc (.cells #[.bool false] 4)).heap.size = w.heap.size + 2 := by simp
  clear A1
  generalize (w.alloc (.cells #[.int .i64 a1] 3)).alloc (.cells #[.bool false] 4) = W0 at *
  have b1 : W0.cell? ⟨w.heap.size, 0, none⟩ = some (.int .i64 a1) := (B1.cell 0).trans rfl
  have b1f := B1.soft 0
  have b2 : W0.cell? ⟨w.heap.size + 1, 0, none⟩ = some (.bool false) := (A2.cell 0).trans rfl
  have b2f := A2.soft 0
  have HC := Lib.hid hC
  have Hz := Lib.hid hz
  have HB := Lib.hid (And.intro (And.intro b1 b1f) (And.intro b2 b2f))
  clear B1 A2 hC hz b1 b1f b2 b2f
  refine ⟨trivial, ?_⟩
  refine (callsIn_wide.2 (shown9_c W0)).mono ?_
  rintro e w1 ⟨rfl, hc⟩
  have C1 := Lib.hid hc
  clear hc
  gi_wp2_with fail
  refine ⟨trivial, ?_⟩
  refine (callsIn_wide.2 (si_new 100 100 (by decide) (by decide) (by decide) w1)).mono ?_
  rintro e w2 ⟨rfl, h2, k2⟩
  have H2 := Lib.hid h2
  have K2 := Lib.hid k2
  clear h2 k2
  gi_wp2_with fail
  refine ⟨trivial, ?_⟩
  refine (callsIn_wide.2 (rnew_c 100 100 (by decide) (by decide) (by decide) w2)).mono ?_
  rintro e w3 ⟨rfl, h3, k3⟩
  have H3 := Lib.hid h3
  have K3 := Lib.hid k3
  clear h3 k3
  gi_upto_region 6 with fail
  iterate 9 (first | (guard_target =~ Code.wpIn _ _ _ (Code.block _ _) _ _ _) | go_values | gi_guarded | gi_step | gi_upon | gi_back)
  have B0 := Row.made w3 37 #[.pointer (some ⟨w2.heap.size, 0, none⟩)]
  have TB0 : Tb w1 (w3.alloc (.cells #[.pointer (some ⟨w2.heap.size, 0, none⟩)] 37)) (w1.heap.size + 1) w2.heap.size w3.heap.size [] [] := by
    have z2 := H2.out.lt
    have k3 : Calm w2 (w3.alloc (.cells #[.pointer (some ⟨w2.heap.size, 0, none⟩)] 37)) := K3.out.alloc _
    have s2 := K2.out.size
    have s3 := K3.out.size
    refine ⟨_, _, H2.out.calm k3, H3.out.calm ((Keep.refl _ w3).alloc _), ?_, ?_, by simp, K2.out.trans k3, (B0.cell 0).trans rfl⟩
    · rintro i hi (hq : i = w2.heap.size)
      have := z2 i hi
      omega
    · rintro i (hi | (hq : i = w2.heap.size))
      · have := z2 i hi
        omega
      · have := H3.out.lt w2.heap.size rfl
        omega
  have TB := Lib.hid TB0
  have HBw : Hid (w1.heap.size ≤ w3.heap.size) := Lib.hid (Nat.le_trans K2.out.size K3.out.size)
  clear B0 TB0 H2 K2 H3 K3
  generalize hbb : w1.heap.size + 1 = b at *
  generalize hdd : w2.heap.size = d at *
  generalize hBB : w3.heap.size = B at *
  clear hbb hdd
  generalize w3.alloc (.cells #[.pointer (some ⟨d, 0, none⟩)] 37) = w4 at *
  clear hBB
  gi_cut [8] from 16 (fun _ wc => ∃ L, L.length ≤ 50 ∧ Tb w1 wc b d B L L)
  case first =>
    gi_wp2_with fail
    gi_loopw [8] (fun i wr => ∃ j : Nat, j ≤ 50 ∧ i = .int .i64 (j : Int) ∧ ∃ L, L.length ≤ j ∧ Tb w1 wr b d B L L) (fun i _ => 50 - (intOf i).toNat)
    case atStart => exact ⟨0, by omega, rfl, [], Nat.le_refl _, TB.out⟩
    case round =>
      obtain ⟨j, hj, rfl, L, hL, hl⟩ := hrel
      have Hl := Lib.hid hl
      have CL := Lib.hid (HC.out.trans (C1.out.trans hl.calm_))
      clear hl TB
      by_cases i1 : j < ss.length
      · by_cases i2 : j < 50
        · obtain ⟨ad, s, rfl, hsj, hsl, hcell⟩ := HS.out.all j i1
          have cf := hcell wr CL.out
          have hml := HM.out
          unfold maxLen at hml
          obtain ⟨L2, hp, hL2⟩ := put_small (L := L) s (j : Int) (by omega)
          have HP := Lib.hid (tb_lput Hl.out s (j : Int) hsl hp)
          have HQ := Lib.hid (show L2.length ≤ j + 1 ∧ (keysL L).Nodup ∧ L.length ≤ 100 ∧ putL 100 s (j : Int) L = (none, L2) from ⟨by omega, Hl.out.nodup, by omega, hp⟩)
          have HCell := Lib.hid hcell
          clear hsj hsl hcell hp hL2 hL
          gi_wp2_with fail
          refine ⟨trivial, ?_⟩
          refine (callsIn_wide.2 HP.out).mono ?_
          rintro e w5 ⟨rfl, h5⟩
          have cf5 := HCell.out w5 (HC.out.trans (C1.out.trans h5.calm_))
          have bx := h5.box
          have HR := Lib.hid (tb_rput (h5.rest ((Keep.refl _ w5).drewN 1)) HQ.out.2.1 HQ.out.2.2.1 s (j : Int) HQ.out.2.2.2)
          clear h5 HP Hl CL cf
          gi_wp2_with fail
          refine wpIn_wide.2 ?_
          refine wp_region_noPanic ?_
          go_region_with (refine HR.out.mono ?_; rintro e w6 ⟨rfl, h6⟩)
          all_goals
            refine NoPanic.normal ?_
            have H6 := Lib.hid h6
            clear h6 HR
            gi_wp2_with fail
            go_roundw
            case rel => exact ⟨j + 1, by omega, by go_num, L2, HQ.out.1, H6.out⟩
            case measure => simp [intOf]; omega
        · gi_wp2_with fail
          gi_meet
          exact ⟨L, by omega, Hl.out⟩
      · gi_wp2_with fail
        gi_meet
        exact ⟨L, by omega, Hl.out⟩
  case rest =>
    obtain ⟨L, hL, hl⟩ := hcut
    have hc0 := C1.out.trans hl.calm_
    have hz := Hz.out
    have b1 : wc.cell? ⟨w.heap.size, 0, none⟩ = some (.int .i64 a1) := (hc0.cell (p := ⟨w.heap.size, 0, none⟩) (by show w.heap.size < _; omega) (fun e => e)).trans HB.out.1.1
    have b1f : wc.frozen? ⟨w.heap.size, 0, none⟩ = false := (hc0.soft (p := ⟨w.heap.size, 0, none⟩) (by show w.heap.size < _; omega) (fun e => e)).trans HB.out.1.2
    have b2 : wc.cell? ⟨w.heap.size + 1, 0, none⟩ = some (.bool false) := (hc0.cell (p := ⟨w.heap.size + 1, 0, none⟩) (by show w.heap.size + 1 < _; omega) (fun e => e)).trans HB.out.2.1
    have b2f : wc.frozen? ⟨w.heap.size + 1, 0, none⟩ = false := (hc0.soft (p := ⟨w.heap.size + 1, 0, none⟩) (by show w.heap.size + 1 < _; omega) (fun e => e)).trans HB.out.2.2
    have Hl := Lib.hid hl
    have HL := Lib.hid hL
    have C0 := Lib.hid hc0
    have en := EN.out
    have hz0 := hc0.size
    clear hl hL hc0 TB
    gi_wp2_with fail
    refine ⟨trivial, ?_⟩
    refine (callsIn_wide.2 (si_all b _)).mono ?_
    rintro e w5 ⟨rfl, rfl⟩
    have hfn := seq_there
    gi_wp2_with fail
    refine ⟨trivial, ?_⟩
    refine (callsIn_wide.2 (si_all b _)).mono ?_
    rintro e w5 ⟨rfl, rfl⟩
    have Kset : Keep (fun k => k = w.heap.size) wc (wc.setCell ⟨w.heap.size, 0, none⟩ (.int .i64 (n : Int))) := (Keep.refl (fun k => k = w.heap.size) wc).store (p := ⟨w.heap.size, 0, none⟩) (fun _ => rfl) _
    have hs6 : (wc.setCell ⟨w.heap.size, 0, none⟩ (.int .i64 (n : Int))).heap.size = wc.heap.size := by simp [World.setCell]
    have n6 : (wc.setCell ⟨w.heap.size, 0, none⟩ (.int .i64 (n : Int))).cell? ⟨w.heap.size, 0, none⟩ = some (.int .i64 (n : Int)) := World.cell?_setCell_same' _ _ _ (by rw [b1]; rfl)
    have r6 : (wc.setCell ⟨w.heap.size, 0, none⟩ (.int .i64 (n : Int))).cell? ⟨w.heap.size + 1, 0, none⟩ = some (.bool false) := (World.cell?_setCell_other _ _ _ _ (fun e => absurd (congrArg Addr.block e) (by show ¬ w.heap.size = w.heap.size + 1; omega))).trans b2
    have r6f : (wc.setCell ⟨w.heap.size, 0, none⟩ (.int .i64 (n : Int))).frozen? ⟨w.heap.size + 1, 0, none⟩ = false := (World.frozen?_setCell _ _ _ _).trans b2f
    have c6 : Calm w (wc.setCell ⟨w.heap.size, 0, none⟩ (.int .i64 (n : Int))) := (HC.out.trans C0.out).store (p := ⟨w.heap.size, 0, none⟩) (fun h => by have h' : w.heap.size < w.heap.size := h; omega) _
    obtain ⟨R, Q, t1, t2, t3, t4, t5, t6, t7⟩ := Hl.out
    have hw1 : w.heap.size + 2 ≤ w1.heap.size := by have := C1.out.size; omega
    have h6 := t1.keep Kset (fun i hi (e : i = w.heap.size) => by have := (t4 i (.inl hi)).1; omega)
    have q6 := t2.keep Kset (fun i hi (e : i = w.heap.size) => by have := (t4 i (.inr hi)).1; omega)
    have bx6 := (Kset.cell (p := ⟨B, 0, none⟩) t5 (fun (e : B = w.heap.size) => by have := HBw.out; omega)).trans t7
    have hw1c := t6.size
    clear Kset t1 t2 t3 t6 t7 b1 b1f b2 b2f hfn en
    generalize wc.setCell ⟨w.heap.size, 0, none⟩ (.int .i64 (n : Int)) = w6 at *
    have A1 := Row.made w6 3 #[.int .i64 0]
    rw [hs6] at A1
    have A3 := Row.made ((w6.alloc (.cells #[.int .i64 0] 3)).alloc (.cells #[.pointer (some ⟨b, 0, none⟩)] 35)) 35 #[.pointer (some ⟨b, 0, none⟩)]
    rw [World.size_alloc, World.size_alloc, hs6] at A3
    have A1' := (A1.alloc (.cells #[.pointer (some ⟨b, 0, none⟩)] 35)).alloc (.cells #[.pointer (some ⟨b, 0, none⟩)] 35)
    have hC5 : Calm w6 (((w6.alloc (.cells #[.int .i64 0] 3)).alloc (.cells #[.pointer (some ⟨b, 0, none⟩)] 35)).alloc (.cells #[.pointer (some ⟨b, 0, none⟩)] 35)) := (((Keep.refl _ w6).alloc _).alloc _).alloc _
    have hz5 : (((w6.alloc (.cells #[.int .i64 0] 3)).alloc (.cells #[.pointer (some ⟨b, 0, none⟩)] 35)).alloc (.cells #[.pointer (some ⟨b, 0, none⟩)] 35)).heap.size = wc.heap.size + 3 := by simp [hs6]
    clear A1
    generalize ((w6.alloc (.cells #[.int .i64 0] 3)).alloc (.cells #[.pointer (some ⟨b, 0, none⟩)] 35)).alloc (.cells #[.pointer (some ⟨b, 0, none⟩)] 35) = W5 at *
    have s1 : W5.cell? ⟨wc.heap.size, 0, none⟩ = some (.int .i64 0) := (A1'.cell 0).trans rfl
    have s1f := A1'.soft 0
    have s2 : W5.cell? ⟨wc.heap.size + 1 + 1, 0, none⟩ = some (.pointer (some ⟨b, 0, none⟩)) := (A3.cell 0).trans rfl
    have H6 := Lib.hid h6
    have Q6 := Lib.hid q6
    have BX := Lib.hid bx6
    have NB := Lib.hid n6
    have RB := Lib.hid (And.intro r6 r6f)
    have HC6 := Lib.hid c6
    have hrl : w.heap.size + 1 < w6.heap.size := by omega
    have hnl : w.heap.size < w6.heap.size := by omega
    have hBl : B < w6.heap.size := by omega
    obtain ⟨⟨lv, r1, r2, r3⟩, qd, qlt, _, _, _⟩ := q6
    obtain ⟨A2, c2, rfl⟩ := r2.form
    have HNE : Hid (w.heap.size + 1 < wc.heap.size ∧ B ≠ w.heap.size + 1 ∧ d ≠ w.heap.size + 1) := Lib.hid ⟨by omega, by have := HBw.out; omega, by have := (t4 d (.inr qd)).1; omega⟩
    have hdl := r1.lt
    have C1d : Hid (w6.cell? ⟨d, 1, none⟩ = some (.slice A2 L.length c2)) := Lib.hid ((r1.cell 1).trans rfl)
    have R2 := Lib.hid r2
    have Hz5 : Hid (W5.heap.size = wc.heap.size + 3 ∧ w6.heap.size = wc.heap.size) := Lib.hid ⟨hz5, hs6⟩
    obtain ⟨m, nx, pv, D, es, hAt, hes, hle⟩ := h6.calm hC5
    have hEl : es.length = L.length := by rw [← hes]; simp
    have HEl := Lib.hid hEl
    have HAt := Lib.hid hAt
    have Hes := Lib.hid hes
    have hRl : ∀ k, R k → k < wc.heap.size := fun k hk => by have := h6.lt k hk; omega
    have HRl := Lib.hid hRl
    have HL50 := Lib.hid (show L.length ≤ 50 ∧ n < 64 from ⟨HL.out, hn64⟩)
    clear hes hle hEl t4 t5 hw1 hw1c h6 bx6 n6 r6 r6f c6 r1 r2 r3 qd qlt A1' A3 hRl HBw Hl HL C0 C1 HC HB HS HM EN hn64 hz hz0 Hz hz5
    gi_wp2_with fail
    refine wpIn_rangeFunc_ownG (F := Fence.wide) (α := {x // x ∈ es.map (·.2)}) rfl (by omega) (gf := 61) (lb := #[.pointer (some ⟨wc.heap.size + 1 + 1, 0, none⟩)]) rfl trivial (enters_of Try.func61 (by kernel_rfl) rfl)
      (si_stops (3 - 1) (by omega) (wc.heap.size + 1 + 1) b m 100 hAt (by have := Hz5.out; omega) s2)
      (fun h k i hi => (k i hi).trans (h i hi)) (fun W l o o' hl _ _ _ k hk => World.putObj_heap_other (by
        have := Hz5.out
        rcases hk with hk | hk
        · have := HRl.out k hk; omega
        · omega)) (Below.refl _ _) (fun _ => rfl)
      (SJ w6 W5 n es wc.heap.size) (SX w6 W5 n es wc.heap.size) (SJ.own (by have := Hz5.out; omega)) (SX.own (by have := Hz5.out; omega))
      ⟨by simp, Nat.zero_le _, hC5, Nat.le_refl _, s1, s1f⟩ (fun x => { tmps := #[.slice A ss.length cap, .int .i64 a1, undef, .pointer (some ⟨w.heap.size, 0, none⟩), .pointer (some ⟨w.heap.size + 1, 0, none⟩), .bool true, .pointer (some ⟨b, 0, none⟩), .pointer (some ⟨B, 0, none⟩), u8, .pointer (some ⟨wc.heap.size, 0, none⟩), .string (str x.1.1), .bool true, .pointer (some ⟨b, 0, none⟩), .pointer (some ⟨d, 0, none⟩), .pointer (some ⟨b, 0, none⟩), .bool false, u16, u17, u18, u19, u20, u21, u22, u23, u24, u25, u26, u27, u28, u29, u30, u31, u32, u33, u34, u35, u36, u37, u38, u39, .int .i64 a1, .int .i64 (n : Int), .pointer (some ⟨b, 0, none⟩), .func (.func 61) #[] #[.pointer (some ⟨wc.heap.size + 1, 0, none⟩)], .bool false, .pointer (some ⟨b, 0, none⟩), .func (.func 61) #[] #[.pointer (some ⟨wc.heap.size + 1 + 1, 0, none⟩)], .string (str x.1.1), .int .i64 x.1.2, u49, u50, u51, u52, u53, u54, u55, u56, u57, u58, u59, u60, u61, u62, u63, u64, u65, u66, u67, u68, u69, u70, u71, u72, u73, u74, u75, u76, u77, u78, u79, u80], defers := [] }) ?assign ?body ?done ?stop
    case assign =>
      intro l x W K hK
      have HK := Lib.hid hK
      clear hK
      unfold si_enc
      gi_wp2
      exact HK.out
    case body =>
      rintro l pre ⟨⟨xk, xv⟩, hx⟩ W ⟨p1, p0, p2, p3, t3, t3f⟩ hlen
      obtain ⟨i, hi⟩ : ∃ i, i = pre.length := ⟨_, rfl⟩
      rw [← hi] at p1 p0 hlen t3
      have hiL : i < L.length := by rw [← HEl.out]; exact hlen
      have hne : L ≠ [] := fun e => by rw [e] at hiL; simp at hiL
      obtain ⟨⟨yk, yv⟩, hy⟩ : ∃ y, L[i]? = some y := ⟨_, List.getElem?_eq_getElem hiL⟩
      obtain ⟨g3, c3, e3, q1, q2, _, hcell⟩ := (R2.out.calm p2).some_ hne
      injection e3 with e3 _ e4
      subst e3; subst e4
      have f0 : W.cell? ⟨g3, i * 2, none⟩ = some (.string (str yk)) := hcell _ _ (flatP_at L i _ hy).1
      have dW : W.cell? ⟨d, 1, none⟩ = some (.slice (some ⟨g3, 0, none⟩) L.length c2) := (p2.cell (p := ⟨d, 1, none⟩) hdl (fun e => e)).trans C1d.out
      have bW : W.cell? ⟨B, 0, none⟩ = some (.pointer (some ⟨d, 0, none⟩)) := (p2.cell (p := ⟨B, 0, none⟩) hBl (fun e => e)).trans BX.out
      have nW : W.cell? ⟨w.heap.size, 0, none⟩ = some (.int .i64 (n : Int)) := (p2.cell (p := ⟨w.heap.size, 0, none⟩) hnl (fun e => e)).trans NB.out
      have rW : W.cell? ⟨w.heap.size + 1, 0, none⟩ = some (.bool false) := (p2.cell (p := ⟨w.heap.size + 1, 0, none⟩) hrl (fun e => e)).trans RB.out.1
      have rWf : W.frozen? ⟨w.heap.size + 1, 0, none⟩ = false := (p2.soft (p := ⟨w.heap.size + 1, 0, none⟩) hrl (fun e => e)).trans RB.out.2
      have j1 : ¬ (L.length : Int) ≤ (i : Int) := by omega
      have j2 : (i : Int) < (L.length : Int) := by omega
      have j3 : (i : Int) ≤ 1000 := by have := HL50.out; omega
      have j4 : wrap64 ((i : Int) + 1) = (i : Int) + 1 := by unfold wrap64; omega
      unfold maxLen at q2
      have P1 := Lib.hid p1
      have P2 := Lib.hid p2
      have P3 := Lib.hid p3
      have HY := Lib.hid hy
      have HI := Lib.hid hi
      have HLN := Lib.hid hlen
      clear p1 p2 p3 hcell hy hi hne hlen
      have NOT : (yk, yv) ≠ (xk, xv) → ¬ ∃ k, k ≤ es.length ∧ pre ++ [⟨(xk, xv), hx⟩] = (es.map (·.2)).attach.take k := by
        intro hne
        have h1 := si_not (L := es.map (·.2)) (x := ⟨(xk, xv), hx⟩) P1.out (by rw [List.length_map]; exact HLN.out) (by
          show (es.map (·.2))[i]? ≠ some (xk, xv)
          rw [Hes.out, HY.out]
          intro e
          injection e with e
          exact hne e)
        rw [List.length_map] at h1
        exact h1
      have HNOT := Lib.hid NOT
      clear NOT
      by_cases hin : i = n
      · subst hin
        have jj : ((i : Int) == (i : Int)) = true := by simp
        clear j1 j2 j3 j4 HNOT HY q1 q2 f0 dW bW rW rWf
        iterate 19 (first | go_values | gi_guarded | gi_step | gi_upon | gi_back)
        exact ⟨KeepsFrom.refl _ _, .inl ⟨rfl, Nat.le_of_lt HLN.out, P2.out, P3.out, t3, t3f⟩⟩
      · have hin' : ¬ (i : Int) = (n : Int) := fun e => hin (Int.ofNat_inj.1 e)
        have hin2 : ((i : Int) == (n : Int)) = false := by rw [beq_eq_false_iff_ne]; exact hin'
        obtain ⟨β, hβ⟩ : ∃ β : Bool, ((str xk).toList == (str yk).toList) = β := ⟨_, rfl⟩
        have hYes : xk = yk → β = true := fun e => by rw [← hβ]; exact ks_yes e
        have hNo : xk ≠ yk → β = false := fun e => by rw [← hβ]; exact ks_no e
        have HYN := Lib.hid (And.intro hYes hNo)
        have HLT : Hid (i + 1 ≤ n) := Lib.hid (Nat.lt_of_le_of_ne p0 hin)
        clear hYes hNo j1 hin hin' q1 q2
        gi_wp2_with fail
        refine wpIn_round_quiet (by kernel_rfl) (by kernel_rfl) (by kernel_rfl) ?_
        repeat (first | gi_big_quiet_step (fail) | quiet_step_in (fail))
        refine wpQuietIn_nil ?_
        rintro _ ⟨nq, rfl⟩
        cases β with
        | true =>
          gi_wp2
          have hk : xk = yk := Decidable.byContradiction (fun e => by have := HYN.out.2 e; cases this)
          have hv : yv = xv := kv_one (k := xk) H6.out.nodup (by rw [hk]; exact List.mem_of_getElem? HY.out) (by rw [← Hes.out]; exact hx)
          have hp : pre ++ [⟨(xk, xv), hx⟩] = (es.map (·.2)).attach.take (i + 1) := si_pre P1.out (by rw [List.length_map]; exact HLN.out) (by show (es.map (·.2))[i]? = some (xk, xv); rw [Hes.out, HY.out, hk, hv])
          have hlp : (pre ++ [⟨(xk, xv), hx⟩] : List {x // x ∈ es.map (·.2)}).length = i + 1 := by have := HI.out; simp; omega
          refine ⟨KeepsFrom.trans (keepsFrom_drewN W nq) ((KeepsOthers.setCell (W.drewN nq) _ _).from _), fun k hk => Below.heap_setCell _ _ _ _ (by
            show k ≠ wc.heap.size
            rcases hk with hk | hk
            · have := HRl.out k hk; omega
            · omega), ⟨by rw [hlp]; exact hp, by rw [hlp]; exact HLT.out, (P2.out.drewN _).store (p := ⟨wc.heap.size, 0, none⟩) (fun h => by have h' : wc.heap.size < w6.heap.size := h; have := Hz5.out; omega) _, by simpa [World.setCell] using P3.out, ?_, ?_⟩⟩
          · rw [hlp]; exact World.cell?_setCell_same' _ _ _ (by rw [show (W.drewN _).cell? _ = W.cell? _ from rfl, t3]; rfl)
          · exact (World.frozen?_setCell _ _ _ _).trans t3f
        | false =>
          gi_wp2
          have hk : xk ≠ yk := fun e => by have := HYN.out.1 e; cases this
          exact ⟨KeepsFrom.trans (keepsFrom_drewN W nq) ((KeepsOthers.setCell (W.drewN nq) _ _).from _), .inr (HNOT.out (fun e => hk (by injection e with e1 e2; exact e1.symm)))⟩
    case done =>
      rintro D ys W hD rfl ⟨p1, p0, p2, p3, t3, t3f⟩ hK
      have hyl : ((es.map (·.2)).attach).length = L.length := by simp [HEl.out]
      rw [hyl] at t3 p0
      clear p1 hyl t3f
      have hq : (if (L.length : Int) < (n : Int) then (L.length : Int) else (n : Int)) = (L.length : Int) := by split <;> omega
      have hq' : (if L.length < n then (L.length : Int) else (n : Int)) = (L.length : Int) := by split <;> omega
      have dW : W.cell? ⟨d, 1, none⟩ = some (.slice A2 L.length c2) := (p2.cell (p := ⟨d, 1, none⟩) hdl (fun e => e)).trans C1d.out
      have bW : W.cell? ⟨B, 0, none⟩ = some (.pointer (some ⟨d, 0, none⟩)) := (p2.cell (p := ⟨B, 0, none⟩) hBl (fun e => e)).trans BX.out
      have nW : W.cell? ⟨w.heap.size, 0, none⟩ = some (.int .i64 (n : Int)) := (p2.cell (p := ⟨w.heap.size, 0, none⟩) hnl (fun e => e)).trans NB.out
      have rW : W.cell? ⟨w.heap.size + 1, 0, none⟩ = some (.bool false) := (p2.cell (p := ⟨w.heap.size + 1, 0, none⟩) hrl (fun e => e)).trans RB.out.1
      have rWf : W.frozen? ⟨w.heap.size + 1, 0, none⟩ = false := (p2.soft (p := ⟨w.heap.size + 1, 0, none⟩) hrl (fun e => e)).trans RB.out.2
      have hps := p2.size
      have QT : Hid (∀ w', Keep (fun i => i = w.heap.size + 1) W w' → w'.cell? ⟨wc.heap.size, 0, none⟩ = some (.int .i64 ((L.length : Int)))) := Lib.hid (fun w' k => (k.cell (p := ⟨wc.heap.size, 0, none⟩) (by show wc.heap.size < W.heap.size; have := Hz5.out; omega) (fun e => by have e' : wc.heap.size = w.heap.size + 1 := e; have := HNE.out.1; omega)).trans t3)
      have QN : Hid (∀ w', Keep (fun i => i = w.heap.size + 1) W w' → w'.cell? ⟨w.heap.size, 0, none⟩ = some (.int .i64 (n : Int))) := Lib.hid (fun w' k => (k.cell (p := ⟨w.heap.size, 0, none⟩) (by show w.heap.size < W.heap.size; omega) (fun e => by have e' : w.heap.size = w.heap.size + 1 := e; omega)).trans nW)
      have QB : Hid (∀ w', Keep (fun i => i = w.heap.size + 1) W w' → w'.cell? ⟨B, 0, none⟩ = some (.pointer (some ⟨d, 0, none⟩))) := Lib.hid (fun w' k => (k.cell (p := ⟨B, 0, none⟩) (by show B < W.heap.size; omega) (fun e => HNE.out.2.1 e)).trans bW)
      have QD : Hid (∀ w', Keep (fun i => i = w.heap.size + 1) W w' → w'.cell? ⟨d, 1, none⟩ = some (.slice A2 L.length c2)) := Lib.hid (fun w' k => (k.cell (p := ⟨d, 1, none⟩) (by show d < W.heap.size; have h' : d < w6.heap.size := hdl; omega) (fun e => HNE.out.2.2 e)).trans dW)
      have HSm := Lib.hid (same_c (H6.out.calm (p2.drewN 1)) (Q6.out.calm (p2.drewN 1)))
      have P2 := Lib.hid (HC6.out.trans p2)
      have HW := Lib.hid (show w.heap.size + 1 < W.heap.size from by have := p2.size; omega)
      have HD := Lib.hid hK
      have HDl : Hid (w.heap.size ≤ D) := Lib.hid (by have := Hz5.out; omega)
      clear p2 p3 p0 hps hK t3 dW bW nW
      gi_wp2_with fail
      refine wpIn_wide.2 ?_
      refine wp_region_noPanic ?_
      refine wp_region_held_drew (S := fun w' => Keep (fun i => i = w.heap.size + 1) W w') (by kernel_rfl) (Keep.refl _ W).drew (fun hHeld => ?_)
      refine take_at 0 64 (.bool true) rfl rfl (by kernel_rfl) (by kernel_rfl) (by kernel_rfl) (fun _ _ _ h => h) (Or.inl ⟨by rfl, ?_⟩) hHeld ?_
      · intro w hSw; go_simp
      simp only [List.setIfInBounds_toArray, List.set_cons_zero, List.set_cons_succ]
      refine take_at 1 65 (.bool true) rfl rfl (by kernel_rfl) (by kernel_rfl) (by kernel_rfl) (fun _ _ _ h => h) (Or.inl ⟨by rfl, ?_⟩) hHeld ?_
      · intro w hSw; go_simp
      simp only [List.setIfInBounds_toArray, List.set_cons_zero, List.set_cons_succ]
      refine take_at 2 66 (.int .i64 ((L.length : Int))) rfl rfl (by kernel_rfl) (by kernel_rfl) (by kernel_rfl) (fun _ _ _ h => h) (Or.inl ⟨by rfl, ?_⟩) hHeld ?_
      · intro w hSw; have e := QT.out w hSw; go_simp
      simp only [List.setIfInBounds_toArray, List.set_cons_zero, List.set_cons_succ]
      refine take_at 3 67 (.int .i64 (n : Int)) rfl rfl (by kernel_rfl) (by kernel_rfl) (by kernel_rfl) (fun _ _ _ h => h) (Or.inl ⟨by rfl, ?_⟩) hHeld ?_
      · intro w hSw; have e := QN.out w hSw; go_simp
      simp only [List.setIfInBounds_toArray, List.set_cons_zero, List.set_cons_succ]
      refine take_at 4 68 (.pointer (some ⟨d, 0, none⟩)) rfl rfl (by kernel_rfl) (by kernel_rfl) (by kernel_rfl) (fun _ _ _ h => h) (Or.inl ⟨by rfl, ?_⟩) hHeld ?_
      · intro w hSw; have e := QB.out w hSw; go_simp
      simp only [List.setIfInBounds_toArray, List.set_cons_zero, List.set_cons_succ]
      refine take_at 5 69 (.pointer (some ⟨d, 0, none⟩)) rfl rfl (by kernel_rfl) (by kernel_rfl) (by kernel_rfl) (fun _ _ _ h => h) (Or.inl ⟨by rfl, ?_⟩) hHeld ?_
      · intro w hSw; go_simp
      simp only [List.setIfInBounds_toArray, List.set_cons_zero, List.set_cons_succ]
      refine take_at 6 70 (.pointer (some ⟨d, 1, none⟩)) rfl rfl (by kernel_rfl) (by kernel_rfl) (by kernel_rfl) (fun _ _ _ h => h) (Or.inl ⟨by rfl, ?_⟩) hHeld ?_
      · intro w hSw; go_simp
      simp only [List.setIfInBounds_toArray, List.set_cons_zero, List.set_cons_succ]
      refine take_at 7 71 (.slice A2 L.length c2) rfl rfl (by kernel_rfl) (by kernel_rfl) (by kernel_rfl) (fun _ _ _ h => h) (Or.inl ⟨by rfl, ?_⟩) hHeld ?_
      · intro w hSw; have e := QD.out w hSw; go_simp
      simp only [List.setIfInBounds_toArray, List.set_cons_zero, List.set_cons_succ]
      refine take_at 8 72 (.int .i64 (L.length : Int)) rfl rfl (by kernel_rfl) (by kernel_rfl) (by kernel_rfl) (fun _ _ _ h => h) (Or.inl ⟨by rfl, ?_⟩) hHeld ?_
      · intro w hSw; go_simp
      simp only [List.setIfInBounds_toArray, List.set_cons_zero, List.set_cons_succ]
      refine take_at 9 73 (.int .i64 ((L.length : Int))) rfl rfl (by kernel_rfl) (by kernel_rfl) (by kernel_rfl) (fun _ _ _ h => h) (Or.inl ⟨by rfl, ?_⟩) hHeld ?_
      · intro w hSw; go_simp
      simp only [List.setIfInBounds_toArray, List.set_cons_zero, List.set_cons_succ]
      refine take_at 10 74 (.bool true) rfl rfl (by kernel_rfl) (by kernel_rfl) (by kernel_rfl) (fun _ _ _ h => h) (Or.inl ⟨by rfl, ?_⟩) hHeld ?_
      · intro w hSw; go_simp
      simp only [List.setIfInBounds_toArray, List.set_cons_zero, List.set_cons_succ]
      refine take_at 11 75 (.bool true) rfl rfl (by kernel_rfl) (by kernel_rfl) (by kernel_rfl) (fun _ _ _ h => h) (Or.inl ⟨by rfl, ?_⟩) hHeld ?_
      · intro w hSw; go_simp
      simp only [List.setIfInBounds_toArray, List.set_cons_zero, List.set_cons_succ]
      refine take_at 12 76 (.bool true) rfl rfl (by kernel_rfl) (by kernel_rfl) (by kernel_rfl) (fun _ _ _ h => h) (Or.inl ⟨by rfl, ?_⟩) hHeld ?_
      · intro w hSw; go_simp
      simp only [List.setIfInBounds_toArray, List.set_cons_zero, List.set_cons_succ]
      refine take_at 13 77 (.pointer (some ⟨b, 0, none⟩)) rfl rfl (by kernel_rfl) (by kernel_rfl) (by kernel_rfl) (fun _ _ _ h => h) (Or.inl ⟨by rfl, ?_⟩) hHeld ?_
      · intro w hSw; go_simp
      simp only [List.setIfInBounds_toArray, List.set_cons_zero, List.set_cons_succ]
      refine take_at 14 78 (.pointer (some ⟨d, 0, none⟩)) rfl rfl (by kernel_rfl) (by kernel_rfl) (by kernel_rfl) (fun _ _ _ h => h) (Or.inl ⟨by rfl, ?_⟩) hHeld ?_
      · intro w hSw; have e := QB.out w hSw; go_simp
      simp only [List.setIfInBounds_toArray, List.set_cons_zero, List.set_cons_succ]
      refine wpAnyH_ready (rs := [15]) (by kernel_rfl) (by simp) ?_
      refine AllReadyH.cons rfl (fun K hK => ?_) AllReadyH.nil
      go_simp
      refine HSm.out.mono ?_
      rintro e w7 ⟨rfl, c7⟩
      have r7 : w7.cell? ⟨w.heap.size + 1, 0, none⟩ = some (.bool false) := (c7.cell (p := ⟨w.heap.size + 1, 0, none⟩) HW.out (fun e => e)).trans rW
      have r7f : w7.frozen? ⟨w.heap.size + 1, 0, none⟩ = false := (c7.soft (p := ⟨w.heap.size + 1, 0, none⟩) HW.out (fun e => e)).trans rWf
      go_wp2_with fail
      refine hK.out _ _ (hHeld.trans (c7.keep _)) (fun hHeld => ?_)
      clear hK K
      try simp only [List.setIfInBounds_toArray, List.set_cons_zero, List.set_cons_succ]
      refine take_at 16 80 (.bool true) rfl rfl (by kernel_rfl) (by kernel_rfl) (by kernel_rfl) (fun _ _ _ h => h) (Or.inl ⟨by rfl, ?_⟩) hHeld ?_
      · intro w hSw; go_simp
      simp only [List.setIfInBounds_toArray, List.set_cons_zero, List.set_cons_succ]
      refine wpAnyH_ready (rs := [17]) (by kernel_rfl) (by simp) ?_
      refine AllReadyH.cons rfl (fun K hK => ?_) AllReadyH.nil
      go_simp
      refine hK.out _ _ (hHeld.store (fun _ => rfl) _) (fun hHeld => ?_)
      clear hK K
      try simp only [List.setIfInBounds_toArray, List.set_cons_zero, List.set_cons_succ]
      refine wpAnyH_done (by kernel_rfl) (NoPanic.normal ?_) _
      gi_wp2
      have hDl : D < W.heap.size := (Array.getElem?_eq_some_iff.1 HD.out).1
      have hD7 : w7.heap[D]? = some (.deferred (some [])) := (c7.block D hDl (fun e => e)).trans HD.out
      have hD9 : (w7.setCell ⟨w.heap.size + 1, 0, none⟩ (.bool true)).heap[D]? = some (.deferred (some [])) := (KeepsOthers.setCell w7 ⟨w.heap.size + 1, 0, none⟩ (.bool true)).same D _ hD7 rfl
      have hc5 : ((w7.setCell ⟨w.heap.size + 1, 0, none⟩ (.bool true)).putObj D (.deferred none)).cell? ⟨w.heap.size + 1, 0, none⟩ = some (.bool true) := cell_kept (W := w7.setCell ⟨w.heap.size + 1, 0, none⟩ (.bool true)) (World.cell?_setCell_same' w7 ⟨w.heap.size + 1, 0, none⟩ (.bool true) (by rw [r7]; rfl)) (grownBy_putObj' _ D (.deferred none)) (fun r e => by cases e; exact ⟨_, hD9, rfl⟩)
      refine ⟨by simp, .inl ⟨_, _, rfl, run_takeDeferred hD9, ?_⟩⟩
      exact ⟨.bool true, by simp [results, Try.f4, go_sem, hc5], rfl, calm_put (((P2.out.drewN 1).trans c7).store (p := ⟨w.heap.size + 1, 0, none⟩) (fun h => by have h' : w.heap.size + 1 < w.heap.size := h; omega) _) HDl.out _⟩
    case stop =>
      rintro D c pre W hD ⟨k, hk, e⟩ hn hK
      rcases hn with ⟨rfl, p0, p2, p3, t3, t3f⟩ | hn
      · rw [HEl.out] at p0
        clear t3f hk e
        have hq : (if (L.length : Int) < (n : Int) then (L.length : Int) else (n : Int)) = (n : Int) := by split <;> omega
        have hq' : (if L.length < n then (L.length : Int) else (n : Int)) = (n : Int) := by split <;> omega
        have dW : W.cell? ⟨d, 1, none⟩ = some (.slice A2 L.length c2) := (p2.cell (p := ⟨d, 1, none⟩) hdl (fun e => e)).trans C1d.out
        have bW : W.cell? ⟨B, 0, none⟩ = some (.pointer (some ⟨d, 0, none⟩)) := (p2.cell (p := ⟨B, 0, none⟩) hBl (fun e => e)).trans BX.out
        have nW : W.cell? ⟨w.heap.size, 0, none⟩ = some (.int .i64 (n : Int)) := (p2.cell (p := ⟨w.heap.size, 0, none⟩) hnl (fun e => e)).trans NB.out
        have rW : W.cell? ⟨w.heap.size + 1, 0, none⟩ = some (.bool false) := (p2.cell (p := ⟨w.heap.size + 1, 0, none⟩) hrl (fun e => e)).trans RB.out.1
        have rWf : W.frozen? ⟨w.heap.size + 1, 0, none⟩ = false := (p2.soft (p := ⟨w.heap.size + 1, 0, none⟩) hrl (fun e => e)).trans RB.out.2
        have hps := p2.size
        have QT : Hid (∀ w', Keep (fun i => i = w.heap.size + 1) W w' → w'.cell? ⟨wc.heap.size, 0, none⟩ = some (.int .i64 ((n : Int)))) := Lib.hid (fun w' k => (k.cell (p := ⟨wc.heap.size, 0, none⟩) (by show wc.heap.size < W.heap.size; have := Hz5.out; omega) (fun e => by have e' : wc.heap.size = w.heap.size + 1 := e; have := HNE.out.1; omega)).trans t3)
        have QN : Hid (∀ w', Keep (fun i => i = w.heap.size + 1) W w' → w'.cell? ⟨w.heap.size, 0, none⟩ = some (.int .i64 (n : Int))) := Lib.hid (fun w' k => (k.cell (p := ⟨w.heap.size, 0, none⟩) (by show w.heap.size < W.heap.size; omega) (fun e => by have e' : w.heap.size = w.heap.size + 1 := e; omega)).trans nW)
        have QB : Hid (∀ w', Keep (fun i => i = w.heap.size + 1) W w' → w'.cell? ⟨B, 0, none⟩ = some (.pointer (some ⟨d, 0, none⟩))) := Lib.hid (fun w' k => (k.cell (p := ⟨B, 0, none⟩) (by show B < W.heap.size; omega) (fun e => HNE.out.2.1 e)).trans bW)
        have QD : Hid (∀ w', Keep (fun i => i = w.heap.size + 1) W w' → w'.cell? ⟨d, 1, none⟩ = some (.slice A2 L.length c2)) := Lib.hid (fun w' k => (k.cell (p := ⟨d, 1, none⟩) (by show d < W.heap.size; have h' : d < w6.heap.size := hdl; omega) (fun e => HNE.out.2.2 e)).trans dW)
        have HSm := Lib.hid (same_c (H6.out.calm (p2.drewN 1)) (Q6.out.calm (p2.drewN 1)))
        have P2 := Lib.hid (HC6.out.trans p2)
        have HW := Lib.hid (show w.heap.size + 1 < W.heap.size from by have := p2.size; omega)
        have HD := Lib.hid hK
        have HDl : Hid (w.heap.size ≤ D) := Lib.hid (by have := Hz5.out; omega)
        clear p2 p3 p0 hps hK t3 dW bW nW
        gi_wp2_with fail
        refine wpIn_wide.2 ?_
        refine wp_region_noPanic ?_
        refine wp_region_held_drew (S := fun w' => Keep (fun i => i = w.heap.size + 1) W w') (by kernel_rfl) (Keep.refl _ W).drew (fun hHeld => ?_)
        refine take_at 0 64 (.bool true) rfl rfl (by kernel_rfl) (by kernel_rfl) (by kernel_rfl) (fun _ _ _ h => h) (Or.inl ⟨by rfl, ?_⟩) hHeld ?_
        · intro w hSw; go_simp
        simp only [List.setIfInBounds_toArray, List.set_cons_zero, List.set_cons_succ]
        refine take_at 1 65 (.bool true) rfl rfl (by kernel_rfl) (by kernel_rfl) (by kernel_rfl) (fun _ _ _ h => h) (Or.inl ⟨by rfl, ?_⟩) hHeld ?_
        · intro w hSw; go_simp
        simp only [List.setIfInBounds_toArray, List.set_cons_zero, List.set_cons_succ]
        refine take_at 2 66 (.int .i64 ((n : Int))) rfl rfl (by kernel_rfl) (by kernel_rfl) (by kernel_rfl) (fun _ _ _ h => h) (Or.inl ⟨by rfl, ?_⟩) hHeld ?_
        · intro w hSw; have e := QT.out w hSw; go_simp
        simp only [List.setIfInBounds_toArray, List.set_cons_zero, List.set_cons_succ]
        refine take_at 3 67 (.int .i64 (n : Int)) rfl rfl (by kernel_rfl) (by kernel_rfl) (by kernel_rfl) (fun _ _ _ h => h) (Or.inl ⟨by rfl, ?_⟩) hHeld ?_
        · intro w hSw; have e := QN.out w hSw; go_simp
        simp only [List.setIfInBounds_toArray, List.set_cons_zero, List.set_cons_succ]
        refine take_at 4 68 (.pointer (some ⟨d, 0, none⟩)) rfl rfl (by kernel_rfl) (by kernel_rfl) (by kernel_rfl) (fun _ _ _ h => h) (Or.inl ⟨by rfl, ?_⟩) hHeld ?_
        · intro w hSw; have e := QB.out w hSw; go_simp
        simp only [List.setIfInBounds_toArray, List.set_cons_zero, List.set_cons_succ]
        refine take_at 5 69 (.pointer (some ⟨d, 0, none⟩)) rfl rfl (by kernel_rfl) (by kernel_rfl) (by kernel_rfl) (fun _ _ _ h => h) (Or.inl ⟨by rfl, ?_⟩) hHeld ?_
        · intro w hSw; go_simp
        simp only [List.setIfInBounds_toArray, List.set_cons_zero, List.set_cons_succ]
        refine take_at 6 70 (.pointer (some ⟨d, 1, none⟩)) rfl rfl (by kernel_rfl) (by kernel_rfl) (by kernel_rfl) (fun _ _ _ h => h) (Or.inl ⟨by rfl, ?_⟩) hHeld ?_
        · intro w hSw; go_simp
        simp only [List.setIfInBounds_toArray, List.set_cons_zero, List.set_cons_succ]
        refine take_at 7 71 (.slice A2 L.length c2) rfl rfl (by kernel_rfl) (by kernel_rfl) (by kernel_rfl) (fun _ _ _ h => h) (Or.inl ⟨by rfl, ?_⟩) hHeld ?_
        · intro w hSw; have e := QD.out w hSw; go_simp
        simp only [List.setIfInBounds_toArray, List.set_cons_zero, List.set_cons_succ]
        refine take_at 8 72 (.int .i64 (L.length : Int)) rfl rfl (by kernel_rfl) (by kernel_rfl) (by kernel_rfl) (fun _ _ _ h => h) (Or.inl ⟨by rfl, ?_⟩) hHeld ?_
        · intro w hSw; go_simp
        simp only [List.setIfInBounds_toArray, List.set_cons_zero, List.set_cons_succ]
        refine take_at 9 73 (.int .i64 ((n : Int))) rfl rfl (by kernel_rfl) (by kernel_rfl) (by kernel_rfl) (fun _ _ _ h => h) (Or.inl ⟨by rfl, ?_⟩) hHeld ?_
        · intro w hSw; go_simp
        simp only [List.setIfInBounds_toArray, List.set_cons_zero, List.set_cons_succ]
        refine take_at 10 74 (.bool true) rfl rfl (by kernel_rfl) (by kernel_rfl) (by kernel_rfl) (fun _ _ _ h => h) (Or.inl ⟨by rfl, ?_⟩) hHeld ?_
        · intro w hSw; go_simp
        simp only [List.setIfInBounds_toArray, List.set_cons_zero, List.set_cons_succ]
        refine take_at 11 75 (.bool true) rfl rfl (by kernel_rfl) (by kernel_rfl) (by kernel_rfl) (fun _ _ _ h => h) (Or.inl ⟨by rfl, ?_⟩) hHeld ?_
        · intro w hSw; go_simp
        simp only [List.setIfInBounds_toArray, List.set_cons_zero, List.set_cons_succ]
        refine take_at 12 76 (.bool true) rfl rfl (by kernel_rfl) (by kernel_rfl) (by kernel_rfl) (fun _ _ _ h => h) (Or.inl ⟨by rfl, ?_⟩) hHeld ?_
        · intro w hSw; go_simp
        simp only [List.setIfInBounds_toArray, List.set_cons_zero, List.set_cons_succ]
        refine take_at 13 77 (.pointer (some ⟨b, 0, none⟩)) rfl rfl (by kernel_rfl) (by kernel_rfl) (by kernel_rfl) (fun _ _ _ h => h) (Or.inl ⟨by rfl, ?_⟩) hHeld ?_
        · intro w hSw; go_simp
        simp only [List.setIfInBounds_toArray, List.set_cons_zero, List.set_cons_succ]
        refine take_at 14 78 (.pointer (some ⟨d, 0, none⟩)) rfl rfl (by kernel_rfl) (by kernel_rfl) (by kernel_rfl) (fun _ _ _ h => h) (Or.inl ⟨by rfl, ?_⟩) hHeld ?_
        · intro w hSw; have e := QB.out w hSw; go_simp
        simp only [List.setIfInBounds_toArray, List.set_cons_zero, List.set_cons_succ]
        refine wpAnyH_ready (rs := [15]) (by kernel_rfl) (by simp) ?_
        refine AllReadyH.cons rfl (fun K hK => ?_) AllReadyH.nil
        go_simp
        refine HSm.out.mono ?_
        rintro e w7 ⟨rfl, c7⟩
        have r7 : w7.cell? ⟨w.heap.size + 1, 0, none⟩ = some (.bool false) := (c7.cell (p := ⟨w.heap.size + 1, 0, none⟩) HW.out (fun e => e)).trans rW
        have r7f : w7.frozen? ⟨w.heap.size + 1, 0, none⟩ = false := (c7.soft (p := ⟨w.heap.size + 1, 0, none⟩) HW.out (fun e => e)).trans rWf
        go_wp2_with fail
        refine hK.out _ _ (hHeld.trans (c7.keep _)) (fun hHeld => ?_)
        clear hK K
        try simp only [List.setIfInBounds_toArray, List.set_cons_zero, List.set_cons_succ]
        refine take_at 16 80 (.bool true) rfl rfl (by kernel_rfl) (by kernel_rfl) (by kernel_rfl) (fun _ _ _ h => h) (Or.inl ⟨by rfl, ?_⟩) hHeld ?_
        · intro w hSw; go_simp
        simp only [List.setIfInBounds_toArray, List.set_cons_zero, List.set_cons_succ]
        refine wpAnyH_ready (rs := [17]) (by kernel_rfl) (by simp) ?_
        refine AllReadyH.cons rfl (fun K hK => ?_) AllReadyH.nil
        go_simp
        refine hK.out _ _ (hHeld.store (fun _ => rfl) _) (fun hHeld => ?_)
        clear hK K
        try simp only [List.setIfInBounds_toArray, List.set_cons_zero, List.set_cons_succ]
        refine wpAnyH_done (by kernel_rfl) (NoPanic.normal ?_) _
        gi_wp2
        have hDl : D < W.heap.size := (Array.getElem?_eq_some_iff.1 HD.out).1
        have hD7 : w7.heap[D]? = some (.deferred (some [])) := (c7.block D hDl (fun e => e)).trans HD.out
        have hD9 : (w7.setCell ⟨w.heap.size + 1, 0, none⟩ (.bool true)).heap[D]? = some (.deferred (some [])) := (KeepsOthers.setCell w7 ⟨w.heap.size + 1, 0, none⟩ (.bool true)).same D _ hD7 rfl
        have hc5 : ((w7.setCell ⟨w.heap.size + 1, 0, none⟩ (.bool true)).putObj D (.deferred none)).cell? ⟨w.heap.size + 1, 0, none⟩ = some (.bool true) := cell_kept (W := w7.setCell ⟨w.heap.size + 1, 0, none⟩ (.bool true)) (World.cell?_setCell_same' w7 ⟨w.heap.size + 1, 0, none⟩ (.bool true) (by rw [r7]; rfl)) (grownBy_putObj' _ D (.deferred none)) (fun r e => by cases e; exact ⟨_, hD9, rfl⟩)
        refine ⟨by simp, .inl ⟨_, _, rfl, run_takeDeferred hD9, ?_⟩⟩
        exact ⟨.bool true, by simp [results, Try.f4, go_sem, hc5], rfl, calm_put (((P2.out.drewN 1).trans c7).store (p := ⟨w.heap.size + 1, 0, none⟩) (fun h => by have h' : w.heap.size + 1 < w.heap.size := h; omega) _) HDl.out _⟩
      · exact absurd ⟨k, hk, e⟩ hn

theorem lruStops_c (a1 : Int) (v0 : Value) (ss : List (List UInt8)) (w : World) (hs : Strv w v0 ss) : Calls Try.prog 4 #[v0, .int .i64 a1] w fun e w' => e = .returned (.bool true) ∧ Calm w w' := callsIn_wide.1 (lruStops_in a1 v0 ss w hs)
end Go.Proofs.Ytiipepiabeccpaa
