/-
  Package disk: Read and New.
-/
import Derived.Test.YtfigiofiakkbdaaDoorDisk5
namespace Go.Proofs.YtfigiofiakkbdaaDoor
open Go.RowKit
set_option linter.all false

set_option maxHeartbeats 800000 in
theorem read_arg {w : World} {R : Nat → Prop} {d : Nat} {S : DS} (h : IsDisk w R d S) (x : Int) (hx : ¬ (0 ≤ x ∧ x < S.secs.length)) :
    Calls Tryd.prog 39 #[.pointer (some ⟨d, 0, none⟩), .int .i64 x] w fun e w' => e = .returned (.tuple #[.slice none 0 0, .int .i64 1]) ∧ w = w' := by
  obtain ⟨_, _, ⟨sb, h0⟩, _⟩ := h.cells
  have e1 : (decide (0 ≤ x) && decide (x < S.secs.length)) = false := by simp; omega
  have Hc := Lib.hid (has_c d _ _ x _ w h0)
  rw [e1] at Hc
  clear h h0 hx e1
  go_enter Tryd.func39, Tryd.ntmps39
  go_wp2_with fail
  refine Hc.out.mono ?_
  rintro e w' ⟨rfl, rfl⟩
  go_wp2_with fail
  go_ret2
  exact ⟨rfl, rfl⟩

set_option maxHeartbeats 800000 in
theorem read_no {w : World} {R : Nat → Prop} {d : Nat} {S S1 : DS} (h : IsDisk w R d S) (hwm : S.wait.length ≤ 1000000) (hops : S.ops ≤ 1000000000) (hop : S.op = (false, S1)) (x : Nat) (hx : x < S.secs.length) :
    Calls Tryd.prog 39 #[.pointer (some ⟨d, 0, none⟩), .int .i64 x] w fun e w' => e = .returned (.tuple #[.slice none 0 0, .int .i64 11]) ∧ IsDisk w' R d S1 ∧ Keep R w w' := by
  obtain ⟨_, _, ⟨sb, h0⟩, _⟩ := h.cells
  have e1 : (decide (0 ≤ (x : Int)) && decide ((x : Int) < S.secs.length)) = true := by simp; omega
  have Hc := Lib.hid (has_c d _ _ x _ w h0)
  rw [e1] at Hc
  have Ho := Lib.hid (operate_no h hwm hops hop)
  clear h h0 e1 hop
  go_enter Tryd.func39, Tryd.ntmps39
  go_wp2_with fail
  refine Hc.out.mono ?_
  rintro e w' ⟨rfl, rfl⟩
  go_wp2_with fail
  refine Ho.out.mono ?_
  rintro e w1 ⟨rfl, h1, k1⟩
  have H1 := Lib.hid h1
  have K1 := Lib.hid k1
  clear h1 k1 Ho Hc
  go_wp2_with fail
  go_ret2
  exact ⟨rfl, H1.out, K1.out⟩

theorem IsDisk.calm {w w' : World} {R : Nat → Prop} {d : Nat} {S : DS} (h : IsDisk w R d S) (hc : Calm w w') : IsDisk w' R d S := h.move (fun k _ hk => hc.block k hk (fun e => e)) (fun _ x => x)

set_option maxHeartbeats 800000 in
theorem read_ok {w : World} {R : Nat → Prop} {d : Nat} {S S1 : DS} (h : IsDisk w R d S) (hwm : S.wait.length ≤ 1000000) (hops : S.ops ≤ 1000000000) (hop : S.op = (true, S1)) (x : Nat) (hx : x < S.secs.length) :
    Calls Tryd.prog 39 #[.pointer (some ⟨d, 0, none⟩), .int .i64 x] w fun e w' => ∃ g cap, e = .returned (.tuple #[.slice (some ⟨g, 0, none⟩) 512 cap, .int .i64 0]) ∧
      Data w' (fun k => k = g ∧ w.heap.size ≤ k) (.slice (some ⟨g, 0, none⟩) 512 cap) (S1.now x) ∧ IsDisk w' R d S1 ∧ Keep R w w' := by
  obtain ⟨_, _, ⟨sb, h0⟩, _⟩ := h.cells
  have e1 : (decide (0 ≤ (x : Int)) && decide ((x : Int) < S.secs.length)) = true := by simp; omega
  have Hc := Lib.hid (has_c d _ _ x _ w h0)
  rw [e1] at Hc
  have Ho := Lib.hid (operate_ok h hwm hops hop)
  obtain ⟨hw2, _, hse⟩ := DS.op_wait hop
  have Hse := Lib.hid hse
  clear h h0 e1 hop hse
  go_enter Tryd.func39, Tryd.ntmps39
  go_wp2_with fail
  refine Hc.out.mono ?_
  rintro e w' ⟨rfl, rfl⟩
  go_wp2_with fail
  refine Ho.out.mono ?_
  rintro e w1 ⟨rfl, h1, k1⟩
  have H1 := Lib.hid h1
  have K1 := Lib.hid k1
  clear h1 k1 Ho Hc
  go_wp2_with fail
  refine (last_c H1.out (by omega) x (by rw [Hse.out]; exact hx)).mono ?_
  rintro e w2 ⟨v, rfl, hd, hcalm⟩
  have Hd := Lib.hid (hd.move (R' := R) (fun g cur a b => ⟨b.keep hcalm (fun e => e), a⟩))
  have hform : ∃ g cap, v = .slice (some ⟨g, 0, none⟩) 512 cap := by obtain ⟨g, cap, _, e, _⟩ := hd; exact ⟨g, cap, e⟩
  obtain ⟨vg, vc, rfl⟩ := hform
  have HC := Lib.hid hcalm
  clear hd hcalm
  go_wp2_with fail
  refine (cloneB_c _ (S1.now x) R _ Hd.out.bytes Hd.out.len).mono ?_
  rintro e w3 ⟨g, cap, rfl, hown, hcalm3⟩
  have Hown := Lib.hid hown
  have HC3 := Lib.hid hcalm3
  clear hown hcalm3
  go_wp2_with fail
  go_ret2
  have z1 := K1.out.size
  have z2 := HC.out.size
  refine ⟨g, cap, rfl, (Data.of_own Hown.out).move (fun k cur a b => ⟨b, ?_, ?_⟩), (H1.out.calm HC.out).calm HC3.out, (K1.out.trans (HC.out.keep R)).trans (HC3.out.keep R)⟩
  · simpa [Value.ownBlock] using a.symm
  · have e : k = g := by simpa [Value.ownBlock] using a.symm
    have := (Hown.out.lt g rfl).1
    omega

theorem info45 : (Tryd.prog.info? 31).map (fun i => (i.zero, i.size, i.bytes)) = some (some (.slice none 0 0), 1, 24) := by kernel_rfl

set_option maxHeartbeats 800000 in
theorem new_arg (w : World) (n : Int) (hn : n < 1 ∨ 4096 < n) :
    Calls Tryd.prog 11 #[.int .i64 n] w fun e w' => e = .returned (.tuple #[.pointer none, .int .i64 1]) ∧ w = w' := by
  rcases hn with hn | hn
  · go_enter Tryd.func11, Tryd.ntmps11
    go_wp2_with fail
    go_ret2
    exact ⟨rfl, rfl⟩
  · have h1 : ¬ n < 1 := by omega
    go_enter Tryd.func11, Tryd.ntmps11
    go_wp2_with fail
    go_ret2
    exact ⟨rfl, rfl⟩

def zeros (z : Value) (n : Nat) : Array Value := (List.replicate n z).toArray
theorem madeCells_zeros (z : Value) (n : Nat) : madeCells #[z] (n * 1) = zeros z n := by
  apply Array.toList_inj.1
  rw [toList_madeCells_one, Nat.mul_one]
  rfl
theorem run_make1 (w : World) (t e : TypeId) (z : Value) (b n : Nat) (ht : Tryd.prog.underlying t = some (.slice e)) (hi : (Tryd.prog.info? e).map (fun i => (i.zero, i.size, i.bytes)) = some (some z, 1, b)) (hz : z.cells = #[z]) (hb : b * n ≤ 281474976710656) (hn : n ≤ 1000000000) :
    Sem.run Tryd.prog (Instr.makeSlice t (.int .i64 (n : Int)) (.int .i64 (n : Int))) w = .ok (.slice (some ⟨w.heap.size, 0, none⟩) n n) (w.alloc (.cells (zeros z n) e)) := by
  obtain ⟨i, hi, hz0, hz1, hz2⟩ := info_parts hi
  have hb' : (i.bytes : Int) * (n : Int) ≤ 281474976710656 := by
    have h : ((i.bytes * n : Nat) : Int) ≤ 281474976710656 := by rw [hz2]; omega
    rwa [Int.natCast_mul] at h
  have hr := run_make (P := Tryd.prog) w t e i z ht hi hz0 .i64 .i64 n n (by omega) (Int.le_refl _) hb' (by omega)
  simp only [Int.toNat_natCast, hz, hz1, madeCells_zeros] at hr
  exact hr
/-- A sector of noughts, as values. -/
def zero512 : Array Value := zeros (.int .u8 0) 512
theorem make512 (w : World) : Sem.run Tryd.prog (Instr.makeSlice 31 (.int .i64 512) (.int .i64 512)) w = .ok (.slice (some ⟨w.heap.size, 0, none⟩) 512 512) (w.alloc (.cells zero512 5)) :=
  run_make1 w 31 5 (.int .u8 0) 1 512 Tryd.underlying31 info5 rfl (by omega) (by omega)
theorem zeros_size (z : Value) (n : Nat) : (zeros z n).size = n := by simp [zeros]
theorem zeros_bytes (n : Nat) (c : UInt8) : (zeros (bv c) n).toList.take n = (List.replicate n c).map bv := by simp [zeros]
theorem zero512_size : zero512.size = 512 := zeros_size _ _
/-- A sector that is full of a byte. -/
def full (c : UInt8) : List UInt8 := List.replicate 512 c
theorem data_zero {w : World} {g : Nat} (h : Row w g 5 zero512) (R : Nat → Prop) (hR : R g) : Data w R (.slice (some ⟨g, 0, none⟩) 512 512) (full 0) :=
  ⟨g, 512, zero512, rfl, h, Nat.le_refl _, by simp [maxLen], zero512_size, zeros_bytes 512 0, hR⟩

theorem set_next {α : Type} (vs : List α) (j n : Nat) (z v : α) (hl : vs.length = j) (hj : j < n) : (vs ++ List.replicate (n - j) z).set j v = vs ++ [v] ++ List.replicate (n - (j + 1)) z := by
  rw [List.set_append_right _ _ (by omega), hl, Nat.sub_self, show n - j = (n - (j + 1)) + 1 from by omega, List.replicate_succ]
  simp

set_option maxHeartbeats 800000 in
theorem new_ok (w : World) (n : Nat) (h1 : 1 ≤ n) (h2 : n ≤ 4096) :
    Calls Tryd.prog 11 #[.int .i64 n] w fun e w' => ∃ d, e = .returned (.tuple #[.pointer (some ⟨d, 0, none⟩), .int .i64 0]) ∧ IsDisk w' (Grow (fun _ => False) w w') d ⟨List.replicate n (full 0), [], none, false, 0⟩ ∧ Calm w w' := by
  have e1 : ¬ (n : Int) < 1 := by omega
  have e2 : ¬ (4096 : Int) < n := by omega
  have q1 := run_make1 w 61 31 (.slice none 0 0) 24 n Tryd.underlying61 info45 rfl (by omega) (by omega)
  go_enter Tryd.func11, Tryd.ntmps11
  go_wp2_with fail
  go_loopw [21] (fun i wr => ∃ (j : Nat) (vs : List Value), j ≤ n ∧ i = .int .i64 j ∧ Calm w wr ∧ w.heap.size + 2 ≤ wr.heap.size ∧ Row wr (w.heap.size + 1) 65 #[.slice (some ⟨w.heap.size, 0, none⟩) n n, .slice none 0 0, .pointer none, .bool false, .int .i64 0] ∧
    Row wr w.heap.size 31 (vs ++ List.replicate (n - j) (Value.slice none 0 0)).toArray ∧ vs.length = j ∧ Datas wr (fun k => w.heap.size ≤ k ∧ k < wr.heap.size) vs (List.replicate j (full 0))) (fun i _ => n - (intOf i).toNat)
  case atStart =>
    refine ⟨0, [], Nat.zero_le _, rfl, ((Keep.refl _ w).alloc _).alloc _, by simp, ?_, ?_, rfl, Datas.nil _ _⟩
    · have := Row.made (w.alloc (.cells (zeros (.slice none 0 0) n) 31)) 65 #[.slice (some ⟨w.heap.size, 0, none⟩) n n, .slice none 0 0, .pointer none, .bool false, .int .i64 0]
      simpa using this
    · exact (Row.made w 31 (zeros (.slice none 0 0) n)).alloc _
  case round =>
    obtain ⟨j, vs, hj, rfl, hc, hz, ht, hr, hl, hd⟩ := hrel
    by_cases hlt : j < n
    · have t0 := ht.cell 0
      simp at t0
      have f0 := hr.soft j
      have c0 := hr.cell j
      have hrl : (vs ++ List.replicate (n - j) (Value.slice none 0 0))[j]? = some (.slice none 0 0) := by
        rw [List.getElem?_append_right (by omega), hl, Nat.sub_self, List.getElem?_replicate, if_pos (by omega)]
      simp only [List.getElem?_toArray, hrl] at c0
      have i0 : (0 : Int) ≤ (j : Int) := by omega
      have i1 : (j : Int) < (n : Int) := by omega
      have hb0 : w.heap.size < wr.heap.size := by omega
      have hb1 : w.heap.size + 1 < wr.heap.size := by omega
      have q2 := make512 wr
      have q3 := make512 wr.drew
      have Hd := Lib.hid hd
      have Hr := Lib.hid hr
      have Ht := Lib.hid ht
      have Hc := Lib.hid hc
      have Hl := Lib.hid hl
      clear hd hr ht hc hrl hl q1
      go_wp2_with fail
      go_region
      go_wp2_with fail
      go_roundw
      case rel =>
        have r1 := Row.made (wr.setCell ⟨w.heap.size, j, none⟩ (.slice (some ⟨wr.heap.size, 0, none⟩) 512 512)) 5 zero512
        rw [World.size_setCell] at r1
        have hsz : ((wr.setCell ⟨w.heap.size, j, none⟩ (.slice (some ⟨wr.heap.size, 0, none⟩) 512 512)).alloc (.cells zero512 5)).drew.heap.size = wr.heap.size + 1 := by simp
        refine ⟨j + 1, vs ++ [.slice (some ⟨wr.heap.size, 0, none⟩) 512 512], by omega, by go_num, ((Hc.out.store (p := ⟨w.heap.size, j, none⟩) (fun h => absurd h (Nat.lt_irrefl _)) _).alloc _).drew, by rw [hsz]; omega, ((Ht.out.far (p := ⟨w.heap.size, j, none⟩) (by simp) _).alloc _).drew, ?_, by simp [Hl.out], ?_⟩
        · have := ((Hr.out.store j (.slice (some ⟨wr.heap.size, 0, none⟩) 512 512)).alloc (.cells zero512 5)).drew
          rw [List.setIfInBounds_toArray, set_next _ _ _ _ _ Hl.out hlt] at this
          exact this
        · rw [List.replicate_succ']
          refine (Hd.out.move (fun g cur a b => ⟨((b.far (p := ⟨w.heap.size, j, none⟩) (b.ne Hr.out (by decide)) _).alloc _).drew, a.1, by rw [hsz]; omega⟩)).snoc ?_
          exact data_zero r1.drew _ ⟨by omega, by rw [hsz]; omega⟩
      case measure => simp [intOf]; omega
    · obtain rfl : j = n := by omega
      have Hd := Lib.hid hd
      have Hr := Lib.hid hr
      have Ht := Lib.hid ht
      have Hc := Lib.hid hc
      have Hl := Lib.hid hl
      clear hd hr ht hc hl q1
      go_wp2_with fail
      go_ret2
      have hr2 := Hr.out
      rw [Nat.sub_self, List.replicate_zero, List.append_nil] at hr2
      refine ⟨w.heap.size + 1, rfl, ⟨w.heap.size, vs, .slice none 0 0, [], .pointer none, ?_, hr2, ?_, World.ownsRow_nil _ _ _ _, fun g e => by simp [Value.ownBlock] at e, ⟨rfl, Datas.nil _ _⟩, rfl, .inr ⟨by omega, by omega⟩, .inr ⟨by omega, by omega⟩, ?_, ?_, fun x hx => by simp at hx⟩, Hc.out⟩
      · rw [Hl.out]; exact Ht.out
      · exact Hd.out.move (fun g cur a b => ⟨b, .inr a⟩)
      · simp; omega
      · simp; omega
end Go.Proofs.YtfigiofiakkbdaaDoor
