/-
  The statements of layer 1: sector and shown.
-/
import Derived.Test.YtppehlnfoendgaaDisk6
namespace Go.Proofs.Ytppehlnfoendgaa
open Go.RowKit
set_option linter.all false

/-- A row of 512 values whose first j are c. -/
def filled (c : UInt8) (j : Nat) : Array Value := (List.replicate j (bv c) ++ List.replicate (512 - j) (Value.int .u8 0)).toArray
theorem filled_zero (c : UInt8) : filled c 0 = zero512 := by
  unfold filled zero512 zeros
  rw [List.replicate_zero, List.nil_append, Nat.sub_zero]
theorem filled_succ (c : UInt8) (j : Nat) (h : j < 512) : (filled c j).setIfInBounds j (bv c) = filled c (j + 1) := by
  unfold filled
  rw [List.setIfInBounds_toArray, set_next _ _ 512 _ _ (by simp) h, List.replicate_succ']
theorem filled_at (c : UInt8) (j : Nat) (h : j < 512) : (filled c j)[j]? = some (.int .u8 0) := by
  unfold filled
  rw [List.getElem?_toArray, List.getElem?_append_right (by simp), List.length_replicate, Nat.sub_self, List.getElem?_replicate, if_pos (by omega)]
theorem filled_all (c : UInt8) : (filled c 512).size = 512 ∧ (filled c 512).toList.take 512 = (full c).map bv := by
  unfold filled full
  rw [Nat.sub_self, List.replicate_zero, List.append_nil]
  exact ⟨List.length_replicate .., by rw [List.map_replicate, List.take_of_length_le (by rw [List.length_replicate]; exact Nat.le_refl _)]⟩

set_option maxHeartbeats 800000 in
theorem sector_c (c : UInt8) (w : World) :
    Calls Try.prog 12 #[.int .u8 (c.toNat : Int)] w fun e w' => ∃ g cap, e = .returned (.slice (some ⟨g, 0, none⟩) 512 cap) ∧ Data w' (fun k => k = g ∧ w.heap.size ≤ k) (.slice (some ⟨g, 0, none⟩) 512 cap) (full c) ∧ Calm w w' := by
  have q1 := make512 w
  go_enter Try.func12, Try.ntmps12
  go_wp2_with fail
  go_loopw [4] (fun i wr => ∃ j : Nat, j ≤ 512 ∧ i = .int .i64 j ∧ Calm w wr ∧ Row wr w.heap.size 5 (filled c j)) (fun i _ => 512 - (intOf i).toNat)
  case atStart => exact ⟨0, by omega, rfl, (Keep.refl _ w).alloc _, by rw [filled_zero]; exact Row.made w _ _⟩
  case round =>
    obtain ⟨j, hj, rfl, hc, hr⟩ := hrel
    by_cases hlt : j < 512
    · have c0 := hr.cell j
      rw [filled_at c j hlt] at c0
      have f0 := hr.soft j
      have i1 : (j : Int) < 512 := by omega
      have Hr := Lib.hid hr
      have Hc := Lib.hid hc
      clear hr hc q1
      go_wp2_with fail
      go_roundw
      case rel => exact ⟨j + 1, by omega, by go_num, Hc.out.store (p := ⟨w.heap.size, j, none⟩) (fun h => absurd h (Nat.lt_irrefl _)) _, by rw [← filled_succ c j hlt]; exact Hr.out.store j (bv c)⟩
      case measure => simp [intOf]; omega
    · obtain rfl : j = 512 := by omega
      have Hr := Lib.hid hr
      have Hc := Lib.hid hc
      clear hr hc q1
      go_wp2_with fail
      go_ret
      exact ⟨w.heap.size, 512, rfl, ⟨w.heap.size, 512, filled c 512, rfl, Hr.out, Nat.le_refl _, by simp [maxLen], (filled_all c).1, (filled_all c).2, rfl, Nat.le_refl _⟩, Hc.out⟩

/-- A disk that was made since w0: nothing that was there then has turned; it lies in what is new. -/
structure St (w0 w : World) (R : Nat → Prop) (d : Nat) (S : DS) : Prop where
  disk : IsDisk w R d S
  calm : Calm w0 w
  new : ∀ k, R k → w0.heap.size ≤ k
  lt : ∀ k, R k → k < w.heap.size
section
variable {w0 w w' : World} {R : Nat → Prop} {d : Nat} {S S' : DS}
theorem St.rest (h : St w0 w R d S) (hc : Calm w w') : St w0 w' R d S := ⟨h.disk.calm hc, h.calm.trans hc, h.new, fun k hk => Nat.lt_of_lt_of_le (h.lt k hk) hc.size⟩
theorem St.on (h : St w0 w R d S) (k : Keep R w w') : Calm w0 w' := h.calm.then_ k (fun i hi hr => absurd (h.new i hr) (by omega))
theorem St.step (h : St w0 w R d S) (hd : IsDisk w' R d S') (k : Keep R w w') : St w0 w' R d S' := ⟨hd, h.on k, h.new, fun i hi => Nat.lt_of_lt_of_le (h.lt i hi) k.size⟩
theorem St.grow (h : St w0 w R d S) (hd : IsDisk w' (Grow R w w') d S') (k : Keep R w w') : St w0 w' (Grow R w w') d S' :=
  ⟨hd, h.on k, fun i hi => by
    rcases hi with hi | hi
    · exact h.new i hi
    · exact Nat.le_trans h.calm.size hi.1, fun i hi => by
    rcases hi with hi | hi
    · exact Nat.lt_of_lt_of_le (h.lt i hi) k.size
    · exact hi.2⟩
theorem St.made (hd : IsDisk w (Grow (fun _ => False) w0 w) d S) (hc : Calm w0 w) : St w0 w (Grow (fun _ => False) w0 w) d S :=
  ⟨hd, hc, fun k hk => (hk.resolve_left (fun e => e)).1, fun k hk => (hk.resolve_left (fun e => e)).2⟩
/-- What is new is not the disk's. -/
theorem St.fresh (h : St w0 w R d S) {k : Nat} (hk : w.heap.size ≤ k) : ¬ R k := fun e => absurd (h.lt k e) (by omega)
end
theorem Data.cell {w : World} {R : Nat → Prop} {g cap : Nat} {bs : List UInt8} (h : Data w R (.slice (some ⟨g, 0, none⟩) 512 cap) bs) (i : Nat) (hi : i < 512) : w.cell? ⟨g, i, none⟩ = some (bv (bs[i]'(by rw [h.len]; exact hi))) := by
  have hl := h.len
  obtain ⟨g', cap', cur, e, h1, h2, h3, h4, h5, _⟩ := h
  injection e with e _ _
  injection e with e
  injection e with e
  subst e
  rw [h1.cell]
  have : cur.toList[i]? = some (bv (bs[i]'(by omega))) := by
    have e2 := congrArg (fun l => l[i]?) h5
    simp only [List.getElem?_take, if_pos hi, List.getElem?_map, List.getElem?_eq_getElem (show i < bs.length by omega)] at e2
    simpa using e2
  simpa using this
theorem full_at (c : UInt8) (i : Nat) (h : i < (full c).length) : (full c)[i] = c := List.getElem_replicate _


/-! ### The disk's calls, for a disk that was made since w0 -/
section
variable {w0 w : World} {R : Nat → Prop} {d : Nat} {S S1 : DS}
theorem st_write (h : St w0 w R d S) (hwm : S.wait.length ≤ 1000000) (hops : S.ops ≤ 1000000000) (hop : S.op = (true, S1)) (x : Nat) (hx : x < S.secs.length) (g cap : Nat) (bs : List UInt8) {Q : Nat → Prop} (hb : Data w Q (.slice (some ⟨g, 0, none⟩) 512 cap) bs) (hQ : ∀ k, Q k → ¬ R k) :
    Calls Try.prog 11 #[.pointer (some ⟨d, 0, none⟩), .int .i64 x, .slice (some ⟨g, 0, none⟩) 512 cap] w fun e w' => e = .returned (.int .i64 0) ∧ St w0 w' (Grow R w w') d { S1 with wait := S1.wait ++ [(x, bs)] } ∧ Keep R w w' := by
  refine (write_ok h.disk hwm hops hop x hx _ bs (hb.bytes.move (Nat.le_refl _) (fun _ _ _ => rfl) hQ) hb.len).mono ?_
  rintro e w' ⟨rfl, h1, k1⟩
  exact ⟨rfl, h.grow h1 k1, k1⟩
theorem st_write_no (h : St w0 w R d S) (hwm : S.wait.length ≤ 1000000) (hops : S.ops ≤ 1000000000) (hop : S.op = (false, S1)) (x : Nat) (hx : x < S.secs.length) (A : Option Addr) (c : Nat) :
    Calls Try.prog 11 #[.pointer (some ⟨d, 0, none⟩), .int .i64 x, .slice A 512 c] w fun e w' => e = .returned (.int .i64 11) ∧ St w0 w' R d S1 ∧ Keep R w w' := by
  refine (write_no h.disk hwm hops hop x hx A c).mono ?_
  rintro e w' ⟨rfl, h1, k1⟩
  exact ⟨rfl, h.step h1 k1, k1⟩
theorem st_read (h : St w0 w R d S) (hwm : S.wait.length ≤ 1000000) (hops : S.ops ≤ 1000000000) (hop : S.op = (true, S1)) (x : Nat) (hx : x < S.secs.length) :
    Calls Try.prog 13 #[.pointer (some ⟨d, 0, none⟩), .int .i64 x] w fun e w' => ∃ g cap, e = .returned (.tuple #[.slice (some ⟨g, 0, none⟩) 512 cap, .int .i64 0]) ∧
      Data w' (fun k => k = g ∧ w.heap.size ≤ k) (.slice (some ⟨g, 0, none⟩) 512 cap) (S1.now x) ∧ St w0 w' R d S1 ∧ Keep R w w' := by
  refine (read_ok h.disk hwm hops hop x hx).mono ?_
  rintro e w' ⟨g, cap, rfl, hd, h1, k1⟩
  exact ⟨g, cap, rfl, hd, h.step h1 k1, k1⟩
theorem st_read_no (h : St w0 w R d S) (hwm : S.wait.length ≤ 1000000) (hops : S.ops ≤ 1000000000) (hop : S.op = (false, S1)) (x : Nat) (hx : x < S.secs.length) :
    Calls Try.prog 13 #[.pointer (some ⟨d, 0, none⟩), .int .i64 x] w fun e w' => e = .returned (.tuple #[.slice none 0 0, .int .i64 11]) ∧ St w0 w' R d S1 ∧ Keep R w w' := by
  refine (read_no h.disk hwm hops hop x hx).mono ?_
  rintro e w' ⟨rfl, h1, k1⟩
  exact ⟨rfl, h.step h1 k1, k1⟩
theorem st_crash (h : St w0 w R d S) (hwm : S.wait.length ≤ 1000000) (kv : Value) (ks : List Bool) (hb : Bools w (fun k => ¬ R k) kv ks) (hm : ks.length ≤ maxLen) :
    Calls Try.prog 14 #[.pointer (some ⟨d, 0, none⟩), kv] w fun e w' => e = .returned (.tuple #[]) ∧ St w0 w' R d (S.crash ks) ∧ Keep R w w' := by
  refine (crash_c h.disk hwm kv ks (hb.move (Nat.le_refl _) (fun _ _ _ => rfl) (fun k hk => .inl hk)) hm).mono ?_
  rintro e w' ⟨rfl, h1, k1⟩
  exact ⟨rfl, h.step h1 k1, k1⟩
theorem st_start (h : St w0 w R d S) :
    Calls Try.prog 15 #[.pointer (some ⟨d, 0, none⟩)] w fun e w' => e = .returned (.int .i64 (if S.down then 0 else 10)) ∧ St w0 w' R d { S with down := false } ∧ Keep R w w' := by
  refine (start_c h.disk).mono ?_
  rintro e w' ⟨rfl, h1, k1⟩
  exact ⟨rfl, h.step h1 k1, k1⟩
theorem st_barrier (h : St w0 w R d S) (hwm : S.wait.length ≤ 1000000) (hops : S.ops ≤ 1000000000) (hop : S.op = (true, S1)) :
    Calls Try.prog 19 #[.pointer (some ⟨d, 0, none⟩)] w fun e w' => e = .returned (.int .i64 0) ∧ St w0 w' R d S1.settled ∧ Keep R w w' := by
  refine (barrier_ok h.disk hwm hops hop).mono ?_
  rintro e w' ⟨rfl, h1, k1⟩
  exact ⟨rfl, h.step h1 k1, k1⟩
theorem st_barrier_no (h : St w0 w R d S) (hwm : S.wait.length ≤ 1000000) (hops : S.ops ≤ 1000000000) (hop : S.op = (false, S1)) :
    Calls Try.prog 19 #[.pointer (some ⟨d, 0, none⟩)] w fun e w' => e = .returned (.int .i64 11) ∧ St w0 w' R d S1 ∧ Keep R w w' := by
  refine (barrier_no h.disk hwm hops hop).mono ?_
  rintro e w' ⟨rfl, h1, k1⟩
  exact ⟨rfl, h.step h1 k1, k1⟩
theorem st_arm (h : St w0 w R d S) (n : Int) (hn : 0 ≤ n) (hb : n.toNat ≤ big) (kv : Value) (ks : List Bool) (hk : Bools w (fun k => ¬ R k) kv ks) (hm : ks.length ≤ 1000000000) :
    Calls Try.prog 23 #[.pointer (some ⟨d, 0, none⟩), .int .i64 n, kv] w fun e w' => e = .returned (.tuple #[]) ∧ St w0 w' (Grow R w w') d { S with arm := some (n.toNat, ks) } ∧ Keep R w w' := by
  refine (arm_c h.disk n hn hb kv ks hk hm).mono ?_
  rintro e w' ⟨rfl, h1, k1⟩
  exact ⟨rfl, h.grow h1 k1, k1⟩
theorem st_arm_off (h : St w0 w R d S) (n : Int) (hn : n < 0) (kv : Value) :
    Calls Try.prog 23 #[.pointer (some ⟨d, 0, none⟩), .int .i64 n, kv] w fun e w' => e = .returned (.tuple #[]) ∧ St w0 w' R d { S with arm := none } ∧ Keep R w w' := by
  refine (arm_off h.disk n hn kv).mono ?_
  rintro e w' ⟨rfl, h1, k1⟩
  exact ⟨rfl, h.step h1 k1, k1⟩
end
theorem bools_made (w : World) (R : Nat → Prop) (hR : R w.heap.size) : Bools (w.alloc (.cells #[.bool true] 4)) R (.slice (some ⟨w.heap.size, 0, none⟩) 1 1) [true] :=
  ⟨some ⟨w.heap.size, 0, none⟩, 1, rfl, fun i b hi => ⟨_, rfl, hR, by simp, by
    cases i with
    | zero => simp at hi; subst hi; simp [Addr.add]
    | succ i => simp at hi⟩⟩

set_option maxHeartbeats 6400000 in
theorem shown_c (w : World) : Calls Try.prog 4 #[] w fun e w' => e = .returned (.bool true) ∧ Calm w w' := by
  go_enter Try.func4, Try.ntmps4
  go_wp2_with fail
  refine (new_ok w 2 (by omega) (by omega)).mono ?_
  rintro e w1 ⟨d, rfl, hd, hc⟩
  have s1 := Lib.hid (St.made hd hc)
  clear hd hc
  generalize Grow (fun _ => False) w w1 = R1 at s1
  go_wp2_with fail
  refine (sector_c 1 w1).mono ?_
  rintro e w2 ⟨g2, p2, rfl, hd, hc⟩
  have s2 := Lib.hid (s1.out.rest hc)
  have D2 := Lib.hid hd
  have Q2 := Lib.hid (fun k (hk : k = g2 ∧ w1.heap.size ≤ k) => s1.out.fresh hk.2)
  clear hd hc s1
  go_wp2_with fail
  refine (st_write s2.out (by simp) (by simp) rfl 0 (by simp) g2 p2 (full 1) D2.out Q2.out).mono ?_
  rintro e w3 ⟨rfl, h, k⟩
  have s3 := Lib.hid h
  clear h k s2 D2 Q2
  generalize Grow R1 w2 w3 = R3 at s3
  go_wp2_with fail
  refine (sector_c 2 w3).mono ?_
  rintro e w4 ⟨g4, p4, rfl, hd, hc⟩
  have s4 := Lib.hid (s3.out.rest hc)
  have D4 := Lib.hid hd
  have Q4 := Lib.hid (fun k (hk : k = g4 ∧ w3.heap.size ≤ k) => s3.out.fresh hk.2)
  clear hd hc s3
  go_wp2_with fail
  refine (st_write s4.out (by simp) (by simp) rfl 0 (by simp) g4 p4 (full 2) D4.out Q4.out).mono ?_
  rintro e w5 ⟨rfl, h, k⟩
  have s5 := Lib.hid h
  clear h k s4 D4 Q4
  generalize Grow R3 w4 w5 = R5 at s5
  go_wp2_with fail
  refine (st_read s5.out (by simp) (by simp) rfl 0 (by simp)).mono ?_
  rintro e w6 ⟨g6, p6, rfl, hd, h, k⟩
  have s6 := Lib.hid h
  have b6 : w6.cell? ⟨g6, 7, none⟩ = some (.int .u8 2) := by
    have := hd.cell 7 (by omega)
    rw [this]
    rfl
  have l6 : g6 < w6.heap.size := World.block_lt_of_cell? _ _ b6
  have n6 : ¬ R5 g6 := by
    have : w5.heap.size ≤ g6 := by obtain ⟨_, _, _, e, _, _, _, _, _, hR⟩ := hd; injection e with e; injection e with e; injection e with e; subst e; exact hR.2
    exact s5.out.fresh this
  clear hd h k s5
  go_wp2_with fail
  have hc := ((Keep.refl (fun _ => False) w6).alloc (.cells #[.bool true] 4))
  have s7 := Lib.hid (s6.out.rest hc)
  have B7 := Lib.hid (bools_made w6 (fun k => ¬ R5 k) (s6.out.fresh (Nat.le_refl _)))
  have b7 : (w6.alloc (.cells #[.bool true] 4)).cell? ⟨g6, 7, none⟩ = some (.int .u8 2) := (World.cell?_alloc_lt _ _ _ l6).trans b6
  clear hc s6 b6
  refine (st_crash s7.out (by simp) _ [true] B7.out (by simp [maxLen])).mono ?_
  rintro e w8 ⟨rfl, h, k⟩
  have s8 := Lib.hid h
  have b8 : w8.cell? ⟨g6, 7, none⟩ = some (.int .u8 2) := (k.cell (p := ⟨g6, 7, none⟩) (by simp; omega) n6).trans b7
  have l8 : g6 < w8.heap.size := World.block_lt_of_cell? _ _ b8
  clear h k s7 B7 b7
  go_wp2_with fail
  refine (st_read_no s8.out (by simp [DS.crash]) (by simp [DS.crash]) rfl 0 (by simp [DS.crash, putTo_len])).mono ?_
  rintro e w9 ⟨rfl, h, k⟩
  have s9 := Lib.hid h
  have b9 : w9.cell? ⟨g6, 7, none⟩ = some (.int .u8 2) := (k.cell (p := ⟨g6, 7, none⟩) l8 n6).trans b8
  have l9 : g6 < w9.heap.size := World.block_lt_of_cell? _ _ b9
  clear h k s8 b8
  go_wp2_with fail
  refine (st_start s9.out).mono ?_
  rintro e w10 ⟨rfl, h, k⟩
  have s10 := Lib.hid h
  have b10 : w10.cell? ⟨g6, 7, none⟩ = some (.int .u8 2) := (k.cell (p := ⟨g6, 7, none⟩) l9 n6).trans b9
  have l10 : g6 < w10.heap.size := World.block_lt_of_cell? _ _ b10
  clear h k s9 b9
  simp only [DS.crash, if_true]
  go_wp2_with fail
  refine (st_read s10.out (by simp [DS.crash]) (by simp [DS.crash]) rfl 0 (by simp [DS.crash, putTo_len])).mono ?_
  rintro e w11 ⟨g11, p11, rfl, hd, h, k⟩
  have s11 := Lib.hid h
  have b11 : w11.cell? ⟨g6, 7, none⟩ = some (.int .u8 2) := (k.cell (p := ⟨g6, 7, none⟩) l10 n6).trans b10
  have c11 : w11.cell? ⟨g11, 7, none⟩ = some (.int .u8 1) := by
    have := hd.cell 7 (by omega)
    rw [this]
    rfl
  clear hd h k s10 b10
  go_wp2_with fail
  refine (isops_c s11.out.disk).mono ?_
  rintro e w12 ⟨rfl, rfl⟩
  go_wp2_with fail
  refine (issectors_c s11.out.disk).mono ?_
  rintro e w12 ⟨rfl, rfl⟩
  simp only [DS.crash, putTo_len, List.length_replicate]
  go_wp2_with fail
  go_ret
  exact ⟨rfl, s11.out.calm⟩
end Go.Proofs.Ytppehlnfoendgaa
