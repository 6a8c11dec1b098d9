/-
  Package disk: last (a range over slices.Backward) and Read.
-/
import Derived.Test.YtfigiofiakkbdaaDoorDisk4
import Derived.RangeFuncNested
import Derived.RangeFuncBound
import Derived.RangeFuncCalls
import Derived.RangeFuncLeaves
import Derived.RangeFuncBox
import Derived.Shelf.Abstract
import Derived.Shelf.RegionOpen
import Derived.OwnWalkIn
import Derived.TacticsInMore
import Derived.LoopNIn
import Derived.LoopIn
namespace Go.Proofs.YtfigiofiakkbdaaDoor
open Go.RowKit Go.Shelf
set_option linter.all false
attribute [local go_sem] Oper.semAt_some

/-- One that waits, as it comes out of the iterator: its place, where it goes, its bytes' row. -/
structure Came where
  idx : Nat
  at_ : Nat
  g : Nat
  c : Nat
def Came.val (x : Came) : Value := .slice (some ⟨x.g, 0, none⟩) 512 x.c
def Came.encs (x : Came) : Array Value := #[.int .i64 (x.idx : Int), .agg #[.int .i64 (x.at_ : Int), .slice (some ⟨x.g, 0, none⟩) 512 x.c]]
/-- What has come behind k rounds, backward. -/
def dn (f : Nat → Came) (m k : Nat) : List Came := (List.range k).map fun i => f (m - 1 - i)
theorem dn_succ (f : Nat → Came) (m k : Nat) : dn f m (k + 1) = dn f m k ++ [f (m - 1 - k)] := by simp [dn, List.range_succ]
theorem dn_len (f : Nat → Came) (m k : Nat) : (dn f m k).length = k := by simp [dn]

set_option maxRecDepth 100000 in
set_option maxHeartbeats 2000000 in
theorem back1_in (F : Fence) (n : Nat) (hF : F.fn 85) (hro : F.round = none) (hn : 1 ≤ n) (l Bs n₀ b m cap : Nat) (f : Nat → Came) (hm : m ≤ 1000000) (hb : b < n₀) (J Jx : List Came → World → Prop)
    (hY : ∀ pre x W, J pre W → pre.length < m → YieldAt F (n - 1) Tryd.prog l x.encs W fun e W' =>
      (e = .returned (.bool true) ∧ J (pre ++ [x]) W' ∧ Below n₀ W W') ∨ (e = .returned (.bool false) ∧ Jx (pre ++ [x]) W'))
    (hBn : Bs < n₀) (W : World) (hBs : W.cell? ⟨Bs, 0, none⟩ = some (.slice (some ⟨b, 0, none⟩) m cap))
    (hc : ∀ j, j < m → (f j).idx = j ∧ W.cell? ⟨b, j * 2, none⟩ = some (.int .i64 ((f j).at_ : Int)) ∧ W.cell? ⟨b, j * 2 + 1, none⟩ = some (.slice (some ⟨(f j).g, 0, none⟩) 512 (f j).c)) (h0 : J [] W) :
    CallsIn F n Tryd.prog 85 #[.func (.yield l) #[] #[], .pointer (some ⟨Bs, 0, none⟩)] W fun e W' => (∃ v, e = .returned v) ∧
      ((∃ ys, ys = dn f m m ∧ J ys W') ∨ (∃ pre, (∃ k, k ≤ m ∧ pre = dn f m k) ∧ Jx pre W')) := by
  refine callsIn_of_wp Tryd.func85 rfl hF ?_ hro
  simp only [Tryd.ntmps85, List.size_toArray, List.length_cons, List.length_nil, Nat.reduceAdd, Nat.reduceSub, Array.replicate_succ, Array.replicate_zero, List.push_toArray, List.append_toArray, List.nil_append, List.cons_append]
  have Hc := Lib.hid hc
  have HY := Lib.hid hY
  clear hc hY
  gi_wp2
  gi_loopw [3] (fun i wr => ∃ k : Nat, k ≤ m ∧ i = .int .i64 ((m : Int) - 1 - k) ∧ J (dn f m k) wr ∧ Below n₀ W wr)
    (fun i _ => (intOf i + 1).toNat)
  case atStart => exact ⟨0, Nat.zero_le _, by simp, h0, Below.refl _ _⟩
  case round =>
    obtain ⟨k, hk, rfl, hJs, hnx⟩ := hrel
    by_cases hlt : k < m
    · obtain ⟨j, hj⟩ : ∃ j : Nat, j + k + 1 = m := ⟨m - 1 - k, by omega⟩
      obtain ⟨c0, c1, c2⟩ := Hc.out j (by omega)
      have hbs : wr.cell? ⟨Bs, 0, none⟩ = some (.slice (some ⟨b, 0, none⟩) m cap) := (hnx.cell (p := ⟨Bs, 0, none⟩) hBn).trans hBs
      have d1 : wr.cell? ⟨b, j * 2, none⟩ = some (.int .i64 ((f j).at_ : Int)) := (hnx.cell (p := ⟨b, j * 2, none⟩) hb).trans c1
      have d2 : wr.cell? ⟨b, j * 2 + 1, none⟩ = some (.slice (some ⟨(f j).g, 0, none⟩) 512 (f j).c) := (hnx.cell (p := ⟨b, j * 2 + 1, none⟩) hb).trans c2
      obtain ⟨fn, tmps, assign, body, hy, hR⟩ := HY.out _ (f j) wr hJs (by rw [dn_len]; exact hlt)
      have ej : (m : Int) - 1 - k = (j : Int) := by omega
      rw [ej]
      unfold Came.encs at hy
      rw [c0] at hy
      have HR := Lib.hid hR
      clear ej c0 c1 c2 hR
      gi_wp2
      refine HR.out.mono ?_
      rintro e W3 (⟨rfl, hJ3, hk3⟩ | ⟨rfl, hJx3⟩)
      · have HJ3 := Lib.hid hJ3
        have Hk3 := Lib.hid hk3
        have Hnx := Lib.hid hnx
        clear hJ3 hk3 hnx
        gi_wp2
        go_roundw
        case rel =>
          refine ⟨k + 1, by omega, ?_, ?_, Hnx.out.trans Hk3.out⟩
          · go_num
          · rw [dn_succ, show m - 1 - k = j from by omega]; exact HJ3.out
        case measure => simp [intOf]
      · gi_wp2
        refine bodyPost_ret (results_none rfl _ _ _) rfl ?_
        exact ⟨⟨_, rfl⟩, .inr ⟨_, ⟨k + 1, by omega, by rw [dn_succ, show m - 1 - k = j from by omega]⟩, hJx3⟩⟩
    · obtain rfl : k = m := by omega
      have ej : (k : Int) - 1 - k = -1 := by omega
      rw [ej]
      gi_wp2
      go_end0
      exact ⟨⟨_, rfl⟩, .inl ⟨_, rfl, hJs⟩⟩
set_option maxRecDepth 100000 in
set_option maxHeartbeats 1000000 in
theorem back1_nil (F : Fence) (n : Nat) (hF : F.fn 85) (hro : F.round = none) (l Bs cap : Nat) (A : Option Addr) (J : List Came → World → Prop) (W : World) (hBs : W.cell? ⟨Bs, 0, none⟩ = some (.slice A 0 cap)) (h0 : J [] W) :
    CallsIn F n Tryd.prog 85 #[.func (.yield l) #[] #[], .pointer (some ⟨Bs, 0, none⟩)] W fun e W' => (∃ v, e = .returned v) ∧ J [] W' := by
  refine callsIn_of_wp Tryd.func85 rfl hF ?_ hro
  simp only [Tryd.ntmps85, List.size_toArray, List.length_cons, List.length_nil, Nat.reduceAdd, Nat.reduceSub, Array.replicate_succ, Array.replicate_zero, List.push_toArray, List.append_toArray, List.nil_append, List.cons_append]
  gi_wp2
  gi_loopw [3] (fun i wr => i = .int .i64 (-1) ∧ J [] wr) (fun _ _ => 0)
  case atStart => exact ⟨rfl, h0⟩
  case round =>
    obtain ⟨rfl, hJs⟩ := hrel
    gi_wp2
    go_end0
    exact ⟨⟨_, rfl⟩, hJs⟩

set_option maxHeartbeats 1000000 in
theorem back_in (F : Fence) (n : Nat) (hF : F.fn 76) (hro : F.round = none) (a : Option Addr) (len cap : Nat) (w : World) :
    CallsIn F n Tryd.prog 76 #[.slice a len cap] w fun e w' => e = .returned (.func (.func 85) #[] #[.pointer (some ⟨w.heap.size, 0, none⟩)]) ∧ w.alloc (.cells #[.slice a len cap] 62) = w' := by
  refine callsIn_of_wp Tryd.func76 rfl hF ?_ hro
  simp only [Tryd.ntmps76, List.size_toArray, List.length_cons, List.length_nil, Nat.reduceAdd, Nat.reduceSub, Array.replicate_succ, Array.replicate_zero, List.push_toArray, List.append_toArray, List.nil_append, List.cons_append]
  gi_wp2
  go_ret
  exact ⟨rfl, rfl⟩

/-- The cells of what waits, read from a slice: none, or a row below n₀. -/
def Rows2 (n₀ : Nat) (w : World) (sv : Value) (m : Nat) (f : Nat → Came) : Prop :=
  (∃ A cap, sv = .slice A 0 cap ∧ m = 0) ∨ ∃ b cap, sv = .slice (some ⟨b, 0, none⟩) m cap ∧ b < n₀ ∧
    ∀ j, j < m → (f j).idx = j ∧ w.cell? ⟨b, j * 2, none⟩ = some (.int .i64 ((f j).at_ : Int)) ∧ w.cell? ⟨b, j * 2 + 1, none⟩ = some (.slice (some ⟨(f j).g, 0, none⟩) 512 (f j).c)
theorem Rows2.below {n₀ : Nat} {w w' : World} {sv : Value} {m : Nat} {f : Nat → Came} (h : Rows2 n₀ w sv m f) (hb : Below n₀ w w') : Rows2 n₀ w' sv m f := by
  rcases h with h | ⟨b, cap, h0, h1, h2⟩
  · exact .inl h
  · exact .inr ⟨b, cap, h0, h1, fun j hj => ⟨(h2 j hj).1, (hb.cell (p := ⟨b, j * 2, none⟩) h1).trans (h2 j hj).2.1, (hb.cell (p := ⟨b, j * 2 + 1, none⟩) h1).trans (h2 j hj).2.2⟩⟩

theorem back_stops (F : Fence) (n : Nat) (hF : F.fn 85) (hro : F.round = none) (hn : 1 ≤ n) (Bs n₀ : Nat) (sv : Value) (m : Nat) (f : Nat → Came) (hm : m ≤ 1000000) (w : World) (hBs : Bs < w.heap.size) (hBn : Bs < n₀) (hn₀ : n₀ ≤ w.heap.size)
    (hc : w.cell? ⟨Bs, 0, none⟩ = some sv) (hI : Rows2 n₀ w sv m f) :
    SeqStopsK F n Tryd.prog 85 #[.pointer (some ⟨Bs, 0, none⟩)] Came.encs (Below n₀) (fun ys => ys = dn f m m) (fun pre => ∃ k, k ≤ m ∧ pre = dn f m k) m w := fun l J Jx W hW _ _ hY h0 => by
  have hc' := (hW.cell (p := ⟨Bs, 0, none⟩) hBs).trans hc
  rcases hI.below (hW.mono hn₀) with ⟨A, cap, rfl, rfl⟩ | ⟨b, cap, rfl, hb, hcs⟩
  · exact (back1_nil F n hF hro l Bs cap A J W hc' h0).mono fun e W' ⟨he, hj⟩ => ⟨he, .inl ⟨_, rfl, hj⟩⟩
  · exact back1_in F n hF hro hn l Bs n₀ b m cap f hm hb J Jx hY hBn W hc' hcs h0

/-- Between two rounds of last: none that came goes to at_; the result is nil still. -/
def LI (at_ : Nat) (w : World) (pre : List Came) (W : World) : Prop :=
  ((∀ p ∈ pre, p.at_ ≠ at_) ∧ W.cell? ⟨w.heap.size, 0, none⟩ = some (.int .i64 at_) ∧ W.cell? ⟨w.heap.size + 1, 0, none⟩ = some (.slice none 0 0) ∧ W.frozen? ⟨w.heap.size + 1, 0, none⟩ = false ∧ w.heap.size + 3 ≤ W.heap.size) ∧ Below w.heap.size w W
/-- A round has returned: the last that came goes to at_, none ahead of it. -/
def LX (at_ : Nat) (w : World) (c : Code) (pre : List Came) (W : World) : Prop :=
  (c = .ret ∧ ∃ ini x, pre = ini ++ [x] ∧ (∀ p ∈ ini, p.at_ ≠ at_) ∧ x.at_ = at_ ∧ W.cell? ⟨w.heap.size + 1, 0, none⟩ = some x.val) ∧ Below w.heap.size w W
/-- Behind the assignment: the loop's variable in a box of its own. -/
def LA (T : Came → Value → Array Value) (B : Nat) (x : Came) (a' : Act) (W : World) : Prop :=
  ∃ Bx, B ≤ Bx ∧ W.cell? ⟨Bx, 0, none⟩ = some (.int .i64 (x.at_ : Int)) ∧ W.cell? ⟨Bx, 1, none⟩ = some (.slice (some ⟨x.g, 0, none⟩) 512 x.c) ∧ a' = { tmps := T x (.pointer (some ⟨Bx, 0, none⟩)), defers := [] }
theorem LI.own (at_ B : Nat) (w : World) (hB : w.heap.size ≤ B) : OwnFrom B (LI at_ w) :=
  OwnFrom.and (Own.from (fun s A B row hs hg hr => ⟨hs.1, cell_kept hs.2.1 hg hr, cell_kept hs.2.2.1 hg hr, (frozen_kept hs.2.2.1 hg hr).trans hs.2.2.2.1, Nat.le_trans hs.2.2.2.2 hg.size⟩) _) (ownFrom_below (Nat.le_refl _) hB)
theorem LX.own (at_ B : Nat) (w : World) (hB : w.heap.size ≤ B) (c : Code) : OwnFrom B (LX at_ w c) :=
  OwnFrom.and (Own.from (fun s A B row hs hg hr => by obtain ⟨h0, ini, x, e1, e2, e3, e4⟩ := hs; exact ⟨h0, ini, x, e1, e2, e3, cell_kept e4 hg hr⟩) _) (ownFrom_below (Nat.le_refl _) hB)
theorem LA.own (T : Came → Value → Array Value) (B0 B : Nat) (x : Came) (a' : Act) : OwnFrom B (fun (_ : Unit) W => LA T B0 x a' W) :=
  Own.from (fun s A B row hs hg hr => by obtain ⟨Bx, h0, e1, e2, e3⟩ := hs; exact ⟨Bx, h0, cell_kept e1 hg hr, cell_kept e2 hg hr, e3⟩) _
/-- The frame of last in a round. -/
def LT (d at_ H m wc : Nat) (A : Option Addr) (x : Came) (p : Value) : Array Value :=
  #[.pointer (some ⟨d, 0, none⟩), .int .i64 at_, undef, .pointer (some ⟨H, 0, none⟩), .pointer (some ⟨H + 1, 0, none⟩), undef, p, .pointer (some ⟨d, 0, none⟩), .pointer (some ⟨d, 0, none⟩), .pointer (some ⟨d, 1, none⟩), .slice A m wc,
    .func (.func 85) #[] #[.pointer (some ⟨H + 1 + 1, 0, none⟩)], .int .i64 (x.idx : Int), .agg #[.int .i64 (x.at_ : Int), .slice (some ⟨x.g, 0, none⟩) 512 x.c], undef, undef, undef, undef, undef, undef, undef, undef, undef, undef, undef, undef, undef]

set_option maxRecDepth 100000 in
set_option maxHeartbeats 2000000 in
theorem last_in (d at_ sb ns cs : Nat) (m : Nat) (f : Nat → Came) (hm : m ≤ 1000000) (sg sc : Nat) (A : Option Addr) (wc : Nat) (w : World)
    (d0 : w.cell? ⟨d, 0, none⟩ = some (.slice (some ⟨sb, 0, none⟩) ns cs)) (d1 : w.cell? ⟨d, 1, none⟩ = some (.slice A m wc)) (hat : at_ < ns) (hns : ns ≤ 4096) (hs : w.cell? ⟨sb, at_, none⟩ = some (.slice (some ⟨sg, 0, none⟩) 512 sc))
    (hI : Rows2 w.heap.size w (.slice A m wc) m f) :
    CallsIn Fence.wide 3 Tryd.prog 60 #[.pointer (some ⟨d, 0, none⟩), .int .i64 at_] w fun e W' => Below w.heap.size w W' ∧
      ((∃ j, j < m ∧ e = .returned (f j).val ∧ (f j).at_ = at_ ∧ ∀ i, j < i → i < m → (f i).at_ ≠ at_) ∨ (e = .returned (.slice (some ⟨sg, 0, none⟩) 512 sc) ∧ ∀ i, i < m → (f i).at_ ≠ at_)) := by
  refine callsIn_of_wp_marks Tryd.func60 rfl trivial ?_ rfl
  simp only [Tryd.ntmps60, List.size_toArray, List.length_cons, List.length_nil, Nat.reduceAdd, Nat.reduceSub, Array.replicate_succ, Array.replicate_zero, List.push_toArray, List.append_toArray, List.nil_append, List.cons_append]
  have hdl : d < w.heap.size := World.block_lt_of_cell? _ _ d0
  have hsl : sb < w.heap.size := World.block_lt_of_cell? _ _ hs
  have HI := Lib.hid hI
  clear hI
  gi_wp2_with (refine ⟨trivial, ?_⟩; gi_at_call 76; refine (back_in Fence.wide _ trivial rfl _ _ _ _).mono ?_; rintro e w' ⟨rfl, rfl⟩)
  have bA := Row.made w 3 #[.int .i64 at_]
  have bR := Row.made (w.alloc (.cells #[.int .i64 at_] 3)) 31 #[.slice none 0 0]
  have bS := Row.made ((w.alloc (.cells #[.int .i64 at_] 3)).alloc (.cells #[.slice none 0 0] 31)) 62 #[.slice A m wc]
  rw [World.size_alloc] at bR
  rw [World.size_alloc, World.size_alloc] at bS
  have hB0 : Below w.heap.size w (((w.alloc (.cells #[.int .i64 at_] 3)).alloc (.cells #[.slice none 0 0] 31)).alloc (.cells #[.slice A m wc] 62)) := (((Below.refl _ w).alloc (Nat.le_refl _) _).alloc (by simp) _).alloc (by simp; omega) _
  have cA := ((bA.alloc (.cells #[.slice none 0 0] 31)).alloc (.cells #[.slice A m wc] 62)).cell 0
  have cR := (bR.alloc (.cells #[.slice A m wc] 62)).cell 0
  have fR := (bR.alloc (.cells #[.slice A m wc] 62)).soft 0
  have cS := bS.cell 0
  have hz : (((w.alloc (.cells #[.int .i64 at_] 3)).alloc (.cells #[.slice none 0 0] 31)).alloc (.cells #[.slice A m wc] 62)).heap.size = w.heap.size + 3 := by simp
  simp only [List.getElem?_toArray, List.getElem?_cons_zero] at cA cR cS
  have hI2 : Rows2 (w.heap.size + 3) (((w.alloc (.cells #[.int .i64 at_] 3)).alloc (.cells #[.slice none 0 0] 31)).alloc (.cells #[.slice A m wc] 62)) (.slice A m wc) m f := by
    rcases HI.out.below hB0 with h | ⟨b, cap, h0, h1, h2⟩
    · exact .inl h
    · exact .inr ⟨b, cap, h0, by omega, h2⟩
  clear HI bA bR bS
  generalize (((w.alloc (.cells #[.int .i64 at_] 3)).alloc (.cells #[.slice none 0 0] 31)).alloc (.cells #[.slice A m wc] 62)) = W0 at *
  refine wpIn_rangeFunc_ownH (F := Fence.wide) rfl (by omega) (gf := 85) (lb := #[.pointer (some ⟨w.heap.size + 1 + 1, 0, none⟩)]) rfl trivial (enters_of Tryd.func85 (by kernel_rfl) rfl)
    (back_stops Fence.wide (3 - 1) trivial rfl (by omega) (w.heap.size + 1 + 1) (w.heap.size + 3) _ m f hm _ (by omega) (by omega) (by omega) cS hI2) belowK_t (belowK_b (by omega)) (Below.refl _ _) (fun _ => rfl)
    (LI at_ w) (LX at_ w) (LI.own at_ _ w (by omega)) (LX.own at_ _ w (by omega)) ⟨⟨by simp, cA, cR, fR, by omega⟩, hB0⟩ (LA (LT d at_ w.heap.size m wc A) W0.heap.size) (LA.own _ _ _) ?assign ?body ?done ?stop
  case assign =>
    rintro l pre x W K ⟨⟨i1, i2, i3, i4, i5⟩, iB⟩ hK
    have HK := Lib.hid hK
    have H1 := Lib.hid i1
    have HB := Lib.hid iB
    clear hK i1 iB
    unfold Came.encs
    gi_wp2
    refine HK.out _ _ ((KeepsOthers.alloc _ _).from _) ((Below.refl _ W).alloc (by omega) _) (OwnFrom.alloc (LI.own at_ W0.heap.size w (by omega)) _ ⟨⟨H1.out, i2, i3, i4, i5⟩, HB.out⟩) ⟨W.heap.size, by omega, ?_, ?_, rfl⟩
    · simp
    · simp
  case body =>
    rintro l pre x a' W _ _ ⟨⟨i1, i2, i3, i4, i5⟩, iB⟩ ⟨Bx, b0, b1, b2, rfl⟩ _
    have HB := Lib.hid iB
    have H1 := Lib.hid i1
    clear i1 iB
    unfold LT
    by_cases hx : x.at_ = at_
    · have hb : ((x.at_ : Int) == (at_ : Int)) = true := by simp [hx]
      have Hx := Lib.hid hx
      clear hx
      gi_wp2
      refine ⟨(KeepsOthers.setCell _ _ _).from _, ⟨rfl, pre, x, rfl, H1.out, Hx.out, World.cell?_setCell_same' _ _ _ (by rw [i3]; rfl)⟩, HB.out.setCell (p := ⟨w.heap.size + 1, 0, none⟩) (by simp) _⟩
    · have hb : ((x.at_ : Int) == (at_ : Int)) = false := by simp; omega
      have Hx := Lib.hid hx
      clear hx
      gi_wp2
      exact ⟨KeepsFrom.refl _ _, Below.refl _ _, ⟨fun p hp => (List.mem_append.1 hp).elim (H1.out p) (fun e => by simp at e; subst e; exact Hx.out), i2, i3, i4, i5⟩, HB.out⟩
  case done =>
    rintro D ys W hD rfl ⟨⟨i1, i2, i3, i4, i5⟩, iB⟩ hK
    have HB := Lib.hid iB
    have H1 := Lib.hid i1
    have HKd := Lib.hid hK
    have e0 : W.cell? ⟨d, 0, none⟩ = some (.slice (some ⟨sb, 0, none⟩) ns cs) := (iB.cell (p := ⟨d, 0, none⟩) hdl).trans d0
    have e1 : W.cell? ⟨sb, at_, none⟩ = some (.slice (some ⟨sg, 0, none⟩) 512 sc) := (iB.cell (p := ⟨sb, at_, none⟩) hsl).trans hs
    clear i1 iB hK
    have n0 : (0 : Int) ≤ (at_ : Int) := Int.natCast_nonneg _
    have n1 : (at_ : Int) < (ns : Int) := by omega
    have nd : d ≠ w.heap.size + 1 := by omega
    have ns' : sb ≠ w.heap.size + 1 := by omega
    gi_wp2
    gi_region
    gi_wp2
    have hK' : (W.setCell ⟨w.heap.size + 1, 0, none⟩ (.slice (some ⟨sg, 0, none⟩) 512 sc)).drew.heap[D]? = some (.deferred (some [])) := (KeepsOthers.setCell W ⟨w.heap.size + 1, 0, none⟩ (.slice (some ⟨sg, 0, none⟩) 512 sc)).same D _ HKd.out rfl
    refine ⟨by simp, .inl ⟨_, _, rfl, run_takeDeferred hK', ?_⟩⟩
    have c5 : (W.setCell ⟨w.heap.size + 1, 0, none⟩ (.slice (some ⟨sg, 0, none⟩) 512 sc)).drew.cell? ⟨w.heap.size + 1, 0, none⟩ = some (.slice (some ⟨sg, 0, none⟩) 512 sc) := World.cell?_setCell_same' W ⟨w.heap.size + 1, 0, none⟩ _ (by rw [i3]; rfl)
    have hc5 := cell_kept c5 (grownBy_putObj' _ D (.deferred none)) (fun r e => by cases e; exact ⟨_, hK', rfl⟩)
    refine ⟨.slice (some ⟨sg, 0, none⟩) 512 sc, ?_, ((HB.out.setCell (p := ⟨w.heap.size + 1, 0, none⟩) (by simp) _).drew).trans (belowK_b (w := w) (Nat.le_refl _) _ D _ _ (by omega) hK' rfl rfl), .inr ⟨rfl, fun i hi => ?_⟩⟩
    · simp [results, Tryd.f60, go_sem, hc5]
    · have := H1.out (f i)
      refine this ?_
      simp only [dn, List.mem_map, List.mem_range]
      exact ⟨m - 1 - i, by omega, by rw [show m - 1 - (m - 1 - i) = i from by omega]⟩
  case stop =>
    rintro D c pre W hD ⟨k, hk, rfl⟩ ⟨⟨rfl, ini, x, e1, e2, e3, hcr⟩, hB⟩ hK
    gi_wp2
    refine ⟨by simp, .inl ⟨_, _, rfl, run_takeDeferred hK, ?_⟩⟩
    have hc5 := cell_kept hcr (grownBy_putObj' _ D (.deferred none)) (fun r e => by cases e; exact ⟨_, hK, rfl⟩)
    obtain ⟨k', rfl⟩ : ∃ k', k = k' + 1 := by
      cases k with
      | zero => simp [dn] at e1
      | succ k' => exact ⟨k', rfl⟩
    rw [dn_succ] at e1
    obtain ⟨e4, e5⟩ := List.append_inj' e1 rfl
    have e6 : f (m - 1 - k') = x := by simpa using e5
    subst e4
    subst e6
    refine ⟨(f (m - 1 - k')).val, ?_, hB.trans (belowK_b (w := w) (Nat.le_refl _) W D _ _ (by omega) hK rfl rfl), .inl ⟨m - 1 - k', by omega, rfl, e3, fun i h1 h2 => e2 (f i) ?_⟩⟩
    · simp [results, Tryd.f60, go_sem, hc5]
    · simp only [dn, List.mem_map, List.mem_range]
      exact ⟨m - 1 - i, by omega, by rw [show m - 1 - (m - 1 - i) = i from by omega]⟩

/-- What waits, as it comes. -/
def cameOf (wvs : List (Nat × Value)) (j : Nat) : Came :=
  match wvs[j]? with
  | some (a, .slice (some ad) _ c) => ⟨j, a, ad.block, c⟩
  | _ => ⟨j, 0, 0, 0⟩

theorem last_c {w : World} {R : Nat → Prop} {d : Nat} {S : DS} (h : IsDisk w R d S) (hwm : S.wait.length ≤ 1000000) (x : Nat) (hx : x < S.secs.length) :
    Calls Tryd.prog 60 #[.pointer (some ⟨d, 0, none⟩), .int .i64 x] w fun e w' => ∃ v, e = .returned v ∧ Data w R v (S.now x) ∧ Calm w w' := by
  obtain ⟨sb, svs, wv, wvs, av, h⟩ := h
  obtain ⟨A, wc, hwv, hwc⟩ := h.wcells
  have hlw : wvs.length = S.wait.length := by have := congrArg List.length h.waits.1; simpa using this
  have d0 := h.top.cell 0
  have d1 := h.top.cell 1
  simp at d0 d1
  rw [hwv] at d1
  have hsl : x < svs.length := by rw [h.secs.1]; exact hx
  have hsx := h.secs.2 x svs[x] S.secs[x] (List.getElem?_eq_getElem hsl) (List.getElem?_eq_getElem hx)
  have cS := h.rows.cell x
  simp only [List.getElem?_toArray, List.getElem?_eq_getElem hsl] at cS
  obtain ⟨sg, sc, scur, hsv, hs'⟩ := id hsx
  rw [hsv] at cS
  have hw : ∀ (j : Nat), j < wvs.length → ∃ a gg cc, wvs[j]? = some (a, .slice (some ⟨gg, 0, none⟩) 512 cc) ∧ cameOf wvs j = ⟨j, a, gg, cc⟩ := fun j hj => by
    obtain ⟨_, g, gg, cc, _, _, _, _, _, _, hv⟩ := hwc j wvs[j] (List.getElem?_eq_getElem hj)
    have e : wvs[j]? = some (wvs[j].1, .slice (some ⟨gg, 0, none⟩) 512 cc) := by rw [List.getElem?_eq_getElem hj, ← hv]
    exact ⟨_, gg, cc, e, by simp [cameOf, e]⟩
  have hS : ∀ (j : Nat) a v, wvs[j]? = some (a, v) → ∃ b, S.wait[j]? = some (a, b) ∧ Data w R v b := fun j a v hj => by
    have hl : j < wvs.length := (List.getElem?_eq_some_iff.1 hj).1
    have hl2 : j < S.wait.length := by omega
    have e := congrArg (fun l => l[j]?) h.waits.1
    simp [hj, List.getElem?_eq_getElem hl2] at e
    refine ⟨(S.wait[j]).2, by rw [List.getElem?_eq_getElem hl2, e], h.waits.2.2 j v _ (by simp [hj]) (by simp [List.getElem?_eq_getElem hl2])⟩
  have hI : Rows2 w.heap.size w (.slice A wvs.length wc) wvs.length (cameOf wvs) := by
    by_cases h0 : wvs.length = 0
    · exact .inl ⟨A, wc, by rw [h0], h0⟩
    · obtain ⟨_, g, gg, cc, hA, _, _, _, c0, _⟩ := hwc 0 wvs[0] (List.getElem?_eq_getElem (by omega))
      subst hA
      refine .inr ⟨g, wc, rfl, World.block_lt_of_cell? _ _ c0, fun j hj => ?_⟩
      obtain ⟨a, gg, cc, e1, e2⟩ := hw j hj
      obtain ⟨_, g', gg', cc', hA', _, _, _, c0', c1', _⟩ := hwc j _ e1
      injection hA' with hA'
      injection hA' with hA'
      subst hA'
      rw [e2]
      exact ⟨rfl, c0', c1'⟩
  refine (callsIn_wide.1 (last_in d x sb svs.length svs.length wvs.length (cameOf wvs) (by omega) sg sc A wc w d0 d1 hsl (by rw [h.secs.1]; exact h.few) cS hI)).mono ?_
  rintro e w' ⟨hb, ⟨j, hj, rfl, ha, hn⟩ | ⟨rfl, hn⟩⟩
  · obtain ⟨a, gg, cc, e1, e2⟩ := hw j hj
    rw [e2] at ha
    have ha' : a = x := ha
    subst ha'
    obtain ⟨b, e3, e4⟩ := hS j _ _ e1
    refine ⟨_, rfl, ?_, Keep.of_below hb _⟩
    have : S.now a = b := nowOf_hit S.wait a _ j b e3 (fun k y hk hy => by
      have hk2 : k < wvs.length := by have := (List.getElem?_eq_some_iff.1 hy).1; omega
      obtain ⟨a', gg', cc', e1', e2'⟩ := hw k hk2
      have := hn k hk hk2
      rw [e2'] at this
      obtain ⟨b', e3', _⟩ := hS k _ _ e1'
      rw [hy] at e3'
      injection e3' with e3'
      rw [e3']
      exact this)
    rw [this, e2]
    exact e4
  · refine ⟨_, rfl, ?_, Keep.of_below hb _⟩
    have : S.now x = S.secs[x] := by
      have e : S.secs.getD x [] = S.secs[x] := by simp [hx]
      rw [DS.now, e]
      exact nowOf_miss S.wait x _ (fun k y hy => by
        have hk2 : k < wvs.length := by have := (List.getElem?_eq_some_iff.1 hy).1; omega
        obtain ⟨a', gg', cc', e1', e2'⟩ := hw k hk2
        have := hn k hk2
        rw [e2'] at this
        obtain ⟨b', e3', _⟩ := hS k _ _ e1'
        rw [hy] at e3'
        injection e3' with e3'
        rw [e3']
        exact this)
    rw [this, ← hsv]
    exact hsx
end Go.Proofs.YtfigiofiakkbdaaDoor
