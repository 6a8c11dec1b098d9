/-
  Package journal: write.
-/
import Derived.Test.YtfigiofiakkbdaaDoorJB2
namespace Go.Proofs.YtfigiofiakkbdaaDoor
open Go.RowKit Go.Shelf
set_option linter.all false
attribute [local go_sem] Oper.semAt_some

theorem grown_keep {w w' : World} {row : Option Nat} (h : w.grownBy w' row) : Keep (fun k => row = some k) w w' := ⟨h.os, h.tape, h.output, h.size, fun k hk hn => h.block k hk (fun e => hn e.symm)⟩
/-- What is no cells may turn: a disk does not see it. -/
theorem Sd.own {w0 w w' : World} {R : Nat → Prop} {d : Nat} {S : DS} {row : Option Nat} {B : Nat} (h : Sd w0 w R d S) (hB : w0.heap.size ≤ B) (hg : w.grownBy w' row) (hr : ∀ r, row = some r → B ≤ r ∧ ∃ o : Obj, w.heap[r]? = some o ∧ o.isCells = false) : Sd w0 w' R d S :=
  h.apart (grown_keep hg) (fun i e => ⟨fun hi => by
    obtain ⟨_, o, ho, hc⟩ := hr i e
    obtain ⟨t, cs, hrow⟩ := h.cells i hi
    rw [show w.heap[i]? = _ from hrow] at ho
    cases ho
    exact (by cases hc), Nat.le_trans hB (hr i e).1⟩)
theorem Keep.own {w w1 w' : World} {R : Nat → Prop} {row : Option Nat} {B : Nat} (h : Keep R w w1) (hB : w.heap.size ≤ B) (hg : w1.grownBy w' row) (hr : ∀ r, row = some r → B ≤ r ∧ ∃ o : Obj, w1.heap[r]? = some o ∧ o.isCells = false) : Keep R w w' :=
  h.then_ (grown_keep hg) (fun i hi e => absurd hi (by have := (hr i e).1; omega))
theorem Sd.keepsFrom {w0 w w' : World} {R : Nat → Prop} {d : Nat} {S : DS} (h : Sd w0 w R d S) (k : Keep R w w') (B : Nat) : KeepsFrom B w w' :=
  ⟨k.size, fun i o _ hi hc => (k.block i (Array.getElem?_eq_some_iff.1 hi).1 (fun e => by
    obtain ⟨t, cs, hrow⟩ := h.cells i e
    rw [show w.heap[i]? = _ from hrow] at hi
    cases hi
    cases hc)).trans hi⟩

set_option maxHeartbeats 1000000 in
theorem cut_c (n : Nat) (f : Int) (A : Option Addr) (len cap : Nat) (w : World) :
    CallsIn Fence.wide n Tryd.prog 82 #[.int .i64 f, .slice A len cap] w fun e w' => e = .returned (.func (.func 86) #[] #[.pointer (some ⟨w.heap.size + 1, 0, none⟩), .pointer (some ⟨w.heap.size, 0, none⟩)]) ∧ (w.alloc (.cells #[.int .i64 f] 3)).alloc (.cells #[.slice A len cap] 31) = w' := by
  refine callsIn_of_wp Tryd.func82 rfl trivial ?_ rfl
  simp only [Tryd.ntmps82, List.size_toArray, List.length_cons, List.length_nil, Nat.reduceAdd, Nat.reduceSub, Array.replicate_succ, Array.replicate_zero, List.push_toArray, List.append_toArray, List.nil_append, List.cons_append]
  gi_wp2
  go_ret
  exact ⟨by simp, rfl⟩
theorem cut_stops (n : Nat) (hn : 1 ≤ n) (Ba Bb f g o m cap : Nat) (hm : m ≤ 100000) (hf : f ≤ 1000000) (hcap : 512 * m ≤ cap) (hcm : cap ≤ 1000000000) (w : World) (ha : Ba < w.heap.size) (hb : Bb < w.heap.size)
    (hBa : w.cell? ⟨Ba, 0, none⟩ = some (.int .i64 (f : Int))) (hBb : w.cell? ⟨Bb, 0, none⟩ = some (.slice (some ⟨g, o, none⟩) (512 * m) cap)) :
    SeqStopsK Fence.wide n Tryd.prog 86 #[.pointer (some ⟨Bb, 0, none⟩), .pointer (some ⟨Ba, 0, none⟩)] (cutEnc f g o m cap) (KeepTwo Ba Bb) (fun ys => ys = List.range m) (fun pre => ∃ k, k ≤ m ∧ pre = List.range k) m w := fun l J Jx W hW hJ _ hY h0 =>
  cut1_in n hn l Ba Bb f g o m cap hm hf hcap hcm J Jx hY (fun pre X hX => hJ pre X X.drew none hX ⟨rfl, rfl, rfl, Nat.le_refl _, fun _ _ _ => rfl⟩ (fun r e => by cases e)) W
    ((hW.cell (p := ⟨Ba, 0, none⟩) ha).trans hBa) ((hW.cell (p := ⟨Bb, 0, none⟩) hb).trans hBb) h0

/-- A sector of a row of bytes. -/
def secAt (p : List UInt8) (i : Nat) : List UInt8 := (p.drop (512 * i)).take 512
theorem secAt_len (p : List UInt8) (i : Nat) (h : 512 * (i + 1) ≤ p.length) : (secAt p i).length = 512 := by simp [secAt]; omega
/-- Where the others go. -/
def others (f m : Nat) (p : List UInt8) : List (Nat × List UInt8) := (List.range m).map fun i => (f + 1 + i, secAt p (i + 1))
theorem others_len (f m : Nat) (p : List UInt8) : (others f m p).length = m := by simp [others]
/-- A picture of m + 1 sectors is written: the first one last. -/
def DS.put (S : DS) (f : Nat) (p : List UInt8) (m : Nat) : Bool × DS :=
  match S.wrs (others f m p) with
  | (false, S1) => (false, S1)
  | (true, S1) => if m = 0 then S1.wr f (secAt p 0) else match S1.bar with
    | (false, S2) => (false, S2)
    | (true, S2) => S2.wr f (secAt p 0)
def scAt (f m : Nat) (p : List UInt8) (x : Nat) : Nat × List UInt8 := (f + 1 + x % m, secAt p (x % m + 1))
theorem scAt_range (f m : Nat) (p : List UInt8) (k : Nat) (hk : k ≤ m) : (List.range k).map (scAt f m p) = (others f m p).take k := by
  unfold others
  rw [← List.map_take, List.take_range, Nat.min_eq_left hk]
  apply List.map_congr_left
  intro i hi
  have : i < m := by have := List.mem_range.1 hi; omega
  unfold scAt
  rw [Nat.mod_eq_of_lt this]

/-- Between two rounds: so many were written. -/
def WI (w0 w W0 : World) (R : Nat → Prop) (d jb f m : Nat) (p : List UInt8) (S : DS) (pre : List Nat) (W : World) : Prop :=
  (∃ R1 S1, S.wrs (pre.map (scAt f m p)) = (true, S1) ∧ Sd w0 W R1 d S1 ∧ Ext R R1 W0) ∧ Keep R w W ∧ W.cell? ⟨w.heap.size, 0, none⟩ = some (.pointer (some ⟨jb, 0, none⟩)) ∧ W.cell? ⟨w.heap.size + 1, 0, none⟩ = some (.int .i64 0) ∧ W.frozen? ⟨w.heap.size + 1, 0, none⟩ = false ∧ W0.heap.size ≤ W.heap.size
/-- A round has returned. -/
def WX (w0 w W0 : World) (R : Nat → Prop) (d f m : Nat) (p : List UInt8) (S : DS) (c : Code) (pre : List Nat) (W : World) : Prop :=
  c = .ret ∧ (∃ R1 S1, S.wrs (pre.map (scAt f m p)) = (false, S1) ∧ Sd w0 W R1 d S1 ∧ Ext R R1 W0) ∧ Keep R w W ∧ W.cell? ⟨w.heap.size + 1, 0, none⟩ = some (.int .i64 11) ∧ W0.heap.size ≤ W.heap.size
theorem WI.own (w0 w W0 : World) (R : Nat → Prop) (d jb f m : Nat) (p : List UInt8) (S : DS) (h0 : w0.heap.size ≤ W0.heap.size) (h1 : w.heap.size ≤ W0.heap.size) : OwnFrom W0.heap.size (WI w0 w W0 R d jb f m p S) := by
  rintro s A B row ⟨⟨R1, S1, e1, e2, e3⟩, k, c1, c2, c3, c4⟩ hg hr
  have hr' : ∀ r, row = some r → ∃ o : Obj, A.heap[r]? = some o ∧ o.isCells = false := fun r e => (hr r e).2
  exact ⟨⟨R1, S1, e1, e2.own h0 hg hr, e3⟩, k.own h1 hg hr, cell_kept c1 hg hr', cell_kept c2 hg hr', (frozen_kept c2 hg hr').trans c3, Nat.le_trans c4 hg.size⟩
theorem WX.own (w0 w W0 : World) (R : Nat → Prop) (d f m : Nat) (p : List UInt8) (S : DS) (h0 : w0.heap.size ≤ W0.heap.size) (h1 : w.heap.size ≤ W0.heap.size) (c : Code) : OwnFrom W0.heap.size (WX w0 w W0 R d f m p S c) := by
  rintro s A B row ⟨hc, ⟨R1, S1, e1, e2, e3⟩, k, c2, c4⟩ hg hr
  have hr' : ∀ r, row = some r → ∃ o : Obj, A.heap[r]? = some o ∧ o.isCells = false := fun r e => (hr r e).2
  exact ⟨hc, ⟨R1, S1, e1, e2.own h0 hg hr, e3⟩, k.own h1 hg hr, cell_kept c2 hg hr', Nat.le_trans c4 hg.size⟩
/-- The frame of write in a round. -/
def WT (jb g o L H f m x : Nat) : Array Value := #[.pointer (some ⟨jb, 0, none⟩), .slice (some ⟨g, 0, none⟩) L L, .pointer (some ⟨H, 0, none⟩), undef, .pointer (some ⟨H + 1, 0, none⟩), .slice (some ⟨g, 0, none⟩) 512 L, .slice (some ⟨g, o, none⟩) (512 * m) (512 * m), .int .i64 ((f + 1 + x % m : Nat) : Int), .slice (some ⟨g, o + 512 * (x % m), none⟩) 512 (512 * m - 512 * (x % m)), undef, undef, .slice (some ⟨g, 0, none⟩) L L, .slice (some ⟨g, 0, none⟩) 512 L, .slice (some ⟨g, 0, none⟩) L L, .slice (some ⟨g, o, none⟩) (512 * m) (512 * m), .pointer (some ⟨jb, 0, none⟩), .pointer (some ⟨jb, 0, none⟩), .pointer (some ⟨jb, 3, none⟩), .int .i64 (f : Int), .int .i64 ((f : Int) + 1), .slice (some ⟨g, o, none⟩) (512 * m) (512 * m), .func (.func 86) #[] #[.pointer (some ⟨H + 1 + 1 + 1, 0, none⟩), .pointer (some ⟨H + 1 + 1, 0, none⟩)], .int .i64 ((f + 1 + x % m : Nat) : Int), .slice (some ⟨g, o + 512 * (x % m), none⟩) 512 (512 * m - 512 * (x % m)), undef, undef, undef, undef, undef, undef, undef, undef, undef, undef, undef, undef, undef, undef, undef, undef, undef, undef, undef, undef, undef, undef, undef, undef, undef, undef, undef, undef, undef, undef, undef]
theorem BRow.bytes {w : World} {g : Nat} {p : List UInt8} (h : BRow w g p) (o k : Nat) (cap : Nat) {Q : Nat → Prop} (hQ : Q g) (ho : o + k ≤ p.length) : Bytes w Q (.slice (some ⟨g, o, none⟩) k cap) ((p.drop o).take k) := by
  have hl : ((p.drop o).take k).length = k := by simp; omega
  refine ⟨some ⟨g, o, none⟩, cap, by rw [hl], fun i b hi => ⟨_, rfl, hQ, Row.lt h, ?_⟩⟩
  rw [addr_mid, Row.cell h]
  rw [List.getElem?_take] at hi
  split at hi
  · rw [List.getElem?_drop] at hi
    simp [hi]
  · simp at hi
theorem BRow.keep {w w' : World} {g : Nat} {p : List UInt8} {R : Nat → Prop} (h : BRow w g p) (k : Keep R w w') (hR : ¬ R g) : BRow w' g p := Row.keep h k hR

/-- What write answers. -/
def PutRes (w0 w : World) (R : Nat → Prop) (d f m : Nat) (p : List UInt8) (S : DS) (e : Ending) (w' : World) : Prop :=
  ∃ R' S1 c, ((S.put f p m = (true, S1) ∧ c = 0) ∨ (S.put f p m = (false, S1) ∧ c = 11)) ∧ e = .returned (.int .i64 c) ∧ Sd w0 w' R' d S1 ∧ Ext R R' w ∧ Keep R w w'

set_option maxRecDepth 100000 in
set_option maxHeartbeats 4000000 in
theorem jwrite_more {w0 w : World} {R : Nat → Prop} {d jb g m : Nat} {S : DS} {J : JS} {p : List UInt8} (h : Sd w0 w R d S) (hj : JRow w jb d J) (hRj : ¬ R jb) (hg : BRow w g p) (hRg : ¬ R g) (hm : 0 < m) (hpl : p.length = 512 * (m + 1)) (hfit : J.free + m < S.secs.length) (hs : S.secs.length ≤ 4096) (hf : S.fine (m + 2)) :
    CallsIn Fence.wide 3 Tryd.prog 69 #[.pointer (some ⟨jb, 0, none⟩), .slice (some ⟨g, 0, none⟩) (512 * (m + 1)) (512 * (m + 1))] w (PutRes w0 w R d J.free m p S) := by
  refine callsIn_of_wp_marks Tryd.func69 rfl trivial ?_ rfl
  simp only [Tryd.ntmps69, List.size_toArray, List.length_cons, List.length_nil, Nat.reduceAdd, Nat.reduceSub, Array.replicate_succ, Array.replicate_zero, List.push_toArray, List.append_toArray, List.nil_append, List.cons_append]
  obtain ⟨from_, end_, f, last, failed⟩ := J
  simp only at hfit ⊢
  obtain ⟨c0, -, -, c3, -, -⟩ := hj.cells
  simp only at c0 c3
  have hjl : jb < w.heap.size := Row.lt hj
  have hgl : g < w.heap.size := Row.lt hg
  have HS := Lib.hid h
  have HJ := Lib.hid hj
  have HG := Lib.hid hg
  obtain ⟨L, hL⟩ : ∃ L, L = 512 * (m + 1) := ⟨_, rfl⟩
  rw [← hL]
  have i1 : (512 : Int) ≤ (L : Int) := by omega
  have i2 : (L : Int) ≤ 3000000 := by omega
  have i3 : (f : Int) ≤ 4096 := by omega
  have e1 : L - 512 = 512 * m := by omega
  have e2 : ¬ L = 512 := by omega
  have hL1 : L ≤ 3000000 := by omega
  have HL := Lib.hid hL
  clear h hj hg hL
  gi_wp2
  gi_region
  gi_wp2_with (refine ⟨trivial, ?_⟩; gi_at_call 82; refine (cut_c _ _ _ _ _ _).mono ?_; rintro e w' ⟨rfl, rfl⟩)
  have A1 := Row.made w 67 #[.pointer (some ⟨jb, 0, none⟩)]
  have A2 := Row.made (w.alloc (.cells #[.pointer (some ⟨jb, 0, none⟩)] 67)) 25 #[.int .i64 0]
  have A3 := Row.made ((w.alloc (.cells #[.pointer (some ⟨jb, 0, none⟩)] 67)).alloc (.cells #[.int .i64 0] 25)) 3 #[.int .i64 ((f : Int) + 1)]
  have A4 := Row.made (((w.alloc (.cells #[.pointer (some ⟨jb, 0, none⟩)] 67)).alloc (.cells #[.int .i64 0] 25)).alloc (.cells #[.int .i64 ((f : Int) + 1)] 3)) 31 #[.slice (some ⟨g, 512, none⟩) (512 * m) (512 * m)]
  have B1 := (((A1.alloc (.cells #[.int .i64 0] 25)).alloc (.cells #[.int .i64 ((f : Int) + 1)] 3)).alloc (.cells #[.slice (some ⟨g, 512, none⟩) (512 * m) (512 * m)] 31)).drew
  have B2 := ((A2.alloc (.cells #[.int .i64 ((f : Int) + 1)] 3)).alloc (.cells #[.slice (some ⟨g, 512, none⟩) (512 * m) (512 * m)] 31)).drew
  have B3 := (A3.alloc (.cells #[.slice (some ⟨g, 512, none⟩) (512 * m) (512 * m)] 31)).drew
  have B4 := A4.drew
  have hC : Calm w ((((w.alloc (.cells #[.pointer (some ⟨jb, 0, none⟩)] 67)).alloc (.cells #[.int .i64 0] 25)).alloc (.cells #[.int .i64 ((f : Int) + 1)] 3)).alloc (.cells #[.slice (some ⟨g, 512, none⟩) (512 * m) (512 * m)] 31)).drew := (((((Keep.refl _ w).alloc _).alloc _).alloc _).alloc _).drew
  have hz : ((((w.alloc (.cells #[.pointer (some ⟨jb, 0, none⟩)] 67)).alloc (.cells #[.int .i64 0] 25)).alloc (.cells #[.int .i64 ((f : Int) + 1)] 3)).alloc (.cells #[.slice (some ⟨g, 512, none⟩) (512 * m) (512 * m)] 31)).drew.heap.size = w.heap.size + 4 := by simp
  rw [World.size_alloc] at B2
  rw [World.size_alloc, World.size_alloc] at B3
  rw [World.size_alloc, World.size_alloc, World.size_alloc] at B4
  clear A1 A2 A3 A4
  generalize ((((w.alloc (.cells #[.pointer (some ⟨jb, 0, none⟩)] 67)).alloc (.cells #[.int .i64 0] 25)).alloc (.cells #[.int .i64 ((f : Int) + 1)] 3)).alloc (.cells #[.slice (some ⟨g, 512, none⟩) (512 * m) (512 * m)] 31)).drew = W0 at *
  have b1 := B1.cell 0
  have b2 := B2.cell 0
  have b2f := B2.soft 0
  have b3 := B3.cell 0
  have b4 := B4.cell 0
  simp only [List.getElem?_toArray, List.getElem?_cons_zero] at b1 b2 b3 b4
  rw [show ((f : Int) + 1) = ((f + 1 : Nat) : Int) by omega] at b3
  have hw0 : w0.heap.size ≤ W0.heap.size := Nat.le_trans HS.out.st.calm.size hC.size
  have hlt : ∀ k, R k → k < w.heap.size := fun k hk => HS.out.st.lt k hk
  have Hlt := Lib.hid hlt
  have HC := Lib.hid hC
  have Hz := Lib.hid hz
  have hz1 : w.heap.size + 4 ≤ W0.heap.size := by omega
  have I0 : Hid (WI w0 w W0 R d jb f m p S [] W0) := Lib.hid ⟨⟨R, S, rfl, HS.out.rest hC, Ext.refl _ _⟩, hC.keep R, b1, b2, b2f, Nat.le_refl _⟩
  have FIN : ∀ (D : Nat) (Z : World) (R1 : Nat → Prop) (S1 : DS) (c : Int), W0.heap.size ≤ D → Z.heap[D]? = some (.deferred (some [])) → Sd w0 Z R1 d S1 → Ext R R1 W0 → Keep R w Z → ((S.put f p m = (true, S1) ∧ c = 0) ∨ (S.put f p m = (false, S1) ∧ c = 11)) → PutRes w0 w R d f m p S (.returned (.int .i64 c)) (Z.putObj D (.deferred none)) := by
    intro D Z R1 S1 c hD hK hs1 hx hk hput
    refine ⟨R1, S1, c, hput, rfl, hs1.own (B := W0.heap.size) hw0 (grownBy_putObj' _ _ _) (fun r e => by cases e; exact ⟨hD, _, hK, rfl⟩), fun k hk => (hx k hk).imp id (fun e => Nat.le_trans HC.out.size e), hk.own (B := W0.heap.size) HC.out.size (grownBy_putObj' _ _ _) (fun r e => by cases e; exact ⟨hD, _, hK, rfl⟩)⟩
  have HFIN := Lib.hid FIN
  clear FIN hlt hC hz B1 B2 B3 B4
  refine wpIn_rangeFunc_ownG (F := Fence.wide) (α := Nat) rfl (by omega) (gf := 86) (lb := #[.pointer (some ⟨w.heap.size + 1 + 1 + 1, 0, none⟩), .pointer (some ⟨w.heap.size + 1 + 1, 0, none⟩)]) rfl trivial (enters_of Tryd.func86 (by kernel_rfl) rfl)
    (cut_stops (3 - 1) (by omega) (w.heap.size + 1 + 1) (w.heap.size + 1 + 1 + 1) (f + 1) g 512 m (512 * m) (by omega) (by omega) (Nat.le_refl _) (by omega) W0 (by omega) (by omega) b3 b4)
    (fun h k => ⟨k.1.trans h.1, k.2.trans h.2⟩) (fun W l o o' hl _ _ _ => ⟨World.putObj_heap_other (by omega), World.putObj_heap_other (by omega)⟩) (Below.refl _ _) (fun _ => rfl)
    (WI w0 w W0 R d jb f m p S) (WX w0 w W0 R d f m p S) (WI.own w0 w W0 R d jb f m p S hw0 (by omega)) (WX.own w0 w W0 R d f m p S hw0 (by omega)) I0.out (fun x => { tmps := WT jb g 512 L w.heap.size f m x, defers := [] }) ?assign ?body ?done ?stop
  case assign =>
    intro l x W K hK
    have HK := Lib.hid hK
    clear hK
    unfold cutEnc
    gi_wp2
    exact HK.out
  case body =>
    rintro l pre x W ⟨⟨R1, S1, hwr, hs1, hx1⟩, hk1, d1, d2, d3, d4⟩ hlen
    have hxm : x % m < m := Nat.mod_lt _ hm
    have hf1 := DS.wrs_fine (n := 1) hwr (hf.mono (by simp; omega))
    have j0 : W.cell? ⟨jb, 0, none⟩ = some (.pointer (some ⟨d, 0, none⟩)) := (hk1.cell (p := ⟨jb, 0, none⟩) hjl hRj).trans c0
    have g1 := HG.out.keep hk1 hRg
    have nH : ¬ R1 w.heap.size := hx1.not (fun e => absurd (Hlt.out _ e) (by omega)) (by omega)
    have nH1 : ¬ R1 (w.heap.size + 1) := hx1.not (fun e => absurd (Hlt.out _ e) (by omega)) (by omega)
    have nH2 : ¬ R1 (w.heap.size + 1 + 1) := hx1.not (fun e => absurd (Hlt.out _ e) (by omega)) (by omega)
    have nH3 : ¬ R1 (w.heap.size + 1 + 1 + 1) := hx1.not (fun e => absurd (Hlt.out _ e) (by omega)) (by omega)
    have ng : ¬ R1 g := hx1.not hRg (by omega)
    have hb : Bytes W (fun k => ¬ R1 k) (.slice (some ⟨g, 512 + 512 * (x % m), none⟩) 512 (512 * m - 512 * (x % m))) (secAt p (x % m + 1)) := by
      have := g1.bytes (512 + 512 * (x % m)) 512 (512 * m - 512 * (x % m)) (Q := fun k => ¬ R1 k) ng (by rw [hpl]; omega)
      rwa [show 512 + 512 * (x % m) = 512 * (x % m + 1) by omega] at this ⊢
    have X := sd_write hs1 hf1.1 (f + 1 + x % m) (by rw [hf1.2]; omega) _ _ hb (secAt_len _ _ (by rw [hpl]; omega))
    have hsn := DS.wrs_snoc (scAt f m p x) hwr
    rw [show pre.map (scAt f m p) ++ [scAt f m p x] = (pre ++ [x]).map (scAt f m p) by simp] at hsn
    have H1 := Lib.hid hs1
    have K1 := Lib.hid hk1
    have X1 := Lib.hid hx1
    have HX := Lib.hid X
    have HN := Lib.hid hsn
    clear hs1 hk1 hx1 X hsn g1 hb hwr hf1
    unfold WT
    gi_wp2_with fail
    refine ⟨trivial, ?_⟩
    refine (CallsIn.inRound l (callsIn_wide.2 HX.out)).mono ?_
    rintro e W2 ⟨R2, S2, hcase, hs2, hx2, hk2⟩
    have hsub : ∀ i, i < w.heap.size → R1 i → R i := fun i hi hr => (X1.out i hr).resolve_right (by have := Nat.le_trans HC.out.size d4; omega)
    have hkw : Keep R w W2 := K1.out.then_ hk2 hsub
    have e1 : W2.cell? ⟨w.heap.size, 0, none⟩ = some (.pointer (some ⟨jb, 0, none⟩)) := (hk2.cell (p := ⟨w.heap.size, 0, none⟩) (by show w.heap.size < _; omega) nH).trans d1
    have e2 : W2.cell? ⟨w.heap.size + 1, 0, none⟩ = some (.int .i64 0) := (hk2.cell (p := ⟨w.heap.size + 1, 0, none⟩) (by show w.heap.size + 1 < _; omega) nH1).trans d2
    have e3 : W2.frozen? ⟨w.heap.size + 1, 0, none⟩ = false := (hk2.soft (p := ⟨w.heap.size + 1, 0, none⟩) (by show w.heap.size + 1 < _; omega) nH1).trans d3
    have hkf := H1.out.keepsFrom hk2 W0.heap.size
    have hk2' : KeepTwo (w.heap.size + 1 + 1) (w.heap.size + 1 + 1 + 1) W W2 := ⟨hk2.block _ (by omega) nH2, hk2.block _ (by omega) nH3⟩
    have hx12 : Ext R R2 W0 := fun k hk => (hx2 k hk).elim (X1.out k) (fun e => .inr (Nat.le_trans d4 e))
    have hz2 := Nat.le_trans d4 hk2.size
    have nH1' : ¬ R2 (w.heap.size + 1) := hx12.not (fun e => absurd (Hlt.out _ e) (by omega)) (by omega)
    have H2 := Lib.hid hs2
    have KW := Lib.hid hkw
    have KF := Lib.hid hkf
    have KT := Lib.hid hk2'
    have X2 := Lib.hid hx12
    have HCa := Lib.hid hcase
    have hce := HCa.out
    clear hs2 hkw hkf hk2' hx12 hk2 hx2 hcase
    rcases hce with ⟨hw2, rfl⟩ | ⟨hw2, rfl⟩
    · have HW2 := Lib.hid hw2
      clear hw2 HCa
      gi_wp2
      exact ⟨KF.out, KT.out, ⟨R2, S2, by rw [HN.out]; exact HW2.out, H2.out, X2.out⟩, KW.out, e1, e2, e3, hz2⟩
    · have HW2 := Lib.hid hw2
      clear hw2 HCa
      gi_wp2
      refine ⟨KF.out.trans ((KeepsOthers.setCell _ _ _).from _), rfl, ⟨R2, S2, by rw [HN.out]; exact HW2.out, H2.out.touch (p := ⟨w.heap.size + 1, 0, none⟩) nH1' (by show w0.heap.size ≤ w.heap.size + 1; have := HS.out.st.calm.size; omega) _, X2.out⟩, KW.out.store (p := ⟨w.heap.size + 1, 0, none⟩) (fun e => absurd e (by show ¬ w.heap.size + 1 < _; omega)) _, World.cell?_setCell_same' _ _ _ (by rw [e2]; rfl), by simpa using hz2⟩
  case done =>
    rintro D ys W hD rfl hI hK
    obtain ⟨⟨R1, S1, hwr, hs1, hx1⟩, hk1, d1, d2, d3, d4⟩ := hI
    rw [scAt_range f m p m (Nat.le_refl _), List.take_of_length_le (by rw [others_len]; exact Nat.le_refl _)] at hwr
    have hf1 := DS.wrs_fine (n := 2) hwr (by rw [others_len, Nat.add_comm]; exact hf)
    have j0 : W.cell? ⟨jb, 0, none⟩ = some (.pointer (some ⟨d, 0, none⟩)) := (hk1.cell (p := ⟨jb, 0, none⟩) hjl hRj).trans c0
    have j3 : W.cell? ⟨jb, 3, none⟩ = some (.int .i64 (f : Int)) := (hk1.cell (p := ⟨jb, 3, none⟩) hjl hRj).trans c3
    have g1 := HG.out.keep hk1 hRg
    have nH : ¬ R1 w.heap.size := hx1.not (fun e => absurd (Hlt.out _ e) (by omega)) (by omega)
    have nH1 : ¬ R1 (w.heap.size + 1) := hx1.not (fun e => absurd (Hlt.out _ e) (by omega)) (by omega)
    have nj : ¬ R1 jb := hx1.not hRj (by omega)
    have ng : ¬ R1 g := hx1.not hRg (by omega)
    have H1 := Lib.hid hs1
    have K1 := Lib.hid hk1
    have G1 := Lib.hid g1
    have X1 := Lib.hid hx1
    have HW := Lib.hid hwr
    have HD := Lib.hid hK
    have HF := Lib.hid hf1
    clear hs1 hk1 g1 hx1 hwr hK hf1
    have t0 : (0 : Int) < 512 * (m : Int) := by omega
    have XB := Lib.hid (sd_barrier H1.out (HF.out.1.mono (by omega)))
    gi_wp2_with fail
    refine ⟨trivial, ?_⟩
    refine (callsIn_wide.2 XB.out).mono ?_
    rintro e WB ⟨RB, SB, hcase, hsb, hxb, hkb⟩
    have hsub : ∀ i, i < w.heap.size → R1 i → R i := fun i hi hr => (X1.out i hr).resolve_right (by have := Nat.le_trans HC.out.size d4; omega)
    have hkw : Keep R w WB := K1.out.then_ hkb hsub
    have e1 : WB.cell? ⟨w.heap.size, 0, none⟩ = some (.pointer (some ⟨jb, 0, none⟩)) := (hkb.cell (p := ⟨w.heap.size, 0, none⟩) (by show w.heap.size < _; omega) nH).trans d1
    have e2 : WB.cell? ⟨w.heap.size + 1, 0, none⟩ = some (.int .i64 0) := (hkb.cell (p := ⟨w.heap.size + 1, 0, none⟩) (by show w.heap.size + 1 < _; omega) nH1).trans d2
    have e3 : WB.frozen? ⟨w.heap.size + 1, 0, none⟩ = false := (hkb.soft (p := ⟨w.heap.size + 1, 0, none⟩) (by show w.heap.size + 1 < _; omega) nH1).trans d3
    have f0 : WB.cell? ⟨jb, 0, none⟩ = some (.pointer (some ⟨d, 0, none⟩)) := (hkb.cell (p := ⟨jb, 0, none⟩) (by show jb < _; omega) nj).trans j0
    have f3 : WB.cell? ⟨jb, 3, none⟩ = some (.int .i64 (f : Int)) := (hkb.cell (p := ⟨jb, 3, none⟩) (by show jb < _; omega) nj).trans j3
    have gB := G1.out.keep hkb ng
    have hDB : WB.heap[D]? = some (.deferred (some [])) := (H1.out.keepsFrom hkb 0).same D _ (Nat.zero_le _) HD.out rfl
    have xB : Ext R RB W0 := fun k hk => (hxb k hk).elim (X1.out k) (fun e => .inr (Nat.le_trans d4 e))
    have d4' : W0.heap.size ≤ WB.heap.size := Nat.le_trans d4 hkb.size
    clear d1 d2 d3 j0 j3 hsub HD G1 nH nH1 nj ng
    have nH : ¬ RB w.heap.size := xB.not (fun e => absurd (Hlt.out _ e) (by omega)) (by omega)
    have nH1 : ¬ RB (w.heap.size + 1) := xB.not (fun e => absurd (Hlt.out _ e) (by omega)) (by omega)
    have nj : ¬ RB jb := xB.not hRj (by omega)
    have ng : ¬ RB g := xB.not hRg (by omega)
    have HB := Lib.hid hsb
    have KB := Lib.hid hkw
    have XB2 := Lib.hid xB
    have GB := Lib.hid gB
    have HD := Lib.hid hDB
    have HCa := Lib.hid hcase
    clear hsb hkw xB gB hDB hkb hxb XB
    have hce := HCa.out
    clear hcase HCa
    rcases hce with ⟨hb2, rfl⟩ | ⟨hb2, rfl⟩
    · have hfb := DS.bar_fine (n := 1) hb2 HF.out.1
      have hput : S.put f p m = SB.wr f (secAt p 0) := by unfold DS.put; rw [HW.out]; simp only; rw [if_neg (by omega), hb2]
      have HP := Lib.hid hput
      have HFB : Hid (SB.fine 1 ∧ SB.secs.length = S.secs.length) := Lib.hid ⟨hfb.1, hfb.2.trans HF.out.2⟩
      clear hput hb2 hfb
      have d1 := e1
      have d2 := e2
      have d3 := e3
      have j0 := f0
      have j3 := f3
      have d4 := d4'
      clear e1 e2 e3 f0 f3
      gi_wp2
      have PW := HB.out.rest (w' := WB.drew) ((Keep.refl _ _).drew)
      have hb : Bytes WB.drew (fun k => ¬ RB k) (.slice (some ⟨g, 0, none⟩) 512 L) (secAt p 0) := by
        have := BRow.bytes (w := WB.drew) GB.out 0 512 L (Q := fun k => ¬ RB k) ng (by rw [hpl]; omega)
        simpa [secAt] using this
      have hfw : SB.fine 1 ∧ SB.secs.length = S.secs.length := HFB.out
      have X := sd_write PW hfw.1 f (by rw [hfw.2]; omega) _ _ hb (secAt_len _ _ (by rw [hpl]; omega))
      have HX := Lib.hid X
      clear X PW hb hfw
      refine wpIn_wide.2 ?_
      refine wp_region_noPanic ?_
      refine wp_region_held_drew (S := fun wx => wx.cell? ⟨w.heap.size, 0, none⟩ = some (.pointer (some ⟨jb, 0, none⟩)) ∧ wx.cell? ⟨jb, 0, none⟩ = some (.pointer (some ⟨d, 0, none⟩)) ∧ wx.cell? ⟨jb, 3, none⟩ = some (.int .i64 (f : Int))) (by kernel_rfl) ⟨d1, j0, j3⟩ (fun hHeld => ?_)
      refine take_at 0 45 (.pointer (some ⟨jb, 0, none⟩)) rfl rfl (by kernel_rfl) (by kernel_rfl) (by kernel_rfl) (fun _ _ _ h => h) (Or.inl ⟨by rfl, ?_⟩) hHeld ?_
      · intro w hSw; obtain ⟨s1, s2, s3⟩ := hSw; go_simp
      simp only [List.setIfInBounds_toArray, List.set_cons_zero, List.set_cons_succ]
      refine take_at 1 46 (.pointer (some ⟨jb, 0, none⟩)) rfl rfl (by kernel_rfl) (by kernel_rfl) (by kernel_rfl) (fun _ _ _ h => h) (Or.inl ⟨by rfl, ?_⟩) hHeld ?_
      · intro w hSw; go_simp
      simp only [List.setIfInBounds_toArray, List.set_cons_zero, List.set_cons_succ]
      refine take_at 2 47 (.pointer (some ⟨jb, 0, none⟩)) rfl rfl (by kernel_rfl) (by kernel_rfl) (by kernel_rfl) (fun _ _ _ h => h) (Or.inl ⟨by rfl, ?_⟩) hHeld ?_
      · intro w hSw; go_simp
      simp only [List.setIfInBounds_toArray, List.set_cons_zero, List.set_cons_succ]
      refine take_at 3 48 (.pointer (some ⟨d, 0, none⟩)) rfl rfl (by kernel_rfl) (by kernel_rfl) (by kernel_rfl) (fun _ _ _ h => h) (Or.inl ⟨by rfl, ?_⟩) hHeld ?_
      · intro w hSw; obtain ⟨s1, s2, s3⟩ := hSw; go_simp
      simp only [List.setIfInBounds_toArray, List.set_cons_zero, List.set_cons_succ]
      refine take_at 4 49 (.pointer (some ⟨jb, 0, none⟩)) rfl rfl (by kernel_rfl) (by kernel_rfl) (by kernel_rfl) (fun _ _ _ h => h) (Or.inl ⟨by rfl, ?_⟩) hHeld ?_
      · intro w hSw; obtain ⟨s1, s2, s3⟩ := hSw; go_simp
      simp only [List.setIfInBounds_toArray, List.set_cons_zero, List.set_cons_succ]
      refine take_at 5 50 (.pointer (some ⟨jb, 0, none⟩)) rfl rfl (by kernel_rfl) (by kernel_rfl) (by kernel_rfl) (fun _ _ _ h => h) (Or.inl ⟨by rfl, ?_⟩) hHeld ?_
      · intro w hSw; go_simp
      simp only [List.setIfInBounds_toArray, List.set_cons_zero, List.set_cons_succ]
      refine take_at 6 51 (.pointer (some ⟨jb, 3, none⟩)) rfl rfl (by kernel_rfl) (by kernel_rfl) (by kernel_rfl) (fun _ _ _ h => h) (Or.inl ⟨by rfl, ?_⟩) hHeld ?_
      · intro w hSw; go_simp
      simp only [List.setIfInBounds_toArray, List.set_cons_zero, List.set_cons_succ]
      refine take_at 7 52 (.int .i64 (f : Int)) rfl rfl (by kernel_rfl) (by kernel_rfl) (by kernel_rfl) (fun _ _ _ h => h) (Or.inl ⟨by rfl, ?_⟩) hHeld ?_
      · intro w hSw; obtain ⟨s1, s2, s3⟩ := hSw; go_simp
      simp only [List.setIfInBounds_toArray, List.set_cons_zero, List.set_cons_succ]
      refine take_at 8 53 (.slice (some ⟨g, 0, none⟩) 512 L) rfl rfl (by kernel_rfl) (by kernel_rfl) (by kernel_rfl) (fun _ _ _ h => h) (Or.inl ⟨by rfl, ?_⟩) hHeld ?_
      · intro w hSw; go_simp
      simp only [List.setIfInBounds_toArray, List.set_cons_zero, List.set_cons_succ]
      refine wpAnyH_ready (rs := [9]) (by kernel_rfl) (by simp) ?_
      refine AllReadyH.cons rfl (fun K hK => ?_) AllReadyH.nil
      go_simp
      refine HX.out.mono ?_
      rintro e W2 ⟨R9, S9, hcase, hs2, hx2, hk2⟩
      obtain ⟨c9, rfl, h9⟩ : ∃ c : Int, e = .returned (.int .i64 c) ∧ ((S.put f p m = (true, S9) ∧ c = 0) ∨ (S.put f p m = (false, S9) ∧ c = 11)) := by
        rcases hcase with ⟨hw2, rfl⟩ | ⟨hw2, rfl⟩
        · exact ⟨0, rfl, .inl ⟨by rw [HP.out]; exact hw2, rfl⟩⟩
        · exact ⟨11, rfl, .inr ⟨by rw [HP.out]; exact hw2, rfl⟩⟩
      clear hcase
      have t1 : W2.cell? ⟨w.heap.size, 0, none⟩ = some (.pointer (some ⟨jb, 0, none⟩)) := (hk2.cell (p := ⟨w.heap.size, 0, none⟩) (by show w.heap.size < WB.heap.size; omega) nH).trans d1
      have t2 : W2.cell? ⟨jb, 0, none⟩ = some (.pointer (some ⟨d, 0, none⟩)) := (hk2.cell (p := ⟨jb, 0, none⟩) (by show jb < WB.heap.size; omega) nj).trans j0
      have t3 : W2.cell? ⟨jb, 3, none⟩ = some (.int .i64 (f : Int)) := (hk2.cell (p := ⟨jb, 3, none⟩) (by show jb < WB.heap.size; omega) nj).trans j3
      have t4 : W2.cell? ⟨w.heap.size + 1, 0, none⟩ = some (.int .i64 0) := (hk2.cell (p := ⟨w.heap.size + 1, 0, none⟩) (by show w.heap.size + 1 < WB.heap.size; omega) nH1).trans d2
      have t5 : W2.frozen? ⟨w.heap.size + 1, 0, none⟩ = false := (hk2.soft (p := ⟨w.heap.size + 1, 0, none⟩) (by show w.heap.size + 1 < WB.heap.size; omega) nH1).trans d3
      have x9 : Ext R R9 W0 := fun k hk => (hx2 k hk).elim (XB2.out k) (fun e => .inr (Nat.le_trans d4 e))
      have n9 : ¬ R9 (w.heap.size + 1) := x9.not (fun e => absurd (Hlt.out _ e) (by omega)) (by omega)
      have hD2 : W2.heap[D]? = some (.deferred (some [])) := (Sd.keepsFrom (w := WB.drew) (HB.out.rest ((Keep.refl _ _).drew)) hk2 0).same D _ (Nat.zero_le _) HD.out rfl
      have hD9 : (W2.setCell ⟨w.heap.size + 1, 0, none⟩ (.int .i64 c9)).heap[D]? = some (.deferred (some [])) := (KeepsOthers.setCell W2 ⟨w.heap.size + 1, 0, none⟩ (.int .i64 c9)).same D _ hD2 rfl
      have s9 : Sd w0 (W2.setCell ⟨w.heap.size + 1, 0, none⟩ (.int .i64 c9)) R9 d S9 := hs2.touch (p := ⟨w.heap.size + 1, 0, none⟩) n9 (by show w0.heap.size ≤ w.heap.size + 1; have := HS.out.st.calm.size; omega) _
      have k9 : Keep R w (W2.setCell ⟨w.heap.size + 1, 0, none⟩ (.int .i64 c9)) := ((KB.out.drew).then_ hk2 (fun i hi hr => (XB2.out i hr).resolve_right (by have := Nat.le_trans HC.out.size d4; omega))).store (p := ⟨w.heap.size + 1, 0, none⟩) (fun e => absurd e (by show ¬ w.heap.size + 1 < _; omega)) _
      have e2 : (W2.setCell ⟨w.heap.size + 1, 0, none⟩ (.int .i64 c9)).cell? ⟨w.heap.size + 1, 0, none⟩ = some (.int .i64 c9) := World.cell?_setCell_same' _ _ _ (by rw [t4]; rfl)
      have u1 : (W2.setCell ⟨w.heap.size + 1, 0, none⟩ (.int .i64 c9)).cell? ⟨w.heap.size, 0, none⟩ = some (.pointer (some ⟨jb, 0, none⟩)) := (World.cell?_setCell_other _ _ _ _ (by simp)).trans t1
      have u2 : (W2.setCell ⟨w.heap.size + 1, 0, none⟩ (.int .i64 c9)).cell? ⟨jb, 0, none⟩ = some (.pointer (some ⟨d, 0, none⟩)) := (World.cell?_setCell_other _ _ _ _ (by simp <;> omega)).trans t2
      have u3 : (W2.setCell ⟨w.heap.size + 1, 0, none⟩ (.int .i64 c9)).cell? ⟨jb, 3, none⟩ = some (.int .i64 (f : Int)) := (World.cell?_setCell_other _ _ _ _ (by simp)).trans t3
      have U := Lib.hid (And.intro u1 (And.intro u2 u3))
      have HD9 := Lib.hid hD9
      have HS9 := Lib.hid s9
      have HK9 := Lib.hid k9
      have HE2 := Lib.hid e2
      have HX9 := Lib.hid x9
      have H9 := Lib.hid h9
      clear hs2 hx2 hk2 hD2 u1 u2 u3 hD9 s9 k9 e2 x9 h9
      refine hK.out _ _ ⟨t1, t2, t3⟩ (fun hHeld => ?_)
      clear hK K
      try simp only [List.setIfInBounds_toArray, List.set_cons_zero, List.set_cons_succ]
      refine wpAnyH_ready (rs := [10]) (by kernel_rfl) (by simp) ?_
      refine AllReadyH.cons rfl (fun K hK => ?_) AllReadyH.nil
      go_simp
      refine hK.out _ _ U.out (fun hHeld => ?_)
      clear hK K
      try simp only [List.setIfInBounds_toArray, List.set_cons_zero, List.set_cons_succ]
      refine wpAnyH_done (by kernel_rfl) (NoPanic.normal ?_) _
      gi_wp2
      have hc5 := cell_kept HE2.out (grownBy_putObj' _ D (.deferred none)) (fun r e => by cases e; exact ⟨_, HD9.out, rfl⟩)
      refine ⟨by simp, .inl ⟨_, _, rfl, run_takeDeferred HD9.out, ?_⟩⟩
      exact ⟨.int .i64 c9, by simp [results, Tryd.f69, go_sem, hc5], HFIN.out D _ R9 S9 c9 hD HD9.out HS9.out HX9.out HK9.out H9.out⟩
    · have hput : S.put f p m = (false, SB) := by unfold DS.put; rw [HW.out]; simp only; rw [if_neg (by omega), hb2]
      have HP := Lib.hid hput
      clear hput hb2
      gi_wp2
      have hD9 : (WB.setCell ⟨w.heap.size + 1, 0, none⟩ (.int .i64 11)).heap[D]? = some (.deferred (some [])) := (KeepsOthers.setCell WB ⟨w.heap.size + 1, 0, none⟩ (.int .i64 11)).same D _ HD.out rfl
      have hc5 := cell_kept (World.cell?_setCell_same' WB ⟨w.heap.size + 1, 0, none⟩ (.int .i64 11) (by rw [e2]; rfl)) (grownBy_putObj' _ D (.deferred none)) (fun r e => by cases e; exact ⟨_, hD9, rfl⟩)
      refine ⟨by simp, .inl ⟨_, _, rfl, run_takeDeferred hD9, ?_⟩⟩
      exact ⟨.int .i64 11, by simp [results, Tryd.f69, go_sem, hc5], HFIN.out D _ RB SB 11 hD hD9 (HB.out.touch (p := ⟨w.heap.size + 1, 0, none⟩) nH1 (by show w0.heap.size ≤ w.heap.size + 1; have := HS.out.st.calm.size; omega) _) XB2.out (KB.out.store (p := ⟨w.heap.size + 1, 0, none⟩) (fun e => absurd e (by show ¬ w.heap.size + 1 < _; omega)) _) (.inr ⟨HP.out, rfl⟩)⟩
  case stop =>
    rintro D c pre W hD ⟨k, hk, rfl⟩ ⟨rfl, ⟨R1, S1, hwr, hs1, hx1⟩, hk1, d2, d4⟩ hK
    rw [scAt_range f m p k hk] at hwr
    have hput : S.put f p m = (false, S1) := by
      have := DS.wrs_stop ((others f m p).drop k) hwr
      rw [List.take_append_drop] at this
      unfold DS.put
      rw [this]
    have H1 := Lib.hid hs1
    have K1 := Lib.hid hk1
    have X1 := Lib.hid hx1
    have HP := Lib.hid hput
    have hc5 := cell_kept d2 (grownBy_putObj' _ D (.deferred none)) (fun r e => by cases e; exact ⟨_, hK, rfl⟩)
    have HD := Lib.hid hK
    clear hs1 hk1 hx1 hput hwr hK
    gi_wp2
    refine ⟨by simp, .inl ⟨_, _, rfl, run_takeDeferred HD.out, ?_⟩⟩
    exact ⟨.int .i64 11, by simp [results, Tryd.f69, go_sem, hc5], HFIN.out D W R1 S1 11 hD HD.out H1.out X1.out K1.out (.inr ⟨HP.out, rfl⟩)⟩

set_option maxRecDepth 100000 in
set_option maxHeartbeats 4000000 in
theorem jwrite_one {w0 w : World} {R : Nat → Prop} {d jb g m : Nat} {S : DS} {J : JS} {p : List UInt8} (h : Sd w0 w R d S) (hj : JRow w jb d J) (hRj : ¬ R jb) (hg : BRow w g p) (hRg : ¬ R g) (hm : m = 0) (hpl : p.length = 512 * (m + 1)) (hfit : J.free + m < S.secs.length) (hs : S.secs.length ≤ 4096) (hf : S.fine (m + 2)) :
    CallsIn Fence.wide 3 Tryd.prog 69 #[.pointer (some ⟨jb, 0, none⟩), .slice (some ⟨g, 0, none⟩) (512 * (m + 1)) (512 * (m + 1))] w (PutRes w0 w R d J.free m p S) := by
  subst hm
  rw [show 512 * (0 + 1) = 512 from rfl]
  rw [show 512 * (0 + 1) = 512 from rfl] at hpl
  refine callsIn_of_wp_marks Tryd.func69 rfl trivial ?_ rfl
  simp only [Tryd.ntmps69, List.size_toArray, List.length_cons, List.length_nil, Nat.reduceAdd, Nat.reduceSub, Array.replicate_succ, Array.replicate_zero, List.push_toArray, List.append_toArray, List.nil_append, List.cons_append]
  obtain ⟨from_, end_, f, last, failed⟩ := J
  simp only at hfit ⊢
  obtain ⟨c0, -, -, c3, -, -⟩ := hj.cells
  simp only at c0 c3
  have hjl : jb < w.heap.size := Row.lt hj
  have hgl : g < w.heap.size := Row.lt hg
  have HS := Lib.hid h
  have HJ := Lib.hid hj
  have HG := Lib.hid hg
  have i3 : (f : Int) ≤ 4096 := by omega
  clear h hj hg
  gi_wp2
  gi_region
  gi_wp2_with (refine ⟨trivial, ?_⟩; gi_at_call 82; refine (cut_c _ _ _ _ _ _).mono ?_; rintro e w' ⟨rfl, rfl⟩)
  have A1 := Row.made w 67 #[.pointer (some ⟨jb, 0, none⟩)]
  have A2 := Row.made (w.alloc (.cells #[.pointer (some ⟨jb, 0, none⟩)] 67)) 25 #[.int .i64 0]
  have A3 := Row.made ((w.alloc (.cells #[.pointer (some ⟨jb, 0, none⟩)] 67)).alloc (.cells #[.int .i64 0] 25)) 3 #[.int .i64 ((f : Int) + 1)]
  have A4 := Row.made (((w.alloc (.cells #[.pointer (some ⟨jb, 0, none⟩)] 67)).alloc (.cells #[.int .i64 0] 25)).alloc (.cells #[.int .i64 ((f : Int) + 1)] 3)) 31 #[.slice (some ⟨g, 0, none⟩) (0) (0)]
  have B1 := (((A1.alloc (.cells #[.int .i64 0] 25)).alloc (.cells #[.int .i64 ((f : Int) + 1)] 3)).alloc (.cells #[.slice (some ⟨g, 0, none⟩) (0) (0)] 31)).drew
  have B2 := ((A2.alloc (.cells #[.int .i64 ((f : Int) + 1)] 3)).alloc (.cells #[.slice (some ⟨g, 0, none⟩) (0) (0)] 31)).drew
  have B3 := (A3.alloc (.cells #[.slice (some ⟨g, 0, none⟩) (0) (0)] 31)).drew
  have B4 := A4.drew
  have hC : Calm w ((((w.alloc (.cells #[.pointer (some ⟨jb, 0, none⟩)] 67)).alloc (.cells #[.int .i64 0] 25)).alloc (.cells #[.int .i64 ((f : Int) + 1)] 3)).alloc (.cells #[.slice (some ⟨g, 0, none⟩) (0) (0)] 31)).drew := (((((Keep.refl _ w).alloc _).alloc _).alloc _).alloc _).drew
  have hz : ((((w.alloc (.cells #[.pointer (some ⟨jb, 0, none⟩)] 67)).alloc (.cells #[.int .i64 0] 25)).alloc (.cells #[.int .i64 ((f : Int) + 1)] 3)).alloc (.cells #[.slice (some ⟨g, 0, none⟩) (0) (0)] 31)).drew.heap.size = w.heap.size + 4 := by simp
  rw [World.size_alloc] at B2
  rw [World.size_alloc, World.size_alloc] at B3
  rw [World.size_alloc, World.size_alloc, World.size_alloc] at B4
  clear A1 A2 A3 A4
  generalize ((((w.alloc (.cells #[.pointer (some ⟨jb, 0, none⟩)] 67)).alloc (.cells #[.int .i64 0] 25)).alloc (.cells #[.int .i64 ((f : Int) + 1)] 3)).alloc (.cells #[.slice (some ⟨g, 0, none⟩) (0) (0)] 31)).drew = W0 at *
  have b1 := B1.cell 0
  have b2 := B2.cell 0
  have b2f := B2.soft 0
  have b3 := B3.cell 0
  have b4 := B4.cell 0
  simp only [List.getElem?_toArray, List.getElem?_cons_zero] at b1 b2 b3 b4
  rw [show ((f : Int) + 1) = ((f + 1 : Nat) : Int) by omega] at b3
  have hw0 : w0.heap.size ≤ W0.heap.size := Nat.le_trans HS.out.st.calm.size hC.size
  have hlt : ∀ k, R k → k < w.heap.size := fun k hk => HS.out.st.lt k hk
  have Hlt := Lib.hid hlt
  have HC := Lib.hid hC
  have Hz := Lib.hid hz
  have hz1 : w.heap.size + 4 ≤ W0.heap.size := by omega
  have I0 : Hid (WI w0 w W0 R d jb f 0 p S [] W0) := Lib.hid ⟨⟨R, S, rfl, HS.out.rest hC, Ext.refl _ _⟩, hC.keep R, b1, b2, b2f, Nat.le_refl _⟩
  have FIN : ∀ (D : Nat) (Z : World) (R1 : Nat → Prop) (S1 : DS) (c : Int), W0.heap.size ≤ D → Z.heap[D]? = some (.deferred (some [])) → Sd w0 Z R1 d S1 → Ext R R1 W0 → Keep R w Z → ((S.put f p 0 = (true, S1) ∧ c = 0) ∨ (S.put f p 0 = (false, S1) ∧ c = 11)) → PutRes w0 w R d f 0 p S (.returned (.int .i64 c)) (Z.putObj D (.deferred none)) := by
    intro D Z R1 S1 c hD hK hs1 hx hk hput
    refine ⟨R1, S1, c, hput, rfl, hs1.own (B := W0.heap.size) hw0 (grownBy_putObj' _ _ _) (fun r e => by cases e; exact ⟨hD, _, hK, rfl⟩), fun k hk => (hx k hk).imp id (fun e => Nat.le_trans HC.out.size e), hk.own (B := W0.heap.size) HC.out.size (grownBy_putObj' _ _ _) (fun r e => by cases e; exact ⟨hD, _, hK, rfl⟩)⟩
  have HFIN := Lib.hid FIN
  clear FIN hlt hC hz B1 B2 B3 B4
  refine wpIn_rangeFunc_ownG (F := Fence.wide) (α := Nat) rfl (by omega) (gf := 86) (lb := #[.pointer (some ⟨w.heap.size + 1 + 1 + 1, 0, none⟩), .pointer (some ⟨w.heap.size + 1 + 1, 0, none⟩)]) rfl trivial (enters_of Tryd.func86 (by kernel_rfl) rfl)
    (cut_stops (3 - 1) (by omega) (w.heap.size + 1 + 1) (w.heap.size + 1 + 1 + 1) (f + 1) g 0 0 (0) (by omega) (by omega) (Nat.le_refl _) (by omega) W0 (by omega) (by omega) b3 b4)
    (fun h k => ⟨k.1.trans h.1, k.2.trans h.2⟩) (fun W l o o' hl _ _ _ => ⟨World.putObj_heap_other (by omega), World.putObj_heap_other (by omega)⟩) (Below.refl _ _) (fun _ => rfl)
    (WI w0 w W0 R d jb f 0 p S) (WX w0 w W0 R d f 0 p S) (WI.own w0 w W0 R d jb f 0 p S hw0 (by omega)) (WX.own w0 w W0 R d f 0 p S hw0 (by omega)) I0.out (fun x => { tmps := WT jb g 0 512 w.heap.size f 0 x, defers := [] }) ?assign ?body ?done ?stop
  case assign =>
    intro l x W K hK
    have HK := Lib.hid hK
    clear hK
    unfold cutEnc
    gi_wp2
    simpa [WT] using HK.out
  case body =>
    intro l pre x W hI hlen
    exact absurd hlen (by omega)
  case done =>
    rintro D ys W hD rfl hI hK
    obtain ⟨⟨R1, S1, hwr, hs1, hx1⟩, hk1, d1, d2, d3, d4⟩ := hI
    rw [scAt_range f 0 p 0 (Nat.le_refl _), List.take_of_length_le (by rw [others_len]; exact Nat.le_refl _)] at hwr
    have hf1 := DS.wrs_fine (n := 2) hwr (by rw [others_len, Nat.add_comm]; exact hf)
    have j0 : W.cell? ⟨jb, 0, none⟩ = some (.pointer (some ⟨d, 0, none⟩)) := (hk1.cell (p := ⟨jb, 0, none⟩) hjl hRj).trans c0
    have j3 : W.cell? ⟨jb, 3, none⟩ = some (.int .i64 (f : Int)) := (hk1.cell (p := ⟨jb, 3, none⟩) hjl hRj).trans c3
    have g1 := HG.out.keep hk1 hRg
    have nH : ¬ R1 w.heap.size := hx1.not (fun e => absurd (Hlt.out _ e) (by omega)) (by omega)
    have nH1 : ¬ R1 (w.heap.size + 1) := hx1.not (fun e => absurd (Hlt.out _ e) (by omega)) (by omega)
    have nj : ¬ R1 jb := hx1.not hRj (by omega)
    have ng : ¬ R1 g := hx1.not hRg (by omega)
    have H1 := Lib.hid hs1
    have K1 := Lib.hid hk1
    have G1 := Lib.hid g1
    have X1 := Lib.hid hx1
    have HW := Lib.hid hwr
    have HD := Lib.hid hK
    have HF := Lib.hid hf1
    clear hs1 hk1 g1 hx1 hwr hK hf1
    have hput : S.put f p 0 = S1.wr f (secAt p 0) := by unfold DS.put; rw [HW.out]; simp
    have HP := Lib.hid hput
    clear hput
    gi_wp2
    have PW := H1.out.rest (w' := W.drew) ((Keep.refl _ _).drew)
    have hb : Bytes W.drew (fun k => ¬ R1 k) (.slice (some ⟨g, 0, none⟩) 512 512) (secAt p 0) := by
      have := BRow.bytes (w := W.drew) G1.out 0 512 512 (Q := fun k => ¬ R1 k) ng (by rw [hpl]; omega)
      simpa [secAt] using this
    have hfw : S1.fine 1 ∧ S1.secs.length = S.secs.length := ⟨HF.out.1.mono (by omega), HF.out.2⟩
    have X := sd_write PW hfw.1 f (by rw [hfw.2]; omega) _ _ hb (secAt_len _ _ (by rw [hpl]; omega))
    have HX := Lib.hid X
    clear X PW hb hfw
    refine wpIn_wide.2 ?_
    refine wp_region_noPanic ?_
    refine wp_region_held_drew (S := fun wx => wx.cell? ⟨w.heap.size, 0, none⟩ = some (.pointer (some ⟨jb, 0, none⟩)) ∧ wx.cell? ⟨jb, 0, none⟩ = some (.pointer (some ⟨d, 0, none⟩)) ∧ wx.cell? ⟨jb, 3, none⟩ = some (.int .i64 (f : Int))) (by kernel_rfl) ⟨d1, j0, j3⟩ (fun hHeld => ?_)
    refine take_at 0 45 (.pointer (some ⟨jb, 0, none⟩)) rfl rfl (by kernel_rfl) (by kernel_rfl) (by kernel_rfl) (fun _ _ _ h => h) (Or.inl ⟨by rfl, ?_⟩) hHeld ?_
    · intro w hSw; obtain ⟨s1, s2, s3⟩ := hSw; go_simp
    simp only [List.setIfInBounds_toArray, List.set_cons_zero, List.set_cons_succ]
    refine take_at 1 46 (.pointer (some ⟨jb, 0, none⟩)) rfl rfl (by kernel_rfl) (by kernel_rfl) (by kernel_rfl) (fun _ _ _ h => h) (Or.inl ⟨by rfl, ?_⟩) hHeld ?_
    · intro w hSw; go_simp
    simp only [List.setIfInBounds_toArray, List.set_cons_zero, List.set_cons_succ]
    refine take_at 2 47 (.pointer (some ⟨jb, 0, none⟩)) rfl rfl (by kernel_rfl) (by kernel_rfl) (by kernel_rfl) (fun _ _ _ h => h) (Or.inl ⟨by rfl, ?_⟩) hHeld ?_
    · intro w hSw; go_simp
    simp only [List.setIfInBounds_toArray, List.set_cons_zero, List.set_cons_succ]
    refine take_at 3 48 (.pointer (some ⟨d, 0, none⟩)) rfl rfl (by kernel_rfl) (by kernel_rfl) (by kernel_rfl) (fun _ _ _ h => h) (Or.inl ⟨by rfl, ?_⟩) hHeld ?_
    · intro w hSw; obtain ⟨s1, s2, s3⟩ := hSw; go_simp
    simp only [List.setIfInBounds_toArray, List.set_cons_zero, List.set_cons_succ]
    refine take_at 4 49 (.pointer (some ⟨jb, 0, none⟩)) rfl rfl (by kernel_rfl) (by kernel_rfl) (by kernel_rfl) (fun _ _ _ h => h) (Or.inl ⟨by rfl, ?_⟩) hHeld ?_
    · intro w hSw; obtain ⟨s1, s2, s3⟩ := hSw; go_simp
    simp only [List.setIfInBounds_toArray, List.set_cons_zero, List.set_cons_succ]
    refine take_at 5 50 (.pointer (some ⟨jb, 0, none⟩)) rfl rfl (by kernel_rfl) (by kernel_rfl) (by kernel_rfl) (fun _ _ _ h => h) (Or.inl ⟨by rfl, ?_⟩) hHeld ?_
    · intro w hSw; go_simp
    simp only [List.setIfInBounds_toArray, List.set_cons_zero, List.set_cons_succ]
    refine take_at 6 51 (.pointer (some ⟨jb, 3, none⟩)) rfl rfl (by kernel_rfl) (by kernel_rfl) (by kernel_rfl) (fun _ _ _ h => h) (Or.inl ⟨by rfl, ?_⟩) hHeld ?_
    · intro w hSw; go_simp
    simp only [List.setIfInBounds_toArray, List.set_cons_zero, List.set_cons_succ]
    refine take_at 7 52 (.int .i64 (f : Int)) rfl rfl (by kernel_rfl) (by kernel_rfl) (by kernel_rfl) (fun _ _ _ h => h) (Or.inl ⟨by rfl, ?_⟩) hHeld ?_
    · intro w hSw; obtain ⟨s1, s2, s3⟩ := hSw; go_simp
    simp only [List.setIfInBounds_toArray, List.set_cons_zero, List.set_cons_succ]
    refine take_at 8 53 (.slice (some ⟨g, 0, none⟩) 512 512) rfl rfl (by kernel_rfl) (by kernel_rfl) (by kernel_rfl) (fun _ _ _ h => h) (Or.inl ⟨by rfl, ?_⟩) hHeld ?_
    · intro w hSw; go_simp
    simp only [List.setIfInBounds_toArray, List.set_cons_zero, List.set_cons_succ]
    refine wpAnyH_ready (rs := [9]) (by kernel_rfl) (by simp) ?_
    refine AllReadyH.cons rfl (fun K hK => ?_) AllReadyH.nil
    go_simp
    refine HX.out.mono ?_
    rintro e W2 ⟨R9, S9, hcase, hs2, hx2, hk2⟩
    obtain ⟨c9, rfl, h9⟩ : ∃ c : Int, e = .returned (.int .i64 c) ∧ ((S.put f p 0 = (true, S9) ∧ c = 0) ∨ (S.put f p 0 = (false, S9) ∧ c = 11)) := by
      rcases hcase with ⟨hw2, rfl⟩ | ⟨hw2, rfl⟩
      · exact ⟨0, rfl, .inl ⟨by rw [HP.out]; exact hw2, rfl⟩⟩
      · exact ⟨11, rfl, .inr ⟨by rw [HP.out]; exact hw2, rfl⟩⟩
    clear hcase
    have t1 : W2.cell? ⟨w.heap.size, 0, none⟩ = some (.pointer (some ⟨jb, 0, none⟩)) := (hk2.cell (p := ⟨w.heap.size, 0, none⟩) (by show w.heap.size < W.heap.size; omega) nH).trans d1
    have t2 : W2.cell? ⟨jb, 0, none⟩ = some (.pointer (some ⟨d, 0, none⟩)) := (hk2.cell (p := ⟨jb, 0, none⟩) (by show jb < W.heap.size; omega) nj).trans j0
    have t3 : W2.cell? ⟨jb, 3, none⟩ = some (.int .i64 (f : Int)) := (hk2.cell (p := ⟨jb, 3, none⟩) (by show jb < W.heap.size; omega) nj).trans j3
    have t4 : W2.cell? ⟨w.heap.size + 1, 0, none⟩ = some (.int .i64 0) := (hk2.cell (p := ⟨w.heap.size + 1, 0, none⟩) (by show w.heap.size + 1 < W.heap.size; omega) nH1).trans d2
    have t5 : W2.frozen? ⟨w.heap.size + 1, 0, none⟩ = false := (hk2.soft (p := ⟨w.heap.size + 1, 0, none⟩) (by show w.heap.size + 1 < W.heap.size; omega) nH1).trans d3
    have x9 : Ext R R9 W0 := fun k hk => (hx2 k hk).elim (X1.out k) (fun e => .inr (Nat.le_trans d4 e))
    have n9 : ¬ R9 (w.heap.size + 1) := x9.not (fun e => absurd (Hlt.out _ e) (by omega)) (by omega)
    have hD2 : W2.heap[D]? = some (.deferred (some [])) := (Sd.keepsFrom (w := W.drew) (H1.out.rest ((Keep.refl _ _).drew)) hk2 0).same D _ (Nat.zero_le _) HD.out rfl
    have hD9 : (W2.setCell ⟨w.heap.size + 1, 0, none⟩ (.int .i64 c9)).heap[D]? = some (.deferred (some [])) := (KeepsOthers.setCell W2 ⟨w.heap.size + 1, 0, none⟩ (.int .i64 c9)).same D _ hD2 rfl
    have s9 : Sd w0 (W2.setCell ⟨w.heap.size + 1, 0, none⟩ (.int .i64 c9)) R9 d S9 := hs2.touch (p := ⟨w.heap.size + 1, 0, none⟩) n9 (by show w0.heap.size ≤ w.heap.size + 1; have := HS.out.st.calm.size; omega) _
    have k9 : Keep R w (W2.setCell ⟨w.heap.size + 1, 0, none⟩ (.int .i64 c9)) := ((K1.out.drew).then_ hk2 (fun i hi hr => (X1.out i hr).resolve_right (by have := Nat.le_trans HC.out.size d4; omega))).store (p := ⟨w.heap.size + 1, 0, none⟩) (fun e => absurd e (by show ¬ w.heap.size + 1 < _; omega)) _
    have e2 : (W2.setCell ⟨w.heap.size + 1, 0, none⟩ (.int .i64 c9)).cell? ⟨w.heap.size + 1, 0, none⟩ = some (.int .i64 c9) := World.cell?_setCell_same' _ _ _ (by rw [t4]; rfl)
    have u1 : (W2.setCell ⟨w.heap.size + 1, 0, none⟩ (.int .i64 c9)).cell? ⟨w.heap.size, 0, none⟩ = some (.pointer (some ⟨jb, 0, none⟩)) := (World.cell?_setCell_other _ _ _ _ (by simp)).trans t1
    have u2 : (W2.setCell ⟨w.heap.size + 1, 0, none⟩ (.int .i64 c9)).cell? ⟨jb, 0, none⟩ = some (.pointer (some ⟨d, 0, none⟩)) := (World.cell?_setCell_other _ _ _ _ (by simp <;> omega)).trans t2
    have u3 : (W2.setCell ⟨w.heap.size + 1, 0, none⟩ (.int .i64 c9)).cell? ⟨jb, 3, none⟩ = some (.int .i64 (f : Int)) := (World.cell?_setCell_other _ _ _ _ (by simp)).trans t3
    have U := Lib.hid (And.intro u1 (And.intro u2 u3))
    have HD9 := Lib.hid hD9
    have HS9 := Lib.hid s9
    have HK9 := Lib.hid k9
    have HE2 := Lib.hid e2
    have HX9 := Lib.hid x9
    have H9 := Lib.hid h9
    clear hs2 hx2 hk2 hD2 u1 u2 u3 hD9 s9 k9 e2 x9 h9
    refine hK.out _ _ ⟨t1, t2, t3⟩ (fun hHeld => ?_)
    clear hK K
    try simp only [List.setIfInBounds_toArray, List.set_cons_zero, List.set_cons_succ]
    refine wpAnyH_ready (rs := [10]) (by kernel_rfl) (by simp) ?_
    refine AllReadyH.cons rfl (fun K hK => ?_) AllReadyH.nil
    go_simp
    refine hK.out _ _ U.out (fun hHeld => ?_)
    clear hK K
    try simp only [List.setIfInBounds_toArray, List.set_cons_zero, List.set_cons_succ]
    refine wpAnyH_done (by kernel_rfl) (NoPanic.normal ?_) _
    gi_wp2
    have hc5 := cell_kept HE2.out (grownBy_putObj' _ D (.deferred none)) (fun r e => by cases e; exact ⟨_, HD9.out, rfl⟩)
    refine ⟨by simp, .inl ⟨_, _, rfl, run_takeDeferred HD9.out, ?_⟩⟩
    exact ⟨.int .i64 c9, by simp [results, Tryd.f69, go_sem, hc5], HFIN.out D _ R9 S9 c9 hD HD9.out HS9.out HX9.out HK9.out H9.out⟩
  case stop =>
    rintro D c pre W hD ⟨k, hk, rfl⟩ ⟨rfl, ⟨R1, S1, hwr, hs1, hx1⟩, hk1, d2, d4⟩ hK
    rw [scAt_range f 0 p k hk] at hwr
    have hput : S.put f p 0 = (false, S1) := by
      have := DS.wrs_stop ((others f 0 p).drop k) hwr
      rw [List.take_append_drop] at this
      unfold DS.put
      rw [this]
    have H1 := Lib.hid hs1
    have K1 := Lib.hid hk1
    have X1 := Lib.hid hx1
    have HP := Lib.hid hput
    have hc5 := cell_kept d2 (grownBy_putObj' _ D (.deferred none)) (fun r e => by cases e; exact ⟨_, hK, rfl⟩)
    have HD := Lib.hid hK
    clear hs1 hk1 hx1 hput hwr hK
    gi_wp2
    refine ⟨by simp, .inl ⟨_, _, rfl, run_takeDeferred HD.out, ?_⟩⟩
    exact ⟨.int .i64 11, by simp [results, Tryd.f69, go_sem, hc5], HFIN.out D W R1 S1 11 hD HD.out H1.out X1.out K1.out (.inr ⟨HP.out, rfl⟩)⟩

theorem jwrite_c {w0 w : World} {R : Nat → Prop} {d jb g m : Nat} {S : DS} {J : JS} {p : List UInt8} (h : Sd w0 w R d S) (hj : JRow w jb d J) (hRj : ¬ R jb) (hg : BRow w g p) (hRg : ¬ R g) (hpl : p.length = 512 * (m + 1)) (hfit : J.free + m < S.secs.length) (hs : S.secs.length ≤ 4096) (hf : S.fine (m + 2)) :
    Calls Tryd.prog 69 #[.pointer (some ⟨jb, 0, none⟩), .slice (some ⟨g, 0, none⟩) (512 * (m + 1)) (512 * (m + 1))] w (PutRes w0 w R d J.free m p S) := by
  by_cases hm : m = 0
  · exact callsIn_wide.1 (jwrite_one h hj hRj hg hRg hm hpl hfit hs hf)
  · exact callsIn_wide.1 (jwrite_more h hj hRj hg hRg (by omega) hpl hfit hs hf)
end Go.Proofs.YtfigiofiakkbdaaDoor
