/-
  Package disk: what a disk is in memory, and what its calls do, one contract a function.
-/
import Derived.Test.YtfigiofiakkbdaaDoorProg
import Derived.Test.YtfigiofiakkbdaaDoorMem
import Derived.Deep.RegionHeld3
import Derived.Deep.DeepCutAuto
namespace Go.Proofs.YtfigiofiakkbdaaDoor
open Go.RowKit
set_option linter.all false

/-- A disk, as the document has it. -/
structure DS where
  secs : List (List UInt8)
  wait : List (Nat × List UInt8)
  arm : Option (Nat × List Bool)
  down : Bool
  ops : Nat

def keptOf (ks : List Bool) (j : Nat) : Bool := ks[j]?.getD false
def DS.crash (S : DS) (ks : List Bool) : DS := { S with secs := putTo (keptOf ks) S.secs S.wait S.wait.length, wait := [], arm := none, down := true }
def DS.settled (S : DS) : DS := { S with secs := putTo (fun _ => true) S.secs S.wait S.wait.length, wait := [] }
/-- What a place holds that held s, behind the writes ws. -/
def nowOf {α : Type} (ws : List (Nat × α)) (i : Nat) (s : α) : α := ws.foldl (fun s y => if y.1 = i then y.2 else s) s
def DS.now (S : DS) (i : Nat) : List UInt8 := nowOf S.wait i (S.secs.getD i [])
theorem nowOf_miss {α : Type} (ws : List (Nat × α)) (i : Nat) (s : α) (h : ∀ (k : Nat) y, ws[k]? = some y → y.1 ≠ i) : nowOf ws i s = s := by
  induction ws generalizing s with
  | nil => rfl
  | cons y l ih =>
    have h0 : y.1 ≠ i := h 0 y rfl
    have : nowOf (y :: l) i s = nowOf l i s := by simp [nowOf, h0]
    rw [this]
    exact ih s (fun k z hz => h (k + 1) z (by simpa using hz))
theorem nowOf_hit {α : Type} (ws : List (Nat × α)) (i : Nat) (s : α) (j : Nat) (b : α) (hj : ws[j]? = some (i, b)) (h : ∀ (k : Nat) y, j < k → ws[k]? = some y → y.1 ≠ i) : nowOf ws i s = b := by
  induction ws generalizing s j with
  | nil => simp at hj
  | cons y l ih =>
    cases j with
    | zero =>
      simp at hj
      subst hj
      have : nowOf ((i, b) :: l) i s = nowOf l i b := by simp [nowOf]
      rw [this]
      exact nowOf_miss l i b (fun k z hz => h (k + 1) z (by omega) (by simpa using hz))
    | succ j =>
      have : nowOf (y :: l) i s = nowOf l i (if y.1 = i then y.2 else s) := rfl
      rw [this]
      exact ih _ j (by simpa using hj) (fun k z hk hz => h (k + 1) z (by omega) (by simpa using hz))

def flat (wvs : List (Nat × Value)) : List Value := wvs.flatMap fun x => [.int .i64 x.1, x.2]
theorem flat_len (wvs : List (Nat × Value)) : (flat wvs).length = wvs.length * 2 := by
  induction wvs with
  | nil => rfl
  | cons x l ih => simp [flat] at ih ⊢; omega
theorem flat_at (wvs : List (Nat × Value)) (j : Nat) (x : Nat × Value) (h : wvs[j]? = some x) : (flat wvs)[j * 2]? = some (.int .i64 x.1) ∧ (flat wvs)[j * 2 + 1]? = some x.2 := by
  induction wvs generalizing j with
  | nil => simp at h
  | cons y l ih =>
    cases j with
    | zero => simp at h; subst h; simp [flat]
    | succ j =>
      simp at h
      have := ih j h
      have e : flat (y :: l) = [.int .i64 y.1, y.2] ++ flat l := by simp [flat]
      rw [e]
      constructor
      · rw [List.getElem?_append_right (by simp; omega), show (j + 1) * 2 - [Value.int .i64 y.1, y.2].length = j * 2 from by simp; omega]; exact this.1
      · rw [List.getElem?_append_right (by simp; omega), show (j + 1) * 2 + 1 - [Value.int .i64 y.1, y.2].length = j * 2 + 1 from by simp; omega]; exact this.2
theorem flat_snoc (wvs : List (Nat × Value)) (x : Nat × Value) : flat (wvs ++ [x]) = flat wvs ++ [.int .i64 x.1, x.2] := by simp [flat]

theorem own_move {w w' : World} {base : Nat} {e : TypeId} {size : Nat} {v : Value} {n : Nat} {xs : List Value} (h : w.ownsRow base e size v n xs) (hm : ∀ g cur, v.ownBlock = some g → Row w g e cur → Row w' g e cur) : w'.ownsRow base e size v n xs := by
  refine ⟨h.1, ?_⟩
  rcases h.2 with h0 | ⟨g, cap, cur, h0, h1, h2, h3, h4, h5, h6⟩
  · exact .inl h0
  · exact .inr ⟨g, cap, cur, h0, h1, hm g cur (by subst h0; rfl) h2, h3, h4, h5, h6⟩
theorem own_bools {w : World} {v : Value} {ks : List Bool} (h : w.ownsRow 0 4 1 v ks.length (ks.map Value.bool)) : Bools w (fun k => v.ownBlock = some k ∧ ∃ cur, Row w k 4 cur) v ks := by
  rcases h.2 with ⟨h0, h1⟩ | ⟨g, cap, cur, h0, h1, h2, h3, h4, h5, h6⟩
  · refine ⟨none, 0, by rw [h0, h1], fun i b hi => ?_⟩
    have : ks = [] := List.eq_nil_of_length_eq_zero h1
    subst this
    simp at hi
  · refine ⟨some ⟨g, 0, none⟩, cap, h0, fun i b hi => ⟨⟨g, 0, none⟩, rfl, ⟨by subst h0; rfl, cur, h2⟩, Row.lt h2, ?_⟩⟩
    have hlt : i < ks.length := (List.getElem?_eq_some_iff.1 hi).1
    exact h.cells (g := g) (by subst h0; rfl) i (.bool b) (by simp [hi])

/-- The greatest int. -/
def big : Nat := 9223372036854775807
/-- What is armed. -/
def ArmIs (w : World) (R : Nat → Prop) (av : Value) : Option (Nat × List Bool) → Prop
  | none => av = .pointer none
  | some (a, ks) => ∃ (ab : Nat) (kv : Value), av = .pointer (some ⟨ab, 0, none⟩) ∧ Row w ab 86 #[.int .i64 a, kv] ∧ R ab ∧ w.ownsRow 0 4 1 kv ks.length (ks.map Value.bool) ∧ (∀ g, kv.ownBlock = some g → R g) ∧ a ≤ big

/-- A disk in memory: its struct at block d, the row of sectors at sb, the row of what waits, what is armed. All of it lies in R. -/
structure Lay (w : World) (R : Nat → Prop) (d : Nat) (S : DS) (sb : Nat) (svs : List Value) (wv : Value) (wvs : List (Nat × Value)) (av : Value) : Prop where
  top : Row w d 65 #[.slice (some ⟨sb, 0, none⟩) svs.length svs.length, wv, av, .bool S.down, .int .i64 S.ops]
  rows : Row w sb 31 svs.toArray
  secs : Datas w R svs S.secs
  wrow : w.ownsRow 0 89 2 wv wvs.length (flat wvs)
  wR : ∀ g, wv.ownBlock = some g → R g
  waits : Waits w R wvs S.wait
  arm : ArmIs w R av S.arm
  rd : R d
  rs : R sb
  few : S.secs.length ≤ 4096
  some_ : 0 < S.secs.length
  at_ : ∀ x ∈ S.wait, x.1 < S.secs.length

def IsDisk (w : World) (R : Nat → Prop) (d : Nat) (S : DS) : Prop := ∃ sb svs wv wvs av, Lay w R d S sb svs wv wvs av

theorem ArmIs.move {w w' : World} {R R' : Nat → Prop} {av : Value} {o : Option (Nat × List Bool)} (h : ArmIs w R av o) (hm : ∀ g t cur, t = 86 ∨ t = 4 → R g → Row w g t cur → Row w' g t cur ∧ R' g) : ArmIs w' R' av o := by
  cases o with
  | none => exact h
  | some x =>
    obtain ⟨a, ks⟩ := x
    obtain ⟨ab, kv, h0, h1, h2, h3, h4, h9⟩ := h
    refine ⟨ab, kv, h0, (hm ab _ _ (.inl rfl) h2 h1).1, (hm ab _ _ (.inl rfl) h2 h1).2, own_move h3 (fun g cur hg hr => (hm g _ cur (.inr rfl) (h4 g hg) hr).1), fun g hg => ?_, h9⟩
    rcases h3.2 with ⟨rfl, _⟩ | ⟨g', cap, cur, rfl, _, h5, _⟩
    · simp [Value.ownBlock] at hg
    · have : g' = g := by simpa [Value.ownBlock] using hg
      subst this
      exact (hm g' _ cur (.inr rfl) (h4 g' rfl) h5).2

/-- Outside of it anything may turn; what it lies in may be said wider. -/
theorem Lay.move {w w' : World} {R R' : Nat → Prop} {d : Nat} {S : DS} {sb : Nat} {svs : List Value} {wv : Value} {wvs : List (Nat × Value)} {av : Value} (h : Lay w R d S sb svs wv wvs av)
    (hk : ∀ k, R k → k < w.heap.size → w'.heap[k]? = w.heap[k]?) (hr : ∀ k, R k → R' k) : Lay w' R' d S sb svs wv wvs av := by
  have hm : ∀ g t cur, R g → Row w g t cur → Row w' g t cur := fun g t cur hg hrow => (hk g hg hrow.lt).trans hrow
  exact ⟨hm _ _ _ h.rd h.top, hm _ _ _ h.rs h.rows, h.secs.move fun g cur a b => ⟨hm _ _ _ a b, hr _ a⟩, own_move h.wrow fun g cur a b => hm _ _ _ (h.wR g a) b, fun g a => hr _ (h.wR g a),
    ⟨h.waits.1, h.waits.2.move fun g cur a b => ⟨hm _ _ _ a b, hr _ a⟩⟩, h.arm.move fun g t cur _ a b => ⟨hm _ _ _ a b, hr _ a⟩, hr _ h.rd, hr _ h.rs, h.few, h.some_, h.at_⟩
theorem IsDisk.move {w w' : World} {R R' : Nat → Prop} {d : Nat} {S : DS} (h : IsDisk w R d S) (hk : ∀ k, R k → k < w.heap.size → w'.heap[k]? = w.heap[k]?) (hr : ∀ k, R k → R' k) : IsDisk w' R' d S := by
  obtain ⟨sb, svs, wv, wvs, av, h⟩ := h
  exact ⟨sb, svs, wv, wvs, av, h.move hk hr⟩

/-! ### The readers -/

set_option maxHeartbeats 400000 in
theorem down_c (d : Nat) (b : Bool) (w : World) (h : w.cell? ⟨d, 3, none⟩ = some (.bool b)) :
    Calls Tryd.prog 23 #[.pointer (some ⟨d, 0, none⟩)] w fun e w' => e = .returned (.bool b) ∧ w = w' := by
  go_enter Tryd.func23, Tryd.ntmps23
  go_wp2
  go_ret
  exact ⟨rfl, rfl⟩

set_option maxHeartbeats 400000 in
theorem sectors_c (d n c : Nat) (a : Option Addr) (w : World) (h : w.cell? ⟨d, 0, none⟩ = some (.slice a n c)) :
    Calls Tryd.prog 38 #[.pointer (some ⟨d, 0, none⟩)] w fun e w' => e = .returned (.int .i64 n) ∧ w = w' := by
  go_enter Tryd.func38, Tryd.ntmps38
  go_wp2
  go_ret
  exact ⟨rfl, rfl⟩

set_option maxHeartbeats 400000 in
theorem start_up (d : Nat) (w : World) (h : w.cell? ⟨d, 3, none⟩ = some (.bool true)) (hf : w.frozen? ⟨d, 3, none⟩ = false) :
    Calls Tryd.prog 24 #[.pointer (some ⟨d, 0, none⟩)] w fun e w' => e = .returned (.int .i64 0) ∧ w.setCell ⟨d, 3, none⟩ (.bool false) = w' := by
  go_enter Tryd.func24, Tryd.ntmps24
  go_wp2
  go_ret
  exact ⟨rfl, rfl⟩

set_option maxHeartbeats 400000 in
theorem start_no (d : Nat) (w : World) (h : w.cell? ⟨d, 3, none⟩ = some (.bool false)) :
    Calls Tryd.prog 24 #[.pointer (some ⟨d, 0, none⟩)] w fun e w' => e = .returned (.int .i64 10) ∧ w = w' := by
  go_enter Tryd.func24, Tryd.ntmps24
  go_wp2
  go_ret
  exact ⟨rfl, rfl⟩

set_option maxHeartbeats 400000 in
theorem has_c (d n c : Nat) (x : Int) (a : Option Addr) (w : World) (h : w.cell? ⟨d, 0, none⟩ = some (.slice a n c)) :
    Calls Tryd.prog 43 #[.pointer (some ⟨d, 0, none⟩), .int .i64 x] w fun e w' => e = .returned (.bool (decide (0 ≤ x) && decide (x < n))) ∧ w = w' := by
  by_cases h0 : 0 ≤ x
  · go_enter Tryd.func43, Tryd.ntmps43
    go_wp2
    go_ret
    simp [h0]
  · go_enter Tryd.func43, Tryd.ntmps43
    go_wp2
    go_ret
    refine ⟨?_, rfl⟩
    simp [show ¬ (0 ≤ x) from by omega]

/-! ### settle -/

set_option maxHeartbeats 400000 in
theorem kept_all (x : Int) (w : World) : Calls Tryd.prog 81 #[.int .i64 x] w fun e w' => e = .returned (.bool true) ∧ w = w' := by
  go_enter Tryd.func81, Tryd.ntmps81
  go_wp2
  go_ret
  exact ⟨rfl, rfl⟩

set_option maxHeartbeats 400000 in
theorem settle_c (d sb fk : Nat) (kc : Array Value) (kept : Nat → Bool) (svs : List Value) (A : Option Addr) (wc : Nat) (wvs : List (Nat × Value)) (w : World)
    (hd0 : w.cell? ⟨d, 0, none⟩ = some (.slice (some ⟨sb, 0, none⟩) svs.length svs.length)) (hd1 : w.cell? ⟨d, 1, none⟩ = some (.slice A wvs.length wc)) (hne : d ≠ sb) (hf : w.frozen? ⟨d, 1, none⟩ = false)
    (hs : Row w sb 31 svs.toArray) (hsm : svs.length ≤ 4096) (hwm : wvs.length ≤ 1000000)
    (hw : ∀ (j : Nat) x, wvs[j]? = some x → x.1 < svs.length ∧ ∃ g gg cc, A = some ⟨g, 0, none⟩ ∧ g ≠ sb ∧ w.cell? ⟨g, j * 2, none⟩ = some (.int .i64 x.1) ∧ w.cell? ⟨g, j * 2 + 1, none⟩ = some x.2 ∧ x.2 = .slice (some ⟨gg, 0, none⟩) 512 cc)
    (hcf : ∀ args wx, Sem.run Tryd.prog (callFunc fk args) wx = .ok (.enter fk args) wx)
    (hk : ∀ (j : Nat) wx, j < wvs.length → Keep (· = sb) w wx → Calls Tryd.prog fk (#[.int .i64 j] ++ kc) wx fun e w' => e = .returned (.bool (kept j)) ∧ wx = w') :
    Calls Tryd.prog 41 #[.pointer (some ⟨d, 0, none⟩), .func (.func fk) #[] kc] w fun e w' => e = .returned (.tuple #[]) ∧
      ∃ wx, Keep (· = sb) w wx ∧ Row wx sb 31 (putTo kept svs wvs wvs.length).toArray ∧ w' = wx.setCell ⟨d, 1, none⟩ (.slice none 0 0) := by
  have Hk := Lib.hid hk
  have Hw := Lib.hid hw
  have hdl : d < w.heap.size := World.block_lt_of_cell? _ _ hd0
  clear hk hw
  go_enter Tryd.func41, Tryd.ntmps41
  go_wp2_with fail
  go_loopw [11] (fun i wr => ∃ j : Nat, j ≤ wvs.length ∧ i = .int .i64 j ∧ Keep (· = sb) w wr ∧ Row wr sb 31 (putTo kept svs wvs j).toArray) (fun i _ => wvs.length - (intOf i).toNat)
  case atStart => exact ⟨0, Nat.zero_le _, rfl, Keep.refl _ _, hs⟩
  case round =>
    obtain ⟨j, hj, rfl, hkeep, hrow⟩ := hrel
    by_cases hlt : j < wvs.length
    · obtain ⟨hx, g, gg, cc, rfl, hg, hc0, hc1, hv⟩ := Hw.out j _ (List.getElem?_eq_getElem hlt)
      have Hv := Lib.hid hv
      have hgl : g < w.heap.size := World.block_lt_of_cell? _ _ hc0
      have e0 : wr.cell? ⟨g, j * 2, none⟩ = some (.int .i64 wvs[j].1) := (hkeep.cell (p := ⟨g, j * 2, none⟩) hgl hg).trans hc0
      have e1 : wr.cell? ⟨g, j * 2 + 1, none⟩ = some (.slice (some ⟨gg, 0, none⟩) 512 cc) := (hkeep.cell (p := ⟨g, j * 2 + 1, none⟩) hgl hg).trans (hc1.trans (by rw [hv]))
      clear hv
      have e2 : wr.cell? ⟨d, 0, none⟩ = some (.slice (some ⟨sb, 0, none⟩) svs.length svs.length) := (hkeep.cell (p := ⟨d, 0, none⟩) hdl hne).trans hd0
      have hsl : wvs[j].1 < (putTo kept svs wvs j).length := by rw [putTo_len]; exact hx
      have e3 : wr.cell? ⟨sb, wvs[j].1, none⟩ = some (putTo kept svs wvs j)[wvs[j].1] := by rw [hrow.cell]; simp [hsl]
      have e4 : wr.frozen? ⟨sb, wvs[j].1, none⟩ = false := hrow.soft _
      have hz := hkeep.size
      have Hs := Lib.hid (putTo_succ kept svs wvs j _ (List.getElem?_eq_getElem hlt))
      have hdz : d < wr.heap.size := by omega
      have hgz : g < wr.heap.size := by omega
      have hsz : sb < wr.heap.size := hrow.lt
      have Hrow := Lib.hid hrow
      have Hkeep := Lib.hid hkeep
      clear hrow hkeep hs hc0 hc1 hd0 hd1 hf
      go_wp2_with fail
      refine (Hk.out j _ hlt (Hkeep.out.alloc _)).mono ?_
      rintro e w1 ⟨rfl, rfl⟩
      cases hkj : kept j
      · have Hkj := Lib.hid hkj
        clear hkj
        go_wp2_with fail
        go_roundw
        case rel => exact ⟨j + 1, by omega, by go_num, Hkeep.out.alloc _, by rw [Hs.out, Hkj.out]; exact Hrow.out.alloc _⟩
        case measure => simp [intOf]; omega
      · have Hkj := Lib.hid hkj
        clear hkj
        go_wp2_with fail
        go_region
        go_wp2_with fail
        go_roundw
        case rel => exact ⟨j + 1, by omega, by go_num, ((Hkeep.out.store (p := ⟨sb, wvs[j].1, none⟩) (fun _ => rfl) _).alloc _).drew, by rw [Hs.out, Hkj.out, if_pos rfl, Hv.out]; simpa using ((Hrow.out.store wvs[j].1 _).alloc _).drew⟩
        case measure => simp [intOf]; omega
    · obtain rfl : j = wvs.length := by omega
      have e2 : wr.frozen? ⟨d, 1, none⟩ = false := (hkeep.soft (p := ⟨d, 1, none⟩) hdl hne).trans hf
      have e3 : wr.cell? ⟨d, 1, none⟩ = some (.slice A wvs.length wc) := (hkeep.cell (p := ⟨d, 1, none⟩) hdl hne).trans hd1
      have Hrow := Lib.hid hrow
      have Hkeep := Lib.hid hkeep
      clear hrow hkeep
      go_wp2_with fail
      go_end0
      exact ⟨rfl, wr, Hkeep.out, Hrow.out, rfl⟩

theorem keptOf_lt (ks : List Bool) (j : Nat) (h : j < ks.length) : keptOf ks j = ks[j] := by simp [keptOf, h]
theorem keptOf_ge (ks : List Bool) (j : Nat) (h : ¬ j < ks.length) : keptOf ks j = false := by simp [keptOf, List.getElem?_eq_none (Nat.not_lt.1 h)]

set_option maxHeartbeats 400000 in
theorem kept_of (kb j : Nat) (A : Option Addr) (cap : Nat) (ks : List Bool) (w : World) (hc : w.cell? ⟨kb, 0, none⟩ = some (.slice A ks.length cap)) (hm : ks.length ≤ maxLen)
    (hb : ∀ (i : Nat) b, ks[i]? = some b → ∃ ad, A = some ad ∧ w.cell? (ad.add i) = some (.bool b)) :
    Calls Tryd.prog 42 #[.int .i64 j, .pointer (some ⟨kb, 0, none⟩)] w fun e w' => e = .returned (.bool (keptOf ks j)) ∧ w = w' := by
  unfold maxLen at hm
  by_cases hj : j < ks.length
  · obtain ⟨ad, rfl, hcell⟩ := hb j ks[j] (List.getElem?_eq_getElem hj)
    rw [keptOf_lt ks j hj]
    clear hb
    go_enter Tryd.func42, Tryd.ntmps42
    go_wp2
    go_ret
    exact ⟨rfl, rfl⟩
  · rw [keptOf_ge ks j hj]
    clear hb
    go_enter Tryd.func42, Tryd.ntmps42
    go_wp2
    go_ret
    exact ⟨rfl, rfl⟩
theorem enter35 (args : Array Value) (wx : World) : Sem.run Tryd.prog (callFunc 81 args) wx = .ok (.enter 81 args) wx := by
  simp [callFunc, Tryd.func81, Tryd.f81]
theorem enter36 (args : Array Value) (wx : World) : Sem.run Tryd.prog (callFunc 42 args) wx = .ok (.enter 42 args) wx := by
  go_simp
end Go.Proofs.YtfigiofiakkbdaaDoor
