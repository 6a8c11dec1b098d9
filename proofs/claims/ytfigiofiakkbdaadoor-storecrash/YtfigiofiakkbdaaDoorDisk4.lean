/-
  Package disk: Arm and Write.
-/
import Derived.Test.YtfigiofiakkbdaaDoorDisk3
import Derived.Deep.RegionLaw
import Derived.Deep.AppendLies
import Derived.StillTailTactics
namespace Go.Proofs.YtfigiofiakkbdaaDoor
open Go.RowKit
set_option linter.all false

/-- What lies in R, and all that is new. -/
def Grow (R : Nat → Prop) (w w' : World) (k : Nat) : Prop := R k ∨ (w.heap.size ≤ k ∧ k < w'.heap.size)

theorem cloneK_c (kv : Value) (ks : List Bool) (R : Nat → Prop) (w : World) (h : Bools w R kv ks) (hm : ks.length ≤ 1000000000) :
    Calls Tryd.prog 40 #[kv] w fun e w' => ∃ A cap, e = .returned (.slice A ks.length cap) ∧ w'.ownsRow w.heap.size 4 1 (.slice A ks.length cap) ks.length (ks.map Value.bool) ∧ Calm w w' := by
  obtain ⟨A, cap, rfl, hc⟩ := h
  cases A with
  | none =>
    have hk : ks = [] := by
      cases ks with
      | nil => rfl
      | cons b l => obtain ⟨ad, e, _⟩ := hc 0 b rfl; cases e
    subst hk
    have q := fun (w : World) => Lib.run_eql_slice_nil (P := Tryd.prog) w 46 4 none 0 cap 0 0 Tryd.underlying46
    clear hc
    go_enter Tryd.func40, Tryd.ntmps40
    go_wp2_with fail
    go_ret
    exact ⟨none, 0, rfl, World.ownsRow_nil _ _ _ _, Keep.refl _ _⟩
  | some ad =>
    refine (cloneK_some ad ks.length cap (ks.map Value.bool) w (by simp) hm (fun j u hj => ?_) (fun u hu => ?_)).mono ?_
    · rw [List.getElem?_map, Option.map_eq_some_iff] at hj
      obtain ⟨b, hb, rfl⟩ := hj
      obtain ⟨ad', e, _, _, h4⟩ := hc j b hb
      cases e
      exact h4
    · simp at hu
      rcases hu with ⟨_, rfl⟩ | ⟨_, rfl⟩ <;> rfl
    · rintro e w' ⟨v, rfl, h1, h2⟩
      rcases h1.2 with ⟨h0, h3⟩ | ⟨g, cap', cur, h0, _⟩
      · refine ⟨none, 0, by rw [h0, h3], ?_, h2⟩
        rw [h3]; rw [h0, h3] at h1; exact h1
      · subst h0; exact ⟨_, cap', rfl, h1, h2⟩

set_option maxHeartbeats 800000 in
theorem arm_lay {w : World} {R : Nat → Prop} {d : Nat} {S : DS} {sb : Nat} {svs : List Value} {wv : Value} {wvs : List (Nat × Value)} {av : Value} (h : Lay w R d S sb svs wv wvs av)
    (n : Int) (hn : 0 ≤ n) (hb : n.toNat ≤ big) (kv : Value) (ks : List Bool) (hk : Bools w (fun k => k ≠ d) kv ks) (hm : ks.length ≤ 1000000000) :
    Calls Tryd.prog 22 #[.pointer (some ⟨d, 0, none⟩), .int .i64 n, kv] w fun e w' => e = .returned (.tuple #[]) ∧ IsDisk w' (Grow R w w') d { S with arm := some (n.toNat, ks) } ∧ Keep R w w' := by
  have d2 := h.top.cell 2
  have f2 := h.top.soft 2
  simp at d2
  have hdl := h.top.lt
  have H := Lib.hid h
  have Hb := Lib.hid hb
  have Hk := Lib.hid hk
  clear h hb hk
  go_enter Tryd.func22, Tryd.ntmps22
  go_wp2_with fail
  refine (cloneK_c kv ks (fun k => k ≠ d) _ ?_ hm).mono ?_
  · refine Hk.out.move (by simp) (fun p _ hp => World.cell?_setCell_other _ _ _ _ (fun e => hp (by rw [← e]))) (fun _ x => x)
  rintro e w1 ⟨A, cap, rfl, hown, hcalm⟩
  have k1 : Keep (fun k => k = d) w w1 := ((Keep.refl (fun k => k = d) w).store (p := ⟨d, 2, none⟩) (fun _ => rfl) (.pointer none)).then_ hcalm (fun i _ e => e.elim)
  have t1 : Row w1 d 65 #[.slice (some ⟨sb, 0, none⟩) svs.length svs.length, wv, .pointer none, .bool S.down, .int .i64 S.ops] := by
    have := (H.out.top.store 2 (.pointer none)).keep hcalm (fun e => e)
    simpa using this
  have c2 := t1.cell 2
  have g2 := t1.soft 2
  simp at c2
  have hz := k1.size
  have hdl1 : d < w1.heap.size := by omega
  have Hown := Lib.hid hown
  have K1 := Lib.hid k1
  have T1 := Lib.hid t1
  clear hown k1 t1 hcalm
  go_wp2_with fail
  go_end0
  generalize hW : (w1.setCell ⟨d, 2, none⟩ (.pointer (some ⟨w1.heap.size, 0, none⟩))).alloc (Obj.cells #[.int .i64 n, .slice A ks.length cap] 86) = W
  have kW : Keep (fun k => k = d) w W := by rw [← hW]; exact (K1.out.store (p := ⟨d, 2, none⟩) (fun _ => rfl) _).alloc _
  have kW1 : Keep (fun k => k = d) w1 W := by rw [← hW]; exact ((Keep.refl (fun k => k = d) w1).store (p := ⟨d, 2, none⟩) (fun _ => rfl) _).alloc _
  have hzW : W.heap.size = w1.heap.size + 1 := by rw [← hW]; simp
  have hL := H.out
  have hm' : ∀ {g t cur}, t ≠ 65 → Row w g t cur → Row W g t cur := fun h1 hr => hr.keep kW (fun e => by subst e; exact (hr.ne hL.top h1) rfl)
  have hd : ∀ g cur, R g → Row w g 5 cur → Row W g 5 cur ∧ Grow R w W g := fun g cur a b => ⟨hm' (by decide) b, .inl a⟩
  refine ⟨rfl, ⟨sb, svs, wv, wvs, .pointer (some ⟨w1.heap.size, 0, none⟩), ?_, hm' (by decide) hL.rows, hL.secs.move hd, own_move hL.wrow (fun g cur _ b => hm' (by decide) b), fun g e => .inl (hL.wR g e), ⟨hL.waits.1, hL.waits.2.move hd⟩, ?_, .inl hL.rd, .inl hL.rs, hL.few, hL.some_, hL.at_⟩, kW.mono (fun i _ e => by subst e; exact hL.rd)⟩
  · rw [← hW]
    simpa using (T1.out.store 2 (.pointer (some ⟨w1.heap.size, 0, none⟩))).alloc _
  · refine ⟨w1.heap.size, .slice A ks.length cap, rfl, ?_, .inr ⟨hz, by omega⟩, ?_, fun g e => ?_, Hb.out⟩
    · rw [← hW, Int.toNat_of_nonneg hn]
      simpa using Row.made (w1.setCell ⟨d, 2, none⟩ (.pointer (some ⟨w1.heap.size, 0, none⟩))) 86 #[.int .i64 n, .slice A ks.length cap]
    · obtain ⟨p1, p2⟩ := Hown.out
      refine own_move ⟨p1, ?_⟩ (fun g cur _ b => (show Row W g 4 cur from Row.keep b kW1 (fun e => by subst e; exact (Row.ne b T1.out (by decide)) rfl)))
      rcases p2 with p | ⟨g, cap, cur, a, _, b⟩
      · exact .inl p
      · exact .inr ⟨g, cap, cur, a, Nat.zero_le _, b⟩
    · have := Hown.out.lt g e
      rw [World.size_setCell] at this
      exact .inr ⟨by omega, by omega⟩

theorem arm_c {w : World} {R : Nat → Prop} {d : Nat} {S : DS} (h : IsDisk w R d S) (n : Int) (hn : 0 ≤ n) (hb : n.toNat ≤ big) (kv : Value) (ks : List Bool) (hk : Bools w (fun k => ¬ R k) kv ks) (hm : ks.length ≤ 1000000000) :
    Calls Tryd.prog 22 #[.pointer (some ⟨d, 0, none⟩), .int .i64 n, kv] w fun e w' => e = .returned (.tuple #[]) ∧ IsDisk w' (Grow R w w') d { S with arm := some (n.toNat, ks) } ∧ Keep R w w' := by
  obtain ⟨sb, svs, wv, wvs, av, h⟩ := h
  exact arm_lay h n hn hb kv ks (hk.move (Nat.le_refl _) (fun _ _ _ => rfl) (fun k x e => x (by rw [e]; exact h.rd))) hm

set_option maxHeartbeats 800000 in
theorem arm_off {w : World} {R : Nat → Prop} {d : Nat} {S : DS} (h : IsDisk w R d S) (n : Int) (hn : n < 0) (kv : Value) :
    Calls Tryd.prog 22 #[.pointer (some ⟨d, 0, none⟩), .int .i64 n, kv] w fun e w' => e = .returned (.tuple #[]) ∧ IsDisk w' R d { S with arm := none } ∧ Keep R w w' := by
  obtain ⟨sb, svs, wv, wvs, av, h⟩ := h
  have d2 := h.top.cell 2
  have f2 := h.top.soft 2
  simp at d2
  have hdl := h.top.lt
  have H := Lib.hid h
  clear h
  go_enter Tryd.func22, Tryd.ntmps22
  go_wp2_with fail
  go_end0
  have hL := H.out
  have k : Keep (fun k => k = d ∨ k = sb) w (w.setCell ⟨d, 2, none⟩ (.pointer none)) := (Keep.refl _ _).store (p := ⟨d, 2, none⟩) (fun _ => .inl rfl) _
  have hd : ∀ g cur, R g → Row w g 5 cur → Row (w.setCell ⟨d, 2, none⟩ (.pointer none)) g 5 cur ∧ R g := fun g cur a b => ⟨hL.others k (by decide) (by decide) b, a⟩
  exact ⟨rfl, ⟨sb, svs, wv, wvs, .pointer none, by simpa using hL.top.store 2 (.pointer none), hL.rows.far (p := ⟨d, 2, none⟩) (hL.rows.ne hL.top (by decide)) _, hL.secs.move hd, own_move hL.wrow (fun g cur _ b => hL.others k (by decide) (by decide) b), hL.wR, ⟨hL.waits.1, hL.waits.2.move hd⟩,
    rfl, hL.rd, hL.rs, hL.few, hL.some_, hL.at_⟩, k.mono (fun i _ e => by rcases e with rfl | rfl; exact hL.rd; exact hL.rs)⟩

theorem cloneB_c (v : Value) (bs : List UInt8) (R : Nat → Prop) (w : World) (h : Bytes w R v bs) (hl : bs.length = 512) :
    Calls Tryd.prog 34 #[v] w fun e w' => ∃ g cap, e = .returned (.slice (some ⟨g, 0, none⟩) 512 cap) ∧ w'.ownsRow w.heap.size 5 1 (.slice (some ⟨g, 0, none⟩) 512 cap) 512 (bs.map bv) ∧ Calm w w' := by
  obtain ⟨A, cap, rfl, hc⟩ := h
  have hA : ∃ ad, A = some ad := by obtain ⟨ad, e, _⟩ := hc 0 bs[0] (List.getElem?_eq_getElem (by omega)); exact ⟨ad, e⟩
  obtain ⟨ad, rfl⟩ := hA
  rw [hl]
  refine (cloneB_some ad 512 cap (bs.map bv) w (by simp [hl]) (by omega) (fun j u hj => ?_) (fun u hu => ?_)).mono ?_
  · rw [List.getElem?_map, Option.map_eq_some_iff] at hj
    obtain ⟨b, hb, rfl⟩ := hj
    obtain ⟨ad', e, _, _, h4⟩ := hc j b hb
    cases e
    exact h4
  · simp at hu
    obtain ⟨b, _, rfl⟩ := hu
    rfl
  · rintro e w' ⟨v, rfl, h1, h2⟩
    rcases h1.2 with ⟨h0, h3⟩ | ⟨g, cap', cur, h0, _⟩
    · omega
    · subst h0; exact ⟨g, cap', rfl, h1, h2⟩

/-! ### Write -/

set_option maxHeartbeats 800000 in
theorem write_arg {w : World} {R : Nat → Prop} {d : Nat} {S : DS} (h : IsDisk w R d S) (x : Int) (A : Option Addr) (n c : Nat) (hx : ¬ (0 ≤ x ∧ x < S.secs.length) ∨ n ≠ 512) :
    Calls Tryd.prog 26 #[.pointer (some ⟨d, 0, none⟩), .int .i64 x, .slice A n c] w fun e w' => e = .returned (.int .i64 1) ∧ w = w' := by
  obtain ⟨_, _, ⟨sb, h0⟩, _⟩ := h.cells
  by_cases hin : 0 ≤ x ∧ x < S.secs.length
  · have hn : n ≠ 512 := hx.resolve_left (fun e => e hin)
    have e1 : (decide (0 ≤ x) && decide (x < S.secs.length)) = true := by simp [hin]
    have e2 : ((n : Int) != 512) = true := by rw [bne_iff_ne]; omega
    have Hc := Lib.hid (has_c d _ _ x _ w h0)
    clear h h0 hin hx
    rw [e1] at Hc
    clear e1
    go_enter Tryd.func26, Tryd.ntmps26
    go_wp2_with fail
    refine Hc.out.mono ?_
    rintro e w' ⟨rfl, rfl⟩
    go_wp2_with fail
    go_ret
    exact ⟨rfl, rfl⟩
  · have e1 : (decide (0 ≤ x) && decide (x < S.secs.length)) = false := by simp; omega
    have Hc := Lib.hid (has_c d _ _ x _ w h0)
    clear h h0 hin hx
    rw [e1] at Hc
    clear e1
    go_enter Tryd.func26, Tryd.ntmps26
    go_wp2_with fail
    refine Hc.out.mono ?_
    rintro e w' ⟨rfl, rfl⟩
    go_wp2_with fail
    go_ret
    exact ⟨rfl, rfl⟩

set_option maxHeartbeats 800000 in
theorem write_no {w : World} {R : Nat → Prop} {d : Nat} {S S1 : DS} (h : IsDisk w R d S) (hwm : S.wait.length ≤ 1000000) (hops : S.ops ≤ 1000000000) (hop : S.op = (false, S1)) (x : Nat) (hx : x < S.secs.length) (A : Option Addr) (c : Nat) :
    Calls Tryd.prog 26 #[.pointer (some ⟨d, 0, none⟩), .int .i64 x, .slice A 512 c] w fun e w' => e = .returned (.int .i64 11) ∧ IsDisk w' R d S1 ∧ Keep R w w' := by
  obtain ⟨_, _, ⟨sb, h0⟩, _⟩ := h.cells
  have e1 : (decide (0 ≤ (x : Int)) && decide ((x : Int) < S.secs.length)) = true := by simp; omega
  have Hc := Lib.hid (has_c d _ _ x _ w h0)
  rw [e1] at Hc
  have Ho := Lib.hid (operate_no h hwm hops hop)
  clear h h0 e1 hop
  go_enter Tryd.func26, Tryd.ntmps26
  go_wp2_with fail
  refine Hc.out.mono ?_
  rintro e w' ⟨rfl, rfl⟩
  go_wp2_with fail
  refine Ho.out.mono ?_
  rintro e w1 ⟨rfl, h1, k1⟩
  have H1 := Lib.hid h1
  have K1 := Lib.hid k1
  clear h1 k1 Ho Hc
  go_wp2_with fail
  go_ret
  exact ⟨rfl, H1.out, K1.out⟩

theorem write_pack {w w1 w2 w3 : World} {R : Nat → Prop} {d : Nat} {S1 : DS} {sb : Nat} {svs : List Value} {wv : Value} {wvs : List (Nat × Value)} {av : Value} {WA : Option Addr} {wc x g cp gg cg : Nat} {bs : List UInt8}
    (h : Lay w1 R d S1 sb svs wv wvs av) (hwv : wv = .slice WA wvs.length wc) (k1 : Keep R w w1) (hcalm : Calm w1.drew w2) (hown : w2.ownsRow w1.drew.heap.size 5 1 (.slice (some ⟨g, 0, none⟩) 512 cp) 512 (bs.map bv))
    (hgrow : (w2.alloc (.cells #[.int .i64 x, .slice (some ⟨g, 0, none⟩) 512 cp] 89)).grownBy w3 (Value.slice WA wvs.length wc).ownBlock)
    (hown3 : w3.ownsRow 0 89 2 (.slice (some ⟨gg, 0, none⟩) (wvs.length + 1) cg) (wvs.length + 1) (flat wvs ++ [.int .i64 x, .slice (some ⟨g, 0, none⟩) 512 cp]))
    (hat : (Value.slice WA wvs.length wc).ownBlock = some gg ∨ gg = w2.heap.size + 1) (hlt : gg < w3.heap.size) (hl : bs.length = 512) (hx : x < S1.secs.length) :
    IsDisk (w3.setCell ⟨d, 1, none⟩ (.slice (some ⟨gg, 0, none⟩) (wvs.length + 1) cg)) (Grow R w (w3.setCell ⟨d, 1, none⟩ (.slice (some ⟨gg, 0, none⟩) (wvs.length + 1) cg))) d { S1 with wait := S1.wait ++ [(x, bs)] } ∧ Keep R w (w3.setCell ⟨d, 1, none⟩ (.slice (some ⟨gg, 0, none⟩) (wvs.length + 1) cg)) := by
  rw [← hwv] at hgrow hat
  have hz2 : w1.heap.size ≤ w2.heap.size := hcalm.size
  have hz1 := k1.size
  have hz3 := hgrow.size
  rw [World.size_alloc] at hz3
  have hz : (w3.setCell ⟨d, 1, none⟩ (.slice (some ⟨gg, 0, none⟩) (wvs.length + 1) cg)).heap.size = w3.heap.size := World.size_setCell _ _ _
  have hcalm' : Calm w1 w2 := ⟨hcalm.os, hcalm.tape, hcalm.output, hcalm.size, hcalm.block⟩
  have hD := Data.of_own hown
  obtain ⟨gD, cD, curD, eD, hDrow, hD2, hD3, hD4, hD5, _⟩ := hD
  injection eD with eD _ eC
  injection eD with eD
  injection eD with eD
  subst eD; subst eC
  -- an old row of another type than what waits is there in w3
  have far3 : ∀ {k t cur}, t ≠ 89 → Row w2 k t cur → Row w3 k t cur := fun {k t cur} ht hr => by
    refine (hr.alloc _).grown hgrow (fun e => ?_)
    rcases h.wrow.2 with ⟨h0, _⟩ | ⟨g', cap', cur', h0, _, h2, _⟩
    · rw [h0] at e; simp [Value.ownBlock] at e
    · rw [h0] at e
      have : k = g' := by simpa [Value.ownBlock] using e
      subst this
      exact (hr.ne ((show Row w1 k 89 cur' from h2).keep hcalm' (fun e => e)) ht) rfl
  have top3 : Row w3 d 65 _ := far3 (by decide) (h.top.keep hcalm' (fun e => e))
  have hrow3 : ∃ cur3, Row w3 gg 89 cur3 := by
    rcases hown3.2 with ⟨_, h0⟩ | ⟨g', cap', cur', h0, _, h2, _⟩
    · omega
    · injection h0 with h0 _ _
      injection h0 with h0
      injection h0 with h0
      subst h0
      exact ⟨cur', h2⟩
  obtain ⟨cur3, hrow3⟩ := hrow3
  have hgd : gg ≠ d := hrow3.ne top3 (by decide)
  have farW : ∀ {k t cur}, t ≠ 65 → Row w3 k t cur → Row (w3.setCell ⟨d, 1, none⟩ (.slice (some ⟨gg, 0, none⟩) (wvs.length + 1) cg)) k t cur := fun {k t cur} ht hr => hr.far (p := ⟨d, 1, none⟩) (hr.ne top3 ht) _
  have old : ∀ {k t cur}, t ≠ 89 → t ≠ 65 → Row w1 k t cur → Row (w3.setCell ⟨d, 1, none⟩ (.slice (some ⟨gg, 0, none⟩) (wvs.length + 1) cg)) k t cur := fun h1 h2 hr => farW h2 (far3 h1 (hr.keep hcalm' (fun e => e)))
  have kW : Keep R w (w3.setCell ⟨d, 1, none⟩ (.slice (some ⟨gg, 0, none⟩) (wvs.length + 1) cg)) := by
    refine (((k1.trans (hcalm'.keep R)).alloc _).grown hgrow (fun k e hk => h.wR k e)).store (p := ⟨d, 1, none⟩) (fun _ => h.rd) _
  refine ⟨⟨sb, svs, .slice (some ⟨gg, 0, none⟩) (wvs.length + 1) cg, wvs ++ [(x, .slice (some ⟨g, 0, none⟩) 512 cp)], av, ?_, old (by decide) (by decide) h.rows, ?_, ?_, ?_, ⟨?_, ?_⟩, ?_, .inl h.rd, .inl h.rs, h.few, h.some_, ?_⟩, kW⟩
  · simpa using top3.store 1 (.slice (some ⟨gg, 0, none⟩) (wvs.length + 1) cg)
  · exact h.secs.move fun k cur a b => ⟨old (by decide) (by decide) b, .inl a⟩
  · rw [flat_snoc, List.length_append]
    exact own_move hown3 (fun k cur _ b => farW (by decide) b)
  · intro k e
    have : gg = k := by simpa [Value.ownBlock] using e
    subst this
    rcases hat with hat | hat
    · exact .inl (h.wR _ hat)
    · exact .inr ⟨by omega, by omega⟩
  · simp [h.waits.1]
  · simp only [List.map_append, List.map_cons, List.map_nil]
    refine (h.waits.2.move fun k cur a b => ⟨old (by decide) (by decide) b, .inl a⟩).snoc ?_
    have hlo := hown.lt g rfl
    have : w1.drew.heap.size = w1.heap.size := rfl
    exact ⟨g, cp, curD, rfl, farW (by decide) (far3 (by decide) hDrow), hD2, hD3, hD4, hD5, .inr ⟨by omega, by omega⟩⟩
  · exact h.arm.move fun k t cur ht a b => ⟨old (by rcases ht with rfl | rfl <;> decide) (by rcases ht with rfl | rfl <;> decide) b, .inl a⟩
  · intro y hy
    rcases List.mem_append.1 hy with hy | hy
    · exact h.at_ y hy
    · simp at hy; subst hy; exact hx

theorem info73 : (Tryd.prog.info? 89).map (fun i => (i.zero, i.size, i.bytes)) = some (some (.agg #[.int .i64 0, .slice none 0 0]), 2, 32) := by kernel_rfl

set_option maxHeartbeats 3200000 in
theorem write_ok {w : World} {R : Nat → Prop} {d : Nat} {S S1 : DS} (h : IsDisk w R d S) (hwm : S.wait.length ≤ 1000000) (hops : S.ops ≤ 1000000000) (hop : S.op = (true, S1)) (x : Nat) (hx : x < S.secs.length) (v : Value) (bs : List UInt8) (hb : Bytes w (fun k => ¬ R k) v bs) (hl : bs.length = 512) :
    Calls Tryd.prog 26 #[.pointer (some ⟨d, 0, none⟩), .int .i64 x, v] w fun e w' => e = .returned (.int .i64 0) ∧ IsDisk w' (Grow R w w') d { S1 with wait := S1.wait ++ [(x, bs)] } ∧ Keep R w w' := by
  obtain ⟨_, _, ⟨sb, h0⟩, _⟩ := h.cells
  obtain ⟨i0, hi0, hz0, hz1, hz2⟩ := info_parts info73
  have e1 : (decide (0 ≤ (x : Int)) && decide ((x : Int) < S.secs.length)) = true := by simp; omega
  have Hc := Lib.hid (has_c d _ _ x _ w h0)
  rw [e1] at Hc
  have Ho := Lib.hid (operate_ok h hwm hops hop)
  have hw2 := (DS.op_wait hop).1
  have Hse := Lib.hid (DS.op_wait hop).2.2
  have hform : ∃ A cap, v = .slice A 512 cap := by obtain ⟨A, cap, e, _⟩ := hb; rw [hl] at e; exact ⟨A, cap, e⟩
  obtain ⟨A, cap, rfl⟩ := hform
  have Hb := Lib.hid hb
  have Hl := Lib.hid hl
  clear h h0 e1 hop hb hl
  go_enter Tryd.func26, Tryd.ntmps26
  go_wp2_with fail
  refine Hc.out.mono ?_
  rintro e w' ⟨rfl, rfl⟩
  go_wp2_with fail
  refine Ho.out.mono ?_
  rintro e w1 ⟨rfl, h1, k1⟩
  have Hb1 := Lib.hid (Hb.out.move (R' := fun k => ¬ R k) k1.size (fun p a b => k1.cell a b) (fun _ x => x))
  obtain ⟨sb, svs, wv, wvs, av, h⟩ := h1
  have hlw : wvs.length = S1.wait.length := by have := congrArg List.length h.waits.1; simpa using this
  have hwm1 : wvs.length ≤ 1000000 := by omega
  obtain ⟨WA, wc, hwv, hwc⟩ := h.wcells
  have d1 := h.top.cell 1
  have f1 := h.top.soft 1
  simp at d1
  have hdl := h.top.lt
  rw [hwv] at d1
  have H1 := Lib.hid h
  have K1 := Lib.hid k1
  have Hwv := Lib.hid hwv
  clear h k1 Ho Hc hwc hwv Hb hlw
  have hfar : some d ≠ (Value.slice WA wvs.length wc).ownBlock := by
    rw [← Hwv.out]
    intro e
    rcases H1.out.wrow.2 with ⟨h0, _⟩ | ⟨g', cap', cur', h0, _, h2, _⟩
    · rw [h0] at e; simp [Value.ownBlock] at e
    · rw [h0] at e
      have : d = g' := by simpa [Value.ownBlock] using e
      subst this
      exact (Row.ne H1.out.top (show Row w1 d 89 cur' from h2) (by decide)) rfl
  have HW := fun (w2 : World) (hc : Calm w1.drew w2) (o : Obj) => (own_move (w := w1) (w' := w2.alloc o) (v := .slice WA wvs.length wc) (by rw [← Hwv.out]; exact H1.out.wrow) (fun g' cur' _ b => (Row.keep (w := w1.drew) b hc (fun e => e)).alloc o))
  go_wp2_with fail
  go_region_law (first
      | (refine step_append_lies _ (by rfl) _ _ _ (by rfl) 0 89 i0 _ 2 32 Tryd.underlying62 hi0 hz0 hz1 hz2 rfl (by omega) (.slice WA wvs.length wc) wvs.length (flat wvs) (by rfl) (HW _ hcalm _)
          ⟨w2.heap.size, 0, none⟩ 1 1 [.int .i64 x, .slice (some ⟨g, 0, none⟩) 512 cp] (by rfl) (by rfl) (World.news_of_block (cs := #[.int .i64 x, .slice (some ⟨g, 0, none⟩) 512 cp]) (t := 89) (fr := (0, 0)) (heap_alloc_new w2 _)) (by simp [Value.oneCell'])
          (by omega) (by simp only [maxLen]; omega) (by omega) (Nat.zero_le _) (w2.heap.size + 1) (by simp) ?_; intro gg cg w3 hown3 hgrow hat hlt
         have c3 : w3.cell? ⟨d, 1, none⟩ = some (.slice WA wvs.length wc) := (World.cell?_of_block (a := ⟨d, 1, none⟩) (hgrow.block d (by simp; omega) hfar)).trans ((World.cell?_alloc_lt _ _ _ hzz).trans c2)
         have f3 : w3.frozen? ⟨d, 1, none⟩ = false := (World.frozen?_of_block (a := ⟨d, 1, none⟩) (hgrow.block d (by simp; omega) hfar)).trans ((World.frozen?_alloc_old _ _ _ (by simp; omega)).trans ((hcalm.soft (p := ⟨d, 1, none⟩) (by simpa using hdl) (fun e => e)).trans f1)))
      | (go_simp; go_at_call 34; refine (cloneB_c _ bs (fun k => ¬ R k) _ (by exact Hb1.out) Hl.out).mono ?_; rintro e w2 ⟨g, cp, rfl, hown, hcalm⟩
         have hzz : d < w2.heap.size := by (have := hcalm.size; simp at this; omega)
         have c2 : w2.cell? ⟨d, 1, none⟩ = some (.slice WA wvs.length wc) := (hcalm.cell (p := ⟨d, 1, none⟩) (by simpa using hdl) (fun e => e)).trans d1))
  all_goals
    go_wp2_with fail
    go_ret
    obtain ⟨p1, p2⟩ := write_pack H1.out Hwv.out K1.out hcalm hown hgrow hown3 hat hlt Hl.out (by rw [Hse.out]; exact hx)
    exact ⟨rfl, p1, p2⟩
end Go.Proofs.YtfigiofiakkbdaaDoor
