/-
  The document's list: Put and Get.
-/
import Derived.Test.YtiipepiabeccpaaRD
import Derived.Test.YtiipepiabeccpaaLsi4
namespace Go.Proofs.Ytiipepiabeccpaa
open Go.RowKit
set_option linter.all false
attribute [local go_sem] Oper.semAt_some

theorem keep_grown {w w' : World} {row : Option Nat} (h : w.grownBy w' row) : Keep (fun k => row = some k) w w' := ⟨h.os, h.tape, h.output, h.size, fun k hk hn => h.block k hk (fun e => hn e.symm)⟩

set_option maxHeartbeats 1000000 in
theorem rdrop_no {w : World} {Q : Nat → Prop} {d most : Nat} {L : List KV} {k : List UInt8} (h : RefIs w Q d most L) (hk : k ∉ keysL L) :
    Calls Try.prog 60 #[.pointer (some ⟨d, 0, none⟩), .string (str k)] w fun e w' => e = .returned (.bool false) ∧ w = w' := by
  have HF := Lib.hid (rfind_c h k (-1) (.inr ⟨hk, rfl⟩))
  clear h hk
  go_enter Try.func60, Try.ntmps60
  go_wp2_with fail
  refine HF.out.mono ?_
  rintro e w1 ⟨rfl, rfl⟩
  clear HF
  go_wp2
  go_ret
  exact ⟨rfl, rfl⟩

theorem split_first {L : List KV} {k : List UInt8} (hn : (keysL L).Nodup) (h : k ∈ keysL L) : ∃ l1 v l2, L = l1 ++ (k, v) :: l2 ∧ k ∉ keysL l1 ∧ dropL k L = l1 ++ l2 ∧ getL k L = some v := by
  obtain ⟨l1, x, l2, rfl, rfl⟩ := split_key h
  obtain ⟨k, v⟩ := x
  refine ⟨l1, v, l2, rfl, ?_, dropL_mid hn, getL_mid hn⟩
  unfold keysL at hn
  rw [List.map_append, List.map_cons] at hn
  exact fun hc => (List.nodup_append.1 hn).2.2 _ hc k (by simp) rfl

theorem rdrop_c {w : World} {Q : Nat → Prop} {d most : Nat} {L : List KV} (h : RefIs w Q d most L) (hn : (keysL L).Nodup) (k : List UInt8) (B : Bool) (hB : (getL k L).isSome = B) :
    Calls Try.prog 60 #[.pointer (some ⟨d, 0, none⟩), .string (str k)] w fun e w' => e = .returned (.bool B) ∧ (∃ Q', RefIs w' Q' d most (dropL k L) ∧ Grow Q Q' w) ∧ Keep Q w w' := by
  subst hB
  by_cases hk : k ∈ keysL L
  · obtain ⟨l1, v, l2, he, h1, h2, h3⟩ := split_first hn hk
    rw [h2, h3]
    exact rdrop_yes h he h1
  · rw [dropL_miss hk, getL_miss hk]
    refine (rdrop_no h hk).mono ?_
    rintro e w' ⟨rfl, rfl⟩
    exact ⟨rfl, ⟨Q, h, Grow.refl _ _⟩, Keep.refl _ _⟩

/-- What the reference's Put does, and that it is the same. -/
def rputL (most : Nat) (k : List UInt8) (v : Int) (L : List KV) : Option (List UInt8) × List KV :=
  if (dropL k L ++ [(k, v)]).length ≤ most then (none, dropL k L ++ [(k, v)]) else ((dropL k L ++ [(k, v)]).head?.map (·.1), (dropL k L ++ [(k, v)]).tail)
theorem rputL_eq {most : Nat} {k : List UInt8} {v : Int} {L : List KV} (hn : (keysL L).Nodup) (hl : L.length ≤ most) (hp : 1 ≤ most) : rputL most k v L = putL most k v L := by
  unfold rputL
  by_cases hk : k ∈ keysL L
  · have := dropL_len hn hk
    rw [if_pos (by simp; omega), putL_yes hk]
  · rw [dropL_miss hk]
    by_cases hr : L.length < most
    · rw [if_pos (by simp; omega), putL_room hk hr]
    · rw [if_neg (by simp; omega), putL_full hk hr]
      cases L with
      | nil => simp at hr; omega
      | cons x l => rfl

set_option maxRecDepth 20000 in
set_option maxHeartbeats 4000000 in
theorem rput_0 {w : World} {Q : Nat → Prop} {d most : Nat} {L : List KV} (h : RefIs w Q d most L) (hn : (keysL L).Nodup) (hl : L.length ≤ most) (k : List UInt8) (v : Int) (ov : Value) (ho : siT.ko (rputL most k v L).1 = ov) (ob : Bool) (hb : (rputL most k v L).1.isSome = ob) :
    Calls Try.prog 25 #[.pointer (some ⟨d, 0, none⟩), .string (str k), .int .i64 v] w fun e w' => e = .returned (.tuple #[ov, .bool ob]) ∧ (∃ Q', RefIs w' Q' d most (rputL most k v L).2 ∧ Grow Q Q' w) ∧ Keep Q w w' := by
  have HD := Lib.hid (rdrop_c h hn k _ rfl)
  have hdl : (dropL k L).length ≤ most := Nat.le_trans (List.length_filter_le _ _) hl
  have Hpos := Lib.hid (show 1 ≤ most ∧ most ≤ 1100 from ⟨h.pos, h.top⟩)
  have HO := Lib.hid (show siT.ko (rputL most k v L).1 = ov ∧ (rputL most k v L).1.isSome = ob from ⟨ho, hb⟩)
  have Hput := Lib.hid (show rputL most k v L = _ from rfl)
  clear ho hb
  unfold rputL at HO ⊢
  generalize hL1 : dropL k L = L1 at HD HO hdl ⊢
  clear h hn hl hL1 Hput
  have hm := Hpos.out
  go_enter Try.func25, Try.ntmps25
  go_wp2_with fail
  refine HD.out.mono ?_
  rintro e w1 ⟨rfl, ⟨Q1, h1, g1⟩, k1⟩
  obtain ⟨⟨lv, r1, r2, r3⟩, qd1, lt1, _, _, _⟩ := h1
  obtain ⟨A, c, rfl⟩ := r2.form
  have c1 : w1.cell? ⟨d, 1, none⟩ = some (.slice A L1.length c) := (r1.cell 1).trans rfl
  have f1 := r1.soft 1
  have hdl1 := r1.lt
  have H1 : Hid (RefIs w1 Q1 d most L1) := Lib.hid ⟨⟨_, r1, r2, r3⟩, qd1, lt1, by omega, by omega, by omega⟩
  have hkA : Calm w1 (w1.alloc (.cells #[.string (str k), .int .i64 v] 45)) := (Keep.refl _ w1).alloc _
  have HO1 := Lib.hid (r2.calm hkA)
  have hnew := Row.made w1 45 #[.string (str k), .int .i64 v]
  have HN : Hid (∀ j u, (flatP [(k, v)])[j]? = some u → (w1.alloc (.cells #[.string (str k), .int .i64 v] 45)).cell? ((⟨w1.heap.size, 0, none⟩ : Addr).add j) = some u) := Lib.hid (fun j u hj => by
    rw [addr_mid, Nat.zero_add, hnew.cell]
    simpa [flatP] using hj)
  have HKA := Lib.hid hkA
  have HR3 := Lib.hid (show (∀ g, (Value.slice A L1.length c).ownBlock = some g → Q1 g) ∧ (∀ i, Q1 i → i < w1.heap.size) from ⟨r3, lt1⟩)
  have HG1 := Lib.hid g1
  have HK1 := Lib.hid k1
  have hAd : ∀ g, (Value.slice A L1.length c).ownBlock = some g → g ≠ d := by
    intro g hg e
    subst e
    rcases r2.2 with ⟨e0, _⟩ | ⟨g', cap, cur, e1, _, e2, _⟩
    · rw [e0] at hg; cases hg
    · rw [e1] at hg
      have hg : some g' = some g := hg
      injection hg with hg
      subst hg
      exact Row.ne (t := 45) (cs := cur) e2 r1 (by decide) rfl
  have HAd := Lib.hid hAd
  have STEP : ∀ (A2 : Option Addr) (c2 : Nat) (w2 : World), OwnP w2 0 (.slice A2 (L1.length + 1) c2) (L1 ++ [(k, v)]) → (w1.alloc (.cells #[.string (str k), .int .i64 v] 45)).grownBy w2 (Value.slice A L1.length c).ownBlock →
      (∀ g, (Value.slice A2 (L1.length + 1) c2).ownBlock = some g → (Value.slice A L1.length c).ownBlock = some g ∨ (w1.alloc (.cells #[.string (str k), .int .i64 v] 45)).heap.size ≤ g) →
      w2.cell? ⟨d, 1, none⟩ = some (.slice A L1.length c) ∧ w2.frozen? ⟨d, 1, none⟩ = false ∧ (∃ Q2, RefIs (w2.setCell ⟨d, 1, none⟩ (.slice A2 (L1.length + 1) c2)) Q2 d most (L1 ++ [(k, v)]) ∧ Grow Q1 Q2 w1) ∧ Keep Q1 w1 (w2.setCell ⟨d, 1, none⟩ (.slice A2 (L1.length + 1) c2)) := by
    intro A2 c2 w2 ho hg hb
    have hK : Keep (fun i => (Value.slice A L1.length c).ownBlock = some i) w1 w2 := (HKA.out.keep _).trans (keep_grown hg)
    have hnd : ¬ (Value.slice A L1.length c).ownBlock = some d := fun e => HAd.out d e rfl
    obtain ⟨Q2, a1, a2, a3⟩ := H1.out.lay hK hnd (fun i hi _ => HR3.out.1 i hi) ho (by have := Hpos.out.2; simp; omega) (fun g hg' => (hb g hg').imp (HR3.out.1 g) (fun e => Nat.le_trans HKA.out.size e))
    exact ⟨(hK.cell (p := ⟨d, 1, none⟩) hdl1 hnd).trans c1, (hK.soft (p := ⟨d, 1, none⟩) hdl1 hnd).trans f1, ⟨Q2, a1, a2⟩, a3⟩
  have HST := Lib.hid STEP
  have hn1000 : L1.length ≤ 1100 := by omega
  clear STEP r1 r2 r3 qd1 lt1 hkA hnew g1 k1 HD hAd
  go_wp2_with (at_builtin; go_loud (refine list_append_pairs rfl (.tmp 16) (.tmp 20) rfl 0 (.slice A L1.length c) L1 rfl HO1.out ⟨w1.heap.size, 0, none⟩ 1 1 [(k, v)] rfl rfl HN.out (by omega) (Nat.zero_le _) (L1.length + 1) (by simp) ?_); intro A2 c2 w2 ho2 hg2 hb2; obtain ⟨s1, s2, s3, s4⟩ := HST.out A2 c2 w2 ho2 hg2 hb2; have HS3 := Lib.hid s3; have HS4 := Lib.hid s4; clear ho2 hg2 hb2 s3 s4)
  obtain ⟨Q2, h2, g2⟩ := HS3.out
  have H2 := Lib.hid h2
  have HG2 := Lib.hid (HG1.out.trans g2 HK1.out.size)
  have HK2 : Hid (Keep Q w (w2.setCell ⟨d, 1, none⟩ (.slice A2 (L1.length + 1) c2))) := Lib.hid (HK1.out.then_ HS4.out (fun i hi hc => (HG1.out i hc).resolve_right (by omega)))
  obtain ⟨⟨lv2, r1, r2, r3⟩, _, _, _, _, _⟩ := h2
  have d0 : (w2.setCell ⟨d, 1, none⟩ (.slice A2 (L1.length + 1) c2)).cell? ⟨d, 0, none⟩ = some (.int .i64 (most : Int)) := (r1.cell 0).trans rfl
  have d1 : (w2.setCell ⟨d, 1, none⟩ (.slice A2 (L1.length + 1) c2)).cell? ⟨d, 1, none⟩ = some (.slice A2 (L1.length + 1) c2) := World.cell?_setCell_same' _ _ _ (by rw [s1]; rfl)
  obtain rfl : lv2 = .slice A2 (L1.length + 1) c2 := by
    have := (r1.cell 1).symm.trans d1
    simpa using this
  have f3 := r1.soft 1
  have R2 := Lib.hid r2
  clear r1 r2 r3 g2 HST HS3 HS4 H1 HO1 HN HKA HR3 HG1 HK1 HAd s1 s2 c1 f1
  generalize w2.setCell ⟨d, 1, none⟩ (.slice A2 (L1.length + 1) c2) = w3 at *
  by_cases hle : L1.length + 1 ≤ most
  · have hle2 : (L1 ++ [(k, v)]).length ≤ most := by simp; omega
    have hle3 : (L1.length : Int) + 1 ≤ (most : Int) := by omega
    have hh := HO.out
    rw [if_pos hle2] at hh
    obtain ⟨rfl, rfl⟩ := hh
    have HL2 := Lib.hid hle2
    have HD3 : Hid (RefIs w3.drew Q2 d most (L1 ++ [(k, v)])) := Lib.hid (H2.out.calm ((Keep.refl _ w3).drew))
    clear HO hle2 R2 H2
    go_wp2_with fail
    go_region
    go_wp2
    go_ret2
    exact ⟨rfl, ⟨Q2, HD3.out, HG2.out⟩, HK2.out.drew⟩
  · have hle2 : ¬ (L1 ++ [(k, v)]).length ≤ most := by simp; omega
    have hle3 : ¬ (L1.length : Int) + 1 ≤ (most : Int) := by omega
    have hh := HO.out
    rw [if_neg hle2] at hh
    obtain ⟨x, l, rfl⟩ : ∃ x l, L1 = x :: l := by
      cases L1 with
      | nil => simp at hle; omega
      | cons x l => exact ⟨x, l, rfl⟩
    simp only [List.cons_append, List.head?_cons, Option.map_some, List.tail_cons] at hh
    obtain ⟨rfl, rfl⟩ := hh
    obtain ⟨g3, c3, e3, b1, b2, _, hcell⟩ := R2.out.some_ (by simp)
    injection e3 with e3 _ e4
    subst e3; subst e4
    simp only [List.cons_append, List.length_cons, List.length_append, List.length_nil] at b1
    have x0 : w3.cell? ⟨g3, 0, none⟩ = some (.string (str x.1)) := hcell 0 _ rfl
    have CB : ∀ j u, (flatP (l ++ [(k, v)]))[j]? = some u → w3.cell? ⟨g3, 2 + j, none⟩ = some u := fun j u hj => by
      have := flatP_drop 1 (x :: (l ++ [(k, v)])) j
      simp only [List.drop_succ_cons, List.drop_zero] at this
      rw [this] at hj
      exact hcell _ u hj
    have hg3 : g3 < w3.heap.size := World.block_lt_of_cell? _ _ x0
    have hdw : d < w3.heap.size := World.block_lt_of_cell? _ _ d1
    have KM : Hid (Calm w3 ((w3.alloc (.cells #[] 45)).drew)) := Lib.hid (((Keep.refl _ w3).alloc _).drew)
    have OM : Hid (OwnP ((w3.alloc (.cells #[] 45)).drew) w3.heap.size (.slice (some ⟨w3.heap.size, 0, none⟩) 0 0) []) := Lib.hid ((OwnP.made w3).calm ((Keep.refl _ _).drew))
    have HCB : Hid (∀ j u, (flatP (l ++ [(k, v)]))[j]? = some u → ((w3.alloc (.cells #[] 45)).drew).cell? ((⟨g3, 2, none⟩ : Addr).add j) = some u) := Lib.hid (fun j u hj => by
      rw [addr_mid, KM.out.cell (p := ⟨g3, 2 + j, none⟩) hg3 (fun e => e)]; exact CB j u hj)
    have LAST : ∀ (A3 : Option Addr) (c4 : Nat) (w4 : World), OwnP w4 w3.heap.size (.slice A3 (l.length + 1) c4) ([] ++ (l ++ [(k, v)])) → ((w3.alloc (.cells #[] 45)).drew).grownBy w4 (Value.slice (some ⟨w3.heap.size, 0, none⟩) 0 0).ownBlock →
        w4.cell? ⟨d, 1, none⟩ = some (.slice (some ⟨g3, 0, none⟩) (l.length + 1 + 1) c2) ∧ w4.frozen? ⟨d, 1, none⟩ = false ∧ ((∃ Q', RefIs (w4.setCell ⟨d, 1, none⟩ (.slice A3 (l.length + 1) c4)) Q' d most (l ++ [(k, v)]) ∧ Grow Q Q' w) ∧ Keep Q w (w4.setCell ⟨d, 1, none⟩ (.slice A3 (l.length + 1) c4))) := by
      intro A3 c4 w4 ho hg
      have hc : Calm w3 w4 := KM.out.grown hg (fun i hi hlt => by
        have hi : some w3.heap.size = some i := hi
        injection hi with hi
        omega)
      obtain ⟨Q', a1, a2, a3⟩ := H2.out.lay hc (fun e => e) (fun _ e _ => e.elim) (ho.wider (Nat.zero_le _)) (by have := Hpos.out; simp at hdl ⊢; omega) (fun i hi => .inr (ho.block hi).1)
      exact ⟨(hc.cell (p := ⟨d, 1, none⟩) hdw (fun e => e)).trans d1, (hc.soft (p := ⟨d, 1, none⟩) hdw (fun e => e)).trans f3, ⟨Q', by simpa using a1, HG2.out.trans a2 HK2.out.size⟩, HK2.out.then_ a3 (fun i hi hc => (HG2.out i hc).resolve_right (by omega))⟩
    have HLA := Lib.hid LAST
    have HNL := Lib.hid hle2
    have q1 : ¬ c2 = 1 := by omega
    have q2 : 1 ≤ c2 := by omega
    have q3 : l.length + 1 + 1 ≤ c2 := by omega
    have m1 : (w3.alloc (.cells #[] 45)).cell? ⟨d, 1, none⟩ = some (.slice (some ⟨g3, 0, none⟩) (l.length + 1 + 1) c2) := (((Keep.refl (fun _ => False) w3).alloc (.cells #[] 45)).cell (p := ⟨d, 1, none⟩) hdw (fun e => e)).trans d1
    have hl1000 : l.length ≤ 1100 := by simp at hn1000; omega
    unfold maxLen at b2
    clear LAST HO hle2 hcell CB hg3 R2 H2
    go_wp2_with fail
    go_region
    go_wp2_with (at_builtin; go_loud (refine list_append_pairs rfl (.tmp 42) (.tmp 47) rfl w3.heap.size (.slice (some ⟨w3.heap.size, 0, none⟩) 0 0) [] rfl OM.out ⟨g3, 2, none⟩ (l.length + 1) (c2 - 1) (l ++ [(k, v)]) rfl (by simp) HCB.out (by simp; omega) (by simp) (l.length + 1) (by simp) ?_); intro A3 c4 w4 ho3 hg4 hb3; obtain ⟨t1, t2, t3⟩ := HLA.out A3 c4 w4 ho3 hg4; have HT := Lib.hid t3; clear ho3 hg4 hb3 t3)
    go_ret2
    exact ⟨rfl, HT.out⟩

theorem rput_c {w : World} {Q : Nat → Prop} {d most : Nat} {L : List KV} (h : RefIs w Q d most L) (hn : (keysL L).Nodup) (hl : L.length ≤ most) (k : List UInt8) (v : Int) (o : Option (List UInt8)) (L' : List KV) (e : putL most k v L = (o, L')) (ov : Value) (ho : siT.ko o = ov) (ob : Bool) (hb : o.isSome = ob) :
    Calls Try.prog 25 #[.pointer (some ⟨d, 0, none⟩), .string (str k), .int .i64 v] w fun e w' => e = .returned (.tuple #[ov, .bool ob]) ∧ (∃ Q', RefIs w' Q' d most L' ∧ Grow Q Q' w) ∧ Keep Q w w' := by
  have := rput_0 h hn hl k v (siT.ko o) (by rw [rputL_eq hn hl h.pos, e]) o.isSome (by rw [rputL_eq hn hl h.pos, e])
  rw [rputL_eq hn hl h.pos, e] at this
  subst ho; subst hb
  exact this
end Go.Proofs.Ytiipepiabeccpaa
