/-
  The document's list: Get.
-/
import Derived.Test.YtkmknmoppigoeaaRG
namespace Go.Proofs.Ytkmknmoppigoeaa
open Go.RowKit
set_option linter.all false
attribute [local go_sem] Oper.semAt_some

set_option maxHeartbeats 1000000 in
theorem rget_no {w : World} {Q : Nat → Prop} {d most : Nat} {L : List KV} {k : List UInt8} (h : RefIs w Q d most L) (hk : k ∉ keysL L) :
    Calls Try.prog 18 #[.pointer (some ⟨d, 0, none⟩), .string (str k)] w fun e w' => e = .returned (.tuple #[.int .i64 0, .bool false]) ∧ w = w' := by
  have HF := Lib.hid (rfind_c h k (-1) (.inr ⟨hk, rfl⟩))
  clear h hk
  go_enter Try.func18, Try.ntmps18
  go_wp2_with fail
  refine HF.out.mono ?_
  rintro e w1 ⟨rfl, rfl⟩
  clear HF
  go_wp2
  go_ret2
  exact ⟨rfl, rfl⟩

set_option maxRecDepth 20000 in
set_option maxHeartbeats 4000000 in
theorem rget_yes {w : World} {Q : Nat → Prop} {d most : Nat} {L l1 l2 : List KV} {k : List UInt8} {v : Int} (h : RefIs w Q d most L) (he : L = l1 ++ (k, v) :: l2) (hk : k ∉ keysL l1) (hl : L.length ≤ 1000) :
    Calls Try.prog 18 #[.pointer (some ⟨d, 0, none⟩), .string (str k)] w fun e w' => e = .returned (.tuple #[.int .i64 v, .bool true]) ∧ (∃ Q', RefIs w' Q' d most (l1 ++ l2 ++ [(k, v)]) ∧ Grow Q Q' w) ∧ Keep Q w w' := by
  have HF := Lib.hid (rfind_c h k (l1.length : Int) (.inl ⟨l1, v, l2, he, hk, rfl⟩))
  have HH := Lib.hid h
  obtain ⟨⟨lv, h1, h2, h3⟩, qd, lt, h6, _, _⟩ := h
  have hne : L ≠ [] := by rw [he]; simp
  obtain ⟨g, c, rfl, hc1, hc2, _, hcell⟩ := h2.some_ hne
  have hn : L.length = l1.length + 1 + l2.length := by rw [he]; simp; omega
  have hat : L[l1.length]? = some (k, v) := by rw [he]; simp
  have f0 : w.cell? ⟨g, l1.length * 2, none⟩ = some (.string (str k)) := hcell _ _ (flatP_at L _ _ hat).1
  have f1 : w.cell? ⟨g, l1.length * 2 + 1, none⟩ = some (.int .i64 v) := hcell _ _ (flatP_at L _ _ hat).2
  have c1 : w.cell? ⟨d, 1, none⟩ = some (.slice (some ⟨g, 0, none⟩) L.length c) := (h1.cell 1).trans rfl
  have j2 : (l1.length : Int) < (L.length : Int) := by omega
  have j3 : (0 : Int) ≤ (l1.length : Int) := by omega
  have j5 : l1.length < L.length := by omega
  have Hlen := Lib.hid (show (l1 ++ l2).length + 1 = L.length ∧ L.length ≤ 1000 from ⟨by simp; omega, hl⟩)
  have Hek := Lib.hid (show L = l1 ++ (k, v) :: l2 ∧ k ∉ keysL l1 from ⟨he, hk⟩)
  have Hql := Lib.hid lt
  unfold maxLen at hc2
  clear h1 h2 h3 lt qd h6 hcell hat he hk hne hl
  go_enter Try.func18, Try.ntmps18
  go_wp2_with fail
  refine HF.out.mono ?_
  rintro e w1 ⟨rfl, rfl⟩
  clear HF
  go_wp2_with fail
  have hX := Row.made w 37 #[.string (str k), .int .i64 v]
  have hA : Calm w (w.alloc (.cells #[.string (str k), .int .i64 v] 37)) := (Keep.refl _ w).alloc _
  have hxz : w.heap.size < (w.alloc (.cells #[.string (str k), .int .i64 v] 37)).heap.size := by simp
  refine (rdrop_yes (HH.out.calm hA) Hek.out.1 Hek.out.2).mono ?_
  rintro e w2 ⟨rfl, ⟨Q1, h1, g1⟩, k1⟩
  have nX : ¬ Q w.heap.size := fun e => by have := Hql.out _ e; omega
  have hX2 := hX.keep k1 nX
  have hz2 : w.heap.size < w2.heap.size := Nat.lt_of_lt_of_le hxz k1.size
  have hk02 : Keep Q w w2 := (hA.keep Q).trans k1
  have hg02 : Grow Q Q1 w := fun i hi => (g1 i hi).imp id (fun e => Nat.le_trans hA.size e)
  have H1 := Lib.hid h1
  obtain ⟨⟨lv2, r1, r2, r3⟩, qd1, lt1, _, _, _⟩ := h1
  obtain ⟨A, c2, rfl⟩ := r2.form
  obtain ⟨n, hn2⟩ : ∃ n, n = (l1 ++ l2).length := ⟨_, rfl⟩
  rw [← hn2] at r1 r2 r3
  have hn3 : n ≤ 1000 := by have := Hlen.out; omega
  have d1 : w2.cell? ⟨d, 1, none⟩ = some (.slice A n c2) := (r1.cell 1).trans rfl
  have d1f := r1.soft 1
  have hdl := r1.lt
  have x0 : w2.cell? ⟨w.heap.size, 0, none⟩ = some (.string (str k)) := (hX2.cell 0).trans rfl
  have x1 : w2.cell? ⟨w.heap.size, 1, none⟩ = some (.int .i64 v) := (hX2.cell 1).trans rfl
  have hkA : Calm w2 ((w2.alloc (.cells #[.string (str k), .int .i64 v] 37)).drew) := ((Keep.refl _ w2).alloc _).drew
  have hnew := (Row.made w2 37 #[.string (str k), .int .i64 v]).drew
  have HN : Hid (∀ j u, (flatP [(k, v)])[j]? = some u → ((w2.alloc (.cells #[.string (str k), .int .i64 v] 37)).drew).cell? ((⟨w2.heap.size, 0, none⟩ : Addr).add j) = some u) := Lib.hid (fun j u hj => by
    rw [addr_mid, Nat.zero_add, hnew.cell]
    simpa [flatP] using hj)
  have HKA := Lib.hid hkA
  have HO1 := Lib.hid (r2.calm hkA)
  have HR3 := Lib.hid (show (∀ g, (Value.slice A n c2).ownBlock = some g → Q1 g) ∧ (∀ i, Q1 i → i < w2.heap.size) from ⟨r3, lt1⟩)
  have hAd : ∀ g, (Value.slice A n c2).ownBlock = some g → g ≠ d ∧ g ≠ w.heap.size := by
    intro g hg
    refine ⟨fun e => ?_, fun e => ?_⟩
    · subst e
      rcases r2.2 with ⟨e0, _⟩ | ⟨g', cap, cur, e1, _, e2, _⟩
      · rw [e0] at hg; cases hg
      · rw [e1] at hg
        have hg : some g' = some g := hg
        injection hg with hg
        subst hg
        exact Row.ne (t := 37) (cs := cur) e2 r1 (by decide) rfl
    · subst e
      exact (g1 _ (r3 _ hg)).elim nX (fun h => by omega)
  have hdx : ¬ d = w.heap.size := fun e => by subst e; exact (g1 _ qd1).elim nX (fun h => by omega)
  have STEP : ∀ (A2 : Option Addr) (c3 : Nat) (w3 : World), OwnP w3 0 (.slice A2 (n + 1) c3) (l1 ++ l2 ++ [(k, v)]) → ((w2.alloc (.cells #[.string (str k), .int .i64 v] 37)).drew).grownBy w3 (Value.slice A n c2).ownBlock →
      (∀ g, (Value.slice A2 (n + 1) c3).ownBlock = some g → (Value.slice A n c2).ownBlock = some g ∨ ((w2.alloc (.cells #[.string (str k), .int .i64 v] 37)).drew).heap.size ≤ g) →
      w3.cell? ⟨d, 1, none⟩ = some (.slice A n c2) ∧ w3.frozen? ⟨d, 1, none⟩ = false ∧ w3.cell? ⟨w.heap.size, 1, none⟩ = some (.int .i64 v) ∧ w3.cell? ⟨w.heap.size, 0, none⟩ = some (.string (str k)) ∧
      (∃ Q2, RefIs (w3.setCell ⟨d, 1, none⟩ (.slice A2 (n + 1) c3)) Q2 d most (l1 ++ l2 ++ [(k, v)]) ∧ Grow Q Q2 w) ∧ Keep Q w (w3.setCell ⟨d, 1, none⟩ (.slice A2 (n + 1) c3)) := by
    intro A2 c3 w3 ho hg hb
    have hK : Keep (fun i => (Value.slice A n c2).ownBlock = some i) w2 w3 := (HKA.out.keep _).trans (keep_grown hg)
    have hnd : ¬ (Value.slice A n c2).ownBlock = some d := fun e => (hAd d e).1 rfl
    have hnx : ¬ (Value.slice A n c2).ownBlock = some w.heap.size := fun e => (hAd _ e).2 rfl
    obtain ⟨Q2, a1, a2, a3⟩ := H1.out.lay hK hnd (fun i hi _ => HR3.out.1 i hi) ho (by have := Hlen.out; simp at this ⊢; omega) (fun g hg' => (hb g hg').imp (HR3.out.1 g) (fun e => Nat.le_trans HKA.out.size e))
    exact ⟨(hK.cell (p := ⟨d, 1, none⟩) hdl hnd).trans d1, (hK.soft (p := ⟨d, 1, none⟩) hdl hnd).trans d1f, (hK.cell (p := ⟨w.heap.size, 1, none⟩) hz2 hnx).trans x1, (hK.cell (p := ⟨w.heap.size, 0, none⟩) hz2 hnx).trans x0,
      ⟨Q2, a1, hg02.trans a2 hk02.size⟩, hk02.then_ a3 (fun i hi hc => (hg02 i hc).resolve_right (by omega))⟩
  have HST := Lib.hid STEP
  have HLL : Hid ((l1 ++ l2).length = n) := Lib.hid hn2.symm
  have m1 : (w2.alloc (.cells #[.string (str k), .int .i64 v] 37)).cell? ⟨d, 1, none⟩ = some (.slice A n c2) := (((Keep.refl (fun _ => False) w2).alloc (.cells #[.string (str k), .int .i64 v] 37)).cell (p := ⟨d, 1, none⟩) hdl (fun e => e)).trans d1
  clear STEP r1 r2 r3 qd1 lt1 hkA hnew g1 k1 hX hX2 hA hxz hAd nX hk02 hg02 H1 hn2 f0 f1 c1 HH
  go_wp2_with fail
  go_region_law (first
    | (refine step_append_pairs rfl (.tmp 27) (.tmp 29) rfl 0 (.slice A n c2) (l1 ++ l2) rfl HO1.out ⟨w2.heap.size, 0, none⟩ 1 1 [(k, v)] rfl rfl HN.out (by have := HLL.out; omega) (Nat.zero_le _) (n + 1) (by have := HLL.out; simp at this ⊢; omega) ?_
       intro A2 c3 w3 ho2 hg2 hb2
       obtain ⟨t1, t2, t4, t5, t3, t6⟩ := HST.out A2 c3 w3 ho2 hg2 hb2
       have HT := Lib.hid t3
       have HT6 := Lib.hid t6
       clear ho2 hg2 hb2 t3 t6))
  all_goals
    go_wp2
    go_ret2
    exact ⟨rfl, HT.out, HT6.out⟩

theorem rget_c {w : World} {Q : Nat → Prop} {d most : Nat} {L : List KV} (h : RefIs w Q d most L) (hn : (keysL L).Nodup) (hl : L.length ≤ 1000) (k : List UInt8) (o : Option Int) (e : getL k L = o) (L' : List KV) (e' : useL k L = L') (ov : Value) (ho : siT.vo o = ov) (ob : Bool) (hb : o.isSome = ob) :
    Calls Try.prog 18 #[.pointer (some ⟨d, 0, none⟩), .string (str k)] w fun e w' => e = .returned (.tuple #[ov, .bool ob]) ∧ (∃ Q', RefIs w' Q' d most L' ∧ Grow Q Q' w) ∧ Keep Q w w' := by
  subst e'; subst e; subst ho; subst hb
  by_cases hk : k ∈ keysL L
  · obtain ⟨l1, v, l2, he, h1, h2, h3⟩ := split_first hn hk
    unfold useL
    rw [h2, h3]
    exact rget_yes h he h1 hl
  · unfold useL
    rw [getL_miss hk]
    refine (rget_no h hk).mono ?_
    rintro e w' ⟨rfl, rfl⟩
    exact ⟨rfl, ⟨Q, h, Grow.refl _ _⟩, Keep.refl _ _⟩
end Go.Proofs.Ytkmknmoppigoeaa
