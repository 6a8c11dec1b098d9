/-
  The document's list: Drop.
-/
import Derived.Test.YtiipepiabeccpaaRP
namespace Go.Proofs.Ytiipepiabeccpaa
open Go.RowKit
set_option linter.all false
attribute [local go_sem] Oper.semAt_some

theorem flatP_drop : ∀ (n : Nat) (L : List KV) (j : Nat), (flatP (L.drop n))[j]? = (flatP L)[n * 2 + j]?
  | 0, L, j => by simp
  | n + 1, [], j => by simp [flatP]
  | n + 1, x :: L, j => by
    rw [List.drop_succ_cons, flatP_drop n L j, show (n + 1) * 2 + j = (n * 2 + j) + 2 by omega]
    simp [flatP]
theorem flatP_take (n : Nat) (L : List KV) (j : Nat) (u : Value) (h : (flatP (L.take n))[j]? = some u) : (flatP L)[j]? = some u := by
  have e : flatP L = flatP (L.take n) ++ flatP (L.drop n) := by rw [← flatP_app, List.take_append_drop]
  have hl := (List.getElem?_eq_some_iff.1 h).1
  rw [e, List.getElem?_append_left hl]
  exact h

set_option maxRecDepth 20000 in
set_option maxHeartbeats 4000000 in
theorem rdrop_yes {w : World} {Q : Nat → Prop} {d most : Nat} {L l1 l2 : List KV} {k : List UInt8} {v : Int} (h : RefIs w Q d most L) (he : L = l1 ++ (k, v) :: l2) (hk : k ∉ keysL l1) :
    Calls Try.prog 60 #[.pointer (some ⟨d, 0, none⟩), .string (str k)] w fun e w' => e = .returned (.bool true) ∧ (∃ Q', RefIs w' Q' d most (l1 ++ l2) ∧ Grow Q Q' w) ∧ Keep Q w w' := by
  have HF := Lib.hid (rfind_c h k (l1.length : Int) (.inl ⟨l1, v, l2, he, hk, rfl⟩))
  have hh := h
  obtain ⟨⟨lv, h1, h2, h3⟩, qd, lt, h6, _, _⟩ := h
  have hne : L ≠ [] := by rw [he]; simp
  obtain ⟨g, c, rfl, hc1, hc2, _, hcell⟩ := h2.some_ hne
  have hn : L.length = l1.length + 1 + l2.length := by rw [he]; simp; omega
  obtain ⟨i, hi⟩ : ∃ i, i = l1.length := ⟨_, rfl⟩
  obtain ⟨n, hn'⟩ : ∃ n, n = L.length := ⟨_, rfl⟩
  rw [← hi] at HF
  rw [← hn'] at hc1 h1 h2
  have hin : i + 1 ≤ n := by omega
  have hn1 : n ≤ 1101 := by omega
  have hgl : g < w.heap.size := lt g (h3 g rfl)
  have hdl := h1.lt
  have hgd : ¬ d = g := by
    intro e
    rcases h2.2 with ⟨e0, _⟩ | ⟨g', cap, cur, e1, _, e2, _⟩
    · cases e0
    · injection e1 with e1
      injection e1 with e1
      injection e1 with e1
      subst e1; subst e
      exact Row.ne (t := 45) (cs := cur) e2 h1 (by decide) rfl
  have c1 : w.cell? ⟨d, 1, none⟩ = some (.slice (some ⟨g, 0, none⟩) n c) := (h1.cell 1).trans rfl
  have f1 := h1.soft 1
  have e1 : L.take i = l1 := by rw [he, hi]; simp
  have e2 : L.drop (i + 1) = l2 := by rw [he, hi]; simp
  have C1 : ∀ j u, (flatP l1)[j]? = some u → w.cell? ⟨g, j, none⟩ = some u := fun j u hj => hcell j u (flatP_take i L j u (by rw [e1]; exact hj))
  have C2 : ∀ j u, (flatP l2)[j]? = some u → w.cell? ⟨g, (i + 1) * 2 + j, none⟩ = some u := fun j u hj => hcell _ u (by rw [← flatP_drop, e2]; exact hj)
  have HH := Lib.hid hh
  have HC1 := Lib.hid C1
  have HC2 := Lib.hid C2
  have Hlen := Lib.hid (show l1.length = i ∧ l2.length = n - (i + 1) ∧ n ≤ 1101 from ⟨hi.symm, by omega, hn1⟩)
  have Hgl := Lib.hid hgl
  have Hdl := Lib.hid hdl
  have H3 := Lib.hid (show Q g ∧ Q d from ⟨h3 g rfl, qd⟩)
  unfold maxLen at hc2
  clear hh h1 h2 h3 lt qd hcell C1 C2 e1 e2 he hk hi hn' hn hne hgl hdl h6
  go_enter Try.func60, Try.ntmps60
  go_wp2_with fail
  refine HF.out.mono ?_
  rintro e w1 ⟨rfl, rfl⟩
  clear HF
  go_wp2_with fail
  have OM : Hid (OwnP ((w.alloc (.cells #[] 45)).drew) w.heap.size (.slice (some ⟨w.heap.size, 0, none⟩) 0 0) []) := Lib.hid ((OwnP.made w).calm ((Keep.refl _ _).drew))
  have KM : Hid (Calm w ((w.alloc (.cells #[] 45)).drew)) := Lib.hid (((Keep.refl _ w).alloc _).drew)
  have CA : Hid (∀ j u, (flatP l1)[j]? = some u → ((w.alloc (.cells #[] 45)).drew).cell? ((⟨g, 0, none⟩ : Addr).add j) = some u) := Lib.hid (fun j u hj => by
    rw [addr_mid, Nat.zero_add, KM.out.cell (p := ⟨g, j, none⟩) Hgl.out (fun e => e)]; exact HC1.out j u hj)
  have STEP : ∀ (A2 : Option Addr) (c2 : Nat) (w2 : World), OwnP w2 w.heap.size (.slice A2 i c2) ([] ++ l1) → ((w.alloc (.cells #[] 45)).drew).grownBy w2 (Value.slice (some ⟨w.heap.size, 0, none⟩) 0 0).ownBlock →
      Calm w w2 ∧ w2.cell? ⟨d, 1, none⟩ = some (.slice (some ⟨g, 0, none⟩) n c) ∧ w2.frozen? ⟨d, 1, none⟩ = false ∧ ∀ j u, (flatP l2)[j]? = some u → w2.cell? ⟨g, (i + 1) * 2 + j, none⟩ = some u := by
    intro A2 c2 w2 ho hg
    have hc : Calm w w2 := KM.out.grown hg (fun k hk hlt => by
      have hk : some w.heap.size = some k := hk
      injection hk with hk
      omega)
    exact ⟨hc, (hc.cell (p := ⟨d, 1, none⟩) Hdl.out (fun e => e)).trans c1, (hc.soft (p := ⟨d, 1, none⟩) Hdl.out (fun e => e)).trans f1, fun j u hj => (hc.cell (p := ⟨g, (i + 1) * 2 + j, none⟩) Hgl.out (fun e => e)).trans (HC2.out j u hj)⟩
  have HST := Lib.hid STEP
  have LAST : ∀ (A2 : Option Addr) (c2 : Nat) (w2 : World) (A3 : Option Addr) (c3 : Nat) (w3 : World), Calm w w2 → OwnP w2 w.heap.size (.slice A2 i c2) ([] ++ l1) → OwnP w3 w.heap.size (.slice A3 (n - 1) c3) ([] ++ l1 ++ l2) → w2.grownBy w3 (Value.slice A2 i c2).ownBlock →
      Calm w w3 ∧ w3.cell? ⟨d, 1, none⟩ = some (.slice (some ⟨g, 0, none⟩) n c) ∧ w3.frozen? ⟨d, 1, none⟩ = false ∧ ((∃ Q', RefIs (w3.setCell ⟨d, 1, none⟩ (.slice A3 (n - 1) c3)) Q' d most (l1 ++ l2) ∧ Grow Q Q' w) ∧ Keep Q w (w3.setCell ⟨d, 1, none⟩ (.slice A3 (n - 1) c3))) := by
    intro A2 c2 w2 A3 c3 w3 hc ho ho3 hg
    have hc3 : Calm w w3 := hc.grown hg (fun k hk hlt => by have := (ho.block hk).1; omega)
    have hlay := HH.out.lay hc3 (fun e => e) (fun _ e _ => e.elim) (ho3.wider (Nat.zero_le _)) (by have := Hlen.out; simp; omega) (fun k hk => .inr (ho3.block hk).1)
    obtain ⟨Q', a1, a2, a3⟩ := hlay
    exact ⟨hc3, (hc3.cell (p := ⟨d, 1, none⟩) Hdl.out (fun e => e)).trans c1, (hc3.soft (p := ⟨d, 1, none⟩) Hdl.out (fun e => e)).trans f1, ⟨Q', by simpa using a1, a2⟩, a3⟩
  have HLA := Lib.hid LAST
  have m1 : (w.alloc (.cells #[] 45)).cell? ⟨d, 1, none⟩ = some (.slice (some ⟨g, 0, none⟩) n c) := (((Keep.refl (fun _ => False) w).alloc (.cells #[] 45)).cell (p := ⟨d, 1, none⟩) Hdl.out (fun e => e)).trans c1
  have hwr : IntKind.i64.wrap ((i : Int) + 1) = (i : Int) + 1 := by rw [IntKind.wrap_i64]; omega
  clear STEP LAST
  by_cases hci : c = i + 1
  · have h20 : l2 = [] := List.eq_nil_of_length_eq_zero (by have := Hlen.out; omega)
    have hni : n = i + 1 := by omega
    subst hci
    subst hni
    have Hl2 := Lib.hid h20
    clear h20
    have q1 : (i : Int) ≤ (i : Int) + 1 := by omega
    have q2 : ((i : Int) + 1).toNat = i + 1 := by omega
    have q3 : (0 : Int) ≤ (i : Int) + 1 := by omega
    have q4 : ((i : Int) + 1) ≤ ((i + 1 : Nat) : Int) := by omega
    go_region_law (first
      | (refine step_append_pairs rfl (.tmp 12) (.tmp 18) rfl w.heap.size (.slice (some ⟨w.heap.size, 0, none⟩) 0 0) [] rfl OM.out ⟨g, 0, none⟩ i (i + 1) l1 rfl Hlen.out.1 CA.out (by have := Hlen.out; simp; omega) (by simp) i (by simpa using Hlen.out.1) ?_
         intro A2 c2 w2 ho2 hg2 hb2
         obtain ⟨hc2, s1, s2, s3⟩ := HST.out A2 c2 w2 ho2 hg2
         have HO2 := Lib.hid ho2
         have HC2' := Lib.hid hc2
         have HS3 := Lib.hid s3
         clear ho2 hg2 hb2 hc2 s3)
      | (refine step_append_pairs rfl (.tmp 19) (.tmp 26) rfl w.heap.size (.slice A2 i c2) ([] ++ l1) rfl HO2.out ⟨g, 0, none⟩ 0 0 l2 rfl (by rw [Hl2.out]; rfl) (by intro j u hj; rw [Hl2.out] at hj; simp [flatP] at hj) (by have := Hlen.out; simp; omega) HC2'.out.size (i + 1 - 1) (by have := Hlen.out; simp; omega) ?_
         intro A3 c3 w3 ho3 hg3 hb3
         obtain ⟨hc3, t1, t2, t3⟩ := HLA.out A2 c2 w2 A3 c3 w3 HC2'.out HO2.out ho3 hg3
         have HT := Lib.hid t3
         clear ho3 hg3 hb3 hc3 t3))
    all_goals
      go_wp2
      go_ret
      exact ⟨rfl, HT.out⟩
  · have Hl2 := Lib.hid (show (0 : Nat) = 0 from rfl)
    have q1 : i ≤ c := by omega
    have q2 : ((i : Int) + 1).toNat = i + 1 := by omega
    have q3 : (0 : Int) ≤ (i : Int) + 1 := by omega
    have q4 : (i : Int) + 1 ≤ (n : Int) := by omega
    have q5 : (n : Int) ≤ (c : Int) := by omega
    have q6 : (i : Int) + 1 ≤ (c : Int) := by omega
    go_region_law (first
      | (refine step_append_pairs rfl (.tmp 12) (.tmp 18) rfl w.heap.size (.slice (some ⟨w.heap.size, 0, none⟩) 0 0) [] rfl OM.out ⟨g, 0, none⟩ i c l1 rfl Hlen.out.1 CA.out (by have := Hlen.out; simp; omega) (by simp) i (by simpa using Hlen.out.1) ?_
         intro A2 c2 w2 ho2 hg2 hb2
         obtain ⟨hc2, s1, s2, s3⟩ := HST.out A2 c2 w2 ho2 hg2
         have HO2 := Lib.hid ho2
         have HC2' := Lib.hid hc2
         have HS3 := Lib.hid s3
         clear ho2 hg2 hb2 hc2 s3)
      | (refine step_append_pairs rfl (.tmp 19) (.tmp 26) rfl w.heap.size (.slice A2 i c2) ([] ++ l1) rfl HO2.out ⟨g, (i + 1) * 2, none⟩ (n - (i + 1)) (c - (i + 1)) l2 rfl (by have := Hlen.out; omega) (by intro j u hj; rw [addr_mid]; exact HS3.out j u hj) (by have := Hlen.out; simp; omega) HC2'.out.size (n - 1) (by have := Hlen.out; simp; omega) ?_
         intro A3 c3 w3 ho3 hg3 hb3
         obtain ⟨hc3, t1, t2, t3⟩ := HLA.out A2 c2 w2 A3 c3 w3 HC2'.out HO2.out ho3 hg3
         have HT := Lib.hid t3
         clear ho3 hg3 hb3 hc3 t3))
    all_goals
      go_wp2
      go_ret
      exact ⟨rfl, HT.out⟩
end Go.Proofs.Ytiipepiabeccpaa
