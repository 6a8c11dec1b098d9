/-
  One instance of the list: find, use, add, remove.
-/
import Derived.Test.YtnlojohjhfpbgaaLsy1
import Derived.Test.YtnlojohjhfpbgaaLV
namespace Go.Proofs.Ytnlojohjhfpbgaa
open Go.RowKit
open Go.Maps (Keyed)
set_option linter.all false
attribute [local go_sem] Oper.semAt_some


theorem sy_leaveM {w : World} {b m most cnt : Nat} {nx pv : Option Nat → Option Nat} {es : List (Nat × (List UInt8) × (Option Addr × Nat × Nat))} (h : MemL syT w b m most cnt nx pv es) {x : Nat × (List UInt8) × (Option Addr × Nat × Nat)} (hx : x ∈ es) (hp : At es (pv (some x.1))) (hs : At es (nx (some x.1))) :
    Calls Try.prog 152 #[.pointer (some ⟨x.1, 0, none⟩)] w fun e w' => e = .returned (.tuple #[]) ∧ MemL syT w' b m most cnt (upd nx (pv (some x.1)) (nx (some x.1))) (upd pv (nx (some x.1)) (pv (some x.1))) es ∧ Keep (Nodes b es) w w' := by
  obtain ⟨c2, c3, _⟩ := h.cells (some x.1) (.inr ⟨x, hx, rfl⟩)
  obtain ⟨_, p3, pf⟩ := h.cells _ hp
  obtain ⟨s2, _, sf⟩ := h.cells _ hs
  have hne := nodes_apart b es (fun y hy => h.apart hy) hp hs 3 2 (.inr rfl) (.inl rfl) (.inr (by decide))
  refine (sy_leave x.1 _ _ _ _ _ _ w c2 c3 p3 (pf _) s2 (sf _) hne).mono ?_
  rintro e w' ⟨rfl, rfl⟩
  exact ⟨rfl, h.leaveW hp hs, keep_set (keep_set ((Keep.refl _ w).drew) _ hp.node _) _ hs.node _⟩


theorem sy_standM {w : World} {b m most cnt : Nat} {nx pv : Option Nat → Option Nat} {es : List (Nat × (List UInt8) × (Option Addr × Nat × Nat))} (h : MemL syT w b m most cnt nx pv es) {g : Nat} {k : List UInt8} {v : Option Addr × Nat × Nat} {u2 u3 : Value}
    (hg : Row w g 151 #[.string (str k), .slice v.1 v.2.1 v.2.2, u2, u3]) (hp : At es (pv none)) (hpg : pv none ≠ some g) :
    Calls Try.prog 151 #[.pointer (some ⟨g, 0, none⟩), .pointer (some ⟨b, 3, none⟩)] w fun e w' => e = .returned (.tuple #[]) ∧
      MemL syT w' b m most cnt (upd (upd nx (some g) none) (pv none) (some g)) (upd (upd pv (some g) (pv none)) none (some g)) ((g, k, v) :: es) ∧ Keep (fun i => i = g ∨ Nodes b es i) w w' := by
  obtain ⟨c2, _, cf⟩ := h.cells none (.inl rfl)
  obtain ⟨_, p3, pf⟩ := h.cells _ hp
  have hbg : b ≠ g := Row.ne h.top hg h.ne
  have hne := nodes_apart b es (fun y hy => h.apart hy) hp (y := none) (.inl rfl) 3 2 (.inr rfl) (.inl rfl) (.inr (by decide))
  have hpn : nb b (pv none) ≠ g := by
    rcases hp with h0 | ⟨y, hy, h0⟩
    · rw [h0]; exact hbg
    · rw [h0] at hpg ⊢
      exact fun e => hpg (by rw [show y.1 = g from e])
  refine (sy_stand g b (nb b (pv none)) (no (pv none)) u2 u3 _ (.bool true) w c2 ((hg.cell 2).trans rfl) ((hg.cell 3).trans rfl) (hg.soft 2) (hg.soft 3) (cf 5) p3 (pf _) (fun e => hbg e.symm) hpn hne).mono ?_
  rintro e w' ⟨rfl, rfl⟩
  exact ⟨rfl, h.standW (T := syT) (k := k) (v := v) hg hp, keep_set (keep_set ((keep_set (keep_set (Keep.refl _ w) ⟨g, 2, none⟩ (.inl rfl) _) ⟨g, 3, none⟩ (.inl rfl) _).drew) _ (.inr hp.node) _) ⟨b, 5, none⟩ (.inr (.inl rfl)) _⟩

section
variable {w : World} {R : Nat → Prop} {b m most : Nat} {nx pv : Option Nat → Option Nat} {D : DataW Unit} {es : List (Nat × (List UInt8) × (Option Addr × Nat × Nat))}


theorem sy_look (h : LruAt syT w R b m most nx pv D es) {x : Nat × (List UInt8) × (Option Addr × Nat × Nat)} (hx : x ∈ es) (k : List UInt8) (hk : x.2.1 = k) : (Instr.lookup 148 (.map (some m)) (.string (str k)) true).run Try.prog w = .ok (.tuple #[.pointer (some ⟨x.1, 0, none⟩), .bool true]) w := by
  subst hk
  obtain ⟨v, ps, h1, h2⟩ := h.map.look_ok sy_good.law sy_good.und (sy_good.zero w) (zd := nilD) (zp := []) rfl (sy_good.key _ (h.oks x hx))
  obtain ⟨a1, a2⟩ := h.look x hx
  rw [a1] at h2
  rw [a2] at h1
  rw [pe_inv h2] at h1
  exact h1

theorem sy_miss (h : LruAt syT w R b m most nx pv D es) (k : List UInt8) (hk : syT.ok k) (hn : k ∉ es.map (·.2.1)) : (Instr.lookup 148 (.map (some m)) (.string (str k)) true).run Try.prog w = .ok (.tuple #[.pointer none, .bool false]) w := by
  obtain ⟨v, ps, h1, h2⟩ := h.map.look_ok sy_good.law sy_good.und (sy_good.zero w) (zd := nilD) (zp := []) rfl (sy_good.key k hk)
  have a2 := h.miss k hk hn
  rw [Maps.atKey_of_not_has a2] at h2
  rw [a2] at h1
  rw [pe_inv_nil h2] at h1
  exact h1


set_option maxHeartbeats 1000000 in
theorem sy_find (h : LruAt syT w R b m most nx pv D es) (k : List UInt8) (pv' : Value) (B : Bool) (hl : ∀ w', Calm w w' → (Instr.lookup 148 (.map (some m)) (.string (str k)) true).run Try.prog w' = .ok (.tuple #[pv', .bool B]) w') :
    Calls Try.prog 142 #[.pointer (some ⟨b, 0, none⟩), .string (str k)] w fun e w' => e = .returned (.tuple #[pv', .bool B]) ∧ Calm w w' := by
  have ht := Lib.hid h.mem.top
  have Hl := Lib.hid hl
  clear hl h
  go_enter Try.func142, Try.ntmps142
  go_wp2_with fail
  refine (si_findable _ _).mono ?_
  rintro e w1 ⟨rfl, hc⟩
  have c2 : w1.cell? ⟨b, 2, none⟩ = some (.map (some m)) := ((ht.out.keep hc (fun e => e)).cell 2).trans rfl
  have hrun := Hl.out w1 hc
  have HC := Lib.hid hc
  clear hc Hl ht
  go_wp2
  go_ret2
  exact ⟨rfl, HC.out⟩

theorem sy_find_yes (h : LruAt syT w R b m most nx pv D es) {x : Nat × (List UInt8) × (Option Addr × Nat × Nat)} (hx : x ∈ es) (k : List UInt8) (hk : x.2.1 = k) :
    Calls Try.prog 142 #[.pointer (some ⟨b, 0, none⟩), .string (str k)] w fun e w' => e = .returned (.tuple #[.pointer (some ⟨x.1, 0, none⟩), .bool true]) ∧ Calm w w' :=
  sy_find h k _ _ (fun w' hc => sy_look (h.calm hc) hx k hk)

theorem sy_find_no (h : LruAt syT w R b m most nx pv D es) (k : List UInt8) (hk : syT.ok k) (hn : k ∉ es.map (·.2.1)) :
    Calls Try.prog 142 #[.pointer (some ⟨b, 0, none⟩), .string (str k)] w fun e w' => e = .returned (.tuple #[.pointer none, .bool false]) ∧ Calm w w' :=
  sy_find h k _ _ (fun w' hc => sy_miss (h.calm hc) k hk hn)


theorem sy_nodes (h : LruAt syT w R b m most nx pv D es) : ∀ i, Nodes b es i → R i := by
  rintro i (rfl | ⟨y, hy, rfl⟩)
  · exact h.rb
  · exact h.re y hy

theorem sy_notm (h : LruAt syT w R b m most nx pv D es) : ¬ Nodes b es m := by
  rintro (e | ⟨y, hy, e⟩)
  · exact h.mb e
  · exact h.me hy e


set_option maxHeartbeats 1000000 in
theorem sy_use_yes (h : LruAt syT w R b m most nx pv D es) {l1 l2 : List (Nat × (List UInt8) × (Option Addr × Nat × Nat))} {x : Nat × (List UInt8) × (Option Addr × Nat × Nat)} (he : es = l1 ++ x :: l2) (k : List UInt8) (hk : x.2.1 = k) :
    Calls Try.prog 144 #[.pointer (some ⟨b, 0, none⟩), .string (str k)] w fun e w' => e = .returned (.tuple #[.pointer (some ⟨x.1, 0, none⟩), .bool true]) ∧ (∃ nx' pv', LruAt syT w' R b m most nx' pv' D (l1 ++ l2 ++ [x])) ∧ Keep R w w' := by
  have hx : x ∈ es := by subst he; simp
  have H := Lib.hid h
  have He := Lib.hid he
  have Hx := Lib.hid hx
  have HF := Lib.hid (sy_find_yes h hx k hk)
  clear h he hx hk
  go_enter Try.func144, Try.ntmps144
  go_wp2_with fail
  refine HF.out.mono ?_
  rintro e w1 ⟨rfl, hc⟩
  have HC := Lib.hid hc
  clear hc HF
  go_wp2_with fail
  have h1 := H.out.calm HC.out
  obtain ⟨n1, n2, n3, n4, _⟩ := h1.nbrs He.out
  refine (sy_leaveM h1.mem Hx.out n1 n2).mono ?_
  rintro e w2 ⟨rfl, hm2, hk2⟩
  have H1 := Lib.hid h1
  have HN := Lib.hid (show At es (pv (some x.1)) ∧ At es (nx (some x.1)) ∧ pv (some x.1) ≠ some x.1 ∧ nx (some x.1) ≠ some x.1 from ⟨n1, n2, n3, n4⟩)
  have HM := Lib.hid hm2
  have HK := Lib.hid hk2
  clear h1 n1 n2 n3 n4 hm2 hk2
  go_wp2_with fail
  have hr := HM.out.ent x Hx.out
  have hlast : At es (upd pv (nx (some x.1)) (pv (some x.1)) none) ∧ upd pv (nx (some x.1)) (pv (some x.1)) none ≠ some x.1 := by
    obtain ⟨n1, n2, n3, n4⟩ := HN.out
    by_cases e : nx (some x.1) = none
    · rw [e, upd_same]; exact ⟨n1, n3⟩
    · rw [upd_other _ (fun e' => e e'.symm)]
      refine ⟨H1.out.last, fun e' => ?_⟩
      have hl : Lk nx pv (rg (es.map (·.1))) := H1.out.ring
      have hne : es ≠ [] := fun e0 => by have := Hx.out; rw [e0] at this; simp at this
      obtain ⟨l, y, hly⟩ : ∃ l y, es = l ++ [y] := ⟨es.dropLast, es.getLast hne, (List.dropLast_concat_getLast hne).symm⟩
      have er : rg (es.map (·.1)) = (none :: (l.map (·.1)).map some) ++ [some y.1, none] := by rw [hly]; unfold rg; simp
      rw [er] at hl
      have h2 := ((Lk.app _ _ _).1 hl).2.1
      rw [e'] at h2
      exact e (h2.2 ▸ h2.1)
  refine (sy_standM HM.out hr hlast.1 hlast.2).mono ?_
  rintro e w3 ⟨rfl, hm3, hk3⟩
  have hnm := sy_notm H1.out
  have hmx : ¬ (m = x.1 ∨ Nodes b es m) := by rintro (e | e); exact H1.out.me Hx.out e; exact hnm e
  have hml := H1.out.lt m H1.out.rm
  have hU := H1.out.used He.out (w' := w3) (Nat.le_trans HK.out.size hk3.size) ((hk3.block m (Nat.lt_of_lt_of_le hml HK.out.size) hmx).trans (HK.out.block m hml hnm)) hm3
  have hKK : Keep R w w3 := (HC.out.keep R).then_ ((HK.out.mono (fun i _ hi => sy_nodes H1.out i hi)).then_ (hk3.mono (R' := R) (fun i _ hi => by
    rcases hi with rfl | hi
    · exact H1.out.re x Hx.out
    · exact sy_nodes H1.out i hi)) (fun i _ hi => hi)) (fun i _ hi => hi)
  have HU := Lib.hid hU
  have HKK := Lib.hid hKK
  clear hU hKK hm3 hk3 hr hlast hmx hnm hml HM HK
  go_wp2
  go_ret2
  exact ⟨rfl, HU.out, HKK.out⟩

set_option maxHeartbeats 1000000 in
theorem sy_use_no (h : LruAt syT w R b m most nx pv D es) (k : List UInt8) (hk : syT.ok k) (hn : k ∉ es.map (·.2.1)) :
    Calls Try.prog 144 #[.pointer (some ⟨b, 0, none⟩), .string (str k)] w fun e w' => e = .returned (.tuple #[.pointer none, .bool false]) ∧ Calm w w' := by
  have HF := Lib.hid (sy_find_no h k hk hn)
  clear h hk hn
  go_enter Try.func144, Try.ntmps144
  go_wp2_with fail
  refine HF.out.mono ?_
  rintro e w1 ⟨rfl, hc⟩
  have HC := Lib.hid hc
  clear hc HF
  go_wp2
  go_ret2
  exact ⟨rfl, HC.out⟩


set_option maxHeartbeats 2000000 in
theorem sy_add (h : LruAt syT w R b m most nx pv D es) (g : Nat) (k : List UInt8) (v : Option Addr × Nat × Nat) (u2 u3 : Value) (hg : Row w g 151 #[.string (str k), .slice v.1 v.2.1 v.2.2, u2, u3]) (hgR : ¬ R g) (hk : syT.ok k) (hn : k ∉ es.map (·.2.1)) (hfew : es.length ≤ 1100) :
    Calls Try.prog 141 #[.pointer (some ⟨b, 0, none⟩), .pointer (some ⟨g, 0, none⟩)] w fun e w' => e = .returned (.tuple #[]) ∧ (∃ nx' pv' D', LruAt syT w' (fun i => R i ∨ i = g) b m most nx' pv' D' (es ++ [(g, k, v)])) ∧ Keep (fun i => R i ∨ i = g) w w' := by
  have hp := h.last
  have hpg : pv none ≠ some g := by
    rcases hp with e | ⟨y, hy, e⟩
    · rw [e]; simp
    · rw [e]; intro e'; cases e'; exact hgR (h.re y hy)
  have H := Lib.hid h
  have HS := Lib.hid (sy_standM h.mem (k := k) (v := v) hg hp hpg)
  have Hfew := Lib.hid hfew
  have HR := Lib.hid hgR
  have Hk := Lib.hid hk
  have Hn := Lib.hid hn
  clear h hp hpg hfew hgR hk hn hg
  go_enter Try.func141, Try.ntmps141
  go_wp2_with fail
  refine HS.out.mono ?_
  rintro e w1 ⟨rfl, hm1, hk1⟩
  have hfew := Hfew.out
  have c1 : w1.cell? ⟨b, 1, none⟩ = some (.int .i64 (es.length : Int)) := (hm1.top.cell 1).trans rfl
  have f1 := hm1.top.soft 1
  have hm2 : MemL syT (w1.setCell ⟨b, 1, none⟩ (.int .i64 ((es.length : Int) + 1))) b m most (es.length + 1) _ _ ((g, k, v) :: es) := hm1.setCnt (es.length + 1)
  have hgk : w1.cell? ⟨g, 0, none⟩ = some (.string (str k)) := ((hm1.ent (g, k, v) (by simp)).cell 0).trans rfl
  have hbg : ¬ b = g := hm1.apart (x := (g, k, v)) (by simp)
  have HK2 : Hid (Keep (fun i => R i ∨ i = g) w (w1.setCell ⟨b, 1, none⟩ (.int .i64 ((es.length : Int) + 1)))) := Lib.hid ((hk1.mono (fun i _ hi => by
    rcases hi with rfl | hi
    · exact .inr rfl
    · exact .inl (sy_nodes H.out i hi))).store (fun _ => .inl H.out.rb) _)
  have HM2 : Hid ((w1.setCell ⟨b, 1, none⟩ (.int .i64 ((es.length : Int) + 1))).ownsMap Try.prog syT.K pe m (Maps.size D) D) := Lib.hid (owns_keep H.out.map ((Below.heap_setCell _ _ _ _ H.out.mb).trans (hk1.block m (H.out.lt m H.out.rm) (fun e => by
    rcases e with e | e
    · exact HR.out (e ▸ H.out.rm)
    · exact sy_notm H.out e))))
  have HM := Lib.hid hm2
  clear hm1 hk1 HS hm2
  go_wp2_with fail
  refine (si_findable _ _).mono ?_
  rintro e w3 ⟨rfl, hc⟩
  have hm3 := HM.out.calm hc
  have hK3 := HK2.out.then_ hc (fun i _ hi => hi.elim)
  have hmap3 := owns_keep HM2.out (hc.block m (HM2.out.lt) (fun e => e))
  obtain ⟨w4, hrun, hown4, hturn⟩ := (show w3.drew.ownsMap Try.prog syT.K pe m (Maps.size D) D from hmap3).store sy_good.law sy_good.und (by rw [H.out.sz]; unfold maxLen; omega) (sy_good.key k Hk.out) (pe_at g)
  have hrun' : (Instr.mapUpdate 148 (.map (some m)) (.string (str k)) (.pointer (some ⟨g, 0, none⟩))).run Try.prog w3.drew = .ok () w4 := hrun
  have b2 : w3.cell? ⟨b, 2, none⟩ = some (.map (some m)) := (hm3.top.cell 2).trans rfl
  have g0 : w3.cell? ⟨g, 0, none⟩ = some (.string (str k)) := ((hm3.ent (g, k, v) (by simp)).cell 0).trans rfl
  have hk4 : Keep (fun i => some m = some i) w3.drew w4 := ⟨hturn.grown.os, hturn.grown.tape, hturn.grown.output, hturn.grown.size, fun i hi hn => hturn.grown.block i hi (fun e => hn e.symm)⟩
  have hnm : ∀ i, Nodes b ((g, k, v) :: es) i → ¬ (some m = some i) := by
    rintro i (rfl | ⟨y, hy, rfl⟩) e
    · cases e; exact H.out.mb rfl
    · rcases List.mem_cons.1 hy with rfl | hy
      · cases e; exact HR.out H.out.rm
      · cases e; exact H.out.me hy rfl
  have hm4 := hm3.drew.keep hk4 (hnm b (.inl rfl)) (fun x hx => hnm _ (.inr ⟨x, hx, rfl⟩))
  have hs4 : w4.heap.size ≥ w.heap.size := Nat.le_trans hK3.size hk4.size
  have hgl : g < w4.heap.size := (hm4.ent (g, k, v) (by simp)).lt
  have hA := H.out.added sy_good (w' := w4) HR.out hgl Hk.out Hn.out Hfew.out hs4 hown4 hm4
  have hKK : Keep (fun i => R i ∨ i = g) w w4 := (hK3.drew).then_ hk4 (fun i _ e => by cases e; exact .inl H.out.rm)
  have HA := Lib.hid hA
  have HKK := Lib.hid hKK
  clear hA hKK hm3 hK3 hmap3 hrun hown4 hturn hk4 hnm hm4 hs4 hgl HM HM2 HK2 hfew c1 f1 hgk hbg hc
  go_wp2_with fail
  go_region
  go_end0
  exact ⟨rfl, HA.out, HKK.out⟩


set_option maxHeartbeats 2000000 in
theorem sy_remove (h : LruAt syT w R b m most nx pv D es) {l1 l2 : List (Nat × (List UInt8) × (Option Addr × Nat × Nat))} {x : Nat × (List UInt8) × (Option Addr × Nat × Nat)} (he : es = l1 ++ x :: l2) :
    Calls Try.prog 143 #[.pointer (some ⟨b, 0, none⟩), .pointer (some ⟨x.1, 0, none⟩)] w fun e w' => e = .returned (.tuple #[]) ∧ (∃ nx' pv' D', LruAt syT w' R b m most nx' pv' D' (l1 ++ l2)) ∧ Keep R w w' ∧ w'.cell? ⟨x.1, 0, none⟩ = some (syT.kv x.2.1) := by
  obtain ⟨g, k, v⟩ := x
  have hx : (g, k, v) ∈ es := by subst he; simp
  obtain ⟨n1, n2, _, _, _⟩ := h.nbrs he
  have hlen : 1 ≤ es.length := by subst he; simp; omega
  have H := Lib.hid h
  have He := Lib.hid he
  have Hx := Lib.hid hx
  have Hfew := Lib.hid (show 1 ≤ es.length ∧ es.length ≤ 1101 from ⟨hlen, h.few⟩)
  have HS := Lib.hid (sy_leaveM h.mem hx n1 n2)
  clear h he hx n1 n2 hlen
  go_enter Try.func143, Try.ntmps143
  go_wp2_with fail
  refine HS.out.mono ?_
  rintro e w1 ⟨rfl, hm1, hk1⟩
  obtain ⟨hf1, hf2⟩ := Hfew.out
  have c1 : w1.cell? ⟨b, 1, none⟩ = some (.int .i64 (es.length : Int)) := (hm1.top.cell 1).trans rfl
  have f1 := hm1.top.soft 1
  have hm2 := hm1.setCnt (es.length - 1)
  rw [show ((es.length - 1 : Nat) : Int) = (es.length : Int) - 1 by omega] at hm2
  have hgk : w1.cell? ⟨g, 0, none⟩ = some (.string (str k)) := ((hm1.ent (g, k, v) Hx.out).cell 0).trans rfl
  have hbg : ¬ b = g := hm1.apart (x := (g, k, v)) Hx.out
  have HK2 : Hid (Keep R w (w1.setCell ⟨b, 1, none⟩ (.int .i64 ((es.length : Int) - 1)))) := Lib.hid ((hk1.mono (fun i _ hi => sy_nodes H.out i hi)).store (fun _ => H.out.rb) _)
  have HM2 : Hid ((w1.setCell ⟨b, 1, none⟩ (.int .i64 ((es.length : Int) - 1))).ownsMap Try.prog syT.K pe m (Maps.size D) D) := Lib.hid (owns_keep H.out.map ((Below.heap_setCell _ _ _ _ H.out.mb).trans (hk1.block m (H.out.lt m H.out.rm) (sy_notm H.out))))
  have HM := Lib.hid hm2
  clear hm1 hk1 HS hm2
  go_wp2_with fail
  refine (si_findable _ _).mono ?_
  rintro e w3 ⟨rfl, hc⟩
  have hm3 := HM.out.calm hc
  have hK3 := HK2.out.then_ hc (fun i _ hi => hi.elim)
  have hmap3 := owns_keep HM2.out (hc.block m (HM2.out.lt) (fun e => e))
  obtain ⟨w4, hrun, hown4, hturn⟩ := (show w3.drew.ownsMap Try.prog syT.K pe m (Maps.size D) D from hmap3).drop sy_good.law sy_good.und (sy_good.key k (H.out.oks _ Hx.out)) 0
  have hrun' : (Builtin.delete_ #[148, 9] 0 #[.map (some m), .string (str k)]).run Try.prog w3.drew = .ok (.tuple #[]) w4 := hrun
  have b2 : w3.cell? ⟨b, 2, none⟩ = some (.map (some m)) := (hm3.top.cell 2).trans rfl
  have g0 : w3.cell? ⟨g, 0, none⟩ = some (.string (str k)) := ((hm3.ent (g, k, v) Hx.out).cell 0).trans rfl
  have hk4 : Keep (fun i => some m = some i) w3.drew w4 := ⟨hturn.grown.os, hturn.grown.tape, hturn.grown.output, hturn.grown.size, fun i hi hn => hturn.grown.block i hi (fun e => hn e.symm)⟩
  have hnm : ∀ i, Nodes b es i → ¬ (some m = some i) := by
    rintro i (rfl | ⟨y, hy, rfl⟩) e
    · cases e; exact H.out.mb rfl
    · cases e; exact H.out.me hy rfl
  have hm4 := hm3.drew.keep hk4 (hnm b (.inl rfl)) (fun x hx => hnm _ (.inr ⟨x, hx, rfl⟩))
  have hs4 : w4.heap.size ≥ w.heap.size := Nat.le_trans hK3.size hk4.size
  have hA := H.out.removed sy_good He.out (w' := w4) hs4 hown4 hm4
  have hKK : Keep R w w4 := (hK3.drew).then_ hk4 (fun i _ e => by cases e; exact H.out.rm)
  have hC : w4.cell? ⟨g, 0, none⟩ = some (.string (str k)) := ((hm4.ent (g, k, v) Hx.out).cell 0).trans rfl
  have HA := Lib.hid hA
  have HKK := Lib.hid hKK
  have HC := Lib.hid hC
  clear hA hKK hC hm3 hK3 hmap3 hrun hown4 hturn hk4 hnm hm4 hs4 HM HM2 HK2 c1 f1 hgk hbg hc hf1 hf2
  go_wp2_with fail
  trace_state
  go_region
  go_end0
  exact ⟨rfl, HA.out, HKK.out, HC.out⟩
end
end Go.Proofs.Ytnlojohjhfpbgaa
