/-
  One instance of the list: New, Put, Get, Peek, Touch, Drop, Oldest, Len, as a caller sees them.
-/
import Derived.Test.YtnlojohjhfpbgaaLsy2
import Derived.Test.YtnlojohjhfpbgaaLW
namespace Go.Proofs.Ytnlojohjhfpbgaa
open Go.RowKit
open Go.Maps (Keyed)
set_option linter.all false
attribute [local go_sem] Oper.semAt_some


set_option maxHeartbeats 1000000 in
theorem sy_close (b : Nat) (u5 u6 : Value) (w : World) (c5 : w.cell? ⟨b, 5, none⟩ = some u5) (c6 : w.cell? ⟨b, 6, none⟩ = some u6) (f5 : w.frozen? ⟨b, 5, none⟩ = false) (f6 : w.frozen? ⟨b, 6, none⟩ = false) :
    Calls Try.prog 80 #[.pointer (some ⟨b, 3, none⟩)] w fun e w' => e = .returned (.tuple #[]) ∧ (w.setCell ⟨b, 5, none⟩ (.pointer (some ⟨b, 3, none⟩))).setCell ⟨b, 6, none⟩ (.pointer (some ⟨b, 3, none⟩)) = w' := by
  go_enter Try.func80, Try.ntmps80
  go_wp2
  go_end0
  exact ⟨rfl, rfl⟩


set_option maxHeartbeats 1000000 in
theorem sy_new (a : Int) (most : Nat) (hm : (if a < 1 then 1 else a) = (most : Int)) (hp : 1 ≤ most) (ht : most ≤ 1100) (w : World) :
    Calls Try.prog 75 #[.int .i64 a] w fun e w' => e = .returned (.pointer (some ⟨w.heap.size + 1, 0, none⟩)) ∧ LruIs syT w' (fun i => i = w.heap.size ∨ i = w.heap.size + 1) (w.heap.size + 1) most [] ∧ Calm w w' := by
  have hmm := @run_makeMap Try.prog
  have Hp := Lib.hid hp
  have Ht := Lib.hid ht
  clear hp ht
  go_enter Try.func75, Try.ntmps75
  go_wp2_with fail
  have hr := Row.made (w.alloc (.map #[] 0)) 153 #[.int .i64 (most : Int), .int .i64 0, .map (some w.heap.size), .string ⟨#[]⟩, .slice none 0 0, .pointer none, .pointer none]
  rw [World.size_alloc] at hr
  have hmap := (World.ownsMap_made w Try.prog syT.K pe).alloc (.cells #[.int .i64 (most : Int), .int .i64 0, .map (some w.heap.size), .string ⟨#[]⟩, .slice none 0 0, .pointer none, .pointer none] 153)
  have hc : Calm w ((w.alloc (.map #[] 0)).alloc (.cells #[.int .i64 (most : Int), .int .i64 0, .map (some w.heap.size), .string ⟨#[]⟩, .slice none 0 0, .pointer none, .pointer none] 153)) := ((Keep.refl _ w).alloc _).alloc _
  have hz : ((w.alloc (.map #[] 0)).alloc (.cells #[.int .i64 (most : Int), .int .i64 0, .map (some w.heap.size), .string ⟨#[]⟩, .slice none 0 0, .pointer none, .pointer none] 153)).heap.size = w.heap.size + 2 := by simp
  refine (sy_close (w.heap.size + 1) _ _ _ ((hr.cell 5).trans rfl) ((hr.cell 6).trans rfl) (hr.soft 5) (hr.soft 6)).mono ?_
  generalize (w.alloc (.map #[] 0)).alloc (.cells #[.int .i64 (most : Int), .int .i64 0, .map (some w.heap.size), .string ⟨#[]⟩, .slice none 0 0, .pointer none, .pointer none] 153) = W1 at hr hmap hc hz ⊢
  rintro e w2 ⟨rfl, rfl⟩
  have ht : Row ((W1.setCell ⟨w.heap.size + 1, 5, none⟩ (.pointer (some ⟨w.heap.size + 1, 3, none⟩))).setCell ⟨w.heap.size + 1, 6, none⟩ (.pointer (some ⟨w.heap.size + 1, 3, none⟩))) (w.heap.size + 1) 153 #[.int .i64 (most : Int), .int .i64 0, .map (some w.heap.size), .string ⟨#[]⟩, .slice none 0 0, pp (w.heap.size + 1) none, pp (w.heap.size + 1) none] := by
    simpa [pp, nb, no] using (hr.store 5 (.pointer (some ⟨w.heap.size + 1, 3, none⟩))).store 6 (.pointer (some ⟨w.heap.size + 1, 3, none⟩))
  have hm2 := owns_keep (w' := (W1.setCell ⟨w.heap.size + 1, 5, none⟩ (.pointer (some ⟨w.heap.size + 1, 3, none⟩))).setCell ⟨w.heap.size + 1, 6, none⟩ (.pointer (some ⟨w.heap.size + 1, 3, none⟩))) hmap ((Below.heap_setCell _ _ _ _ (by show w.heap.size ≠ w.heap.size + 1; omega)).trans (Below.heap_setCell _ _ _ _ (by show w.heap.size ≠ w.heap.size + 1; omega)))
  have hU : LruIs syT ((W1.setCell ⟨w.heap.size + 1, 5, none⟩ (.pointer (some ⟨w.heap.size + 1, 3, none⟩))).setCell ⟨w.heap.size + 1, 6, none⟩ (.pointer (some ⟨w.heap.size + 1, 3, none⟩))) (fun i => i = w.heap.size ∨ i = w.heap.size + 1) (w.heap.size + 1) most [] := by
    refine ⟨w.heap.size, fun _ => none, fun _ => none, _, [], ⟨⟨sy_good.ne, ht, fun x hx => by cases hx⟩, ⟨⟨rfl, rfl⟩, trivial⟩, List.nodup_nil, List.nodup_nil, fun x hx => (by cases hx), owns_tight hm2, rfl, fun x hx => (by cases hx), fun _ _ _ => rfl, .inr rfl, .inl rfl, fun x hx => (by cases hx), ?_, by simp, Hp.out, Ht.out⟩, rfl, by simp⟩
    rintro i (rfl | rfl) <;> simp [World.setCell] <;> omega
  have hC : Calm w ((W1.setCell ⟨w.heap.size + 1, 5, none⟩ (.pointer (some ⟨w.heap.size + 1, 3, none⟩))).setCell ⟨w.heap.size + 1, 6, none⟩ (.pointer (some ⟨w.heap.size + 1, 3, none⟩))) :=
    (hc.store (p := ⟨w.heap.size + 1, 5, none⟩) (fun h => by have h' : w.heap.size + 1 < w.heap.size := h; omega) _).store (p := ⟨w.heap.size + 1, 6, none⟩) (fun h => by have h' : w.heap.size + 1 < w.heap.size := h; omega) _
  have HU := Lib.hid hU
  have HC := Lib.hid hC
  clear hU hC hm2 ht hr hmap hc hz
  go_wp2
  go_ret
  exact ⟨rfl, HU.out, HC.out⟩

section
variable {w : World} {R : Nat → Prop} {b m most : Nat} {nx pv : Option Nat → Option Nat} {D : DataW Unit} {es : List (Nat × (List UInt8) × (Option Addr × Nat × Nat))}

set_option maxHeartbeats 1000000 in
theorem sy_put_yes (h : LruAt syT w R b m most nx pv D es) {l1 l2 : List (Nat × (List UInt8) × (Option Addr × Nat × Nat))} {g : Nat} {k : List UInt8} {v0 : Option Addr × Nat × Nat} (he : es = l1 ++ (g, k, v0) :: l2) (v : Option Addr × Nat × Nat) :
    Calls Try.prog 140 #[.pointer (some ⟨b, 0, none⟩), .string (str k), .slice v.1 v.2.1 v.2.2] w fun e w' => e = .returned (.tuple #[.string ⟨#[]⟩, .bool false]) ∧ (∃ nx' pv', LruAt syT w' R b m most nx' pv' D (l1 ++ l2 ++ [(g, k, v)])) ∧ Keep R w w' := by
  have HS := Lib.hid (sy_use_yes h he k rfl)
  have HR := Lib.hid (h.re (g, k, v0) (by subst he; simp))
  clear h he
  go_enter Try.func140, Try.ntmps140
  go_wp2_with fail
  refine HS.out.mono ?_
  rintro e w1 ⟨rfl, ⟨nx', pv', h1⟩, hk1⟩
  have hr := h1.mem.ent (g, k, v0) (by simp)
  have c1 : w1.cell? ⟨g, 1, none⟩ = some (syT.vv v0) := (hr.cell 1).trans rfl
  have f1 : w1.frozen? ⟨g, 1, none⟩ = false := hr.soft 1
  have H2 := Lib.hid (h1.value v)
  have HK : Hid (Keep R w (w1.setCell ⟨g, 1, none⟩ (syT.vv v))) := Lib.hid (hk1.store (fun _ => HR.out) _)
  clear h1 hk1 hr HS
  go_wp2
  go_ret2
  exact ⟨rfl, ⟨_, _, H2.out⟩, HK.out⟩


set_option maxHeartbeats 1000000 in
theorem sy_put_room (h : LruAt syT w R b m most nx pv D es) (k : List UInt8) (v : Option Addr × Nat × Nat) (hk : syT.ok k) (hn : k ∉ es.map (·.2.1)) (hr : es.length < most) :
    Calls Try.prog 140 #[.pointer (some ⟨b, 0, none⟩), .string (str k), .slice v.1 v.2.1 v.2.2] w fun e w' => e = .returned (.tuple #[.string ⟨#[]⟩, .bool false]) ∧ ∃ g R' nx' pv' D', LruAt syT w' R' b m most nx' pv' D' (es ++ [(g, k, v)]) ∧ Grow R R' w ∧ Keep R w w' := by
  have HS := Lib.hid (sy_use_no h k hk hn)
  have H := Lib.hid h
  have Hk := Lib.hid (show syT.ok k ∧ k ∉ es.map (·.2.1) ∧ es.length < most from ⟨hk, hn, hr⟩)
  clear h hk hn hr
  go_enter Try.func140, Try.ntmps140
  go_wp2_with fail
  refine HS.out.mono ?_
  rintro e w1 ⟨rfl, hk1⟩
  have HK1 := Lib.hid hk1
  clear hk1 HS
  go_wp2_with fail
  have hgr : Row (w1.alloc (.cells #[.string (str k), .slice v.1 v.2.1 v.2.2, .pointer none, .pointer none] 151)) w1.heap.size 151 #[.string (str k), .slice v.1 v.2.1 v.2.2, .pointer none, .pointer none] := Row.made _ _ _
  have h2 := (H.out.calm HK1.out).calm ((Keep.refl _ w1).alloc (.cells #[.string (str k), .slice v.1 v.2.1 v.2.2, .pointer none, .pointer none] 151))
  have hz := HK1.out.size
  have hgR : ¬ R w1.heap.size := fun hc => by have := H.out.lt _ hc; omega
  refine (sy_add h2 _ k v _ _ hgr hgR Hk.out.1 Hk.out.2.1 (by have := Hk.out.2.2; have := H.out.top; omega)).mono ?_
  rintro e w3 ⟨rfl, ⟨nx', pv', D', h3⟩, hk3⟩
  have c0 : w3.cell? ⟨b, 0, none⟩ = some (.int .i64 (most : Int)) := (h3.mem.top.cell 0).trans rfl
  have c1 : w3.cell? ⟨b, 1, none⟩ = some (.int .i64 ((es.length + 1 : Nat) : Int)) := (h3.mem.top.cell 1).trans (by simp)
  have hle : ((es.length + 1 : Nat) : Int) ≤ (most : Int) := by have := Hk.out.2.2; omega
  have H3 := Lib.hid (h3.calm ((Keep.refl _ w3).drew))
  have HK3 : Hid (Keep R w w3.drew) := Lib.hid ((((HK1.out.keep R).alloc _).then_ hk3 (fun i hi hc => hc.elim id (fun e => by subst e; exact absurd hi (by omega)))).drew)
  have HG : Hid (Grow R (fun i => R i ∨ i = w1.heap.size) w) := Lib.hid (fun i hi => hi.imp id (fun e => by subst e; exact hz))
  clear h3 hk3 hgr h2 hgR hz
  go_wp2_with fail
  go_region
  go_wp2
  go_ret2
  exact ⟨rfl, _, _, _, _, _, H3.out, HG.out, HK3.out⟩


set_option maxHeartbeats 2000000 in
theorem sy_put_full (h : LruAt syT w R b m most nx pv D es) (k : List UInt8) (v : Option Addr × Nat × Nat) (hk : syT.ok k) (hn : k ∉ es.map (·.2.1)) {x : Nat × (List UInt8) × (Option Addr × Nat × Nat)} {l : List (Nat × (List UInt8) × (Option Addr × Nat × Nat))} (he : es = x :: l) (hr : es.length = most) :
    Calls Try.prog 140 #[.pointer (some ⟨b, 0, none⟩), .string (str k), .slice v.1 v.2.1 v.2.2] w fun e w' => e = .returned (.tuple #[syT.kv x.2.1, .bool true]) ∧ ∃ g R' nx' pv' D', LruAt syT w' R' b m most nx' pv' D' (l ++ [(g, k, v)]) ∧ Grow R R' w ∧ Keep R w w' := by
  have HS := Lib.hid (sy_use_no h k hk hn)
  have H := Lib.hid h
  have He := Lib.hid he
  have Hk := Lib.hid (show syT.ok k ∧ k ∉ es.map (·.2.1) ∧ es.length = most from ⟨hk, hn, hr⟩)
  clear h hk hn hr he
  go_enter Try.func140, Try.ntmps140
  go_wp2_with fail
  refine HS.out.mono ?_
  rintro e w1 ⟨rfl, hk1⟩
  have HK1 := Lib.hid hk1
  clear hk1 HS
  go_wp2_with fail
  have hgr : Row (w1.alloc (.cells #[.string (str k), .slice v.1 v.2.1 v.2.2, .pointer none, .pointer none] 151)) w1.heap.size 151 #[.string (str k), .slice v.1 v.2.1 v.2.2, .pointer none, .pointer none] := Row.made _ _ _
  have h2 := (H.out.calm HK1.out).calm ((Keep.refl _ w1).alloc (.cells #[.string (str k), .slice v.1 v.2.1 v.2.2, .pointer none, .pointer none] 151))
  have hz := HK1.out.size
  have hgR : ¬ R w1.heap.size := fun hc => by have := H.out.lt _ hc; omega
  refine (sy_add h2 _ k v _ _ hgr hgR Hk.out.1 Hk.out.2.1 (by have := Hk.out.2.2; have := H.out.top; omega)).mono ?_
  rintro e w3 ⟨rfl, ⟨nx', pv', D', h3⟩, hk3⟩
  have hfull := Hk.out.2.2
  have c0 : w3.cell? ⟨b, 0, none⟩ = some (.int .i64 (most : Int)) := (h3.mem.top.cell 0).trans rfl
  have c1 : w3.cell? ⟨b, 1, none⟩ = some (.int .i64 ((es.length + 1 : Nat) : Int)) := (h3.mem.top.cell 1).trans (by simp)
  have hle : ¬ ((es.length + 1 : Nat) : Int) ≤ (most : Int) := by omega
  have h3d := h3.calm ((Keep.refl _ w3).drew)
  rw [He.out, List.cons_append] at h3d
  have hnx : nx' none = some x.1 := by have := h3d.ring.first; simpa using this
  have c6 : w3.cell? ⟨b, 6, none⟩ = some (.pointer (some ⟨x.1, 0, none⟩)) := (h3.mem.top.cell 6).trans (by rw [hnx]; rfl)
  have HR := Lib.hid (sy_remove (l1 := []) h3d rfl)
  have HK3 : Hid (Keep R w w3.drew) := Lib.hid ((((HK1.out.keep R).alloc _).then_ hk3 (fun i hi hc => hc.elim id (fun e => by subst e; exact absurd hi (by omega)))).drew)
  have HG : Hid (Grow R (fun i => R i ∨ i = w1.heap.size) w) := Lib.hid (fun i hi => hi.imp id (fun e => by subst e; exact hz))
  have Hz := Lib.hid hz
  clear h3 hk3 hgr h2 hgR h3d hnx hfull hz
  go_wp2_with fail
  go_region
  go_wp2_with fail
  refine HR.out.mono ?_
  rintro e w5 ⟨rfl, ⟨nx2, pv2, D2, h5⟩, hk5, hc5⟩
  have H5 := Lib.hid h5
  have HK5 : Hid (Keep R w w5) := Lib.hid (HK3.out.then_ hk5 (fun i hi hc => hc.elim id (fun e => by have := Hz.out; subst e; exact absurd hi (by omega))))
  clear h5 hk5 HR
  go_wp2
  go_ret2
  exact ⟨rfl, _, _, _, _, _, H5.out, HG.out, HK5.out⟩


set_option maxHeartbeats 1000000 in
theorem sy_len (h : LruAt syT w R b m most nx pv D es) : Calls Try.prog 137 #[.pointer (some ⟨b, 0, none⟩)] w fun e w' => e = .returned (.int .i64 (es.length : Int)) ∧ w = w' := by
  have c1 : w.cell? ⟨b, 1, none⟩ = some (.int .i64 (es.length : Int)) := (h.mem.top.cell 1).trans rfl
  clear h
  go_enter Try.func137, Try.ntmps137
  go_wp2
  go_ret
  exact ⟨rfl, rfl⟩


set_option maxHeartbeats 1000000 in
theorem sy_drop_yes (h : LruAt syT w R b m most nx pv D es) {l1 l2 : List (Nat × (List UInt8) × (Option Addr × Nat × Nat))} {x : Nat × (List UInt8) × (Option Addr × Nat × Nat)} (he : es = l1 ++ x :: l2) (k : List UInt8) (hk : x.2.1 = k) :
    Calls Try.prog 154 #[.pointer (some ⟨b, 0, none⟩), .string (str k)] w fun e w' => e = .returned (.bool true) ∧ (∃ nx' pv' D', LruAt syT w' R b m most nx' pv' D' (l1 ++ l2)) ∧ Keep R w w' := by
  have HS := Lib.hid (sy_find_yes h (by subst he; simp) k hk)
  have H := Lib.hid h
  have He := Lib.hid he
  clear h he hk
  go_enter Try.func154, Try.ntmps154
  go_wp2_with fail
  refine HS.out.mono ?_
  rintro e w1 ⟨rfl, hk1⟩
  have HK1 := Lib.hid hk1
  have HR := Lib.hid (sy_remove (H.out.calm hk1) He.out)
  clear hk1 HS
  go_wp2_with fail
  refine HR.out.mono ?_
  rintro e w2 ⟨rfl, ⟨nx', pv', D', h3⟩, hk3, _⟩
  have H3 := Lib.hid h3
  have HK3 : Hid (Keep R w w2) := Lib.hid ((HK1.out.keep R).trans hk3)
  clear h3 hk3 HR
  go_wp2
  go_ret
  exact ⟨rfl, ⟨_, _, _, H3.out⟩, HK3.out⟩

set_option maxHeartbeats 1000000 in
theorem sy_drop_no (h : LruAt syT w R b m most nx pv D es) (k : List UInt8) (hk : syT.ok k) (hn : k ∉ es.map (·.2.1)) :
    Calls Try.prog 154 #[.pointer (some ⟨b, 0, none⟩), .string (str k)] w fun e w' => e = .returned (.bool false) ∧ Calm w w' := by
  have HS := Lib.hid (sy_find_no h k hk hn)
  clear h hk hn
  go_enter Try.func154, Try.ntmps154
  go_wp2_with fail
  refine HS.out.mono ?_
  rintro e w1 ⟨rfl, hk1⟩
  have HK1 := Lib.hid hk1
  clear hk1 HS
  go_wp2
  go_ret
  exact ⟨rfl, HK1.out⟩


set_option maxHeartbeats 1000000 in
theorem sy_touch_yes (h : LruAt syT w R b m most nx pv D es) {l1 l2 : List (Nat × (List UInt8) × (Option Addr × Nat × Nat))} {x : Nat × (List UInt8) × (Option Addr × Nat × Nat)} (he : es = l1 ++ x :: l2) (k : List UInt8) (hk : x.2.1 = k) :
    Calls Try.prog 155 #[.pointer (some ⟨b, 0, none⟩), .string (str k)] w fun e w' => e = .returned (.bool true) ∧ (∃ nx' pv', LruAt syT w' R b m most nx' pv' D (l1 ++ l2 ++ [x])) ∧ Keep R w w' := by
  have HS := Lib.hid (sy_use_yes h he k hk)
  clear h he hk
  go_enter Try.func155, Try.ntmps155
  go_wp2_with fail
  refine HS.out.mono ?_
  rintro e w1 ⟨rfl, h1, hk1⟩
  have H1 := Lib.hid h1
  have HK1 := Lib.hid hk1
  clear h1 hk1 HS
  go_wp2
  go_ret
  exact ⟨rfl, H1.out, HK1.out⟩

set_option maxHeartbeats 1000000 in
theorem sy_touch_no (h : LruAt syT w R b m most nx pv D es) (k : List UInt8) (hk : syT.ok k) (hn : k ∉ es.map (·.2.1)) :
    Calls Try.prog 155 #[.pointer (some ⟨b, 0, none⟩), .string (str k)] w fun e w' => e = .returned (.bool false) ∧ Calm w w' := by
  have HS := Lib.hid (sy_use_no h k hk hn)
  clear h hk hn
  go_enter Try.func155, Try.ntmps155
  go_wp2_with fail
  refine HS.out.mono ?_
  rintro e w1 ⟨rfl, hk1⟩
  have HK1 := Lib.hid hk1
  clear hk1 HS
  go_wp2
  go_ret
  exact ⟨rfl, HK1.out⟩


set_option maxHeartbeats 1000000 in
theorem sy_peek_yes (h : LruAt syT w R b m most nx pv D es) {g : Nat} {k : List UInt8} {v : Option Addr × Nat × Nat} (hx : (g, k, v) ∈ es) :
    Calls Try.prog 139 #[.pointer (some ⟨b, 0, none⟩), .string (str k)] w fun e w' => e = .returned (.tuple #[.slice v.1 v.2.1 v.2.2, .bool true]) ∧ Calm w w' := by
  have HS := Lib.hid (sy_find_yes h hx k rfl)
  have H := Lib.hid h
  have Hx := Lib.hid hx
  clear h hx
  go_enter Try.func139, Try.ntmps139
  go_wp2_with fail
  refine HS.out.mono ?_
  rintro e w1 ⟨rfl, hk1⟩
  have c1 : w1.cell? ⟨g, 1, none⟩ = some (.slice v.1 v.2.1 v.2.2) := (((H.out.calm hk1).mem.ent _ Hx.out).cell 1).trans rfl
  have HK1 := Lib.hid hk1
  clear hk1 HS
  go_wp2
  go_ret2
  exact ⟨rfl, HK1.out⟩

set_option maxHeartbeats 1000000 in
theorem sy_peek_no (h : LruAt syT w R b m most nx pv D es) (k : List UInt8) (hk : syT.ok k) (hn : k ∉ es.map (·.2.1)) :
    Calls Try.prog 139 #[.pointer (some ⟨b, 0, none⟩), .string (str k)] w fun e w' => e = .returned (.tuple #[.slice none 0 0, .bool false]) ∧ Calm w w' := by
  have HS := Lib.hid (sy_find_no h k hk hn)
  clear h hk hn
  go_enter Try.func139, Try.ntmps139
  go_wp2_with fail
  refine HS.out.mono ?_
  rintro e w1 ⟨rfl, hk1⟩
  have HK1 := Lib.hid hk1
  clear hk1 HS
  go_wp2
  go_ret2
  exact ⟨rfl, HK1.out⟩