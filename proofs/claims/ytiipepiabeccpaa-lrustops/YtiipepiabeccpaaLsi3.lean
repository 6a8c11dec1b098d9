/-
  One instance of the list: New, Put, Get, Peek, Touch, Drop, Oldest, Len, as a caller sees them.
-/
import Derived.Test.YtiipepiabeccpaaLsi2
import Derived.Test.YtiipepiabeccpaaLW
namespace Go.Proofs.Ytiipepiabeccpaa
open Go.RowKit
open Go.Maps (Keyed)
set_option linter.all false
attribute [local go_sem] Oper.semAt_some


set_option maxHeartbeats 1000000 in
theorem si_close (b : Nat) (u5 u6 : Value) (w : World) (c5 : w.cell? ⟨b, 5, none⟩ = some u5) (c6 : w.cell? ⟨b, 6, none⟩ = some u6) (f5 : w.frozen? ⟨b, 5, none⟩ = false) (f6 : w.frozen? ⟨b, 6, none⟩ = false) :
    Calls Try.prog 56 #[.pointer (some ⟨b, 3, none⟩)] w fun e w' => e = .returned (.tuple #[]) ∧ (w.setCell ⟨b, 5, none⟩ (.pointer (some ⟨b, 3, none⟩))).setCell ⟨b, 6, none⟩ (.pointer (some ⟨b, 3, none⟩)) = w' := by
  go_enter Try.func56, Try.ntmps56
  go_wp2
  go_end0
  exact ⟨rfl, rfl⟩


set_option maxHeartbeats 1000000 in
theorem si_new (a : Int) (most : Nat) (hm : (if a < 1 then 1 else a) = (most : Int)) (hp : 1 ≤ most) (ht : most ≤ 1100) (w : World) :
    Calls Try.prog 22 #[.int .i64 a] w fun e w' => e = .returned (.pointer (some ⟨w.heap.size + 1, 0, none⟩)) ∧ LruIs siT w' (fun i => i = w.heap.size ∨ i = w.heap.size + 1) (w.heap.size + 1) most [] ∧ Calm w w' := by
  have hmm := @run_makeMap Try.prog
  have Hp := Lib.hid hp
  have Ht := Lib.hid ht
  clear hp ht
  go_enter Try.func22, Try.ntmps22
  go_wp2_with fail
  have hr := Row.made (w.alloc (.map #[] 0)) 118 #[.int .i64 (most : Int), .int .i64 0, .map (some w.heap.size), .string ⟨#[]⟩, .int .i64 0, .pointer none, .pointer none]
  rw [World.size_alloc] at hr
  have hmap := (World.ownsMap_made w Try.prog siT.K pe).alloc (.cells #[.int .i64 (most : Int), .int .i64 0, .map (some w.heap.size), .string ⟨#[]⟩, .int .i64 0, .pointer none, .pointer none] 118)
  have hc : Calm w ((w.alloc (.map #[] 0)).alloc (.cells #[.int .i64 (most : Int), .int .i64 0, .map (some w.heap.size), .string ⟨#[]⟩, .int .i64 0, .pointer none, .pointer none] 118)) := ((Keep.refl _ w).alloc _).alloc _
  have hz : ((w.alloc (.map #[] 0)).alloc (.cells #[.int .i64 (most : Int), .int .i64 0, .map (some w.heap.size), .string ⟨#[]⟩, .int .i64 0, .pointer none, .pointer none] 118)).heap.size = w.heap.size + 2 := by simp
  refine (si_close (w.heap.size + 1) _ _ _ ((hr.cell 5).trans rfl) ((hr.cell 6).trans rfl) (hr.soft 5) (hr.soft 6)).mono ?_
  generalize (w.alloc (.map #[] 0)).alloc (.cells #[.int .i64 (most : Int), .int .i64 0, .map (some w.heap.size), .string ⟨#[]⟩, .int .i64 0, .pointer none, .pointer none] 118) = W1 at hr hmap hc hz ⊢
  rintro e w2 ⟨rfl, rfl⟩
  have ht : Row ((W1.setCell ⟨w.heap.size + 1, 5, none⟩ (.pointer (some ⟨w.heap.size + 1, 3, none⟩))).setCell ⟨w.heap.size + 1, 6, none⟩ (.pointer (some ⟨w.heap.size + 1, 3, none⟩))) (w.heap.size + 1) 118 #[.int .i64 (most : Int), .int .i64 0, .map (some w.heap.size), .string ⟨#[]⟩, .int .i64 0, pp (w.heap.size + 1) none, pp (w.heap.size + 1) none] := by
    simpa [pp, nb, no] using (hr.store 5 (.pointer (some ⟨w.heap.size + 1, 3, none⟩))).store 6 (.pointer (some ⟨w.heap.size + 1, 3, none⟩))
  have hm2 := owns_keep (w' := (W1.setCell ⟨w.heap.size + 1, 5, none⟩ (.pointer (some ⟨w.heap.size + 1, 3, none⟩))).setCell ⟨w.heap.size + 1, 6, none⟩ (.pointer (some ⟨w.heap.size + 1, 3, none⟩))) hmap ((Below.heap_setCell _ _ _ _ (by show w.heap.size ≠ w.heap.size + 1; omega)).trans (Below.heap_setCell _ _ _ _ (by show w.heap.size ≠ w.heap.size + 1; omega)))
  have hU : LruIs siT ((W1.setCell ⟨w.heap.size + 1, 5, none⟩ (.pointer (some ⟨w.heap.size + 1, 3, none⟩))).setCell ⟨w.heap.size + 1, 6, none⟩ (.pointer (some ⟨w.heap.size + 1, 3, none⟩))) (fun i => i = w.heap.size ∨ i = w.heap.size + 1) (w.heap.size + 1) most [] := by
    refine ⟨w.heap.size, fun _ => none, fun _ => none, _, [], ⟨⟨si_good.ne, ht, fun x hx => by cases hx⟩, ⟨⟨rfl, rfl⟩, trivial⟩, List.nodup_nil, List.nodup_nil, fun x hx => (by cases hx), owns_tight hm2, rfl, fun x hx => (by cases hx), fun _ _ _ => rfl, .inr rfl, .inl rfl, fun x hx => (by cases hx), ?_, by simp, Hp.out, Ht.out⟩, rfl, by simp⟩
    rintro i (rfl | rfl) <;> simp [World.setCell] <;> omega
  have hC : Calm w ((W1.setCell ⟨w.heap.size + 1, 5, none⟩ (.pointer (some ⟨w.heap.size + 1, 3, none⟩))).setCell ⟨w.heap.size + 1, 6, none⟩ (.pointer (some ⟨w.heap.size + 1, 3, none⟩))) :=
    (hc.store (p := ⟨w.heap.size + 1, 5, none⟩) (fun h => by have h' : w.heap.size + 1 < w.heap.size := h; omega) _).store (p := ⟨w.heap.size + 1, 6, none⟩) (fun h => by have h' : w.heap.size + 1 < w.heap.size := h; omega) _
  have HU := Lib.hid hU
  have HC := Lib.hid hC
  clear hU hC hm2 ht hr hmap hc hz
  go_wp2
  go_ret
  exact ⟨rfl, HU.out, HC.out⟩

section
variable {w : World} {R : Nat → Prop} {b m most : Nat} {nx pv : Option Nat → Option Nat} {D : DataW Unit} {es : List (Nat × (List UInt8) × (Int))}

set_option maxHeartbeats 1000000 in
theorem si_put_yes (h : LruAt siT w R b m most nx pv D es) {l1 l2 : List (Nat × (List UInt8) × (Int))} {g : Nat} {k : List UInt8} {v0 : Int} (he : es = l1 ++ (g, k, v0) :: l2) (v : Int) :
    Calls Try.prog 24 #[.pointer (some ⟨b, 0, none⟩), .string (str k), .int .i64 v] w fun e w' => e = .returned (.tuple #[.string ⟨#[]⟩, .bool false]) ∧ (∃ nx' pv', LruAt siT w' R b m most nx' pv' D (l1 ++ l2 ++ [(g, k, v)])) ∧ Keep R w w' := by
  have HS := Lib.hid (si_use_yes h he k rfl)
  have HR := Lib.hid (h.re (g, k, v0) (by subst he; simp))
  clear h he
  go_enter Try.func24, Try.ntmps24
  go_wp2_with fail
  refine HS.out.mono ?_
  rintro e w1 ⟨rfl, ⟨nx', pv', h1⟩, hk1⟩
  have hr := h1.mem.ent (g, k, v0) (by simp)
  have c1 : w1.cell? ⟨g, 1, none⟩ = some (siT.vv v0) := (hr.cell 1).trans rfl
  have f1 : w1.frozen? ⟨g, 1, none⟩ = false := hr.soft 1
  have H2 := Lib.hid (h1.value v)
  have HK : Hid (Keep R w (w1.setCell ⟨g, 1, none⟩ (siT.vv v))) := Lib.hid (hk1.store (fun _ => HR.out) _)
  clear h1 hk1 hr HS
  go_wp2
  go_ret2
  exact ⟨rfl, ⟨_, _, H2.out⟩, HK.out⟩


set_option maxHeartbeats 1000000 in
theorem si_put_room (h : LruAt siT w R b m most nx pv D es) (k : List UInt8) (v : Int) (hk : siT.ok k) (hn : k ∉ es.map (·.2.1)) (hr : es.length < most) :
    Calls Try.prog 24 #[.pointer (some ⟨b, 0, none⟩), .string (str k), .int .i64 v] w fun e w' => e = .returned (.tuple #[.string ⟨#[]⟩, .bool false]) ∧ ∃ g R' nx' pv' D', LruAt siT w' R' b m most nx' pv' D' (es ++ [(g, k, v)]) ∧ Grow R R' w ∧ Keep R w w' := by
  have HS := Lib.hid (si_use_no h k hk hn)
  have H := Lib.hid h
  have Hk := Lib.hid (show siT.ok k ∧ k ∉ es.map (·.2.1) ∧ es.length < most from ⟨hk, hn, hr⟩)
  clear h hk hn hr
  go_enter Try.func24, Try.ntmps24
  go_wp2_with fail
  refine HS.out.mono ?_
  rintro e w1 ⟨rfl, hk1⟩
  have HK1 := Lib.hid hk1
  clear hk1 HS
  go_wp2_with fail
  have hgr : Row (w1.alloc (.cells #[.string (str k), .int .i64 v, .pointer none, .pointer none] 116)) w1.heap.size 116 #[.string (str k), .int .i64 v, .pointer none, .pointer none] := Row.made _ _ _
  have h2 := (H.out.calm HK1.out).calm ((Keep.refl _ w1).alloc (.cells #[.string (str k), .int .i64 v, .pointer none, .pointer none] 116))
  have hz := HK1.out.size
  have hgR : ¬ R w1.heap.size := fun hc => by have := H.out.lt _ hc; omega
  refine (si_add h2 _ k v _ _ hgr hgR Hk.out.1 Hk.out.2.1 (by have := Hk.out.2.2; have := H.out.top; omega)).mono ?_
  rintro e w3 ⟨rfl, ⟨nx', pv', D', h3⟩, hk3⟩
  have c0 : w3.cell? ⟨b, 0, none⟩ = some (.int .i64 (most : Int)) := (h3.mem.top.cell 0).trans rfl
  have c1 : w3.cell? ⟨b, 1, none⟩ = some (.int .i64 ((es.length + 1 : Nat) : Int)) := (h3.mem.top.cell 1).trans (by simp)
  have hle : ((es.length + 1 : Nat) : Int) ≤ (most : Int) := by have := Hk.out.2.2; omega
  have H3 := Lib.hid (h3.calm ((Keep.refl _ w3).drew))
  have HK3 : Hid (Keep R w w3.drew) := Lib.hid ((((HK1.out.keep R).alloc _).then_ hk3 (fun i hi hc => hc.elim id (fun e => by subst e; exact absurd hi (by omega)))).drew)
  have HG : Hid (Grow R (fun i => R i ∨ i = w1.heap.size) w) := Lib.hid (fun i hi => hi.imp id (fun e => by subst e; exact hz))
  clear h3 hk3 hgr h2 hgR hz
  go_wp2_with fail
  go_region
  go_wp2
  go_ret2
  exact ⟨rfl, _, _, _, _, _, H3.out, HG.out, HK3.out⟩


set_option maxHeartbeats 2000000 in
theorem si_put_full (h : LruAt siT w R b m most nx pv D es) (k : List UInt8) (v : Int) (hk : siT.ok k) (hn : k ∉ es.map (·.2.1)) {x : Nat × (List UInt8) × (Int)} {l : List (Nat × (List UInt8) × (Int))} (he : es = x :: l) (hr : es.length = most) :
    Calls Try.prog 24 #[.pointer (some ⟨b, 0, none⟩), .string (str k), .int .i64 v] w fun e w' => e = .returned (.tuple #[siT.kv x.2.1, .bool true]) ∧ ∃ g R' nx' pv' D', LruAt siT w' R' b m most nx' pv' D' (l ++ [(g, k, v)]) ∧ Grow R R' w ∧ Keep R w w' := by
  have HS := Lib.hid (si_use_no h k hk hn)
  have H := Lib.hid h
  have He := Lib.hid he
  have Hk := Lib.hid (show siT.ok k ∧ k ∉ es.map (·.2.1) ∧ es.length = most from ⟨hk, hn, hr⟩)
  clear h hk hn hr he
  go_enter Try.func24, Try.ntmps24
  go_wp2_with fail
  refine HS.out.mono ?_
  rintro e w1 ⟨rfl, hk1⟩
  have HK1 := Lib.hid hk1
  clear hk1 HS
  go_wp2_with fail
  have hgr : Row (w1.alloc (.cells #[.string (str k), .int .i64 v, .pointer none, .pointer none] 116)) w1.heap.size 116 #[.string (str k), .int .i64 v, .pointer none, .pointer none] := Row.made _ _ _
  have h2 := (H.out.calm HK1.out).calm ((Keep.refl _ w1).alloc (.cells #[.string (str k), .int .i64 v, .pointer none, .pointer none] 116))
  have hz := HK1.out.size
  have hgR : ¬ R w1.heap.size := fun hc => by have := H.out.lt _ hc; omega
  refine (si_add h2 _ k v _ _ hgr hgR Hk.out.1 Hk.out.2.1 (by have := Hk.out.2.2; have := H.out.top; omega)).mono ?_
  rintro e w3 ⟨rfl, ⟨nx', pv', D', h3⟩, hk3⟩
  have hfull := Hk.out.2.2
  have c0 : w3.cell? ⟨b, 0, none⟩ = some (.int .i64 (most : Int)) := (h3.mem.top.cell 0).trans rfl
  have c1 : w3.cell? ⟨b, 1, none⟩ = some (.int .i64 ((es.length + 1 : Nat) : Int)) := (h3.mem.top.cell 1).trans (by simp)
  have hle : ¬ ((es.length + 1 : Nat) : Int) ≤ (most : Int) := by omega
  have h3d := h3.calm ((Keep.refl _ w3).drew)
  rw [He.out, List.cons_append] at h3d
  have hnx : nx' none = some x.1 := by have := h3d.ring.first; simpa using this
  have c6 : w3.cell? ⟨b, 6, none⟩ = some (.pointer (some ⟨x.1, 0, none⟩)) := (h3.mem.top.cell 6).trans (by rw [hnx]; rfl)
  have HR := Lib.hid (si_remove (l1 := []) h3d rfl)
  have HK3 : Hid (Keep R w w3.drew) := Lib.hid ((((HK1.out.keep R).alloc _).then_ hk3 (fun i hi hc => hc.elim id (fun e => by subst e; exact absurd hi (by omega)))).drew)
  have HG : Hid (Grow R (fun i => R i ∨ i = w1.heap.size) w) := Lib.hid (fun i hi => hi.imp id (fun e => by subst e; exact hz))
  have Hz := Lib.hid hz
  clear h3 hk3 hgr h2 hgR h3d hnx hfull hz
  go_wp2_with fail
  go_region
  go_wp2_with fail
  refine HR.out.mono ?_
  rintro e w5 ⟨rfl, ⟨nx2, pv2, D2, h5⟩, hk5, hc5⟩
  have H5 := Lib.hid h5
  have HK5 : Hid (Keep R w w5) := Lib.hid (HK3.out.then_ hk5 (fun i hi hc => hc.elim id (fun e => by have := Hz.out; subst e; exact absurd hi (by omega))))
  clear h5 hk5 HR
  go_wp2
  go_ret2
  exact ⟨rfl, _, _, _, _, _, H5.out, HG.out, HK5.out⟩


set_option maxHeartbeats 1000000 in
theorem si_len (h : LruAt siT w R b m most nx pv D es) : Calls Try.prog 30 #[.pointer (some ⟨b, 0, none⟩)] w fun e w' => e = .returned (.int .i64 (es.length : Int)) ∧ w = w' := by
  have c1 : w.cell? ⟨b, 1, none⟩ = some (.int .i64 (es.length : Int)) := (h.mem.top.cell 1).trans rfl
  clear h
  go_enter Try.func30, Try.ntmps30
  go_wp2
  go_ret
  exact ⟨rfl, rfl⟩


set_option maxHeartbeats 1000000 in
theorem si_peek_yes (h : LruAt siT w R b m most nx pv D es) {g : Nat} {k : List UInt8} {v : Int} (hx : (g, k, v) ∈ es) :
    Calls Try.prog 28 #[.pointer (some ⟨b, 0, none⟩), .string (str k)] w fun e w' => e = .returned (.tuple #[.int .i64 v, .bool true]) ∧ Calm w w' := by
  have HS := Lib.hid (si_find_yes h hx k rfl)
  have H := Lib.hid h
  have Hx := Lib.hid hx
  clear h hx
  go_enter Try.func28, Try.ntmps28
  go_wp2_with fail
  refine HS.out.mono ?_
  rintro e w1 ⟨rfl, hk1⟩
  have c1 : w1.cell? ⟨g, 1, none⟩ = some (.int .i64 v) := (((H.out.calm hk1).mem.ent _ Hx.out).cell 1).trans rfl
  have HK1 := Lib.hid hk1
  clear hk1 HS
  go_wp2
  go_ret2
  exact ⟨rfl, HK1.out⟩

set_option maxHeartbeats 1000000 in
theorem si_peek_no (h : LruAt siT w R b m most nx pv D es) (k : List UInt8) (hk : siT.ok k) (hn : k ∉ es.map (·.2.1)) :
    Calls Try.prog 28 #[.pointer (some ⟨b, 0, none⟩), .string (str k)] w fun e w' => e = .returned (.tuple #[.int .i64 0, .bool false]) ∧ Calm w w' := by
  have HS := Lib.hid (si_find_no h k hk hn)
  clear h hk hn
  go_enter Try.func28, Try.ntmps28
  go_wp2_with fail
  refine HS.out.mono ?_
  rintro e w1 ⟨rfl, hk1⟩
  have HK1 := Lib.hid hk1
  clear hk1 HS
  go_wp2
  go_ret2
  exact ⟨rfl, HK1.out⟩

set_option maxHeartbeats 1000000 in
theorem si_get_yes (h : LruAt siT w R b m most nx pv D es) {l1 l2 : List (Nat × (List UInt8) × (Int))} {g : Nat} {k : List UInt8} {v : Int} (he : es = l1 ++ (g, k, v) :: l2) :
    Calls Try.prog 50 #[.pointer (some ⟨b, 0, none⟩), .string (str k)] w fun e w' => e = .returned (.tuple #[.int .i64 v, .bool true]) ∧ (∃ nx' pv', LruAt siT w' R b m most nx' pv' D (l1 ++ l2 ++ [(g, k, v)])) ∧ Keep R w w' := by
  have HS := Lib.hid (si_use_yes h he k rfl)
  clear h he
  go_enter Try.func50, Try.ntmps50
  go_wp2_with fail
  refine HS.out.mono ?_
  rintro e w1 ⟨rfl, ⟨nx', pv', h1⟩, hk1⟩
  have c1 : w1.cell? ⟨g, 1, none⟩ = some (.int .i64 v) := ((h1.mem.ent (g, k, v) (by simp)).cell 1).trans rfl
  have H1 := Lib.hid h1
  have HK1 := Lib.hid hk1
  clear h1 hk1 HS
  go_wp2
  go_ret2
  exact ⟨rfl, ⟨_, _, H1.out⟩, HK1.out⟩

set_option maxHeartbeats 1000000 in
theorem si_get_no (h : LruAt siT w R b m most nx pv D es) (k : List UInt8) (hk : siT.ok k) (hn : k ∉ es.map (·.2.1)) :
    Calls Try.prog 50 #[.pointer (some ⟨b, 0, none⟩), .string (str k)] w fun e w' => e = .returned (.tuple #[.int .i64 0, .bool false]) ∧ Calm w w' := by
  have HS := Lib.hid (si_use_no h k hk hn)
  clear h hk hn
  go_enter Try.func50, Try.ntmps50
  go_wp2_with fail
  refine HS.out.mono ?_
  rintro e w1 ⟨rfl, hk1⟩
  have HK1 := Lib.hid hk1
  clear hk1 HS
  go_wp2
  go_ret2
  exact ⟨rfl, HK1.out⟩

set_option maxHeartbeats 1000000 in
theorem si_oldest_no (h : LruAt siT w R b m most nx pv D []) : Calls Try.prog 29 #[.pointer (some ⟨b, 0, none⟩)] w fun e w' => e = .returned (.tuple #[.string ⟨#[]⟩, .bool false]) ∧ w = w' := by
  have c1 : w.cell? ⟨b, 1, none⟩ = some (.int .i64 0) := (h.mem.top.cell 1).trans rfl
  clear h
  go_enter Try.func29, Try.ntmps29
  go_wp2
  go_ret2
  exact ⟨rfl, rfl⟩

set_option maxHeartbeats 1000000 in
theorem si_oldest_yes {g : Nat} {k : List UInt8} {v : Int} {l : List (Nat × (List UInt8) × (Int))} (h : LruAt siT w R b m most nx pv D ((g, k, v) :: l)) : Calls Try.prog 29 #[.pointer (some ⟨b, 0, none⟩)] w fun e w' => e = .returned (.tuple #[.string (str k), .bool true]) ∧ w = w' := by
  have c1 : w.cell? ⟨b, 1, none⟩ = some (.int .i64 ((l.length + 1 : Nat) : Int)) := (h.mem.top.cell 1).trans (by simp)
  have hnx : nx none = some g := by have := h.ring.first; simpa using this
  have c6 : w.cell? ⟨b, 6, none⟩ = some (.pointer (some ⟨g, 0, none⟩)) := (h.mem.top.cell 6).trans (by rw [hnx]; rfl)
  have g0 : w.cell? ⟨g, 0, none⟩ = some (.string (str k)) := ((h.mem.ent (g, k, v) (by simp)).cell 0).trans rfl
  have hne : (((l.length + 1 : Nat) : Int) == 0) = false := by rw [beq_eq_false_iff_ne]; omega
  have hne2 : ¬ ((l.length : Int) + 1) = 0 := by omega
  clear h hnx
  go_enter Try.func29, Try.ntmps29
  go_wp2
  go_ret2
  exact ⟨rfl, rfl⟩
end
end Go.Proofs.Ytiipepiabeccpaa
