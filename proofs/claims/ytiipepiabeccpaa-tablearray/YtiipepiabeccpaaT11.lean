/-
  Tables: kinds: own, add.
-/
import Derived.Test.YtiipepiabeccpaaT10
import Derived.Laws.CopyRow
namespace Go.Proofs.Ytiipepiabeccpaa
open Go.RowKit Go.Deep
open Go.Maps (Keyed)
set_option linter.all false
attribute [local go_sem] Oper.semAt_some

theorem info8s : (Try.prog.info? 5).map (·.size) = some 1 := by kernel_rfl
theorem setRow_keep (w : World) (g : Nat) (cs : Array Value) : Keep (fun i => i = g) w (w.setRow g cs) :=
  ⟨rfl, rfl, rfl, by simp [World.setRow], fun i _ hi => setRow_other w g i cs hi⟩
/-- copy over the whole of a block. -/
theorem copy_rd {w : World} {g n : Nat} {cur : Array Value} (hr : Row w g 5 cur) (hs : cur.size = n) {A : Option Addr} {cap : Nat} {bs : List UInt8} (hk : Rd w (.slice A n cap) bs) (hn : bs.length = n) (hp : 1 ≤ n) (dc : Nat) :
    ∃ w', (Builtin.copy_ #[22, 22] 3 #[.slice (some ⟨g, 0, none⟩) n dc, .slice A n cap]).run Try.prog w = .ok (.int .i64 (n : Int)) w' ∧ Row w' g 5 (bs.map bv).toArray ∧ Keep (fun i => i = g) w w' := by
  rcases hk with ⟨_, rfl⟩ | ⟨ad, cap', e, h1, h2, h4⟩
  · simp at hn; omega
  · injection e with e1 e2 e3
    subst e1
    have hrun := run_copy_row (P := Try.prog) w 22 22 3 5 g 0 n dc ad n cap cur 5 (bs.map bv) Try.underlying22 info8s hr (by simp [hn]) (fun j v hj => by
      rw [List.getElem?_map] at hj
      obtain ⟨b, hb, rfl⟩ := Option.map_eq_some_iff.1 hj
      exact h4 j b hb) (by simp [hn, hs]) (bv_one bs)
    have hd : cur.toList.drop (0 + (bs.map bv).length) = [] := by
      rw [List.drop_eq_nil_iff]
      simp [hn, hs]
    rw [hd, List.take_zero, List.nil_append, List.append_nil] at hrun
    exact ⟨_, by rw [hrun]; simp [goInt, hn], setRow_heap w g cur _ _ _ hr, setRow_keep w g _⟩

set_option maxHeartbeats 1000000 in
theorem own_c {w : World} {v : Value} {bs : List UInt8} (hk : Rd w v bs) (hp : 1 ≤ bs.length) (ht : bs.length ≤ 1000) :
    Calls Try.prog 118 #[v] w fun e w' => e = .returned (.slice (some ⟨w.heap.size, 0, none⟩) bs.length bs.length) ∧ Row w' w.heap.size 5 (bs.map bv).toArray ∧ Calm w w' := by
  obtain ⟨A, cap, rfl, _, _⟩ := hk.form
  have hmk := run_make8 w bs.length (by omega)
  obtain ⟨w', h1, h2, h3⟩ := copy_rd (Row.made w 5 (zeros8 bs.length)) (by simp [zeros8]) (hk.calm ((Keep.refl _ w).alloc (.cells (zeros8 bs.length) 5))) rfl hp bs.length
  have hc : Calm w w' := ((Keep.refl (fun _ => False) w).alloc (.cells (zeros8 bs.length) 5)).then_ h3 (fun i hi e => by omega)
  have HX := Lib.hid (And.intro h2 hc)
  clear hk h2 h3 hc
  go_enter Try.func118, Try.ntmps118
  go_wp2
  go_ret
  exact ⟨rfl, HX.out.1, HX.out.2⟩

theorem add_arr (v u : Value) (k : List UInt8) (w : World) : Calls Try.prog 106 #[.agg #[v], .string (str k), u] w fun e w' => e = .returned (.int .i64 3) ∧ Calm w w' := by
  go_enter Try.func106, Try.ntmps106
  go_wp2
  go_ret
  exact ⟨rfl, (Keep.refl _ w).alloc _⟩
set_option maxHeartbeats 1000000 in
theorem add_hash_full {w : World} {b vl mx : Nat} {D : DataW Unit} (u : Value) (k : List UInt8) (hm : w.ownsMap Try.prog 9 (se vl) b (Maps.size D) D) (hs : mx ≤ Maps.size D) :
    Calls Try.prog 112 #[.agg #[.int .i64 (mx : Int), .map (some b)], .string (str k), u] w fun e w' => e = .returned (.int .i64 5) ∧ Calm w w' := by
  have hlen := fun o => (hm.alloc o).len Try.underlying146 3
  have hs' : (mx : Int) ≤ (Maps.size D : Int) := by omega
  clear hm
  go_enter Try.func112, Try.ntmps112
  go_wp2
  go_ret
  exact ⟨rfl, (Keep.refl _ w).alloc _⟩
theorem put_hash {w1 : World} {b vl : Nat} {D : DataW Unit} {kb : KB} (hm : w1.ownsMap Try.prog 9 (se vl) b (Maps.size D) D) (hD : HashD D kb) {k : List UInt8} (hk : k.length ≤ maxLen) (hkn : k ∉ keysL kb) (hl : kb.length ≤ 10000) (g : Nat) :
    ∃ w4 D', (Instr.mapUpdate 146 (.map (some b)) (.string (str k)) (.slice (some ⟨g, 0, none⟩) vl vl)).run Try.prog w1 = .ok () w4 ∧ w4.ownsMap Try.prog 9 (se vl) b (Maps.size D') D' ∧ HashD D' (kb ++ [(k, g)]) ∧ Keep (fun i => i = b) w1 w4 := by
  have law := Go.Maps.string_keyed (P := Try.prog) Try.underlying9
  obtain ⟨w4, hrun, hown4, hturn⟩ := hm.store law Try.underlying146 (by have := hD.sz; unfold maxLen; omega) (keyS k hk) (se_at vl g)
  have hgrow := hturn.grown
  exact ⟨w4, _, hrun, owns_tight' hown4, hD.put (hm.tidy law) (law.key (keyS k hk)) hkn g, ⟨hgrow.os, hgrow.tape, hgrow.output, hgrow.size, fun i hi hn => hgrow.block i hi (fun e => hn (by injection e))⟩⟩
def AddH (w : World) (vl b : Nat) (bs k : List UInt8) (kb : KB) (w' : World) : Prop :=
  ∃ (g : Nat) (D' : DataW Unit), w.heap.size ≤ g ∧ g ≠ b ∧ Row w' g 5 (bs.map bv).toArray ∧ w'.ownsMap Try.prog 9 (se vl) b (Maps.size D') D' ∧ HashD D' (kb ++ [(k, g)]) ∧ Keep (fun i => i = b) w w'
set_option maxHeartbeats 2000000 in
theorem add_hash {w : World} {b mx : Nat} {D : DataW Unit} {kb : KB} (v : Value) (bs : List UInt8) (hv : Rd w v bs) (hp : 1 ≤ bs.length) (ht : bs.length ≤ 1000) (k : List UInt8) (hk : k.length ≤ maxLen) (hm : w.ownsMap Try.prog 9 (se bs.length) b (Maps.size D) D) (hD : HashD D kb) (hkn : k ∉ keysL kb) (hs : kb.length < mx) (hmx : mx ≤ 10000) :
    Calls Try.prog 112 #[.agg #[.int .i64 (mx : Int), .map (some b)], .string (str k), v] w fun e w' => e = .returned (.int .i64 0) ∧ AddH w bs.length b bs k kb w' := by
  have hlen := fun o => (hm.alloc o).len Try.underlying146 3
  have hsz := hD.sz
  have hs' : ¬ (mx : Int) ≤ (Maps.size D : Int) := by omega
  have hs2 : (Maps.size D : Int) < (mx : Int) := by omega
  have B0 := Row.made w 148 #[.int .i64 (mx : Int), .map (some b)]
  have hc0 : Calm w (w.alloc (.cells #[.int .i64 (mx : Int), .map (some b)] 148)) := (Keep.refl _ w).alloc _
  have hm0 := hm.alloc (.cells #[.int .i64 (mx : Int), .map (some b)] 148)
  have hb0 := hm.lt
  have HO := Lib.hid (own_c (hv.calm hc0).drew hp ht)
  have HS : Hid (∀ w1 g, Calm (w.alloc (.cells #[.int .i64 (mx : Int), .map (some b)] 148)).drew w1 → w1.cell? ⟨w.heap.size, 1, none⟩ = some (.map (some b)) ∧ ∃ w4 D', (Instr.mapUpdate 146 (.map (some b)) (.string (str k)) (.slice (some ⟨g, 0, none⟩) bs.length bs.length)).run Try.prog w1 = .ok () w4 ∧ w4.ownsMap Try.prog 9 (se bs.length) b (Maps.size D') D' ∧ HashD D' (kb ++ [(k, g)]) ∧ Keep (fun i => i = b) w1 w4) :=
    Lib.hid (fun w1 g c => ⟨((B0.drew.keep c (fun e => e)).cell 1).trans rfl, put_hash (owns_keep' hm0.drew (c.block b (Nat.lt_trans hb0 (by simp)) (fun e => e))) hD hk hkn (by omega) g⟩)
  have HB := Lib.hid hb0
  have HC := Lib.hid hc0
  clear hv hp ht hm hD hkn hs hmx hsz hk hc0 hm0 hb0
  go_enter Try.func112, Try.ntmps112
  go_upto_region 3 with fail
  have c1 : (w.alloc (.cells #[.int .i64 (mx : Int), .map (some b)] 148)).cell? ⟨w.heap.size, 1, none⟩ = some (.map (some b)) := (B0.cell 1).trans rfl
  have hz : (w.alloc (.cells #[.int .i64 (mx : Int), .map (some b)] 148)).heap.size = w.heap.size + 1 := by simp
  have HZ := Lib.hid hz
  clear B0 hlen hz
  generalize w.alloc (.cells #[.int .i64 (mx : Int), .map (some b)] 148) = W0 at *
  go_region_with (refine HO.out.mono ?_; rintro e w1 ⟨rfl, r1, c1'⟩; obtain ⟨d1, w4, D', hrun, m1, m2, m3⟩ := HS.out w1 W0.heap.size c1'; have HY := Lib.hid (And.intro r1 (And.intro c1' (And.intro m1 (And.intro m2 m3)))); clear r1 c1' m1 m2 m3)
  all_goals
    go_wp2
    go_ret
    obtain ⟨r1, c1', m1, m2, m3⟩ := HY.out
    have hlt := HB.out
    have hzz := HZ.out
    have hzd : W0.drew.heap.size = W0.heap.size := rfl
    rw [hzd] at r1
    refine ⟨rfl, W0.heap.size, D', by omega, by omega, r1.keep m3 (by omega), m1, m2, ?_⟩
    exact (Calm.keep (HC.out.drew.trans c1') (fun i => i = b)).trans m3

def AddL (w : World) (R : Nat → Prop) (vl b mx : Nat) (bs k : List UInt8) (kb : KB) (w' : World) : Prop :=
  ∃ (g : Nat) (R' : Nat → Prop), w.heap.size ≤ g ∧ ¬ R' g ∧ Row w' g 5 (bs.map bv).toArray ∧ LruIs syT w' R' b mx (mapv (lv vl) (putL mx k g kb).2) ∧ Grow R R' w ∧ Keep R w w'
set_option maxRecDepth 20000 in
set_option maxHeartbeats 2000000 in
theorem add_lru {w : World} {b mx : Nat} {R : Nat → Prop} {kb : KB} (v : Value) (bs : List UInt8) (hv : Rd w v bs) (hp : 1 ≤ bs.length) (ht : bs.length ≤ 1000) (k : List UInt8) (hk : k.length ≤ maxLen) (h : LruIs syT w R b mx (mapv (lv bs.length) kb)) :
    Calls Try.prog 151 #[.agg #[.pointer (some ⟨b, 0, none⟩)], .string (str k), v] w fun e w' => e = .returned (.int .i64 0) ∧ AddL w R bs.length b mx bs k kb w' := by
  have B0 := Row.made w 152 #[.pointer (some ⟨b, 0, none⟩)]
  have hc0 : Calm w (w.alloc (.cells #[.pointer (some ⟨b, 0, none⟩)] 152)) := (Keep.refl _ w).alloc _
  have hz : (w.alloc (.cells #[.pointer (some ⟨b, 0, none⟩)] 152)).heap.size = w.heap.size + 1 := by simp
  have HO := Lib.hid (own_c (hv.calm hc0).drew hp ht)
  have HP : Hid (∀ w1 g, Calm (w.alloc (.cells #[.pointer (some ⟨b, 0, none⟩)] 152)).drew w1 → Calls Try.prog 146 #[.pointer (some ⟨b, 0, none⟩), .string (str k), .slice (some ⟨g, 0, none⟩) bs.length bs.length] w1 fun e w' => (∃ v, e = .returned v) ∧ (∃ R', LruIs syT w' R' b mx (mapv (lv bs.length) (putL mx k g kb).2) ∧ Grow R R' w1) ∧ Keep R w1 w') :=
    Lib.hid (fun w1 g c => (sy_Put' (h.calm (hc0.drew.trans c)) k (lv bs.length g) hk _ _ (putL_mapv (lv bs.length) mx k g kb) _ rfl _ rfl).mono (fun e w' a => ⟨⟨_, a.1⟩, a.2⟩))
  have HC := Lib.hid (And.intro hc0 (And.intro hz h.lt))
  have HL : Hid (∀ w1, Calm (w.alloc (.cells #[.pointer (some ⟨b, 0, none⟩)] 152)).drew w1 → w1.cell? ⟨w.heap.size, 0, none⟩ = some (.pointer (some ⟨b, 0, none⟩))) := Lib.hid (fun w1 c => ((B0.drew.keep c (fun e => e)).cell 0).trans rfl)
  clear hv hp ht hk h hc0 hz
  go_enter Try.func151, Try.ntmps151
  go_upto_region 1 with fail
  have c1 : (w.alloc (.cells #[.pointer (some ⟨b, 0, none⟩)] 152)).cell? ⟨w.heap.size, 0, none⟩ = some (.pointer (some ⟨b, 0, none⟩)) := (B0.cell 0).trans rfl
  clear B0
  generalize w.alloc (.cells #[.pointer (some ⟨b, 0, none⟩)] 152) = W0 at *
  go_region_with (first | (refine HO.out.mono ?_; rintro e w1 ⟨rfl, r1, c1'⟩; have d1 := HL.out w1 c1'; have HP1 := Lib.hid (HP.out w1 W0.heap.size c1'); have HY := Lib.hid (And.intro r1 c1'); clear r1 c1') | (refine HP1.out.mono ?_; rintro e w2 ⟨⟨vv, rfl⟩, m1, m2⟩; have HZ := Lib.hid (And.intro m1 m2); clear m1 m2))
  all_goals
    go_wp2
    go_ret
    obtain ⟨r1, c1'⟩ := HY.out
    obtain ⟨⟨R', a1, a2⟩, m2⟩ := HZ.out
    obtain ⟨hc0, hz, hlt⟩ := HC.out
    have hzd : W0.drew.heap.size = W0.heap.size := rfl
    rw [hzd] at r1
    have hg : ¬ R W0.heap.size := fun e => by have := hlt _ e; omega
    have hl1 := r1.lt
    refine ⟨rfl, W0.heap.size, R', by omega, fun e => (a2 _ e).elim hg (fun e' => by omega), r1.keep m2 hg, a1, fun i hi => (a2 i hi).imp id (fun e => by omega), ?_⟩
    exact (Calm.keep (hc0.drew.trans c1') R).trans m2
end Go.Proofs.Ytiipepiabeccpaa
