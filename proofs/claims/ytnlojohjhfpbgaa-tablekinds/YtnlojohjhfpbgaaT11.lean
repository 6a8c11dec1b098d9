import Derived.Test.YtnlojohjhfpbgaaT9
import Derived.Test.YtnlojohjhfpbgaaLRd
import Derived.Laws.CopyRow
/-
  Tables: Lookup.
-/
namespace Go.Proofs.Ytnlojohjhfpbgaa
open Go.RowKit Go.Deep
open Go.Maps (Keyed)
set_option linter.all false
attribute [local go_sem] Oper.semAt_some

def useN (kind : Nat) (k : List UInt8) (E : List Ent) : List Ent := if kind = 3 then useL k E else E
theorem kbs_use (kind : Nat) (k : List UInt8) (E : List Ent) : kbs (useN kind k E) = useKB kind k (kbs E) := by
  unfold useN useKB
  split
  · exact (useL_mapv _ _ _).symm
  · rfl
theorem perm_useN {kind : Nat} {k : List UInt8} {E : List Ent} (hn : (keysL E).Nodup) : (useN kind k E).Perm E := by
  unfold useN
  split
  · exact perm_useL hn
  · exact List.Perm.refl _
theorem getL_kbs (k : List UInt8) (E : List Ent) : getL k (kbs E) = (getL k E).map (·.1) := getL_mapv _ _ _

section
variable {w0 w w' : World} {R S : Nat → Prop} {tb : Nat} {q : MN} {E E' : List Ent}
theorem TabAt.turn (h : TabAt w R tb q E) (hs : ∀ x ∈ E', x ∈ E) (hk : (keysL E').Nodup) (hb : (blks E').Nodup) (hf : E'.length ≤ q.max) {ev : Value}
    (h1 : Row w tb 122 #[.string (str q.name), .int .i64 (q.kind : Int), .int .i64 (q.key : Int), .int .i64 (q.val : Int), .int .i64 (q.max : Int), ev])
    (kk : KindIs w' (fun i => R i ∧ i ≠ tb) q (kbs E') ev) (kp : Keep (fun i => R i ∧ i ≠ tb) w w') : TabAt w' R tb q E' :=
  ⟨h.ok, ⟨ev, h1.keep kp (fun e => e.2 rfl), kk⟩, h.rt, fun i hi => Nat.lt_of_lt_of_le (h.lt i hi) kp.size, fun x hx => ⟨(h.ent x (hs x hx)).1.keep kp (fun e => h.off x (hs x hx) e.1), (h.ent x (hs x hx)).2⟩, fun x hx => h.off x (hs x hx), hb, hk, fun x hx => h.klen x (hs x hx), hf⟩
theorem TabAt.perm (h : TabAt w R tb q E) (hp : E'.Perm E) {ev : Value}
    (h1 : Row w tb 122 #[.string (str q.name), .int .i64 (q.kind : Int), .int .i64 (q.key : Int), .int .i64 (q.val : Int), .int .i64 (q.max : Int), ev])
    (kk : KindIs w' (fun i => R i ∧ i ≠ tb) q (kbs E') ev) (kp : Keep (fun i => R i ∧ i ≠ tb) w w') : TabAt w' R tb q E' :=
  h.turn (fun x hx => hp.mem_iff.1 hx) ((List.Perm.nodup_iff (show (keysL E').Perm (keysL E) from by unfold keysL; exact hp.map _)).2 h.keys) ((List.Perm.nodup_iff (show (blks E').Perm (blks E) from by unfold blks; exact hp.map _)).2 h.nod) (by rw [hp.length_eq]; exact h.few) h1 kk kp

def LookNo (w0 w : World) (S : Nat → Prop) (tb : Nat) (q : MN) (E : List Ent) (w' : World) : Prop := Tab w0 w' S tb q E ∧ Held S w w'
set_option maxRecDepth 20000 in
set_option maxHeartbeats 2000000 in
theorem lookup_noC (h : Tab w0 w S tb q E) {kv : Value} {k : List UInt8} (hk : Rd w kv k) (hg : getL k E = none) :
    Calls Try.prog 31 #[.pointer (some ⟨tb, 0, none⟩), kv] w fun e w' => e = .returned (.tuple #[.pointer none, .bool false]) ∧ Calm w w' := by
  obtain ⟨R, h1, h2, h3, h4⟩ := h
  obtain ⟨ev, t1, t2⟩ := h1.top
  have c5 : w.cell? ⟨tb, 5, none⟩ = some ev := (t1.cell 5).trans rfl
  obtain ⟨t, v, F, rfl, hm, hcf, hc⟩ := kfind_c h1.ok t2 (by rw [keys_kbs]; exact h1.keys) k hk.len
  rw [getL_kbs, hg] at hc
  have hcv := conv_rd hk
  obtain ⟨A, cap, rfl, _, _⟩ := hk.form
  have HC := Lib.hid hc
  clear h1 h2 h3 h4 t1 t2 hc hk hg
  go_enter Try.func31, Try.ntmps31
  go_wp2_with fail
  refine HC.out.mono ?_
  rintro e w' ⟨rfl, hc⟩
  have HK := Lib.hid hc
  clear hc
  go_wp2
  go_ret2
  exact ⟨rfl, HK.out⟩

theorem lookup_no (h : Tab w0 w S tb q E) {kv : Value} {k : List UInt8} (hk : Rd w kv k) (hg : getL k E = none) :
    Calls Try.prog 31 #[.pointer (some ⟨tb, 0, none⟩), kv] w fun e w' => e = .returned (.tuple #[.pointer none, .bool false]) ∧ LookNo w0 w S tb q E w' := by
  refine (lookup_noC h hk hg).mono ?_
  rintro e w' ⟨rfl, c⟩
  obtain ⟨R, h1, h2, h3, h4⟩ := h
  exact ⟨rfl, ⟨R, h1.calm c, h2, fun i hi => Nat.lt_of_lt_of_le (h3 i hi) c.size, h4.trans c⟩, Held.calm h3 c⟩

def LookYes (w0 w : World) (S : Nat → Prop) (tb : Nat) (q : MN) (E : List Ent) (k : List UInt8) (g x : Nat) (w' : World) : Prop :=
  w.heap.size ≤ x ∧ Row w' x 72 #[.string (str k), slv q.val g] ∧ Tab w0 w' (fun i => S i ∨ Btw w.heap.size w'.heap.size i) tb q (useN q.kind k E) ∧ Held S w w' ∧ x < w'.heap.size
theorem Tab.grown {S : Nat → Prop} (h : Tab w0 w S tb q E) (o : Obj) : Tab w0 (w.alloc o) (fun i => S i ∨ i = w.heap.size) tb q E := by
  obtain ⟨R, h1, h2, h3, h4⟩ := h
  have hc : Calm w (w.alloc o) := (Keep.refl _ w).alloc o
  refine ⟨R, h1.calm hc, fun i hi => ⟨(h2 i hi).1, ?_⟩, ?_, h4.trans hc⟩
  · rintro (e | rfl)
    · exact (h2 i hi).2 e
    · rcases hi with hi | hi
      · exact Nat.lt_irrefl _ (h1.lt _ hi)
      · obtain ⟨x, hx, e⟩ := List.mem_map.1 hi
        have := h1.blt x hx
        omega
  · rintro i (hi | rfl)
    · exact Nat.lt_of_lt_of_le (h3 i hi) hc.size
    · simp
theorem Tab.perm {S : Nat → Prop} {R : Nat → Prop} (h1 : TabAt w R tb q E) (h2 : ∀ i, R i ∨ i ∈ blks E → w0.heap.size ≤ i ∧ ¬ S i) (h3 : ∀ i, S i → i < w.heap.size) (h4 : Calm w0 w) (hp : E'.Perm E) {ev : Value}
    (t1 : Row w tb 122 #[.string (str q.name), .int .i64 (q.kind : Int), .int .i64 (q.key : Int), .int .i64 (q.val : Int), .int .i64 (q.max : Int), ev])
    (kk : KindIs w' (fun i => R i ∧ i ≠ tb) q (kbs E') ev) (kp : Keep (fun i => R i ∧ i ≠ tb) w w') : Tab w0 w' S tb q E' ∧ Held S w w' := by
  refine ⟨⟨R, h1.perm hp t1 kk kp, fun i hi => h2 i (hi.imp id (fun hb => ?_)), fun i hi => Nat.lt_of_lt_of_le (h3 i hi) kp.size, h4.then_ kp (fun i hi hr => ?_)⟩, ⟨fun i hi => kp.block i (h3 i hi) (fun e => (h2 i (.inl e.1)).2 hi), kp.size⟩⟩
  · have : (blks E').Perm (blks E) := by unfold blks; exact hp.map _
    exact this.mem_iff.1 hb
  · have := (h2 i (.inl hr.1)).1
    omega
theorem Tab.permS {S' : Nat → Prop} {R : Nat → Prop} (h1 : TabAt w R tb q E) (h2 : ∀ i, R i ∨ i ∈ blks E → w0.heap.size ≤ i) (h2' : ∀ i, R i ∨ i ∈ blks E → ¬ S' i) (h3 : ∀ i, S' i → i < w'.heap.size) (h4 : Calm w0 w) (hp : E'.Perm E) {ev : Value}
    (t1 : Row w tb 122 #[.string (str q.name), .int .i64 (q.kind : Int), .int .i64 (q.key : Int), .int .i64 (q.val : Int), .int .i64 (q.max : Int), ev])
    (kk : KindIs w' (fun i => R i ∧ i ≠ tb) q (kbs E') ev) (kp : Keep (fun i => R i ∧ i ≠ tb) w w') : Tab w0 w' S' tb q E' := by
  have hb : ∀ i, R i ∨ i ∈ blks E' → R i ∨ i ∈ blks E := fun i hi => hi.imp id (fun hb => by
    have : (blks E').Perm (blks E) := by unfold blks; exact hp.map _
    exact this.mem_iff.1 hb)
  refine ⟨R, h1.perm hp t1 kk kp, fun i hi => ⟨h2 i (hb i hi), h2' i (hb i hi)⟩, h3, h4.then_ kp (fun i hi hr => ?_)⟩
  have := h2 i (.inl hr.1)
  omega
theorem Tab.room (h : Tab w0 w S tb q E) (k : Calm w w') : Tab w0 w' (fun i => S i ∨ Btw w.heap.size w'.heap.size i) tb q E := by
  obtain ⟨R, h1, h2, h3, h4⟩ := h
  refine ⟨R, h1.calm k, fun i hi => ⟨(h2 i hi).1, ?_⟩, ?_, h4.trans k⟩
  · rintro (e | e)
    · exact (h2 i hi).2 e
    · rcases hi with hi | hi
      · exact absurd (h1.lt i hi) (by have := e.1; omega)
      · obtain ⟨x, hx, rfl⟩ := List.mem_map.1 hi
        exact absurd (h1.blt x hx) (by have := e.1; omega)
  · rintro i (e | e)
    · exact Nat.lt_of_lt_of_le (h3 i e) k.size
    · exact e.2
set_option maxRecDepth 20000 in
set_option maxHeartbeats 2000000 in
theorem lookup_yes (h : Tab w0 w S tb q E) {kv : Value} {k bs : List UInt8} {g : Nat} (hk : Rd w kv k) (hg : getL k E = some (g, bs)) :
    Calls Try.prog 31 #[.pointer (some ⟨tb, 0, none⟩), kv] w fun e w' => ∃ x : Nat, e = .returned (.tuple #[.pointer (some ⟨x, 0, none⟩), .bool true]) ∧ LookYes w0 w S tb q E k g x w' := by
  obtain ⟨R, h1, h2, h3, h4⟩ := h
  obtain ⟨ev, t1, t2⟩ := h1.top
  have c5 : w.cell? ⟨tb, 5, none⟩ = some ev := (t1.cell 5).trans rfl
  obtain ⟨t, v, F, rfl, hm, hcf, hc⟩ := kfind_c h1.ok t2 (by rw [keys_kbs]; exact h1.keys) k hk.len
  rw [getL_kbs, hg] at hc
  simp only [Option.map_some, Option.isSome_some, fv, slv] at hc
  have hcv := conv_rd hk
  have hkl := hk.len
  obtain ⟨A, cap, rfl, _, _⟩ := hk.form
  have HC := Lib.hid hc
  have HU : Hid (∀ w1, Calm w w1 → Meth (.iface t v) "swingbridge/table.use" [.string (str k)] w1 fun e w' => e = .returned (.tuple #[]) ∧ KindIs w' (fun i => R i ∧ i ≠ tb) q (useKB q.kind k (kbs E)) (.iface t v) ∧ Keep (fun i => R i ∧ i ≠ tb) w1 w') :=
    Lib.hid (fun w1 c => kuse_c (fun i hi => (h1.calm c).lt i hi.1) (t2.keep (fun i hi => h1.lt i hi.1) c (fun _ _ e => e)) k hkl)
  have HT : Hid (∀ w1 w2, Calm w w1 → KindIs w2 (fun i => R i ∧ i ≠ tb) q (useKB q.kind k (kbs E)) (.iface t v) → Keep (fun i => R i ∧ i ≠ tb) w1 w2 → LookYes w0 w S tb q E k g w2.heap.size (w2.alloc (.cells #[.string (str k), slv q.val g] 72))) := Lib.hid (fun w1 w2 c a b => by
    rw [← kbs_use] at a
    obtain ⟨p1, p2⟩ := Tab.perm (h1.calm c) h2 (fun i hi => Nat.lt_of_lt_of_le (h3 i hi) c.size) (h4.trans c) (perm_useN (kind := q.kind) (k := k) h1.keys) (t1.keep c (fun e => e)) a b
    have p3 : Tab w0 w2 (fun i => S i ∨ Btw w.heap.size w2.heap.size i) tb q (useN q.kind k E) := Tab.permS (h1.calm c) (fun i hi => (h2 i hi).1) (fun i hi hs => hs.elim (h2 i hi).2 (fun e => by
      have hlt : i < w.heap.size := hi.elim (h1.lt i) (fun hb => by obtain ⟨x, hx, rfl⟩ := List.mem_map.1 hb; exact h1.blt x hx)
      have := e.1
      omega)) (fun i hi => hi.elim (fun h => Nat.lt_of_lt_of_le (h3 i h) (Nat.le_trans c.size b.size)) (fun e => e.2)) (h4.trans c) (perm_useN (kind := q.kind) (k := k) h1.keys) (t1.keep c (fun e => e)) a b
    have kA : Calm w2 (w2.alloc (.cells #[.string (str k), slv q.val g] 72)) := (Keep.refl _ w2).alloc _
    refine ⟨Nat.le_trans c.size b.size, Row.made w2 _ _, (p3.room kA).less (fun i hi => ?_), ?_⟩
    · rcases hi with hi | hi
      · exact .inl (.inl hi)
      · by_cases hl : i < w2.heap.size
        · exact .inl (.inr ⟨hi.1, hl⟩)
        · exact .inr ⟨by omega, hi.2⟩
    obtain ⟨R', g1, g2, g3, g4⟩ := p1
    exact ⟨((Held.calm h3 c).trans p2).trans (Held.calm g3 ((Keep.refl _ w2).alloc _)), by simp⟩)
  have HL : Hid (∀ w1, Calm w w1 → w1.cell? ⟨tb, 5, none⟩ = some (.iface t v)) := Lib.hid (fun w1 c => ((t1.keep c (fun e => e)).cell 5).trans rfl)
  clear h1 h2 h3 h4 t1 t2 hc hk hg
  unfold slv at HT
  go_enter Try.func31, Try.ntmps31
  go_wp2_with fail
  refine HC.out.mono ?_
  rintro e w1 ⟨rfl, hc⟩
  have HK := Lib.hid hc
  have c6 := HL.out w1 hc
  obtain ⟨t', v', F', heq, hm', hcf', hu⟩ := HU.out w1 hc
  injection heq with he1 he2
  subst he1
  subst he2
  have HUU := Lib.hid hu
  clear hc hu HU c5 hm hcf
  go_wp2_with fail
  refine HUU.out.mono ?_
  rintro e w2 ⟨rfl, ha, hb⟩
  have HX := Lib.hid (HT.out w1 w2 HK.out ha hb)
  clear ha hb HUU HT
  go_wp2
  go_ret2
  exact ⟨_, rfl, HX.out⟩
end
end Go.Proofs.Ytnlojohjhfpbgaa

/-
  Tables: kinds: own, add.
-/
namespace Go.Proofs.Ytnlojohjhfpbgaa
open Go.RowKit Go.Deep
open Go.Maps (Keyed)
set_option linter.all false
attribute [local go_sem] Oper.semAt_some

theorem info8s : (Try.prog.info? 5).map (·.size) = some 1 := by kernel_rfl
theorem setRow_keep (w : World) (g : Nat) (cs : Array Value) : Keep (fun i => i = g) w (w.setRow g cs) :=
  ⟨rfl, rfl, rfl, by simp [World.setRow], fun i _ hi => setRow_other w g i cs hi⟩
/-- copy over the whole of a block. -/
theorem copy_rd {w : World} {g n : Nat} {cur : Array Value} (hr : Row w g 5 cur) (hs : cur.size = n) {A : Option Addr} {cap : Nat} {bs : List UInt8} (hk : Rd w (.slice A n cap) bs) (hn : bs.length = n) (hp : 1 ≤ n) (dc : Nat) :
    ∃ w', (Builtin.copy_ #[22, 22] 3 #[.slice (some ⟨g, 0, none⟩) n dc, .slice A n cap]).run Try.prog w = .ok (.int .i64 (n : Int)) w' ∧ Row w' g 5 (bs.map bv).toArray ∧ Keep (fun i => i = g) w w' := by
  rcases hk with ⟨_, rfl⟩ | ⟨ad, cap', e, h1, h2, h4⟩
  · simp at hn; omega
  · injection e with e1 e2 e3
    subst e1
    have hrun := run_copy_row (P := Try.prog) w 22 22 3 5 g 0 n dc ad n cap cur 5 (bs.map bv) Try.underlying22 info8s hr (by simp [hn]) (fun j v hj => by
      rw [List.getElem?_map] at hj
      obtain ⟨b, hb, rfl⟩ := Option.map_eq_some_iff.1 hj
      exact h4 j b hb) (by simp [hn, hs]) (bv_one bs)
    have hd : cur.toList.drop (0 + (bs.map bv).length) = [] := by
      rw [List.drop_eq_nil_iff]
      simp [hn, hs]
    rw [hd, List.take_zero, List.nil_append, List.append_nil] at hrun
    exact ⟨_, by rw [hrun]; simp [goInt, hn], setRow_heap w g cur _ _ _ hr, setRow_keep w g _⟩

set_option maxHeartbeats 1000000 in
theorem own_c {w : World} {v : Value} {bs : List UInt8} (hk : Rd w v bs) (hp : 1 ≤ bs.length) (ht : bs.length ≤ 1000) :
    Calls Try.prog 112 #[v] w fun e w' => e = .returned (.slice (some ⟨w.heap.size, 0, none⟩) bs.length bs.length) ∧ Row w' w.heap.size 5 (bs.map bv).toArray ∧ Calm w w' := by
  obtain ⟨A, cap, rfl, _, _⟩ := hk.form
  have hmk := run_make8 w bs.length (by omega)
  obtain ⟨w', h1, h2, h3⟩ := copy_rd (Row.made w 5 (zeros8 bs.length)) (by simp [zeros8]) (hk.calm ((Keep.refl _ w).alloc (.cells (zeros8 bs.length) 5))) rfl hp bs.length
  have hc : Calm w w' := ((Keep.refl (fun _ => False) w).alloc (.cells (zeros8 bs.length) 5)).then_ h3 (fun i hi e => by omega)
  have HX := Lib.hid (And.intro h2 hc)
  clear hk h2 h3 hc
  go_enter Try.func112, Try.ntmps112
  go_wp2
  go_ret
  exact ⟨rfl, HX.out.1, HX.out.2⟩

theorem add_arr (v u : Value) (k : List UInt8) (w : World) : Calls Try.prog 100 #[.agg #[v], .string (str k), u] w fun e w' => e = .returned (.int .i64 3) ∧ Calm w w' := by
  go_enter Try.func100, Try.ntmps100
  go_wp2
  go_ret
  exact ⟨rfl, (Keep.refl _ w).alloc _⟩
set_option maxHeartbeats 1000000 in
theorem add_hash_full {w : World} {b vl mx : Nat} {D : DataW Unit} (u : Value) (k : List UInt8) (hm : w.ownsMap Try.prog 9 (se vl) b (Maps.size D) D) (hs : mx ≤ Maps.size D) :
    Calls Try.prog 106 #[.agg #[.int .i64 (mx : Int), .map (some b)], .string (str k), u] w fun e w' => e = .returned (.int .i64 5) ∧ Calm w w' := by
  have hlen := fun o => (hm.alloc o).len Try.underlying141 3
  have hs' : (mx : Int) ≤ (Maps.size D : Int) := by omega
  clear hm
  go_enter Try.func106, Try.ntmps106
  go_wp2
  go_ret
  exact ⟨rfl, (Keep.refl _ w).alloc _⟩
theorem put_hash {w1 : World} {b vl : Nat} {D : DataW Unit} {kb : KB} (hm : w1.ownsMap Try.prog 9 (se vl) b (Maps.size D) D) (hD : HashD D kb) {k : List UInt8} (hk : k.length ≤ maxLen) (hkn : k ∉ keysL kb) (hl : kb.length ≤ 10000) (g : Nat) :
    ∃ w4 D', (Instr.mapUpdate 141 (.map (some b)) (.string (str k)) (.slice (some ⟨g, 0, none⟩) vl vl)).run Try.prog w1 = .ok () w4 ∧ w4.ownsMap Try.prog 9 (se vl) b (Maps.size D') D' ∧ HashD D' (kb ++ [(k, g)]) ∧ Keep (fun i => i = b) w1 w4 := by
  have law := Go.Maps.string_keyed (P := Try.prog) Try.underlying9
  obtain ⟨w4, hrun, hown4, hturn⟩ := hm.store law Try.underlying141 (by have := hD.sz; unfold maxLen; omega) (keyS k hk) (se_at vl g)
  have hgrow := hturn.grown
  exact ⟨w4, _, hrun, owns_tight' hown4, hD.put (hm.tidy law) (law.key (keyS k hk)) hkn g, ⟨hgrow.os, hgrow.tape, hgrow.output, hgrow.size, fun i hi hn => hgrow.block i hi (fun e => hn (by injection e))⟩⟩
def AddH (w : World) (vl b : Nat) (bs k : List UInt8) (kb : KB) (w' : World) : Prop :=
  ∃ (g : Nat) (D' : DataW Unit), w.heap.size ≤ g ∧ g ≠ b ∧ Row w' g 5 (bs.map bv).toArray ∧ w'.ownsMap Try.prog 9 (se vl) b (Maps.size D') D' ∧ HashD D' (kb ++ [(k, g)]) ∧ Keep (fun i => i = b) w w'
set_option maxHeartbeats 2000000 in
theorem add_hash {w : World} {b mx : Nat} {D : DataW Unit} {kb : KB} (v : Value) (bs : List UInt8) (hv : Rd w v bs) (hp : 1 ≤ bs.length) (ht : bs.length ≤ 1000) (k : List UInt8) (hk : k.length ≤ maxLen) (hm : w.ownsMap Try.prog 9 (se bs.length) b (Maps.size D) D) (hD : HashD D kb) (hkn : k ∉ keysL kb) (hs : kb.length < mx) (hmx : mx ≤ 10000) :
    Calls Try.prog 106 #[.agg #[.int .i64 (mx : Int), .map (some b)], .string (str k), v] w fun e w' => e = .returned (.int .i64 0) ∧ AddH w bs.length b bs k kb w' := by
  have hlen := fun o => (hm.alloc o).len Try.underlying141 3
  have hsz := hD.sz
  have hs' : ¬ (mx : Int) ≤ (Maps.size D : Int) := by omega
  have hs2 : (Maps.size D : Int) < (mx : Int) := by omega
  have B0 := Row.made w 143 #[.int .i64 (mx : Int), .map (some b)]
  have hc0 : Calm w (w.alloc (.cells #[.int .i64 (mx : Int), .map (some b)] 143)) := (Keep.refl _ w).alloc _
  have hm0 := hm.alloc (.cells #[.int .i64 (mx : Int), .map (some b)] 143)
  have hb0 := hm.lt
  have HO := Lib.hid (own_c (hv.calm hc0).drew hp ht)
  have HS : Hid (∀ w1 g, Calm (w.alloc (.cells #[.int .i64 (mx : Int), .map (some b)] 143)).drew w1 → w1.cell? ⟨w.heap.size, 1, none⟩ = some (.map (some b)) ∧ ∃ w4 D', (Instr.mapUpdate 141 (.map (some b)) (.string (str k)) (.slice (some ⟨g, 0, none⟩) bs.length bs.length)).run Try.prog w1 = .ok () w4 ∧ w4.ownsMap Try.prog 9 (se bs.length) b (Maps.size D') D' ∧ HashD D' (kb ++ [(k, g)]) ∧ Keep (fun i => i = b) w1 w4) :=
    Lib.hid (fun w1 g c => ⟨((B0.drew.keep c (fun e => e)).cell 1).trans rfl, put_hash (owns_keep' hm0.drew (c.block b (Nat.lt_trans hb0 (by simp)) (fun e => e))) hD hk hkn (by omega) g⟩)
  have HB := Lib.hid hb0
  have HC := Lib.hid hc0
  clear hv hp ht hm hD hkn hs hmx hsz hk hc0 hm0 hb0
  go_enter Try.func106, Try.ntmps106
  go_upto_region 3 with fail
  have c1 : (w.alloc (.cells #[.int .i64 (mx : Int), .map (some b)] 143)).cell? ⟨w.heap.size, 1, none⟩ = some (.map (some b)) := (B0.cell 1).trans rfl
  have hz : (w.alloc (.cells #[.int .i64 (mx : Int), .map (some b)] 143)).heap.size = w.heap.size + 1 := by simp
  have HZ := Lib.hid hz
  clear B0 hlen hz
  generalize w.alloc (.cells #[.int .i64 (mx : Int), .map (some b)] 143) = W0 at *
  go_region_with (refine HO.out.mono ?_; rintro e w1 ⟨rfl, r1, c1'⟩; obtain ⟨d1, w4, D', hrun, m1, m2, m3⟩ := HS.out w1 W0.heap.size c1'; have HY := Lib.hid (And.intro r1 (And.intro c1' (And.intro m1 (And.intro m2 m3)))); clear r1 c1' m1 m2 m3)
  all_goals
    go_wp2
    go_ret
    obtain ⟨r1, c1', m1, m2, m3⟩ := HY.out
    have hlt := HB.out
    have hzz := HZ.out
    have hzd : W0.drew.heap.size = W0.heap.size := rfl
    rw [hzd] at r1
    refine ⟨rfl, W0.heap.size, D', by omega, by omega, r1.keep m3 (by omega), m1, m2, ?_⟩
    exact (Calm.keep (HC.out.drew.trans c1') (fun i => i = b)).trans m3

def AddL (w : World) (R : Nat → Prop) (vl b mx : Nat) (bs k : List UInt8) (kb : KB) (w' : World) : Prop :=
  ∃ (g : Nat) (R' : Nat → Prop), w.heap.size ≤ g ∧ ¬ R' g ∧ Row w' g 5 (bs.map bv).toArray ∧ LruIs syT w' R' b mx (mapv (lv vl) (putL mx k g kb).2) ∧ Grow R R' w ∧ Keep R w w'
set_option maxRecDepth 20000 in
set_option maxHeartbeats 2000000 in
theorem add_lru {w : World} {b mx : Nat} {R : Nat → Prop} {kb : KB} (v : Value) (bs : List UInt8) (hv : Rd w v bs) (hp : 1 ≤ bs.length) (ht : bs.length ≤ 1000) (k : List UInt8) (hk : k.length ≤ maxLen) (h : LruIs syT w R b mx (mapv (lv bs.length) kb)) :
    Calls Try.prog 145 #[.agg #[.pointer (some ⟨b, 0, none⟩)], .string (str k), v] w fun e w' => e = .returned (.int .i64 0) ∧ AddL w R bs.length b mx bs k kb w' := by
  have B0 := Row.made w 147 #[.pointer (some ⟨b, 0, none⟩)]
  have hc0 : Calm w (w.alloc (.cells #[.pointer (some ⟨b, 0, none⟩)] 147)) := (Keep.refl _ w).alloc _
  have hz : (w.alloc (.cells #[.pointer (some ⟨b, 0, none⟩)] 147)).heap.size = w.heap.size + 1 := by simp
  have HO := Lib.hid (own_c (hv.calm hc0).drew hp ht)
  have HP : Hid (∀ w1 g, Calm (w.alloc (.cells #[.pointer (some ⟨b, 0, none⟩)] 147)).drew w1 → Calls Try.prog 140 #[.pointer (some ⟨b, 0, none⟩), .string (str k), .slice (some ⟨g, 0, none⟩) bs.length bs.length] w1 fun e w' => (∃ v, e = .returned v) ∧ (∃ R', LruIs syT w' R' b mx (mapv (lv bs.length) (putL mx k g kb).2) ∧ Grow R R' w1) ∧ Keep R w1 w') :=
    Lib.hid (fun w1 g c => (sy_Put' (h.calm (hc0.drew.trans c)) k (lv bs.length g) hk _ _ (putL_mapv (lv bs.length) mx k g kb) _ rfl _ rfl).mono (fun e w' a => ⟨⟨_, a.1⟩, a.2⟩))
  have HC := Lib.hid (And.intro hc0 (And.intro hz h.lt))
  have HL : Hid (∀ w1, Calm (w.alloc (.cells #[.pointer (some ⟨b, 0, none⟩)] 147)).drew w1 → w1.cell? ⟨w.heap.size, 0, none⟩ = some (.pointer (some ⟨b, 0, none⟩))) := Lib.hid (fun w1 c => ((B0.drew.keep c (fun e => e)).cell 0).trans rfl)
  clear hv hp ht hk h hc0 hz
  go_enter Try.func145, Try.ntmps145
  go_upto_region 1 with fail
  have c1 : (w.alloc (.cells #[.pointer (some ⟨b, 0, none⟩)] 147)).cell? ⟨w.heap.size, 0, none⟩ = some (.pointer (some ⟨b, 0, none⟩)) := (B0.cell 0).trans rfl
  clear B0
  generalize w.alloc (.cells #[.pointer (some ⟨b, 0, none⟩)] 147) = W0 at *
  go_region_with (first | (refine HO.out.mono ?_; rintro e w1 ⟨rfl, r1, c1'⟩; have d1 := HL.out w1 c1'; have HP1 := Lib.hid (HP.out w1 W0.heap.size c1'); have HY := Lib.hid (And.intro r1 c1'); clear r1 c1') | (refine HP1.out.mono ?_; rintro e w2 ⟨⟨vv, rfl⟩, m1, m2⟩; have HZ := Lib.hid (And.intro m1 m2); clear m1 m2))
  all_goals
    go_wp2
    go_ret
    obtain ⟨r1, c1'⟩ := HY.out
    obtain ⟨⟨R', a1, a2⟩, m2⟩ := HZ.out
    obtain ⟨hc0, hz, hlt⟩ := HC.out
    have hzd : W0.drew.heap.size = W0.heap.size := rfl
    rw [hzd] at r1
    have hg : ¬ R W0.heap.size := fun e => by have := hlt _ e; omega
    have hl1 := r1.lt
    refine ⟨rfl, W0.heap.size, R', by omega, fun e => (a2 _ e).elim hg (fun e' => by omega), r1.keep m2 hg, a1, fun i hi => (a2 i hi).imp id (fun e => by omega), ?_⟩
    exact (Calm.keep (hc0.drew.trans c1') R).trans m2
end Go.Proofs.Ytnlojohjhfpbgaa

