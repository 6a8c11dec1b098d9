/-
  Tables: Lookup.
-/
import Derived.Test.YtiipepiabeccpaaT9
import Derived.Test.YtiipepiabeccpaaLRd
namespace Go.Proofs.Ytiipepiabeccpaa
open Go.RowKit Go.Deep
open Go.Maps (Keyed)
set_option linter.all false
attribute [local go_sem] Oper.semAt_some

def useN (kind : Nat) (k : List UInt8) (E : List Ent) : List Ent := if kind = 3 then useL k E else E
theorem kbs_use (kind : Nat) (k : List UInt8) (E : List Ent) : kbs (useN kind k E) = useKB kind k (kbs E) := by
  unfold useN useKB
  split
  · exact (useL_mapv _ _ _).symm
  · rfl
theorem perm_useN {kind : Nat} {k : List UInt8} {E : List Ent} (hn : (keysL E).Nodup) : (useN kind k E).Perm E := by
  unfold useN
  split
  · exact perm_useL hn
  · exact List.Perm.refl _
theorem getL_kbs (k : List UInt8) (E : List Ent) : getL k (kbs E) = (getL k E).map (·.1) := getL_mapv _ _ _

section
variable {w0 w w' : World} {R S : Nat → Prop} {tb : Nat} {q : MN} {E E' : List Ent}
theorem TabAt.turn (h : TabAt w R tb q E) (hs : ∀ x ∈ E', x ∈ E) (hk : (keysL E').Nodup) (hb : (blks E').Nodup) (hf : E'.length ≤ q.max) {ev : Value}
    (h1 : Row w tb 128 #[.string (str q.name), .int .i64 (q.kind : Int), .int .i64 (q.key : Int), .int .i64 (q.val : Int), .int .i64 (q.max : Int), ev])
    (kk : KindIs w' (fun i => R i ∧ i ≠ tb) q (kbs E') ev) (kp : Keep (fun i => R i ∧ i ≠ tb) w w') : TabAt w' R tb q E' :=
  ⟨h.ok, ⟨ev, h1.keep kp (fun e => e.2 rfl), kk⟩, h.rt, fun i hi => Nat.lt_of_lt_of_le (h.lt i hi) kp.size, fun x hx => ⟨(h.ent x (hs x hx)).1.keep kp (fun e => h.off x (hs x hx) e.1), (h.ent x (hs x hx)).2⟩, fun x hx => h.off x (hs x hx), hb, hk, fun x hx => h.klen x (hs x hx), hf⟩
theorem TabAt.perm (h : TabAt w R tb q E) (hp : E'.Perm E) {ev : Value}
    (h1 : Row w tb 128 #[.string (str q.name), .int .i64 (q.kind : Int), .int .i64 (q.key : Int), .int .i64 (q.val : Int), .int .i64 (q.max : Int), ev])
    (kk : KindIs w' (fun i => R i ∧ i ≠ tb) q (kbs E') ev) (kp : Keep (fun i => R i ∧ i ≠ tb) w w') : TabAt w' R tb q E' :=
  h.turn (fun x hx => hp.mem_iff.1 hx) ((List.Perm.nodup_iff (show (keysL E').Perm (keysL E) from by unfold keysL; exact hp.map _)).2 h.keys) ((List.Perm.nodup_iff (show (blks E').Perm (blks E) from by unfold blks; exact hp.map _)).2 h.nod) (by rw [hp.length_eq]; exact h.few) h1 kk kp

def LookNo (w0 w : World) (S : Nat → Prop) (tb : Nat) (q : MN) (E : List Ent) (w' : World) : Prop := Tab w0 w' S tb q E ∧ Held S w w'
set_option maxRecDepth 20000 in
set_option maxHeartbeats 2000000 in
theorem lookup_no (h : Tab w0 w S tb q E) {kv : Value} {k : List UInt8} (hk : Rd w kv k) (hg : getL k E = none) :
    Calls Try.prog 37 #[.pointer (some ⟨tb, 0, none⟩), kv] w fun e w' => e = .returned (.tuple #[.pointer none, .bool false]) ∧ LookNo w0 w S tb q E w' := by
  obtain ⟨R, h1, h2, h3, h4⟩ := h
  obtain ⟨ev, t1, t2⟩ := h1.top
  have c5 : w.cell? ⟨tb, 5, none⟩ = some ev := (t1.cell 5).trans rfl
  obtain ⟨t, v, F, rfl, hm, hcf, hc⟩ := kfind_c h1.ok t2 (by rw [keys_kbs]; exact h1.keys) k hk.len
  rw [getL_kbs, hg] at hc
  have hcv := conv_rd hk
  obtain ⟨A, cap, rfl, _, _⟩ := hk.form
  have HC := Lib.hid hc
  have HT : Hid (∀ w', Calm w w' → LookNo w0 w S tb q E w') := Lib.hid (fun w' c => ⟨⟨R, h1.calm c, h2, fun i hi => Nat.lt_of_lt_of_le (h3 i hi) c.size, h4.trans c⟩, Held.calm h3 c⟩)
  clear h1 h2 h3 h4 t1 t2 hc hk hg
  go_enter Try.func37, Try.ntmps37
  go_wp2_with fail
  refine HC.out.mono ?_
  rintro e w' ⟨rfl, hc⟩
  have HK := Lib.hid hc
  clear hc
  go_wp2
  go_ret2
  exact ⟨rfl, HT.out _ HK.out⟩

def LookYes (w0 w : World) (S : Nat → Prop) (tb : Nat) (q : MN) (E : List Ent) (k : List UInt8) (g x : Nat) (w' : World) : Prop :=
  w.heap.size ≤ x ∧ Row w' x 78 #[.string (str k), slv q.val g] ∧ Tab w0 w' (fun i => S i ∨ i = x) tb q (useN q.kind k E) ∧ Held S w w'
theorem Tab.grown {S : Nat → Prop} (h : Tab w0 w S tb q E) (o : Obj) : Tab w0 (w.alloc o) (fun i => S i ∨ i = w.heap.size) tb q E := by
  obtain ⟨R, h1, h2, h3, h4⟩ := h
  have hc : Calm w (w.alloc o) := (Keep.refl _ w).alloc o
  refine ⟨R, h1.calm hc, fun i hi => ⟨(h2 i hi).1, ?_⟩, ?_, h4.trans hc⟩
  · rintro (e | rfl)
    · exact (h2 i hi).2 e
    · rcases hi with hi | hi
      · exact Nat.lt_irrefl _ (h1.lt _ hi)
      · obtain ⟨x, hx, e⟩ := List.mem_map.1 hi
        have := h1.blt x hx
        omega
  · rintro i (hi | rfl)
    · exact Nat.lt_of_lt_of_le (h3 i hi) hc.size
    · simp
theorem Tab.perm {S : Nat → Prop} {R : Nat → Prop} (h1 : TabAt w R tb q E) (h2 : ∀ i, R i ∨ i ∈ blks E → w0.heap.size ≤ i ∧ ¬ S i) (h3 : ∀ i, S i → i < w.heap.size) (h4 : Calm w0 w) (hp : E'.Perm E) {ev : Value}
    (t1 : Row w tb 128 #[.string (str q.name), .int .i64 (q.kind : Int), .int .i64 (q.key : Int), .int .i64 (q.val : Int), .int .i64 (q.max : Int), ev])
    (kk : KindIs w' (fun i => R i ∧ i ≠ tb) q (kbs E') ev) (kp : Keep (fun i => R i ∧ i ≠ tb) w w') : Tab w0 w' S tb q E' ∧ Held S w w' := by
  refine ⟨⟨R, h1.perm hp t1 kk kp, fun i hi => h2 i (hi.imp id (fun hb => ?_)), fun i hi => Nat.lt_of_lt_of_le (h3 i hi) kp.size, h4.then_ kp (fun i hi hr => ?_)⟩, fun i hi => kp.block i (h3 i hi) (fun e => (h2 i (.inl e.1)).2 hi)⟩
  · have : (blks E').Perm (blks E) := by unfold blks; exact hp.map _
    exact this.mem_iff.1 hb
  · have := (h2 i (.inl hr.1)).1
    omega
set_option maxRecDepth 20000 in
set_option maxHeartbeats 2000000 in
theorem lookup_yes (h : Tab w0 w S tb q E) {kv : Value} {k bs : List UInt8} {g : Nat} (hk : Rd w kv k) (hg : getL k E = some (g, bs)) :
    Calls Try.prog 37 #[.pointer (some ⟨tb, 0, none⟩), kv] w fun e w' => ∃ x : Nat, e = .returned (.tuple #[.pointer (some ⟨x, 0, none⟩), .bool true]) ∧ LookYes w0 w S tb q E k g x w' := by
  obtain ⟨R, h1, h2, h3, h4⟩ := h
  obtain ⟨ev, t1, t2⟩ := h1.top
  have c5 : w.cell? ⟨tb, 5, none⟩ = some ev := (t1.cell 5).trans rfl
  obtain ⟨t, v, F, rfl, hm, hcf, hc⟩ := kfind_c h1.ok t2 (by rw [keys_kbs]; exact h1.keys) k hk.len
  rw [getL_kbs, hg] at hc
  simp only [Option.map_some, Option.isSome_some, fv, slv] at hc
  have hcv := conv_rd hk
  have hkl := hk.len
  obtain ⟨A, cap, rfl, _, _⟩ := hk.form
  have HC := Lib.hid hc
  have HU : Hid (∀ w1, Calm w w1 → Meth (.iface t v) "swingbridge/table.use" [.string (str k)] w1 fun e w' => e = .returned (.tuple #[]) ∧ KindIs w' (fun i => R i ∧ i ≠ tb) q (useKB q.kind k (kbs E)) (.iface t v) ∧ Keep (fun i => R i ∧ i ≠ tb) w1 w') :=
    Lib.hid (fun w1 c => kuse_c (fun i hi => (h1.calm c).lt i hi.1) (t2.keep (fun i hi => h1.lt i hi.1) c (fun _ _ e => e)) k hkl)
  have HT : Hid (∀ w1 w2, Calm w w1 → KindIs w2 (fun i => R i ∧ i ≠ tb) q (useKB q.kind k (kbs E)) (.iface t v) → Keep (fun i => R i ∧ i ≠ tb) w1 w2 → LookYes w0 w S tb q E k g w2.heap.size (w2.alloc (.cells #[.string (str k), slv q.val g] 78))) := Lib.hid (fun w1 w2 c a b => by
    rw [← kbs_use] at a
    obtain ⟨p1, p2⟩ := Tab.perm (h1.calm c) h2 (fun i hi => Nat.lt_of_lt_of_le (h3 i hi) c.size) (h4.trans c) (perm_useN (kind := q.kind) (k := k) h1.keys) (t1.keep c (fun e => e)) a b
    refine ⟨Nat.le_trans c.size b.size, Row.made w2 _ _, p1.grown _, ?_⟩
    obtain ⟨R', g1, g2, g3, g4⟩ := p1
    exact ((Held.calm h3 c).trans p2).trans (Held.calm g3 ((Keep.refl _ w2).alloc _)))
  have HL : Hid (∀ w1, Calm w w1 → w1.cell? ⟨tb, 5, none⟩ = some (.iface t v)) := Lib.hid (fun w1 c => ((t1.keep c (fun e => e)).cell 5).trans rfl)
  clear h1 h2 h3 h4 t1 t2 hc hk hg
  unfold slv at HT
  go_enter Try.func37, Try.ntmps37
  go_wp2_with fail
  refine HC.out.mono ?_
  rintro e w1 ⟨rfl, hc⟩
  have HK := Lib.hid hc
  have c6 := HL.out w1 hc
  obtain ⟨t', v', F', heq, hm', hcf', hu⟩ := HU.out w1 hc
  injection heq with he1 he2
  subst he1
  subst he2
  have HUU := Lib.hid hu
  clear hc hu HU c5 hm hcf
  go_wp2_with fail
  refine HUU.out.mono ?_
  rintro e w2 ⟨rfl, ha, hb⟩
  have HX := Lib.hid (HT.out w1 w2 HK.out ha hb)
  clear ha hb HUU HT
  go_wp2
  go_ret2
  exact ⟨_, rfl, HX.out⟩
end
end Go.Proofs.Ytiipepiabeccpaa
