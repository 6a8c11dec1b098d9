/-
  Tables: Delete; Len, Map as a caller sees them; New.
-/
import Derived.Test.YtnlojohjhfpbgaaT15
namespace Go.Proofs.Ytnlojohjhfpbgaa
open Go.RowKit Go.Deep
open Go.Maps (Keyed)
set_option linter.all false

theorem Held.undrew {S : Nat → Prop} {w w' : World} (h : Held S w.drew w') : Held S w w' := ⟨h.blk, h.size⟩
attribute [local go_sem] Oper.semAt_some

section
variable {w0 w w' : World} {S : Nat → Prop} {tb : Nat} {q : MN} {E : List Ent}
theorem kbs_drop (k : List UInt8) (E : List Ent) : kbs (dropL k E) = dropL k (kbs E) := (dropL_mapv _ _ _).symm
theorem drop_sub (k : List UInt8) (E : List Ent) : (dropL k E).Sublist E := List.filter_sublist
set_option maxRecDepth 20000 in
set_option maxHeartbeats 2000000 in
theorem delete_bad (h : Tab w0 w S tb q E) {kv : Value} {k : List UInt8} (hk : Rd w kv k) (hb : k.length ≠ q.key) :
    Calls Try.prog 35 #[.pointer (some ⟨tb, 0, none⟩), kv] w fun e w' => e = .returned (.int .i64 1) ∧ LookNo w0 w S tb q E w' := by
  obtain ⟨R, h1, h2, h3, h4⟩ := h
  obtain ⟨ev, t1, t2⟩ := h1.top
  have c2 : w.cell? ⟨tb, 2, none⟩ = some (.int .i64 (q.key : Int)) := (t1.cell 2).trans rfl
  obtain ⟨A, cap, rfl, _, _⟩ := hk.form
  have HT : Hid (LookNo w0 w S tb q E w) := Lib.hid ⟨⟨R, h1, h2, h3, h4⟩, Held.refl S w⟩
  have e1 : ((k.length : Int) != (q.key : Int)) = true := by rw [bne_iff_ne]; omega
  clear h1 h2 h3 h4 t1 t2 hk hb
  go_enter Try.func35, Try.ntmps35
  go_wp2
  go_ret
  exact ⟨rfl, HT.out⟩

def Del (w0 w : World) (S : Nat → Prop) (tb : Nat) (q : MN) (E : List Ent) (k : List UInt8) (w' : World) : Prop := Tab w0 w' (Gone S E (dropL k E)) tb q (dropL k E) ∧ Held (Gone S E (dropL k E)) w w'
set_option maxRecDepth 20000 in
set_option maxHeartbeats 2000000 in
theorem delete_c (h : Tab w0 w S tb q E) {kv : Value} {k : List UInt8} (hk : Rd w kv k) (hl : k.length = q.key) (n : Int) (Q : World → Prop)
    (hQ : (((q.kind = 1 ∧ n = 6) ∨ (q.kind ≠ 1 ∧ getL k E = none ∧ n = 3)) ∧ ∀ w', LookNo w0 w S tb q E w' → Q w') ∨ (q.kind ≠ 1 ∧ (getL k E).isSome = true ∧ n = 0 ∧ ∀ w', Del w0 w S tb q E k w' → Q w')) :
    Calls Try.prog 35 #[.pointer (some ⟨tb, 0, none⟩), kv] w fun e w' => e = .returned (.int .i64 n) ∧ Q w' := by
  obtain ⟨R, h1, h2, h3, h4⟩ := h
  obtain ⟨ev, t1, t2⟩ := h1.top
  have c2 : w.cell? ⟨tb, 2, none⟩ = some (.int .i64 (q.key : Int)) := (t1.cell 2).trans rfl
  have c5 : w.cell? ⟨tb, 5, none⟩ = some ev := (t1.cell 5).trans rfl
  have hcv := conv_rd hk
  have hcv' : Sem.run Try.prog (convert 22 9 kv) w.drew = .ok (.string (str k)) w.drew := conv_rd hk.drew
  have HD : Hid (∃ t u F, ev = .iface t u ∧ (∀ w, Sem.run Try.prog (method 301 t u "swingbridge/table.drop") w = .ok (F, u) w) ∧ (∀ a w, Sem.run Try.prog (callFunc F a) w = .ok (.enter F a) w) ∧ Calls Try.prog F #[u, .string (str k)] w.drew fun e w' => e = .returned (.int .i64 n) ∧ Q w') := Lib.hid (by
    have ht := h1.calm ((Keep.refl (fun _ => False) w).drew)
    have tt1 := t1.drew
    have tt2 := t2.keep (fun i hi => h1.lt i hi.1) ((Keep.refl (fun _ => False) w).drew) (fun _ _ e => e)
    have hh4 := h4.drew
    have hn : (keysL (kbs E)).Nodup := by rw [keys_kbs]; exact h1.keys
    rcases hQ with ⟨hc, hQ⟩ | ⟨hc1, hc2, rfl, hQ⟩
    · rcases hc with ⟨hc, rfl⟩ | ⟨hc, hg, rfl⟩
      · obtain ⟨t', u', F', e1, e2, e3, e4⟩ := kdrop_arr tt2 hc k
        refine ⟨t', u', F', e1, e2, e3, e4.mono ?_⟩
        rintro e w' ⟨rfl, hcc⟩
        exact ⟨rfl, hQ _ ⟨⟨R, ht.calm hcc, h2, fun i hi => Nat.lt_of_lt_of_le (h3 i hi) hcc.size, hh4.trans hcc⟩, (Held.calm (w := w.drew) h3 hcc).undrew⟩⟩
      · obtain ⟨t', u', F', e1, e2, e3, e4⟩ := kdrop_no (fun i hi => ht.lt i hi.1) tt2 hc hn k hk.len (by rw [keys_kbs]; exact getL_none hg)
        refine ⟨t', u', F', e1, e2, e3, e4.mono ?_⟩
        rintro e w' ⟨rfl, a, b⟩
        have := Tab.perm ht h2 h3 hh4 (List.Perm.refl E) (e1 ▸ tt1) (e1 ▸ a) b
        exact ⟨rfl, hQ _ ⟨this.1, Held.undrew this.2⟩⟩
    · obtain ⟨⟨d, bs⟩, hg⟩ := Option.isSome_iff_exists.1 hc2
      have hm : (k, d) ∈ kbs E := List.mem_map.2 ⟨_, getL_some hg, rfl⟩
      obtain ⟨t', u', F', e1, e2, e3, e4⟩ := kdrop_yes tt2 hc1 hn k hk.len hm
      refine ⟨t', u', F', e1, e2, e3, e4.mono ?_⟩
      rintro e w' ⟨rfl, a, b⟩
      rw [← kbs_drop] at a
      have p := tab_less (w := w.drew) ht h2 h3 hh4 (drop_sub k E) tt1 a b
      exact ⟨rfl, hQ _ ⟨p.1, Held.undrew p.2⟩⟩)
  obtain ⟨A, cap, rfl, _, _⟩ := hk.form
  have e1 : ((k.length : Int) != (q.key : Int)) = false := by rw [bne_eq_false_iff_eq]; omega
  clear h1 h2 h3 h4 t1 t2 hk hl hQ
  obtain ⟨t, u, F, rfl, hm, hcf, hc⟩ := HD.out
  have HC := Lib.hid hc
  clear hc HD
  go_enter Try.func35, Try.ntmps35
  go_wp2_with fail
  go_region_with (refine HC.out.mono ?_; rintro e w1 ⟨rfl, hX⟩; have HX := Lib.hid hX; clear hX)
  all_goals
    go_wp2
    go_ret
    exact ⟨rfl, HX.out⟩

/-! Len, Map -/
theorem len_c (h : Tab w0 w S tb q E) : Calls Try.prog 38 #[.pointer (some ⟨tb, 0, none⟩)] w fun e w' => e = .returned (.int .i64 (E.length : Int)) ∧ LookNo w0 w S tb q E w' := by
  obtain ⟨R, h1, h2, h3, h4⟩ := h
  refine (tLen_c h1).mono ?_
  rintro e w' ⟨rfl, c⟩
  exact ⟨rfl, ⟨R, h1.calm c, h2, fun i hi => Nat.lt_of_lt_of_le (h3 i hi) c.size, h4.trans c⟩, Held.calm h3 c⟩
theorem map_c (h : Tab w0 w S tb q E) : Calls Try.prog 53 #[.pointer (some ⟨tb, 0, none⟩)] w fun e w' => e = .returned q.mp.agg ∧ LookNo w0 w S tb q E w' := by
  obtain ⟨R, h1, h2, h3, h4⟩ := h
  obtain ⟨ev, t1, t2⟩ := h1.top
  refine (tMap_c t1).mono ?_
  rintro e w' ⟨rfl, c⟩
  exact ⟨rfl, ⟨R, h1.calm c, h2, fun i hi => Nat.lt_of_lt_of_le (h3 i hi) c.size, h4.trans c⟩, Held.calm h3 c⟩
/-- What is written into S leaves the table alone. -/
theorem Tab.away (h : Tab w0 w S tb q E) {Q : Nat → Prop} (k : Keep Q w w') (hQ : ∀ i, Q i → S i) (hn : ∀ i, Q i → w0.heap.size ≤ i) : Tab w0 w' S tb q E := by
  obtain ⟨R, h1, h2, h3, h4⟩ := h
  exact ⟨R, h1.keep k (fun i hi hq => (h2 i (.inl hi)).2 (hQ i hq)) (fun x hx hq => (h2 _ (.inr (List.mem_map.2 ⟨x, hx, rfl⟩))).2 (hQ _ hq)), h2, fun i hi => Nat.lt_of_lt_of_le (h3 i hi) k.size, h4.then_ k (fun i hi hq => by have := hn i hq; omega)⟩
/-- An entry's Data turn, by whoever has them. -/
theorem Tab.set (h : Tab w0 w S tb q E) {k bs bs' : List UInt8} {d : Nat} (hm : (k, d, bs) ∈ E) (kp : Keep (fun i => i = d) w w') (hr : Row w' d 5 (bs'.map bv).toArray) (hl : bs'.length = q.val) : Tab w0 w' S tb q (setT k bs' E) ∧ Held S w w' := by
  obtain ⟨R, h1, h2, h3, h4⟩ := h
  have h0 := h2 d (.inr (List.mem_map.2 ⟨_, hm, rfl⟩))
  exact ⟨⟨R, h1.set hm kp hr hl, by rw [blks_set]; exact h2, fun i hi => Nat.lt_of_lt_of_le (h3 i hi) kp.size, h4.then_ kp (fun i hi e => by have := h0.1; omega)⟩, ⟨fun i hi => kp.block i (h3 i hi) (fun e => h0.2 (e ▸ hi)), kp.size⟩⟩
theorem Tab.ok (h : Tab w0 w S tb q E) : q.Ok := by obtain ⟨_, h, _⟩ := h; exact h.ok
theorem Tab.keys (h : Tab w0 w S tb q E) : (keysL E).Nodup := by obtain ⟨_, h, _⟩ := h; exact h.keys
theorem Tab.few (h : Tab w0 w S tb q E) : E.length ≤ q.max := by obtain ⟨_, h, _⟩ := h; exact h.few
theorem Tab.data (h : Tab w0 w S tb q E) {x : Ent} (hx : x ∈ E) : Row w x.2.1 5 (x.2.2.map bv).toArray ∧ x.2.2.length = q.val := by obtain ⟨_, h, _⟩ := h; exact h.ent x hx
theorem Tab.slt (h : Tab w0 w S tb q E) : ∀ i, S i → i < w.heap.size := by obtain ⟨_, _, _, h, _⟩ := h; exact h
end
end Go.Proofs.Ytnlojohjhfpbgaa
