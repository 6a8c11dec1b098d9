/-
  The document's answer for disk: Arm.
-/
import Derived.Test.YtppehlnfoendgaaRef6
import Derived.Laws.AppendOwnNone
import Derived.Deep.DeepCutAuto
import Derived.Deep.CutBlock
namespace Go.Proofs.Ytppehlnfoendgaa
open Go.RowKit
set_option linter.all false

def armOf (n : Int) (ks : List Bool) : Option (Nat × List Bool) := if n < 0 then none else some (n.toNat, ks)

theorem own_form {w : World} {base : Nat} {t : TypeId} {size : Nat} {v : Value} {n : Nat} {xs : List Value} (h : w.ownsRow base t size v n xs) : ∃ A c, v = .slice A n c := by
  rcases h.2 with ⟨h0, h1⟩ | ⟨g, cap, cur, h0, _⟩
  · exact ⟨none, 0, by rw [h0, h1]⟩
  · exact ⟨_, _, h0⟩
theorem rarm_pack {w w1 w2 : World} {R : Nat → Prop} {r : Nat} {S : DS} {dv wv kv v' : Value} {left left' : Int} {kl ks : List Bool} (h : RLay w R r S dv wv kv left kl) (e1 : w1 = w.setCell ⟨r, 4, none⟩ (.int .i64 left')) (k : Calm w1 w2)
    (hown : w2.ownsRow w1.heap.size 4 1 v' ks.length (ks.map Value.bool)) (a : Option (Nat × List Bool)) (ha : LeftIs left' ks a) :
    IsRef (w2.setCell ⟨r, 5, none⟩ v') (Grow R w (w2.setCell ⟨r, 5, none⟩ v')) r { S with arm := a } ∧ Keep R w (w2.setCell ⟨r, 5, none⟩ v') := by
  have hs1 : w1.heap.size = w.heap.size := by rw [e1]; exact World.size_setCell _ _ _
  have hs2 : (w2.setCell ⟨r, 5, none⟩ v').heap.size = w2.heap.size := World.size_setCell _ _ _
  have top1 : Row w1 r 38 #[dv, wv, .bool S.down, .int .i64 S.ops, .int .i64 left', kv] := by rw [e1]; simpa using h.top.store 4 (.int .i64 left')
  have far : ∀ {g t cur}, t ≠ 38 → Row w g t cur → Row (w2.setCell ⟨r, 5, none⟩ v') g t cur := fun {g t cur} ht hr => by
    have hne := hr.ne h.top ht
    have : Row w1 g t cur := by rw [e1]; exact hr.far (p := ⟨r, 4, none⟩) hne _
    exact (this.keep k (fun e => e)).far (p := ⟨r, 5, none⟩) hne _
  have top2 : Row w2 r 38 #[dv, wv, .bool S.down, .int .i64 S.ops, .int .i64 left', kv] := top1.keep k (fun e => e)
  have kw : Keep R w (w2.setCell ⟨r, 5, none⟩ v') := by
    have k1 : Keep R w w1 := by rw [e1]; exact (Keep.refl R w).store (p := ⟨r, 4, none⟩) (fun _ => h.rd) _
    exact (k1.trans (k.keep R)).store (p := ⟨r, 5, none⟩) (fun _ => h.rd) _
  refine ⟨⟨dv, wv, v', left', ks, ?_, own_move h.done (fun g cur _ b => far (by decide) b), own_move h.wrow (fun g cur _ b => far (by decide) b), ?_, ha, .inl h.rd, fun g e => .inl (h.rD g e), fun g e => .inl (h.rW g e), ?_, h.few, h.some_, h.at_⟩, kw⟩
  · simpa using top2.store 5 v'
  · have := own_move hown (w' := w2.setCell ⟨r, 5, none⟩ v') (fun g cur hg b => Row.far b (p := ⟨r, 5, none⟩) (Row.ne b top2 (by decide)) _)
    rcases this with ⟨a1, a2⟩
    refine ⟨a1, ?_⟩
    rcases a2 with a2 | ⟨g, cap, cur, b0, b1, b2, b3⟩
    · exact .inl a2
    · exact .inr ⟨g, cap, cur, b0, Nat.zero_le _, b2, b3⟩
  · intro g e
    have hlt := hown.lt g e
    rcases hown.2 with ⟨a2, _⟩ | ⟨g', cap, cur, b0, b1, b2, b3⟩
    · rw [a2] at e; simp [Value.ownBlock] at e
    · rw [b0] at e
      have : g' = g := by simpa [Value.ownBlock] using e
      subst this
      have := (show Row w2 g' 4 cur from b2).lt
      exact .inr ⟨by omega, by omega⟩

set_option maxHeartbeats 1600000 in
theorem rarm_c {w : World} {R : Nat → Prop} {r : Nat} {S : DS} (h : IsRef w R r S) (n : Int) (hn : n ≤ 9223372036854775807) (A : Option Addr) (c : Nat) (ks : List Bool) (hk : Bools w (fun k => ¬ R k) (.slice A ks.length c) ks) (hm : ks.length ≤ 1000000000) (hz : A = none → c = 0) :
    Calls Try.prog 24 #[.pointer (some ⟨r, 0, none⟩), .int .i64 n, .slice A ks.length c] w fun e w' => e = .returned (.tuple #[]) ∧ IsRef w' (Grow R w w') r { S with arm := armOf n ks } ∧ Keep R w w' := by
  obtain ⟨dv, wv, kv, left, kl, h⟩ := h
  obtain ⟨i0, hi0, hz0, hz1, hz2⟩ := info_parts info4
  have t4 := h.top.cell 4
  have f4 := h.top.soft 4
  simp at t4
  have hrl := h.top.lt
  obtain ⟨left', hl', ha⟩ : ∃ left', left' = (if n < -1 then -1 else n) ∧ LeftIs left' ks (armOf n ks) := by
    refine ⟨_, rfl, ?_⟩
    unfold armOf
    by_cases h0 : n < 0
    · rw [if_pos h0]; show (if n < -1 then -1 else n) = -1; split <;> omega
    · rw [if_neg h0]; exact ⟨by rw [if_neg (by omega)]; omega, rfl, by unfold big; omega⟩
  have H := Lib.hid h
  have Ha := Lib.hid ha
  have Hk := Lib.hid hk
  have K5 : Hid (∀ v, ∀ W, W = w.setCell ⟨r, 4, none⟩ v → r < W.heap.size ∧ W.heap.size = w.heap.size ∧ W.cell? ⟨r, 5, none⟩ = some kv ∧ W.frozen? ⟨r, 5, none⟩ = false ∧ ∀ (j : Nat) b, ks[j]? = some b → ∃ ad, A = some ad ∧ W.cell? (ad.add j) = some (.bool b)) := Lib.hid (fun v W e => by
    have t : Row W r 38 #[dv, wv, .bool S.down, .int .i64 S.ops, v, kv] := by rw [e]; simpa using h.top.store 4 v
    refine ⟨t.lt, by rw [e]; exact World.size_setCell _ _ _, by have := t.cell 5; simpa using this, t.soft 5, fun j b hb => ?_⟩
    obtain ⟨A', c', e', hc⟩ := hk
    injection e' with e1 _ e2
    subst e1
    obtain ⟨ad, e3, e4, _, e5⟩ := hc j b hb
    refine ⟨ad, e3, ?_⟩
    rw [e]
    exact (World.cell?_setCell_other _ _ _ _ (fun e => e4 (by rw [← Addr.add_block ad j, ← e]; exact h.rd))).trans e5)
  clear h hk ha
  go_enter Try.func24, Try.ntmps24
  go_upto_region 1 with fail
  rw [← hl']
  obtain ⟨w1, hw1⟩ : ∃ w1, w1 = w.setCell ⟨r, 4, none⟩ (.int .i64 left') := ⟨_, rfl⟩
  rw [← hw1]
  obtain ⟨q1, q2, q3, q4, q5⟩ := K5.out _ w1 hw1
  have Hw1 := Lib.hid hw1
  have Q5 := Lib.hid q5
  clear hl' hw1 q5 q2 K5 t4 f4
  cases A with
  | none =>
    obtain rfl := hz rfl
    have hk0 : ks = [] := by
      cases ks with
      | nil => rfl
      | cons b l => obtain ⟨ad, e, _⟩ := Q5.out 0 b rfl; cases e
    subst hk0
    have OM : (w1.alloc (.cells #[] 4)).ownsRow w1.heap.size 4 1 (.slice (some ⟨w1.heap.size, 0, none⟩) 0 0) 0 [] := World.ownsRow_made w1 #[] 0 (Nat.le_refl _) (Nat.zero_le _) rfl
    have CC : Calm w1 (w1.alloc (.cells #[] 4)) := (Keep.refl _ w1).alloc _
    have c5 : (w1.alloc (.cells #[] 4)).cell? ⟨r, 5, none⟩ = some kv := (World.cell?_alloc_lt _ _ _ q1).trans q3
    have f5 : (w1.alloc (.cells #[] 4)).frozen? ⟨r, 5, none⟩ = false := (World.frozen?_alloc_old _ _ _ (by simp; omega)).trans q4
    go_wp2_with (at_builtin; go_loud (refine wpList_append_own_none rfl (.tmp 12) (.tmp 13) 32 rfl w1.heap.size 4 i0 1 Try.underlying32 hi0 (.slice (some ⟨w1.heap.size, 0, none⟩) 0 0) 0 [] rfl OM rfl ?_); generalize World.alloc _ _ = w2 at OM CC c5 f5 ⊢; have P := Lib.hid (rarm_pack H.out Hw1.out CC OM _ Ha.out); clear OM CC)
    go_end0
    exact ⟨rfl, P.out⟩
  | some ad =>
    have Hc2 : Hid (∀ (j : Nat) u, (ks.map Value.bool)[j]? = some u → (w1.alloc (.cells #[] 4)).cell? (ad.add j) = some u) := Lib.hid (fun j u hj => by
      rw [List.getElem?_map, Option.map_eq_some_iff] at hj
      obtain ⟨b, hb, rfl⟩ := hj
      obtain ⟨ad', e, h4⟩ := Q5.out j b hb
      cases e
      exact (World.cell?_alloc_lt w1 _ (ad.add j) (World.block_lt_of_cell? _ _ h4)).trans h4)
    have H1 : Hid (∀ u ∈ ks.map Value.bool, u.oneCell' = true) := Lib.hid (fun u hu => by simp at hu; rcases hu with ⟨_, rfl⟩ | ⟨_, rfl⟩ <;> rfl)
    have hrn : some r ≠ (Value.slice (some ⟨w1.heap.size, 0, none⟩) 0 0).ownBlock := by simp [Value.ownBlock]; omega
    go_wp2_with (at_builtin; go_loud (refine wpList_append_own _ rfl (.tmp 12) (.tmp 13) 32 rfl w1.heap.size 4 i0 _ 1 1 Try.underlying32 hi0 hz0 hz1 hz2 rfl (by decide) (.slice (some ⟨w1.heap.size, 0, none⟩) 0 0) 0 [] rfl (World.ownsRow_made w1 #[] 0 (Nat.le_refl _) (Nat.zero_le _) rfl) ad ks.length c (ks.map Value.bool) rfl (by simp) Hc2.out H1.out (by simp only [maxLen]; omega) (by omega) (by simp) ?_); intro v' w2 hown hg hnil; obtain ⟨A', c', rfl⟩ := own_form hown; have P := Lib.hid (rarm_pack H.out Hw1.out (((Keep.refl _ w1).alloc _).grown hg (fun k e hk => by simp [Value.ownBlock] at e; omega)) (by simpa using hown) _ Ha.out); have c5 : w2.cell? ⟨r, 5, none⟩ = some kv := (World.cell?_of_block (a := ⟨r, 5, none⟩) (hg.block r (by simp; omega) hrn)).trans ((World.cell?_alloc_lt _ _ _ q1).trans q3); have f5 : w2.frozen? ⟨r, 5, none⟩ = false := (World.frozen?_of_block (a := ⟨r, 5, none⟩) (hg.block r (by simp; omega) hrn)).trans ((World.frozen?_alloc_old _ _ _ (by simp; omega)).trans q4); clear hown hg hnil)
    go_end0
    exact ⟨rfl, P.out⟩
end Go.Proofs.Ytppehlnfoendgaa
