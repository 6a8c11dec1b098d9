/-
  One instance of the list: what its calls do, over rows of keys and values.
-/
import Derived.Test.YtnlojohjhfpbgaaLsy3
namespace Go.Proofs.Ytnlojohjhfpbgaa
open Go.RowKit
open Go.Maps (Keyed)
set_option linter.all false

section
variable {w : World} {R : Nat → Prop} {b most : Nat} {L : List ((List UInt8) × (Option Addr × Nat × Nat))}

theorem sy_keys {es : List (Nat × (List UInt8) × (Option Addr × Nat × Nat))} : keysL (es.map (·.2)) = es.map (·.2.1) := by simp [keysL, Function.comp_def]
/-- One that is there, in memory and in the row. -/

theorem sy_there {es : List (Nat × (List UInt8) × (Option Addr × Nat × Nat))} {k : List UInt8} (hn : (es.map (·.2.1)).Nodup) (h : k ∈ keysL (es.map (·.2))) :
    ∃ l1 g v l2, es = l1 ++ (g, k, v) :: l2 ∧ getL k (es.map (·.2)) = some v ∧ dropL k (es.map (·.2)) = (l1 ++ l2).map (·.2) := by
  rw [sy_keys] at h
  obtain ⟨x, hx, rfl⟩ := List.mem_map.1 h
  obtain ⟨l1, l2, rfl⟩ := List.append_of_mem hx
  obtain ⟨g, k, v⟩ := x
  have hk : (keysL (l1.map (·.2) ++ (k, v) :: l2.map (·.2))).Nodup := by
    rw [← sy_keys] at hn
    simpa using hn
  refine ⟨l1, g, v, l2, rfl, ?_, ?_⟩
  · have := getL_mid hk
    simpa using this
  · have := dropL_mid hk
    simpa using this


theorem sy_Put (h : LruIs syT w R b most L) (k : List UInt8) (v : Option Addr × Nat × Nat) (hk : syT.ok k) :
    Calls Try.prog 140 #[.pointer (some ⟨b, 0, none⟩), .string (str k), .slice v.1 v.2.1 v.2.2] w fun e w' => e = .returned (.tuple #[syT.ko (putL most k v L).1, .bool (putL most k v L).1.isSome]) ∧ (∃ R', LruIs syT w' R' b most (putL most k v L).2 ∧ Grow R R' w) ∧ Keep R w w' := by
  obtain ⟨m, nx, pv, D, es, h1, rfl, h3⟩ := h
  by_cases hm : k ∈ keysL (es.map (·.2))
  · obtain ⟨l1, g, v0, l2, he, hg, hd⟩ := sy_there h1.keys hm
    have e1 : putL most k v (es.map (·.2)) = (none, (l1 ++ l2).map (·.2) ++ [(k, v)]) := by unfold putL; rw [if_pos hm, hd]
    rw [e1]
    refine (sy_put_yes h1 he v).mono ?_
    rintro e w' ⟨rfl, ⟨nx', pv', h4⟩, h5⟩
    exact ⟨rfl, ⟨R, ⟨m, nx', pv', D, _, h4, by simp, by subst he; simp at h3 ⊢; omega⟩, Grow.refl _ _⟩, h5⟩
  · have hm' : k ∉ es.map (·.2.1) := by rw [← sy_keys]; exact hm
    by_cases hr : es.length < most
    · have e1 : putL most k v (es.map (·.2)) = (none, es.map (·.2) ++ [(k, v)]) := by unfold putL; rw [if_neg hm, if_pos (by simpa using hr)]
      rw [e1]
      refine (sy_put_room h1 k v hk hm' hr).mono ?_
      rintro e w' ⟨rfl, g, R', nx', pv', D', h4, h5, h6⟩
      exact ⟨rfl, ⟨R', ⟨m, nx', pv', D', _, h4, by simp, by simp; omega⟩, h5⟩, h6⟩
    · obtain ⟨x, l, he⟩ : ∃ x l, es = x :: l := by
        cases es with
        | nil => have := h1.pos; simp at hr; omega
        | cons x l => exact ⟨x, l, rfl⟩
      have e1 : putL most k v (es.map (·.2)) = (some x.2.1, l.map (·.2) ++ [(k, v)]) := by unfold putL; rw [if_neg hm, if_neg (by simpa using hr)]; subst he; simp
      rw [e1]
      refine (sy_put_full h1 k v hk hm' he (by omega)).mono ?_
      rintro e w' ⟨rfl, g, R', nx', pv', D', h4, h5, h6⟩
      exact ⟨rfl, ⟨R', ⟨m, nx', pv', D', _, h4, by simp, by subst he; simp at h3 ⊢; omega⟩, h5⟩, h6⟩


theorem sy_Peek (h : LruIs syT w R b most L) (k : List UInt8) (hk : syT.ok k) :
    Calls Try.prog 139 #[.pointer (some ⟨b, 0, none⟩), .string (str k)] w fun e w' => e = .returned (.tuple #[syT.vo (getL k L), .bool (getL k L).isSome]) ∧ Calm w w' := by
  obtain ⟨m, nx, pv, D, es, h1, rfl, h3⟩ := h
  by_cases hm : k ∈ keysL (es.map (·.2))
  · obtain ⟨l1, g, v0, l2, he, hg, hd⟩ := sy_there h1.keys hm
    rw [hg]
    exact sy_peek_yes h1 (g := g) (by subst he; simp)
  · rw [getL_miss hm]
    exact sy_peek_no h1 k hk (by rw [← sy_keys]; exact hm)

theorem sy_Touch (h : LruIs syT w R b most L) (k : List UInt8) (hk : syT.ok k) :
    Calls Try.prog 155 #[.pointer (some ⟨b, 0, none⟩), .string (str k)] w fun e w' => e = .returned (.bool (getL k L).isSome) ∧ LruIs syT w' R b most (useL k L) ∧ Keep R w w' := by
  obtain ⟨m, nx, pv, D, es, h1, rfl, h3⟩ := h
  by_cases hm : k ∈ keysL (es.map (·.2))
  · obtain ⟨l1, g, v0, l2, he, hg, hd⟩ := sy_there h1.keys hm
    have e1 : useL k (es.map (·.2)) = (l1 ++ l2).map (·.2) ++ [(k, v0)] := by unfold useL; rw [hg, hd]
    rw [hg, e1]
    refine (sy_touch_yes h1 he k rfl).mono ?_
    rintro e w' ⟨rfl, ⟨nx', pv', h4⟩, h5⟩
    exact ⟨rfl, ⟨m, nx', pv', D, _, h4, by simp, by subst he; simp at h3 ⊢; omega⟩, h5⟩
  · have e1 : useL k (es.map (·.2)) = es.map (·.2) := by unfold useL; rw [getL_miss hm]
    rw [getL_miss hm, e1]
    refine (sy_touch_no h1 k hk (by rw [← sy_keys]; exact hm)).mono ?_
    rintro e w' ⟨rfl, h5⟩
    exact ⟨rfl, ⟨m, nx, pv, D, es, h1.calm h5, rfl, h3⟩, h5.keep R⟩

theorem sy_Drop (h : LruIs syT w R b most L) (k : List UInt8) (hk : syT.ok k) :
    Calls Try.prog 154 #[.pointer (some ⟨b, 0, none⟩), .string (str k)] w fun e w' => e = .returned (.bool (getL k L).isSome) ∧ LruIs syT w' R b most (dropL k L) ∧ Keep R w w' := by
  obtain ⟨m, nx, pv, D, es, h1, rfl, h3⟩ := h
  by_cases hm : k ∈ keysL (es.map (·.2))
  · obtain ⟨l1, g, v0, l2, he, hg, hd⟩ := sy_there h1.keys hm
    rw [hg, hd]
    refine (sy_drop_yes h1 he k rfl).mono ?_
    rintro e w' ⟨rfl, ⟨nx', pv', D', h4⟩, h5⟩
    exact ⟨rfl, ⟨m, nx', pv', D', _, h4, rfl, by subst he; simp at h3 ⊢; omega⟩, h5⟩
  · rw [getL_miss hm, dropL_miss hm]
    refine (sy_drop_no h1 k hk (by rw [← sy_keys]; exact hm)).mono ?_
    rintro e w' ⟨rfl, h5⟩
    exact ⟨rfl, ⟨m, nx, pv, D, es, h1.calm h5, rfl, h3⟩, h5.keep R⟩

theorem sy_Len (h : LruIs syT w R b most L) : Calls Try.prog 137 #[.pointer (some ⟨b, 0, none⟩)] w fun e w' => e = .returned (.int .i64 (L.length : Int)) ∧ w = w' := by
  obtain ⟨m, nx, pv, D, es, h1, rfl, h3⟩ := h
  have := sy_len h1
  simpa using this

/-! The same, the results named -/

theorem sy_Put' (h : LruIs syT w R b most L) (k : List UInt8) (v : Option Addr × Nat × Nat) (hk : syT.ok k) (o : Option (List UInt8)) (L' : List ((List UInt8) × (Option Addr × Nat × Nat))) (e : putL most k v L = (o, L')) (ov : Value) (ho : syT.ko o = ov) (ob : Bool) (hb : o.isSome = ob) :
    Calls Try.prog 140 #[.pointer (some ⟨b, 0, none⟩), .string (str k), .slice v.1 v.2.1 v.2.2] w fun e w' => e = .returned (.tuple #[ov, .bool ob]) ∧ (∃ R', LruIs syT w' R' b most L' ∧ Grow R R' w) ∧ Keep R w w' := by
  have := sy_Put h k v hk
  rw [e] at this
  subst ho; subst hb
  exact this


theorem sy_Peek' (h : LruIs syT w R b most L) (k : List UInt8) (hk : syT.ok k) (o : Option (Option Addr × Nat × Nat)) (e : getL k L = o) (ov : Value) (ho : syT.vo o = ov) (ob : Bool) (hb : o.isSome = ob) :
    Calls Try.prog 139 #[.pointer (some ⟨b, 0, none⟩), .string (str k)] w fun e w' => e = .returned (.tuple #[ov, .bool ob]) ∧ Calm w w' := by
  have := sy_Peek h k hk
  rw [e] at this
  subst ho; subst hb
  exact this


theorem sy_Touch' (h : LruIs syT w R b most L) (k : List UInt8) (hk : syT.ok k) (o : Option (Option Addr × Nat × Nat)) (e : getL k L = o) (L' : List ((List UInt8) × (Option Addr × Nat × Nat))) (e' : useL k L = L') (ob : Bool) (hb : o.isSome = ob) :
    Calls Try.prog 155 #[.pointer (some ⟨b, 0, none⟩), .string (str k)] w fun e w' => e = .returned (.bool ob) ∧ LruIs syT w' R b most L' ∧ Keep R w w' := by
  have := sy_Touch h k hk
  rw [e, e'] at this
  subst hb
  exact this

/-! .. of a list that was made since some world -/

theorem sy_lnew (a : Int) (most : Nat) (hm : (if a < 1 then 1 else a) = (most : Int)) (hp : 1 ≤ most) (ht : most ≤ 1100) (w : World) :
    Calls Try.prog 75 #[.int .i64 a] w fun e w' => e = .returned (.pointer (some ⟨w.heap.size + 1, 0, none⟩)) ∧ Lst syT w w' (w.heap.size + 1) most [] := by
  refine (sy_new a most hm hp ht w).mono ?_
  rintro e w' ⟨rfl, h1, h2⟩
  exact ⟨rfl, _, h1, fun i hi => by omega, h2⟩


theorem sy_lput {w' : World} (h : Lst syT w w' b most L) (k : List UInt8) (v : Option Addr × Nat × Nat) (hk : syT.ok k) (o : Option (List UInt8)) (L' : List ((List UInt8) × (Option Addr × Nat × Nat))) (e : putL most k v L = (o, L')) (ov : Value) (ho : syT.ko o = ov) (ob : Bool) (hb : o.isSome = ob) :
    Calls Try.prog 140 #[.pointer (some ⟨b, 0, none⟩), .string (str k), .slice v.1 v.2.1 v.2.2] w' fun e w'' => e = .returned (.tuple #[ov, .bool ob]) ∧ Lst syT w w'' b most L' := by
  obtain ⟨R, h1, h2, h3⟩ := h
  refine (sy_Put' h1 k v hk o L' e ov ho ob hb).mono ?_
  rintro e w'' ⟨rfl, h4, h5⟩
  exact ⟨rfl, Lst.step h2 h3 h4 h5⟩


theorem sy_lpeek {w' : World} (h : Lst syT w w' b most L) (k : List UInt8) (hk : syT.ok k) (o : Option (Option Addr × Nat × Nat)) (e : getL k L = o) (ov : Value) (ho : syT.vo o = ov) (ob : Bool) (hb : o.isSome = ob) :
    Calls Try.prog 139 #[.pointer (some ⟨b, 0, none⟩), .string (str k)] w' fun e w'' => e = .returned (.tuple #[ov, .bool ob]) ∧ Lst syT w w'' b most L := by
  have hh := h
  obtain ⟨R, h1, h2, h3⟩ := h
  refine (sy_Peek' h1 k hk o e ov ho ob hb).mono ?_
  rintro e w'' ⟨rfl, h5⟩
  exact ⟨rfl, hh.rest h5⟩


theorem sy_ltouch {w' : World} (h : Lst syT w w' b most L) (k : List UInt8) (hk : syT.ok k) (o : Option (Option Addr × Nat × Nat)) (e : getL k L = o) (L' : List ((List UInt8) × (Option Addr × Nat × Nat))) (e' : useL k L = L') (ob : Bool) (hb : o.isSome = ob) :
    Calls Try.prog 155 #[.pointer (some ⟨b, 0, none⟩), .string (str k)] w' fun e w'' => e = .returned (.bool ob) ∧ Lst syT w w'' b most L' := by
  obtain ⟨R, h1, h2, h3⟩ := h
  refine (sy_Touch' h1 k hk o e L' e' ob hb).mono ?_
  rintro e w'' ⟨rfl, h4, h5⟩
  exact ⟨rfl, Lst.step h2 h3 ⟨R, h4, Grow.refl _ _⟩ h5⟩


theorem sy_llen {w' : World} (h : Lst syT w w' b most L) (n : Nat) (e : L.length = n) : Calls Try.prog 137 #[.pointer (some ⟨b, 0, none⟩)] w' fun e w'' => e = .returned (.int .i64 (n : Int)) ∧ w' = w'' := by
  obtain ⟨R, h1, h2, h3⟩ := h
  subst e
  exact sy_Len h1

end
end Go.Proofs.Ytnlojohjhfpbgaa
