/-
  One instance of the list: what its calls do, over rows of keys and values.
-/
import Derived.Test.YtiipepiabeccpaaLsi3
namespace Go.Proofs.Ytiipepiabeccpaa
open Go.RowKit
open Go.Maps (Keyed)
set_option linter.all false

section
variable {w : World} {R : Nat → Prop} {b most : Nat} {L : List ((List UInt8) × (Int))}

theorem si_keys {es : List (Nat × (List UInt8) × (Int))} : keysL (es.map (·.2)) = es.map (·.2.1) := by simp [keysL, Function.comp_def]
/-- One that is there, in memory and in the row. -/

theorem si_there {es : List (Nat × (List UInt8) × (Int))} {k : List UInt8} (hn : (es.map (·.2.1)).Nodup) (h : k ∈ keysL (es.map (·.2))) :
    ∃ l1 g v l2, es = l1 ++ (g, k, v) :: l2 ∧ getL k (es.map (·.2)) = some v ∧ dropL k (es.map (·.2)) = (l1 ++ l2).map (·.2) := by
  rw [si_keys] at h
  obtain ⟨x, hx, rfl⟩ := List.mem_map.1 h
  obtain ⟨l1, l2, rfl⟩ := List.append_of_mem hx
  obtain ⟨g, k, v⟩ := x
  have hk : (keysL (l1.map (·.2) ++ (k, v) :: l2.map (·.2))).Nodup := by
    rw [← si_keys] at hn
    simpa using hn
  refine ⟨l1, g, v, l2, rfl, ?_, ?_⟩
  · have := getL_mid hk
    simpa using this
  · have := dropL_mid hk
    simpa using this


theorem si_Put (h : LruIs siT w R b most L) (k : List UInt8) (v : Int) (hk : siT.ok k) :
    Calls Try.prog 24 #[.pointer (some ⟨b, 0, none⟩), .string (str k), .int .i64 v] w fun e w' => e = .returned (.tuple #[siT.ko (putL most k v L).1, .bool (putL most k v L).1.isSome]) ∧ (∃ R', LruIs siT w' R' b most (putL most k v L).2 ∧ Grow R R' w) ∧ Keep R w w' := by
  obtain ⟨m, nx, pv, D, es, h1, rfl, h3⟩ := h
  by_cases hm : k ∈ keysL (es.map (·.2))
  · obtain ⟨l1, g, v0, l2, he, hg, hd⟩ := si_there h1.keys hm
    have e1 : putL most k v (es.map (·.2)) = (none, (l1 ++ l2).map (·.2) ++ [(k, v)]) := by unfold putL; rw [if_pos hm, hd]
    rw [e1]
    refine (si_put_yes h1 he v).mono ?_
    rintro e w' ⟨rfl, ⟨nx', pv', h4⟩, h5⟩
    exact ⟨rfl, ⟨R, ⟨m, nx', pv', D, _, h4, by simp, by subst he; simp at h3 ⊢; omega⟩, Grow.refl _ _⟩, h5⟩
  · have hm' : k ∉ es.map (·.2.1) := by rw [← si_keys]; exact hm
    by_cases hr : es.length < most
    · have e1 : putL most k v (es.map (·.2)) = (none, es.map (·.2) ++ [(k, v)]) := by unfold putL; rw [if_neg hm, if_pos (by simpa using hr)]
      rw [e1]
      refine (si_put_room h1 k v hk hm' hr).mono ?_
      rintro e w' ⟨rfl, g, R', nx', pv', D', h4, h5, h6⟩
      exact ⟨rfl, ⟨R', ⟨m, nx', pv', D', _, h4, by simp, by simp; omega⟩, h5⟩, h6⟩
    · obtain ⟨x, l, he⟩ : ∃ x l, es = x :: l := by
        cases es with
        | nil => have := h1.pos; simp at hr; omega
        | cons x l => exact ⟨x, l, rfl⟩
      have e1 : putL most k v (es.map (·.2)) = (some x.2.1, l.map (·.2) ++ [(k, v)]) := by unfold putL; rw [if_neg hm, if_neg (by simpa using hr)]; subst he; simp
      rw [e1]
      refine (si_put_full h1 k v hk hm' he (by omega)).mono ?_
      rintro e w' ⟨rfl, g, R', nx', pv', D', h4, h5, h6⟩
      exact ⟨rfl, ⟨R', ⟨m, nx', pv', D', _, h4, by simp, by subst he; simp at h3 ⊢; omega⟩, h5⟩, h6⟩


theorem si_Peek (h : LruIs siT w R b most L) (k : List UInt8) (hk : siT.ok k) :
    Calls Try.prog 28 #[.pointer (some ⟨b, 0, none⟩), .string (str k)] w fun e w' => e = .returned (.tuple #[siT.vo (getL k L), .bool (getL k L).isSome]) ∧ Calm w w' := by
  obtain ⟨m, nx, pv, D, es, h1, rfl, h3⟩ := h
  by_cases hm : k ∈ keysL (es.map (·.2))
  · obtain ⟨l1, g, v0, l2, he, hg, hd⟩ := si_there h1.keys hm
    rw [hg]
    exact si_peek_yes h1 (g := g) (by subst he; simp)
  · rw [getL_miss hm]
    exact si_peek_no h1 k hk (by rw [← si_keys]; exact hm)

theorem si_Get (h : LruIs siT w R b most L) (k : List UInt8) (hk : siT.ok k) :
    Calls Try.prog 50 #[.pointer (some ⟨b, 0, none⟩), .string (str k)] w fun e w' => e = .returned (.tuple #[siT.vo (getL k L), .bool (getL k L).isSome]) ∧ LruIs siT w' R b most (useL k L) ∧ Keep R w w' := by
  obtain ⟨m, nx, pv, D, es, h1, rfl, h3⟩ := h
  by_cases hm : k ∈ keysL (es.map (·.2))
  · obtain ⟨l1, g, v0, l2, he, hg, hd⟩ := si_there h1.keys hm
    have e1 : useL k (es.map (·.2)) = (l1 ++ l2).map (·.2) ++ [(k, v0)] := by unfold useL; rw [hg, hd]
    rw [hg, e1]
    refine (si_get_yes h1 he).mono ?_
    rintro e w' ⟨rfl, ⟨nx', pv', h4⟩, h5⟩
    exact ⟨rfl, ⟨m, nx', pv', D, _, h4, by simp, by subst he; simp at h3 ⊢; omega⟩, h5⟩
  · have e1 : useL k (es.map (·.2)) = es.map (·.2) := by unfold useL; rw [getL_miss hm]
    rw [getL_miss hm, e1]
    refine (si_get_no h1 k hk (by rw [← si_keys]; exact hm)).mono ?_
    rintro e w' ⟨rfl, h5⟩
    exact ⟨rfl, ⟨m, nx, pv, D, es, h1.calm h5, rfl, h3⟩, h5.keep R⟩

theorem si_Oldest (h : LruIs siT w R b most L) :
    Calls Try.prog 29 #[.pointer (some ⟨b, 0, none⟩)] w fun e w' => e = .returned (.tuple #[siT.ko (L.head?.map (·.1)), .bool L.head?.isSome]) ∧ w = w' := by
  obtain ⟨m, nx, pv, D, es, h1, rfl, h3⟩ := h
  cases es with
  | nil => exact si_oldest_no h1
  | cons x l => obtain ⟨g, k, v⟩ := x; exact si_oldest_yes h1

theorem si_Len (h : LruIs siT w R b most L) : Calls Try.prog 30 #[.pointer (some ⟨b, 0, none⟩)] w fun e w' => e = .returned (.int .i64 (L.length : Int)) ∧ w = w' := by
  obtain ⟨m, nx, pv, D, es, h1, rfl, h3⟩ := h
  have := si_len h1
  simpa using this

/-! The same, the results named -/

theorem si_Put' (h : LruIs siT w R b most L) (k : List UInt8) (v : Int) (hk : siT.ok k) (o : Option (List UInt8)) (L' : List ((List UInt8) × (Int))) (e : putL most k v L = (o, L')) (ov : Value) (ho : siT.ko o = ov) (ob : Bool) (hb : o.isSome = ob) :
    Calls Try.prog 24 #[.pointer (some ⟨b, 0, none⟩), .string (str k), .int .i64 v] w fun e w' => e = .returned (.tuple #[ov, .bool ob]) ∧ (∃ R', LruIs siT w' R' b most L' ∧ Grow R R' w) ∧ Keep R w w' := by
  have := si_Put h k v hk
  rw [e] at this
  subst ho; subst hb
  exact this


theorem si_Peek' (h : LruIs siT w R b most L) (k : List UInt8) (hk : siT.ok k) (o : Option (Int)) (e : getL k L = o) (ov : Value) (ho : siT.vo o = ov) (ob : Bool) (hb : o.isSome = ob) :
    Calls Try.prog 28 #[.pointer (some ⟨b, 0, none⟩), .string (str k)] w fun e w' => e = .returned (.tuple #[ov, .bool ob]) ∧ Calm w w' := by
  have := si_Peek h k hk
  rw [e] at this
  subst ho; subst hb
  exact this


theorem si_Get' (h : LruIs siT w R b most L) (k : List UInt8) (hk : siT.ok k) (o : Option (Int)) (e : getL k L = o) (L' : List ((List UInt8) × (Int))) (e' : useL k L = L') (ov : Value) (ho : siT.vo o = ov) (ob : Bool) (hb : o.isSome = ob) :
    Calls Try.prog 50 #[.pointer (some ⟨b, 0, none⟩), .string (str k)] w fun e w' => e = .returned (.tuple #[ov, .bool ob]) ∧ LruIs siT w' R b most L' ∧ Keep R w w' := by
  have := si_Get h k hk
  rw [e, e'] at this
  subst ho; subst hb
  exact this


theorem si_Oldest' (h : LruIs siT w R b most L) (o : Option (List UInt8)) (e : L.head?.map (·.1) = o) (ov : Value) (ho : siT.ko o = ov) (ob : Bool) (hb : o.isSome = ob) :
    Calls Try.prog 29 #[.pointer (some ⟨b, 0, none⟩)] w fun e w' => e = .returned (.tuple #[ov, .bool ob]) ∧ w = w' := by
  have := si_Oldest h
  rw [e, show L.head?.isSome = o.isSome by rw [← e]; simp] at this
  subst ho; subst hb
  exact this

/-! .. of a list that was made since some world -/

theorem si_lnew (a : Int) (most : Nat) (hm : (if a < 1 then 1 else a) = (most : Int)) (hp : 1 ≤ most) (ht : most ≤ 1100) (w : World) :
    Calls Try.prog 22 #[.int .i64 a] w fun e w' => e = .returned (.pointer (some ⟨w.heap.size + 1, 0, none⟩)) ∧ Lst siT w w' (w.heap.size + 1) most [] := by
  refine (si_new a most hm hp ht w).mono ?_
  rintro e w' ⟨rfl, h1, h2⟩
  exact ⟨rfl, _, h1, fun i hi => by omega, h2⟩


theorem si_lput {w' : World} (h : Lst siT w w' b most L) (k : List UInt8) (v : Int) (hk : siT.ok k) (o : Option (List UInt8)) (L' : List ((List UInt8) × (Int))) (e : putL most k v L = (o, L')) (ov : Value) (ho : siT.ko o = ov) (ob : Bool) (hb : o.isSome = ob) :
    Calls Try.prog 24 #[.pointer (some ⟨b, 0, none⟩), .string (str k), .int .i64 v] w' fun e w'' => e = .returned (.tuple #[ov, .bool ob]) ∧ Lst siT w w'' b most L' := by
  obtain ⟨R, h1, h2, h3⟩ := h
  refine (si_Put' h1 k v hk o L' e ov ho ob hb).mono ?_
  rintro e w'' ⟨rfl, h4, h5⟩
  exact ⟨rfl, Lst.step h2 h3 h4 h5⟩


theorem si_lpeek {w' : World} (h : Lst siT w w' b most L) (k : List UInt8) (hk : siT.ok k) (o : Option (Int)) (e : getL k L = o) (ov : Value) (ho : siT.vo o = ov) (ob : Bool) (hb : o.isSome = ob) :
    Calls Try.prog 28 #[.pointer (some ⟨b, 0, none⟩), .string (str k)] w' fun e w'' => e = .returned (.tuple #[ov, .bool ob]) ∧ Lst siT w w'' b most L := by
  have hh := h
  obtain ⟨R, h1, h2, h3⟩ := h
  refine (si_Peek' h1 k hk o e ov ho ob hb).mono ?_
  rintro e w'' ⟨rfl, h5⟩
  exact ⟨rfl, hh.rest h5⟩


theorem si_lget {w' : World} (h : Lst siT w w' b most L) (k : List UInt8) (hk : siT.ok k) (o : Option (Int)) (e : getL k L = o) (L' : List ((List UInt8) × (Int))) (e' : useL k L = L') (ov : Value) (ho : siT.vo o = ov) (ob : Bool) (hb : o.isSome = ob) :
    Calls Try.prog 50 #[.pointer (some ⟨b, 0, none⟩), .string (str k)] w' fun e w'' => e = .returned (.tuple #[ov, .bool ob]) ∧ Lst siT w w'' b most L' := by
  obtain ⟨R, h1, h2, h3⟩ := h
  refine (si_Get' h1 k hk o e L' e' ov ho ob hb).mono ?_
  rintro e w'' ⟨rfl, h4, h5⟩
  exact ⟨rfl, Lst.step h2 h3 ⟨R, h4, Grow.refl _ _⟩ h5⟩


theorem si_loldest {w' : World} (h : Lst siT w w' b most L) (o : Option (List UInt8)) (e : L.head?.map (·.1) = o) (ov : Value) (ho : siT.ko o = ov) (ob : Bool) (hb : o.isSome = ob) :
    Calls Try.prog 29 #[.pointer (some ⟨b, 0, none⟩)] w' fun e w'' => e = .returned (.tuple #[ov, .bool ob]) ∧ w' = w'' := by
  obtain ⟨R, h1, h2, h3⟩ := h
  exact si_Oldest' h1 o e ov ho ob hb


theorem si_llen {w' : World} (h : Lst siT w w' b most L) (n : Nat) (e : L.length = n) : Calls Try.prog 30 #[.pointer (some ⟨b, 0, none⟩)] w' fun e w'' => e = .returned (.int .i64 (n : Int)) ∧ w' = w'' := by
  obtain ⟨R, h1, h2, h3⟩ := h
  subst e
  exact si_Len h1

end
end Go.Proofs.Ytiipepiabeccpaa
