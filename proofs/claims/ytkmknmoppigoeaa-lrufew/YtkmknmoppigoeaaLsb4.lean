/-
  One instance of the list: what its calls do, over rows of keys and values.
-/
import Derived.Test.YtkmknmoppigoeaaLsb3
namespace Go.Proofs.Ytkmknmoppigoeaa
open Go.RowKit
open Go.Maps (Keyed)
set_option linter.all false

section
variable {w : World} {R : Nat → Prop} {b most : Nat} {L : List ((List UInt8) × (Bool))}

theorem sb_keys {es : List (Nat × (List UInt8) × (Bool))} : keysL (es.map (·.2)) = es.map (·.2.1) := by simp [keysL, Function.comp_def]
/-- One that is there, in memory and in the row. -/

theorem sb_there {es : List (Nat × (List UInt8) × (Bool))} {k : List UInt8} (hn : (es.map (·.2.1)).Nodup) (h : k ∈ keysL (es.map (·.2))) :
    ∃ l1 g v l2, es = l1 ++ (g, k, v) :: l2 ∧ getL k (es.map (·.2)) = some v ∧ dropL k (es.map (·.2)) = (l1 ++ l2).map (·.2) := by
  rw [sb_keys] at h
  obtain ⟨x, hx, rfl⟩ := List.mem_map.1 h
  obtain ⟨l1, l2, rfl⟩ := List.append_of_mem hx
  obtain ⟨g, k, v⟩ := x
  have hk : (keysL (l1.map (·.2) ++ (k, v) :: l2.map (·.2))).Nodup := by
    rw [← sb_keys] at hn
    simpa using hn
  refine ⟨l1, g, v, l2, rfl, ?_, ?_⟩
  · have := getL_mid hk
    simpa using this
  · have := dropL_mid hk
    simpa using this


theorem sb_Put (h : LruIs sbT w R b most L) (k : List UInt8) (v : Bool) (hk : sbT.ok k) :
    Calls Try.prog 38 #[.pointer (some ⟨b, 0, none⟩), .string (str k), .bool v] w fun e w' => e = .returned (.tuple #[sbT.ko (putL most k v L).1, .bool (putL most k v L).1.isSome]) ∧ (∃ R', LruIs sbT w' R' b most (putL most k v L).2 ∧ Grow R R' w) ∧ Keep R w w' := by
  obtain ⟨m, nx, pv, D, es, h1, rfl, h3⟩ := h
  by_cases hm : k ∈ keysL (es.map (·.2))
  · obtain ⟨l1, g, v0, l2, he, hg, hd⟩ := sb_there h1.keys hm
    have e1 : putL most k v (es.map (·.2)) = (none, (l1 ++ l2).map (·.2) ++ [(k, v)]) := by unfold putL; rw [if_pos hm, hd]
    rw [e1]
    refine (sb_put_yes h1 he v).mono ?_
    rintro e w' ⟨rfl, ⟨nx', pv', h4⟩, h5⟩
    exact ⟨rfl, ⟨R, ⟨m, nx', pv', D, _, h4, by simp, by subst he; simp at h3 ⊢; omega⟩, Grow.refl _ _⟩, h5⟩
  · have hm' : k ∉ es.map (·.2.1) := by rw [← sb_keys]; exact hm
    by_cases hr : es.length < most
    · have e1 : putL most k v (es.map (·.2)) = (none, es.map (·.2) ++ [(k, v)]) := by unfold putL; rw [if_neg hm, if_pos (by simpa using hr)]
      rw [e1]
      refine (sb_put_room h1 k v hk hm' hr).mono ?_
      rintro e w' ⟨rfl, g, R', nx', pv', D', h4, h5, h6⟩
      exact ⟨rfl, ⟨R', ⟨m, nx', pv', D', _, h4, by simp, by simp; omega⟩, h5⟩, h6⟩
    · obtain ⟨x, l, he⟩ : ∃ x l, es = x :: l := by
        cases es with
        | nil => have := h1.pos; simp at hr; omega
        | cons x l => exact ⟨x, l, rfl⟩
      have e1 : putL most k v (es.map (·.2)) = (some x.2.1, l.map (·.2) ++ [(k, v)]) := by unfold putL; rw [if_neg hm, if_neg (by simpa using hr)]; subst he; simp
      rw [e1]
      refine (sb_put_full h1 k v hk hm' he (by omega)).mono ?_
      rintro e w' ⟨rfl, g, R', nx', pv', D', h4, h5, h6⟩
      exact ⟨rfl, ⟨R', ⟨m, nx', pv', D', _, h4, by simp, by subst he; simp at h3 ⊢; omega⟩, h5⟩, h6⟩


theorem sb_Peek (h : LruIs sbT w R b most L) (k : List UInt8) (hk : sbT.ok k) :
    Calls Try.prog 35 #[.pointer (some ⟨b, 0, none⟩), .string (str k)] w fun e w' => e = .returned (.tuple #[sbT.vo (getL k L), .bool (getL k L).isSome]) ∧ Calm w w' := by
  obtain ⟨m, nx, pv, D, es, h1, rfl, h3⟩ := h
  by_cases hm : k ∈ keysL (es.map (·.2))
  · obtain ⟨l1, g, v0, l2, he, hg, hd⟩ := sb_there h1.keys hm
    rw [hg]
    exact sb_peek_yes h1 (g := g) (by subst he; simp)
  · rw [getL_miss hm]
    exact sb_peek_no h1 k hk (by rw [← sb_keys]; exact hm)

theorem sb_Oldest (h : LruIs sbT w R b most L) :
    Calls Try.prog 36 #[.pointer (some ⟨b, 0, none⟩)] w fun e w' => e = .returned (.tuple #[sbT.ko (L.head?.map (·.1)), .bool L.head?.isSome]) ∧ w = w' := by
  obtain ⟨m, nx, pv, D, es, h1, rfl, h3⟩ := h
  cases es with
  | nil => exact sb_oldest_no h1
  | cons x l => obtain ⟨g, k, v⟩ := x; exact sb_oldest_yes h1

theorem sb_Len (h : LruIs sbT w R b most L) : Calls Try.prog 37 #[.pointer (some ⟨b, 0, none⟩)] w fun e w' => e = .returned (.int .i64 (L.length : Int)) ∧ w = w' := by
  obtain ⟨m, nx, pv, D, es, h1, rfl, h3⟩ := h
  have := sb_len h1
  simpa using this

/-! The same, the results named -/

theorem sb_Put' (h : LruIs sbT w R b most L) (k : List UInt8) (v : Bool) (hk : sbT.ok k) (o : Option (List UInt8)) (L' : List ((List UInt8) × (Bool))) (e : putL most k v L = (o, L')) (ov : Value) (ho : sbT.ko o = ov) (ob : Bool) (hb : o.isSome = ob) :
    Calls Try.prog 38 #[.pointer (some ⟨b, 0, none⟩), .string (str k), .bool v] w fun e w' => e = .returned (.tuple #[ov, .bool ob]) ∧ (∃ R', LruIs sbT w' R' b most L' ∧ Grow R R' w) ∧ Keep R w w' := by
  have := sb_Put h k v hk
  rw [e] at this
  subst ho; subst hb
  exact this


theorem sb_Peek' (h : LruIs sbT w R b most L) (k : List UInt8) (hk : sbT.ok k) (o : Option (Bool)) (e : getL k L = o) (ov : Value) (ho : sbT.vo o = ov) (ob : Bool) (hb : o.isSome = ob) :
    Calls Try.prog 35 #[.pointer (some ⟨b, 0, none⟩), .string (str k)] w fun e w' => e = .returned (.tuple #[ov, .bool ob]) ∧ Calm w w' := by
  have := sb_Peek h k hk
  rw [e] at this
  subst ho; subst hb
  exact this


theorem sb_Oldest' (h : LruIs sbT w R b most L) (o : Option (List UInt8)) (e : L.head?.map (·.1) = o) (ov : Value) (ho : sbT.ko o = ov) (ob : Bool) (hb : o.isSome = ob) :
    Calls Try.prog 36 #[.pointer (some ⟨b, 0, none⟩)] w fun e w' => e = .returned (.tuple #[ov, .bool ob]) ∧ w = w' := by
  have := sb_Oldest h
  rw [e, show L.head?.isSome = o.isSome by rw [← e]; simp] at this
  subst ho; subst hb
  exact this

/-! .. of a list that was made since some world -/

theorem sb_lnew (a : Int) (most : Nat) (hm : (if a < 1 then 1 else a) = (most : Int)) (hp : 1 ≤ most) (ht : most ≤ 1000) (w : World) :
    Calls Try.prog 34 #[.int .i64 a] w fun e w' => e = .returned (.pointer (some ⟨w.heap.size + 1, 0, none⟩)) ∧ Lst sbT w w' (w.heap.size + 1) most [] := by
  refine (sb_new a most hm hp ht w).mono ?_
  rintro e w' ⟨rfl, h1, h2⟩
  exact ⟨rfl, _, h1, fun i hi => by omega, h2⟩


theorem sb_lput {w' : World} (h : Lst sbT w w' b most L) (k : List UInt8) (v : Bool) (hk : sbT.ok k) (o : Option (List UInt8)) (L' : List ((List UInt8) × (Bool))) (e : putL most k v L = (o, L')) (ov : Value) (ho : sbT.ko o = ov) (ob : Bool) (hb : o.isSome = ob) :
    Calls Try.prog 38 #[.pointer (some ⟨b, 0, none⟩), .string (str k), .bool v] w' fun e w'' => e = .returned (.tuple #[ov, .bool ob]) ∧ Lst sbT w w'' b most L' := by
  obtain ⟨R, h1, h2, h3⟩ := h
  refine (sb_Put' h1 k v hk o L' e ov ho ob hb).mono ?_
  rintro e w'' ⟨rfl, h4, h5⟩
  exact ⟨rfl, Lst.step h2 h3 h4 h5⟩


theorem sb_lpeek {w' : World} (h : Lst sbT w w' b most L) (k : List UInt8) (hk : sbT.ok k) (o : Option (Bool)) (e : getL k L = o) (ov : Value) (ho : sbT.vo o = ov) (ob : Bool) (hb : o.isSome = ob) :
    Calls Try.prog 35 #[.pointer (some ⟨b, 0, none⟩), .string (str k)] w' fun e w'' => e = .returned (.tuple #[ov, .bool ob]) ∧ Lst sbT w w'' b most L := by
  have hh := h
  obtain ⟨R, h1, h2, h3⟩ := h
  refine (sb_Peek' h1 k hk o e ov ho ob hb).mono ?_
  rintro e w'' ⟨rfl, h5⟩
  exact ⟨rfl, hh.rest h5⟩


theorem sb_loldest {w' : World} (h : Lst sbT w w' b most L) (o : Option (List UInt8)) (e : L.head?.map (·.1) = o) (ov : Value) (ho : sbT.ko o = ov) (ob : Bool) (hb : o.isSome = ob) :
    Calls Try.prog 36 #[.pointer (some ⟨b, 0, none⟩)] w' fun e w'' => e = .returned (.tuple #[ov, .bool ob]) ∧ w' = w'' := by
  obtain ⟨R, h1, h2, h3⟩ := h
  exact sb_Oldest' h1 o e ov ho ob hb


theorem sb_llen {w' : World} (h : Lst sbT w w' b most L) (n : Nat) (e : L.length = n) : Calls Try.prog 37 #[.pointer (some ⟨b, 0, none⟩)] w' fun e w'' => e = .returned (.int .i64 (n : Int)) ∧ w' = w'' := by
  obtain ⟨R, h1, h2, h3⟩ := h
  subst e
  exact sb_Len h1

end
end Go.Proofs.Ytkmknmoppigoeaa
