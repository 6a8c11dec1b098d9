/-
  A list of the program and one of the document, side by side, each with a room of its own.
-/
import Derived.Test.YtkmknmoppigoeaaLSame
import Derived.Test.YtkmknmoppigoeaaRGet
import Derived.Test.YtkmknmoppigoeaaLSh
namespace Go.Proofs.Ytkmknmoppigoeaa
open Go.RowKit
set_option linter.all false

/-- Both were made since w, apart from one another. -/
def Twp (w w' : World) (b d most most2 : Nat) (L M : List KV) : Prop :=
  ∃ R Q, LruIs siT w' R b most L ∧ RefIs w' Q d most2 M ∧ (∀ i, R i → ¬ Q i) ∧ (∀ i, R i → w.heap.size ≤ i) ∧ (∀ i, Q i → w.heap.size ≤ i) ∧ Calm w w'
section
variable {w w' : World} {b d most most2 : Nat} {L M : List KV}
theorem Twp.calm_ (h : Twp w w' b d most most2 L M) : Calm w w' := by obtain ⟨_, _, _, _, _, _, _, h⟩ := h; exact h
theorem Twp.nodup (h : Twp w w' b d most most2 L M) : (keysL L).Nodup := by obtain ⟨_, _, h, _⟩ := h; exact h.nodup
theorem Twp.len (h : Twp w w' b d most most2 L M) : L.length ≤ most ∧ 1 ≤ most ∧ most ≤ 1000 := by obtain ⟨_, _, h, _⟩ := h; exact ⟨h.len, h.pos⟩
theorem Twp.rest {w'' : World} (h : Twp w w' b d most most2 L M) (k : Calm w' w'') : Twp w w'' b d most most2 L M := by
  obtain ⟨R, Q, h1, h2, h3, h4, h5, h6⟩ := h
  exact ⟨R, Q, h1.calm k, h2.calm k, h3, h4, h5, h6.trans k⟩
theorem Twp.stepL {L' : List KV} {w'' : World} {R Q : Nat → Prop} (h2 : RefIs w' Q d most2 M) (hl : ∀ k, R k → k < w'.heap.size) (h3 : ∀ i, R i → ¬ Q i) (h4 : ∀ i, R i → w.heap.size ≤ i) (h5 : ∀ i, Q i → w.heap.size ≤ i) (h6 : Calm w w')
    (hp : ∃ R', LruIs siT w'' R' b most L' ∧ Grow R R' w') (k : Keep R w' w'') : Twp w w'' b d most most2 L' M := by
  obtain ⟨R', a, g⟩ := hp
  refine ⟨R', Q, a, h2.keep k (fun i hq hr => h3 i hr hq), fun i hi hq => (g i hi).elim (fun e => h3 i e hq) (fun e => by have := h2.lt i hq; omega), fun i hi => (g i hi).elim (h4 i) (fun e => Nat.le_trans h6.size e), h5, h6.then_ k (fun i hi hc => by have := h4 i hc; omega)⟩
theorem Twp.stepM {M' : List KV} {w'' : World} {R Q : Nat → Prop} (h1 : LruIs siT w' R b most L) (h2 : RefIs w' Q d most2 M) (h3 : ∀ i, R i → ¬ Q i) (h4 : ∀ i, R i → w.heap.size ≤ i) (h5 : ∀ i, Q i → w.heap.size ≤ i) (h6 : Calm w w')
    (hp : ∃ Q', RefIs w'' Q' d most2 M' ∧ Grow Q Q' w') (k : Keep Q w' w'') : Twp w w'' b d most most2 L M' := by
  obtain ⟨Q', a, g⟩ := hp
  refine ⟨R, Q', h1.keep k h3, a, fun i hr hi => (g i hi).elim (h3 i hr) (fun e => by have := h1.lt i hr; omega), h4, fun i hi => (g i hi).elim (h5 i) (fun e => Nat.le_trans h6.size e), h6.then_ k (fun i hi hc => by have := h5 i hc; omega)⟩

theorem twp_lput (h : Twp w w' b d most most2 L M) (k : List UInt8) (v : Int) (hk : k.length ≤ maxLen) (o : Option (List UInt8)) (L' : List KV) (e : putL most k v L = (o, L')) (ov : Value) (ho : siT.ko o = ov) (ob : Bool) (hb : o.isSome = ob) :
    Calls Try.prog 15 #[.pointer (some ⟨b, 0, none⟩), .string (str k), .int .i64 v] w' fun e w'' => e = .returned (.tuple #[ov, .bool ob]) ∧ Twp w w'' b d most most2 L' M := by
  obtain ⟨R, Q, h1, h2, h3, h4, h5, h6⟩ := h
  refine (si_Put' h1 k v hk o L' e ov ho ob hb).mono ?_
  rintro e w'' ⟨rfl, a, c⟩
  exact ⟨rfl, Twp.stepL h2 h1.lt h3 h4 h5 h6 a c⟩
theorem twp_lget (h : Twp w w' b d most most2 L M) (k : List UInt8) (hk : k.length ≤ maxLen) (o : Option Int) (e : getL k L = o) (L' : List KV) (e' : useL k L = L') (ov : Value) (ho : siT.vo o = ov) (ob : Bool) (hb : o.isSome = ob) :
    Calls Try.prog 17 #[.pointer (some ⟨b, 0, none⟩), .string (str k)] w' fun e w'' => e = .returned (.tuple #[ov, .bool ob]) ∧ Twp w w'' b d most most2 L' M := by
  obtain ⟨R, Q, h1, h2, h3, h4, h5, h6⟩ := h
  refine (si_Get' h1 k hk o e L' e' ov ho ob hb).mono ?_
  rintro e w'' ⟨rfl, a, c⟩
  exact ⟨rfl, Twp.stepL h2 h1.lt h3 h4 h5 h6 ⟨R, a, Grow.refl _ _⟩ c⟩
theorem twp_ltouch (h : Twp w w' b d most most2 L M) (k : List UInt8) (hk : k.length ≤ maxLen) (o : Option Int) (e : getL k L = o) (L' : List KV) (e' : useL k L = L') (ob : Bool) (hb : o.isSome = ob) :
    Calls Try.prog 21 #[.pointer (some ⟨b, 0, none⟩), .string (str k)] w' fun e w'' => e = .returned (.bool ob) ∧ Twp w w'' b d most most2 L' M := by
  obtain ⟨R, Q, h1, h2, h3, h4, h5, h6⟩ := h
  refine (si_Touch' h1 k hk o e L' e' ob hb).mono ?_
  rintro e w'' ⟨rfl, a, c⟩
  exact ⟨rfl, Twp.stepL h2 h1.lt h3 h4 h5 h6 ⟨R, a, Grow.refl _ _⟩ c⟩
theorem twp_ldrop (h : Twp w w' b d most most2 L M) (k : List UInt8) (hk : k.length ≤ maxLen) (ob : Bool) (hb : (getL k L).isSome = ob) :
    Calls Try.prog 22 #[.pointer (some ⟨b, 0, none⟩), .string (str k)] w' fun e w'' => e = .returned (.bool ob) ∧ Twp w w'' b d most most2 (dropL k L) M := by
  obtain ⟨R, Q, h1, h2, h3, h4, h5, h6⟩ := h
  subst hb
  refine (si_Drop h1 k hk).mono ?_
  rintro e w'' ⟨rfl, a, c⟩
  exact ⟨rfl, Twp.stepL h2 h1.lt h3 h4 h5 h6 ⟨R, a, Grow.refl _ _⟩ c⟩
theorem twp_lpeek (h : Twp w w' b d most most2 L M) (k : List UInt8) (hk : k.length ≤ maxLen) (o : Option Int) (e : getL k L = o) (ov : Value) (ho : siT.vo o = ov) (ob : Bool) (hb : o.isSome = ob) :
    Calls Try.prog 19 #[.pointer (some ⟨b, 0, none⟩), .string (str k)] w' fun e w'' => e = .returned (.tuple #[ov, .bool ob]) ∧ Twp w w'' b d most most2 L M := by
  have hh := h
  obtain ⟨R, Q, h1, h2, h3, h4, h5, h6⟩ := h
  refine (si_Peek' h1 k hk o e ov ho ob hb).mono ?_
  rintro e w'' ⟨rfl, c⟩
  exact ⟨rfl, hh.rest c⟩
theorem twp_loldest (h : Twp w w' b d most most2 L M) (o : Option (List UInt8)) (e : L.head?.map (·.1) = o) (ov : Value) (ho : siT.ko o = ov) (ob : Bool) (hb : o.isSome = ob) :
    Calls Try.prog 33 #[.pointer (some ⟨b, 0, none⟩)] w' fun e w'' => e = .returned (.tuple #[ov, .bool ob]) ∧ w' = w'' := by
  obtain ⟨R, Q, h1, h2, h3, h4, h5, h6⟩ := h
  exact si_Oldest' h1 o e ov ho ob hb
theorem twp_rput (h : Twp w w' b d most most2 L M) (hn : (keysL M).Nodup) (hl : M.length ≤ most2) (k : List UInt8) (v : Int) (o : Option (List UInt8)) (M' : List KV) (e : putL most2 k v M = (o, M')) (ov : Value) (ho : siT.ko o = ov) (ob : Bool) (hb : o.isSome = ob) :
    Calls Try.prog 16 #[.pointer (some ⟨d, 0, none⟩), .string (str k), .int .i64 v] w' fun e w'' => e = .returned (.tuple #[ov, .bool ob]) ∧ Twp w w'' b d most most2 L M' := by
  obtain ⟨R, Q, h1, h2, h3, h4, h5, h6⟩ := h
  refine (rput_c h2 hn hl k v o M' e ov ho ob hb).mono ?_
  rintro e w'' ⟨rfl, a, c⟩
  exact ⟨rfl, Twp.stepM h1 h2 h3 h4 h5 h6 a c⟩
theorem twp_rget (h : Twp w w' b d most most2 L M) (hn : (keysL M).Nodup) (hl : M.length ≤ 1000) (k : List UInt8) (o : Option Int) (e : getL k M = o) (M' : List KV) (e' : useL k M = M') (ov : Value) (ho : siT.vo o = ov) (ob : Bool) (hb : o.isSome = ob) :
    Calls Try.prog 18 #[.pointer (some ⟨d, 0, none⟩), .string (str k)] w' fun e w'' => e = .returned (.tuple #[ov, .bool ob]) ∧ Twp w w'' b d most most2 L M' := by
  obtain ⟨R, Q, h1, h2, h3, h4, h5, h6⟩ := h
  refine (rget_c h2 hn hl k o e M' e' ov ho ob hb).mono ?_
  rintro e w'' ⟨rfl, a, c⟩
  exact ⟨rfl, Twp.stepM h1 h2 h3 h4 h5 h6 a c⟩
theorem twp_rdrop (h : Twp w w' b d most most2 L M) (hn : (keysL M).Nodup) (k : List UInt8) (ob : Bool) (hb : (getL k M).isSome = ob) :
    Calls Try.prog 23 #[.pointer (some ⟨d, 0, none⟩), .string (str k)] w' fun e w'' => e = .returned (.bool ob) ∧ Twp w w'' b d most most2 L (dropL k M) := by
  obtain ⟨R, Q, h1, h2, h3, h4, h5, h6⟩ := h
  refine (rdrop_c h2 hn k ob hb).mono ?_
  rintro e w'' ⟨rfl, a, c⟩
  exact ⟨rfl, Twp.stepM h1 h2 h3 h4 h5 h6 a c⟩
theorem twp_rfind (h : Twp w w' b d most most2 L M) (k : List UInt8) (r : Int) (hr : (∃ l1 v l2, M = l1 ++ (k, v) :: l2 ∧ k ∉ keysL l1 ∧ r = (l1.length : Int)) ∨ (k ∉ keysL M ∧ r = -1)) :
    Calls Try.prog 20 #[.pointer (some ⟨d, 0, none⟩), .string (str k)] w' fun e w'' => e = .returned (.int .i64 r) ∧ w' = w'' := by
  obtain ⟨R, Q, h1, h2, h3, h4, h5, h6⟩ := h
  exact rfind_c h2 k r hr
theorem twp_same (h : Twp w w' b d most most2 L L) : Calls Try.prog 14 #[.pointer (some ⟨b, 0, none⟩), .pointer (some ⟨d, 0, none⟩)] w' fun e w'' => e = .returned (.bool true) ∧ Twp w w'' b d most most2 L L := by
  have hh := h
  obtain ⟨R, Q, h1, h2, h3, h4, h5, h6⟩ := h
  refine (same_c h1 h2).mono ?_
  rintro e w'' ⟨rfl, c⟩
  exact ⟨rfl, hh.rest c⟩
/-- The program's list, made behind the document's. -/
theorem twp_new {w : World} {d most2 : Nat} {M : List KV} {w1 : World} {Q : Nat → Prop} (h : RefIs w1 Q d most2 M) (hq : ∀ i, Q i → w.heap.size ≤ i) (hc : Calm w w1) (a : Int) (most : Nat) (hm : (if a < 1 then 1 else a) = (most : Int)) (hp : 1 ≤ most) (ht : most ≤ 1000) :
    Calls Try.prog 12 #[.int .i64 a] w1 fun e w' => e = .returned (.pointer (some ⟨w1.heap.size + 1, 0, none⟩)) ∧ Twp w w' (w1.heap.size + 1) d most most2 [] M := by
  refine (si_new a most hm hp ht w1).mono ?_
  rintro e w' ⟨rfl, a1, a2⟩
  exact ⟨rfl, _, Q, a1, h.calm a2, fun i hi hq => by have := h.lt i hq; omega, fun i hi => by have := hc.size; omega, hq, hc.trans a2⟩
end
end Go.Proofs.Ytkmknmoppigoeaa
