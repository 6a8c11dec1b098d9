/-
  findable: every key of these types is the same as itself; the deferred closure recovers nothing.
-/
import Derived.Test.YtnlojohjhfpbgaaLU
import Derived.Defers
import Derived.Recover
namespace Go.Proofs.Ytnlojohjhfpbgaa
open Go.RowKit
set_option linter.all false
attribute [local go_sem] Oper.semAt_some

theorem fs_idle (p : Addr) (w : World) :
    CallsD Try.prog 78 #[.pointer (some p)] .returning w fun e u' w' => e = .returned (.tuple #[]) ∧ u' = .returning ∧ w' = w := by
  refine callsD_of_wpS Try.func78 rfl fun c₀ cs hu => ?_
  apply wpS_seq
  apply wpS_region
  simp [wpOpsS, go_sem, recoverD, hu, Try.ntmps78, Exit.thenS]
  refine wpS_cond (t := false) (by simp [Act.eval, Array.replicate]) ?_
  simp only [Bool.false_eq_true, if_false]
  refine wpS_of_wp (wp_skip ?_)
  cases c₀
  simp_all [bodyPostS, results, Try.results78]

theorem fu_idle (p : Addr) (w : World) :
    CallsD Try.prog 77 #[.pointer (some p)] .returning w fun e u' w' => e = .returned (.tuple #[]) ∧ u' = .returning ∧ w' = w := by
  refine callsD_of_wpS Try.func77 rfl fun c₀ cs hu => ?_
  apply wpS_seq
  apply wpS_region
  simp [wpOpsS, go_sem, recoverD, hu, Try.ntmps77, Exit.thenS]
  refine wpS_cond (t := false) (by simp [Act.eval, Array.replicate]) ?_
  simp only [Bool.false_eq_true, if_false]
  refine wpS_of_wp (wp_skip ?_)
  cases c₀
  simp_all [bodyPostS, results, Try.results77]

theorem calm_var (w : World) (v u : Value) (t : TypeId) : Calm w ((w.alloc (.cells #[v] t)).setCell ⟨w.heap.size, 0, none⟩ u) :=
  ((Keep.refl _ w).alloc _).store (p := ⟨w.heap.size, 0, none⟩) (fun h => absurd h (Nat.lt_irrefl _)) _

theorem si_findable (s : List UInt8) (w : World) :
    Calls Try.prog 69 #[.string (str s)] w fun e w' => e = .returned (.bool true) ∧ Calm w w' := by
  have hmf : ∀ (fn : Fn) (first cap : Array Value) (w : World), (Instr.makeFunc fn first cap).run Try.prog w = .ok (.func fn first cap) w := fun _ _ _ _ => rfl
  go_enter_defers Try.func69, Try.ntmps69
  go_wp2
  refine leaves_cons (f := 78) (args := #[.pointer (some ⟨w.heap.size, 0, none⟩)]) (by simp) (by simp [go_sem]) ?_
  refine (fs_idle ⟨w.heap.size, 0, none⟩ _).mono ?_
  rintro e u' w'' ⟨rfl, rfl, rfl⟩
  simp [Leaves, settle, results, Try.results69, go_sem]
  exact (Keep.refl _ w).alloc _

theorem us_findable (n : Int) (w : World) :
    Calls Try.prog 66 #[.int .u8 n] w fun e w' => e = .returned (.bool true) ∧ Calm w w' := by
  have hmf : ∀ (fn : Fn) (first cap : Array Value) (w : World), (Instr.makeFunc fn first cap).run Try.prog w = .ok (.func fn first cap) w := fun _ _ _ _ => rfl
  go_enter_defers Try.func66, Try.ntmps66
  go_wp2
  refine leaves_cons (f := 77) (args := #[.pointer (some ⟨w.heap.size, 0, none⟩)]) (by simp) (by simp [go_sem]) ?_
  refine (fu_idle ⟨w.heap.size, 0, none⟩ _).mono ?_
  rintro e u' w'' ⟨rfl, rfl, rfl⟩
  simp [Leaves, settle, results, Try.results66, go_sem]
  exact (Keep.refl _ w).alloc _