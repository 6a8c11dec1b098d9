/-
  Package isa: classes, areAllOf, Known.
-/
import Derived.Test.YthmiiddojccafaaI2
import Derived.Handy
namespace Go.Proofs.Ythmiiddojccafaa
open Go.RowKit
set_option linter.all false

theorem memory_c (has : Int) (w : World) : Calls Try.prog 76 #[.int .u8 has] w fun x w' => x = .returned (.func (.func 77) #[] #[.pointer (some ⟨w.heap.size, 0, none⟩)]) ∧ w' = w.alloc (.cells #[.int .u8 has] 76) := by
  go_enter Try.func76, Try.ntmps76
  go_wp2_with fail
  go_ret
  exact ⟨rfl, rfl⟩
theorem store_func (w : World) (a : Addr) (m : Mode) (f : Fn) (x y : Array Value) : (store a (.func f x y) m).run Try.prog w = stored Try.prog w a (.func f x y) m := run_store Try.prog w a _ m rfl
set_option maxHeartbeats 3200000 in
theorem classes_c (w : World) : Calls Try.prog 65 #[] w fun x w' => ∃ p1 p2 p3, x = .returned (.agg #[.func (.func 75) #[] #[], .func (.func 77) #[] #[.pointer (some ⟨p1, 0, none⟩)], .func (.func 77) #[] #[.pointer (some ⟨p2, 0, none⟩)], .func (.func 77) #[] #[.pointer (some ⟨p3, 0, none⟩)], .func (.func 78) #[] #[], .func (.func 79) #[] #[], .func (.func 80) #[] #[], .func (.func 78) #[] #[]]) ∧ w'.cell? ⟨p1, 0, none⟩ = some (.int .u8 7) ∧ w'.cell? ⟨p2, 0, none⟩ = some (.int .u8 13) ∧ w'.cell? ⟨p3, 0, none⟩ = some (.int .u8 7) ∧ Calm w w' := by
  go_enter Try.func65, Try.ntmps65
  go_wp2_with fail
  refine (memory_c 7 _).mono ?_
  rintro e w1 ⟨rfl, rfl⟩
  go_wp2_with fail
  refine (memory_c 13 _).mono ?_
  rintro e w1 ⟨rfl, rfl⟩
  go_wp2_with fail
  refine (memory_c 7 _).mono ?_
  rintro e w1 ⟨rfl, rfl⟩
  have hr : Row ((((w.alloc (.cells #[.nilFunc, .nilFunc, .nilFunc, .nilFunc, .nilFunc, .nilFunc, .nilFunc, .nilFunc] 80)).alloc (.cells #[.int .u8 7] 76)).alloc (.cells #[.int .u8 13] 76)).alloc (.cells #[.int .u8 7] 76)) w.heap.size 80 #[.nilFunc, .nilFunc, .nilFunc, .nilFunc, .nilFunc, .nilFunc, .nilFunc, .nilFunc] := (((Row.made w _ _).alloc _).alloc _).alloc _
  have r1 : Hid (Row ((((w.alloc (.cells #[.nilFunc, .nilFunc, .nilFunc, .nilFunc, .nilFunc, .nilFunc, .nilFunc, .nilFunc] 80)).alloc (.cells #[.int .u8 7] 76)).alloc (.cells #[.int .u8 13] 76)).alloc (.cells #[.int .u8 7] 76)) (w.heap.size + 1) 76 #[.int .u8 7]) := Lib.hid (by have := (((Row.made (w.alloc (.cells #[.nilFunc, .nilFunc, .nilFunc, .nilFunc, .nilFunc, .nilFunc, .nilFunc, .nilFunc] 80)) 76 #[.int .u8 7]).alloc (.cells #[.int .u8 13] 76)).alloc (.cells #[.int .u8 7] 76)); rwa [World.size_alloc] at this)
  have r2 : Hid (Row ((((w.alloc (.cells #[.nilFunc, .nilFunc, .nilFunc, .nilFunc, .nilFunc, .nilFunc, .nilFunc, .nilFunc] 80)).alloc (.cells #[.int .u8 7] 76)).alloc (.cells #[.int .u8 13] 76)).alloc (.cells #[.int .u8 7] 76)) (w.heap.size + 1 + 1) 76 #[.int .u8 13]) := Lib.hid (by have := ((Row.made ((w.alloc (.cells #[.nilFunc, .nilFunc, .nilFunc, .nilFunc, .nilFunc, .nilFunc, .nilFunc, .nilFunc] 80)).alloc (.cells #[.int .u8 7] 76)) 76 #[.int .u8 13]).alloc (.cells #[.int .u8 7] 76)); rwa [World.size_alloc, World.size_alloc] at this)
  have r3 : Hid (Row ((((w.alloc (.cells #[.nilFunc, .nilFunc, .nilFunc, .nilFunc, .nilFunc, .nilFunc, .nilFunc, .nilFunc] 80)).alloc (.cells #[.int .u8 7] 76)).alloc (.cells #[.int .u8 13] 76)).alloc (.cells #[.int .u8 7] 76)) (w.heap.size + 1 + 1 + 1) 76 #[.int .u8 7]) := Lib.hid (by have := Row.made (((w.alloc (.cells #[.nilFunc, .nilFunc, .nilFunc, .nilFunc, .nilFunc, .nilFunc, .nilFunc, .nilFunc] 80)).alloc (.cells #[.int .u8 7] 76)).alloc (.cells #[.int .u8 13] 76)) 76 #[.int .u8 7]; rwa [World.size_alloc, World.size_alloc, World.size_alloc] at this)
  have hc : Hid (Calm w ((((w.alloc (.cells #[.nilFunc, .nilFunc, .nilFunc, .nilFunc, .nilFunc, .nilFunc, .nilFunc, .nilFunc] 80)).alloc (.cells #[.int .u8 7] 76)).alloc (.cells #[.int .u8 13] 76)).alloc (.cells #[.int .u8 7] 76))) := Lib.hid ((((((Keep.refl _ w).alloc _).alloc _).alloc _).alloc _))
  generalize World.alloc _ _ = w4 at hr r1 r2 r3 hc ⊢
  have c0 : w4.cell? ⟨w.heap.size, 0, none⟩ = some .nilFunc := hr.cell 0
  have c1 : w4.cell? ⟨w.heap.size, 1, none⟩ = some .nilFunc := hr.cell 1
  have c2 : w4.cell? ⟨w.heap.size, 2, none⟩ = some .nilFunc := hr.cell 2
  have c3 : w4.cell? ⟨w.heap.size, 3, none⟩ = some .nilFunc := hr.cell 3
  have c4 : w4.cell? ⟨w.heap.size, 4, none⟩ = some .nilFunc := hr.cell 4
  have c5 : w4.cell? ⟨w.heap.size, 5, none⟩ = some .nilFunc := hr.cell 5
  have c6 : w4.cell? ⟨w.heap.size, 6, none⟩ = some .nilFunc := hr.cell 6
  have c7 : w4.cell? ⟨w.heap.size, 7, none⟩ = some .nilFunc := hr.cell 7
  have f0 : ∀ i, w4.frozen? ⟨w.heap.size, i, none⟩ = false := fun i => hr.soft i
  have HR := Lib.hid hr
  clear hr
  have qs := store_func
  go_wp2_with fail
  obtain ⟨w5, h5⟩ : ∃ w5, w5 = ((((((((w4.setCell ⟨w.heap.size, 0, none⟩ (.func (.func 75) #[] #[])).setCell ⟨w.heap.size, 1, none⟩ (.func (.func 77) #[] #[.pointer (some ⟨w.heap.size + 1, 0, none⟩)])).setCell ⟨w.heap.size, 2, none⟩ (.func (.func 77) #[] #[.pointer (some ⟨w.heap.size + 1 + 1, 0, none⟩)])).setCell ⟨w.heap.size, 3, none⟩ (.func (.func 77) #[] #[.pointer (some ⟨w.heap.size + 1 + 1 + 1, 0, none⟩)])).setCell ⟨w.heap.size, 4, none⟩ (.func (.func 78) #[] #[])).setCell ⟨w.heap.size, 5, none⟩ (.func (.func 79) #[] #[])).setCell ⟨w.heap.size, 6, none⟩ (.func (.func 80) #[] #[])).setCell ⟨w.heap.size, 7, none⟩ (.func (.func 78) #[] #[])) := ⟨_, rfl⟩
  have hR : Row w5 w.heap.size 80 #[(.func (.func 75) #[] #[]), (.func (.func 77) #[] #[.pointer (some ⟨w.heap.size + 1, 0, none⟩)]), (.func (.func 77) #[] #[.pointer (some ⟨w.heap.size + 1 + 1, 0, none⟩)]), (.func (.func 77) #[] #[.pointer (some ⟨w.heap.size + 1 + 1 + 1, 0, none⟩)]), (.func (.func 78) #[] #[]), (.func (.func 79) #[] #[]), (.func (.func 80) #[] #[]), (.func (.func 78) #[] #[])] := by rw [h5]; exact ((((((((HR.out.store 0 (.func (.func 75) #[] #[])).store 1 (.func (.func 77) #[] #[.pointer (some ⟨w.heap.size + 1, 0, none⟩)])).store 2 (.func (.func 77) #[] #[.pointer (some ⟨w.heap.size + 1 + 1, 0, none⟩)])).store 3 (.func (.func 77) #[] #[.pointer (some ⟨w.heap.size + 1 + 1 + 1, 0, none⟩)])).store 4 (.func (.func 78) #[] #[])).store 5 (.func (.func 79) #[] #[])).store 6 (.func (.func 80) #[] #[])).store 7 (.func (.func 78) #[] #[]))
  have s1 : w5.cell? ⟨w.heap.size + 1, 0, none⟩ = some (.int .u8 7) := by rw [h5]; exact Row.cell (t := 76) (cs := #[.int .u8 7]) (Row.far (Row.far (Row.far (Row.far (Row.far (Row.far (Row.far (Row.far r1.out (p := ⟨w.heap.size, 0, none⟩) (by show _ ≠ w.heap.size; omega) (.func (.func 75) #[] #[])) (p := ⟨w.heap.size, 1, none⟩) (by show _ ≠ w.heap.size; omega) (.func (.func 77) #[] #[.pointer (some ⟨w.heap.size + 1, 0, none⟩)])) (p := ⟨w.heap.size, 2, none⟩) (by show _ ≠ w.heap.size; omega) (.func (.func 77) #[] #[.pointer (some ⟨w.heap.size + 1 + 1, 0, none⟩)])) (p := ⟨w.heap.size, 3, none⟩) (by show _ ≠ w.heap.size; omega) (.func (.func 77) #[] #[.pointer (some ⟨w.heap.size + 1 + 1 + 1, 0, none⟩)])) (p := ⟨w.heap.size, 4, none⟩) (by show _ ≠ w.heap.size; omega) (.func (.func 78) #[] #[])) (p := ⟨w.heap.size, 5, none⟩) (by show _ ≠ w.heap.size; omega) (.func (.func 79) #[] #[])) (p := ⟨w.heap.size, 6, none⟩) (by show _ ≠ w.heap.size; omega) (.func (.func 80) #[] #[])) (p := ⟨w.heap.size, 7, none⟩) (by show _ ≠ w.heap.size; omega) (.func (.func 78) #[] #[])) 0
  have s2 : w5.cell? ⟨w.heap.size + 1 + 1, 0, none⟩ = some (.int .u8 13) := by rw [h5]; exact Row.cell (t := 76) (cs := #[.int .u8 13]) (Row.far (Row.far (Row.far (Row.far (Row.far (Row.far (Row.far (Row.far r2.out (p := ⟨w.heap.size, 0, none⟩) (by show _ ≠ w.heap.size; omega) (.func (.func 75) #[] #[])) (p := ⟨w.heap.size, 1, none⟩) (by show _ ≠ w.heap.size; omega) (.func (.func 77) #[] #[.pointer (some ⟨w.heap.size + 1, 0, none⟩)])) (p := ⟨w.heap.size, 2, none⟩) (by show _ ≠ w.heap.size; omega) (.func (.func 77) #[] #[.pointer (some ⟨w.heap.size + 1 + 1, 0, none⟩)])) (p := ⟨w.heap.size, 3, none⟩) (by show _ ≠ w.heap.size; omega) (.func (.func 77) #[] #[.pointer (some ⟨w.heap.size + 1 + 1 + 1, 0, none⟩)])) (p := ⟨w.heap.size, 4, none⟩) (by show _ ≠ w.heap.size; omega) (.func (.func 78) #[] #[])) (p := ⟨w.heap.size, 5, none⟩) (by show _ ≠ w.heap.size; omega) (.func (.func 79) #[] #[])) (p := ⟨w.heap.size, 6, none⟩) (by show _ ≠ w.heap.size; omega) (.func (.func 80) #[] #[])) (p := ⟨w.heap.size, 7, none⟩) (by show _ ≠ w.heap.size; omega) (.func (.func 78) #[] #[])) 0
  have s3 : w5.cell? ⟨w.heap.size + 1 + 1 + 1, 0, none⟩ = some (.int .u8 7) := by rw [h5]; exact Row.cell (t := 76) (cs := #[.int .u8 7]) (Row.far (Row.far (Row.far (Row.far (Row.far (Row.far (Row.far (Row.far r3.out (p := ⟨w.heap.size, 0, none⟩) (by show _ ≠ w.heap.size; omega) (.func (.func 75) #[] #[])) (p := ⟨w.heap.size, 1, none⟩) (by show _ ≠ w.heap.size; omega) (.func (.func 77) #[] #[.pointer (some ⟨w.heap.size + 1, 0, none⟩)])) (p := ⟨w.heap.size, 2, none⟩) (by show _ ≠ w.heap.size; omega) (.func (.func 77) #[] #[.pointer (some ⟨w.heap.size + 1 + 1, 0, none⟩)])) (p := ⟨w.heap.size, 3, none⟩) (by show _ ≠ w.heap.size; omega) (.func (.func 77) #[] #[.pointer (some ⟨w.heap.size + 1 + 1 + 1, 0, none⟩)])) (p := ⟨w.heap.size, 4, none⟩) (by show _ ≠ w.heap.size; omega) (.func (.func 78) #[] #[])) (p := ⟨w.heap.size, 5, none⟩) (by show _ ≠ w.heap.size; omega) (.func (.func 79) #[] #[])) (p := ⟨w.heap.size, 6, none⟩) (by show _ ≠ w.heap.size; omega) (.func (.func 80) #[] #[])) (p := ⟨w.heap.size, 7, none⟩) (by show _ ≠ w.heap.size; omega) (.func (.func 78) #[] #[])) 0
  have hC : Calm w w5 := by rw [h5]; exact (Keep.store (Keep.store (Keep.store (Keep.store (Keep.store (Keep.store (Keep.store (Keep.store hc.out (p := ⟨w.heap.size, 0, none⟩) (fun e => absurd e (Nat.lt_irrefl _)) (.func (.func 75) #[] #[])) (p := ⟨w.heap.size, 1, none⟩) (fun e => absurd e (Nat.lt_irrefl _)) (.func (.func 77) #[] #[.pointer (some ⟨w.heap.size + 1, 0, none⟩)])) (p := ⟨w.heap.size, 2, none⟩) (fun e => absurd e (Nat.lt_irrefl _)) (.func (.func 77) #[] #[.pointer (some ⟨w.heap.size + 1 + 1, 0, none⟩)])) (p := ⟨w.heap.size, 3, none⟩) (fun e => absurd e (Nat.lt_irrefl _)) (.func (.func 77) #[] #[.pointer (some ⟨w.heap.size + 1 + 1 + 1, 0, none⟩)])) (p := ⟨w.heap.size, 4, none⟩) (fun e => absurd e (Nat.lt_irrefl _)) (.func (.func 78) #[] #[])) (p := ⟨w.heap.size, 5, none⟩) (fun e => absurd e (Nat.lt_irrefl _)) (.func (.func 79) #[] #[])) (p := ⟨w.heap.size, 6, none⟩) (fun e => absurd e (Nat.lt_irrefl _)) (.func (.func 80) #[] #[])) (p := ⟨w.heap.size, 7, none⟩) (fun e => absurd e (Nat.lt_irrefl _)) (.func (.func 78) #[] #[]))
  rw [← h5]
  clear h5
  have d0 : w5.cell? ⟨w.heap.size, 0, none⟩ = some (.func (.func 75) #[] #[]) := hR.cell 0
  have d1 : w5.cell? ⟨w.heap.size, 1, none⟩ = some (.func (.func 77) #[] #[.pointer (some ⟨w.heap.size + 1, 0, none⟩)]) := hR.cell 1
  have d2 : w5.cell? ⟨w.heap.size, 2, none⟩ = some (.func (.func 77) #[] #[.pointer (some ⟨w.heap.size + 1 + 1, 0, none⟩)]) := hR.cell 2
  have d3 : w5.cell? ⟨w.heap.size, 3, none⟩ = some (.func (.func 77) #[] #[.pointer (some ⟨w.heap.size + 1 + 1 + 1, 0, none⟩)]) := hR.cell 3
  have d4 : w5.cell? ⟨w.heap.size, 4, none⟩ = some (.func (.func 78) #[] #[]) := hR.cell 4
  have d5 : w5.cell? ⟨w.heap.size, 5, none⟩ = some (.func (.func 79) #[] #[]) := hR.cell 5
  have d6 : w5.cell? ⟨w.heap.size, 6, none⟩ = some (.func (.func 80) #[] #[]) := hR.cell 6
  have d7 : w5.cell? ⟨w.heap.size, 7, none⟩ = some (.func (.func 78) #[] #[]) := hR.cell 7
  refine bodyPost_ret (by simp [results, Try.results65, go_sem, d0, d1, d2, d3, d4, d5, d6, d7]; try rfl) rfl ?_
  exact ⟨_, _, _, rfl, s1, s2, s3, hC⟩
end Go.Proofs.Ythmiiddojccafaa
