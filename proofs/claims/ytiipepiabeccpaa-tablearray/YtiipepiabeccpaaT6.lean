/-
  Tables: New.
-/
import Derived.Test.YtiipepiabeccpaaT5
namespace Go.Proofs.Ytiipepiabeccpaa
open Go.RowKit Go.Deep
open Go.Maps (Keyed)
set_option linter.all false
attribute [local go_sem] Oper.semAt_some

set_option maxHeartbeats 2000000 in
theorem tNew_no (m : MP) (hs : m.name.length ≤ maxLen) (h : m.right = false) (w : World) : Calls Try.prog 33 #[m.agg] w fun e w' => e = .returned (.tuple #[.pointer none, .int .i64 1]) ∧ Calm w w' := by
  have HR := Lib.hid (fun W => tRight_c m hs W)
  rw [h] at HR
  obtain ⟨nm, kd, ky, vl, mx⟩ := m
  show Calls Try.prog 33 #[.agg #[.string (str nm), .int .i64 kd, .int .i64 ky, .int .i64 vl, .int .i64 mx]] w _
  have R0 : Calm w (w.alloc (.cells #[.string (str nm), .int .i64 kd, .int .i64 ky, .int .i64 vl, .int .i64 mx] 58)) := (Keep.refl (fun _ => False) w).alloc _
  have HR0 := Lib.hid R0
  clear R0 h
  go_enter Try.func33, Try.ntmps33
  go_wp2_with fail
  refine (HR.out _).mono ?_
  rintro e w1 ⟨rfl, hc⟩
  have HC := Lib.hid (HR0.out.trans hc)
  clear hc
  go_wp2
  go_ret2
  exact ⟨rfl, HC.out⟩

theorem NewK.calm {q : MN} {w w' : World} {ev : Value} (h : NewK q w ev w') : Calm w w' := by obtain ⟨_, _, h, _⟩ := h; exact h
theorem NewK.form {q : MN} {w w' : World} {ev : Value} (h : NewK q w ev w') : ∃ t v, ev = .iface t v := by
  obtain ⟨_, _, _, h, _⟩ := h
  cases h <;> exact ⟨_, _, rfl⟩
def NewT (q : MN) (w : World) (v : Value) (w' : World) : Prop := ∃ (tb : Nat) (E : List Ent), v = .pointer (some ⟨tb, 0, none⟩) ∧ NewE q E ∧ Tab w w' (fun _ => False) tb q E

theorem newT_of {q : MN} (hq : q.Ok) {w w1 w2 : World} {ev : Value} (hk : NewK q w1 ev w2) (hc : Calm w w1) (n : Nat) :
    NewT q w (.pointer (some ⟨w2.heap.size, 0, none⟩)) ((w2.alloc (.cells #[.string (str q.name), .int .i64 (q.kind : Int), .int .i64 (q.key : Int), .int .i64 (q.val : Int), .int .i64 (q.max : Int), ev] 128)).drewN n) := by
  obtain ⟨R, E, h1, h2, h3, h4, h5, h6, h7⟩ := hk
  have hs := hc.size
  have hc2 : Calm w2 ((w2.alloc (.cells #[.string (str q.name), .int .i64 (q.kind : Int), .int .i64 (q.key : Int), .int .i64 (q.val : Int), .int .i64 (q.max : Int), ev] 128)).drewN n) := ((Keep.refl _ w2).alloc _).drewN n
  obtain ⟨g1, g2, g3⟩ := h3.keys hq
  refine ⟨_, E, rfl, h3, fun i => R i ∨ i = w2.heap.size, ⟨hq, ⟨ev, (Row.made w2 _ _).drewN n, ?_⟩, .inr rfl, ?_, fun x hx => ⟨(h4 x hx).1.keep hc2 (fun e => e), (h4 x hx).2⟩, ?_, h5, g1, g2, g3⟩, ?_, fun _ h => h.elim, (hc.trans h1).trans hc2⟩
  · have := h2.keep (fun i hi => (h7 i (.inl hi)).2) hc2 (fun _ _ e => e)
    cases this with
    | arr A a b c d => exact .arr A a ⟨.inl b, by have := (h7 A (.inl b)).2; omega⟩ c d
    | hash b D a c d e => exact .hash b D a ⟨.inl c, by have := (h7 b (.inl c)).2; omega⟩ d e
    | lru b tb R0 a c d => exact .lru b tb R0 a (fun i hi => ⟨.inl (c i hi), by have := (h7 i (.inl (c i hi))).2; omega⟩) d
  · rintro i (hi | rfl)
    · have := (h7 i (.inl hi)).2
      have := hc2.size
      omega
    · show _ < _
      simp [World.drewN]
  · rintro x hx (hi | hi)
    · exact h6 x hx hi
    · have := (h7 x.2.1 (.inr (List.mem_map.2 ⟨x, hx, rfl⟩))).2
      omega
  · rintro i ((hi | rfl) | hi)
    · have := (h7 i (.inl hi)).1
      exact ⟨by omega, fun e => e⟩
    · have := h1.size
      exact ⟨by omega, fun e => e⟩
    · have := (h7 i (.inr hi)).1
      exact ⟨by omega, fun e => e⟩

set_option maxHeartbeats 2000000 in
theorem tNew_yes (q : MN) (hq : q.Ok) (w : World) : Calls Try.prog 33 #[q.mp.agg] w fun e w' => ∃ v : Value, e = .returned (.tuple #[v, .int .i64 0]) ∧ NewT q w v w' := by
  have hs : q.mp.name.length ≤ maxLen := by have := hq.name; unfold maxLen; show q.name.length ≤ _; omega
  have HR := Lib.hid (fun W => tRight_c q.mp hs W)
  rw [hq.right] at HR
  have HK := Lib.hid (fun W => newKind_c q hq W)
  have HO := Lib.hid (fun w1 w2 ev (a : NewK q w1 ev w2) (b : Calm w w1) n => newT_of hq a b n)
  obtain ⟨nm, kd, ky, vl, mx⟩ := q
  show Calls Try.prog 33 #[.agg #[.string (str nm), .int .i64 (kd : Int), .int .i64 (ky : Int), .int .i64 (vl : Int), .int .i64 (mx : Int)]] w _
  have R0 : Calm w (w.alloc (.cells #[.string (str nm), .int .i64 (kd : Int), .int .i64 (ky : Int), .int .i64 (vl : Int), .int .i64 (mx : Int)] 58)) := (Keep.refl (fun _ => False) w).alloc _
  have R1 := Row.made w 58 #[.string (str nm), .int .i64 (kd : Int), .int .i64 (ky : Int), .int .i64 (vl : Int), .int .i64 (mx : Int)]
  have HR0 := Lib.hid R0
  clear hs hq
  go_enter Try.func33, Try.ntmps33
  go_wp2_with fail
  refine (HR.out _).mono ?_
  rintro e w1 ⟨rfl, hc⟩
  have R2 := R1.keep hc (fun e => e)
  have c0 : w1.cell? ⟨w.heap.size, 0, none⟩ = some (.string (str nm)) := (R2.cell 0).trans rfl
  have c1 : w1.cell? ⟨w.heap.size, 1, none⟩ = some (.int .i64 (kd : Int)) := (R2.cell 1).trans rfl
  have c2 : w1.cell? ⟨w.heap.size, 2, none⟩ = some (.int .i64 (ky : Int)) := (R2.cell 2).trans rfl
  have c3 : w1.cell? ⟨w.heap.size, 3, none⟩ = some (.int .i64 (vl : Int)) := (R2.cell 3).trans rfl
  have c4 : w1.cell? ⟨w.heap.size, 4, none⟩ = some (.int .i64 (mx : Int)) := (R2.cell 4).trans rfl
  have HC := Lib.hid (HR0.out.trans hc)
  clear hc HR0 R0 R1 HR
  have hlt := R2.lt
  clear R2
  go_wp2_with fail
  go_region_with (refine (HK.out _).mono ?_; rintro e w2 ⟨ev, rfl, hk⟩; obtain ⟨tt, vv, rfl⟩ := hk.form; have d0 : w2.cell? ⟨w.heap.size, 0, none⟩ = some (.string (str nm)) := (hk.calm.cell (p := ⟨w.heap.size, 0, none⟩) hlt (fun e => e)).trans c0; have d1 : w2.cell? ⟨w.heap.size, 1, none⟩ = some (.int .i64 (kd : Int)) := (hk.calm.cell (p := ⟨w.heap.size, 1, none⟩) hlt (fun e => e)).trans c1; have d2 : w2.cell? ⟨w.heap.size, 2, none⟩ = some (.int .i64 (ky : Int)) := (hk.calm.cell (p := ⟨w.heap.size, 2, none⟩) hlt (fun e => e)).trans c2; have d3 : w2.cell? ⟨w.heap.size, 3, none⟩ = some (.int .i64 (vl : Int)) := (hk.calm.cell (p := ⟨w.heap.size, 3, none⟩) hlt (fun e => e)).trans c3; have d4 : w2.cell? ⟨w.heap.size, 4, none⟩ = some (.int .i64 (mx : Int)) := (hk.calm.cell (p := ⟨w.heap.size, 4, none⟩) hlt (fun e => e)).trans c4)
  all_goals
    go_wp2
    go_ret2
    first
    | exact ⟨_, rfl, HO.out _ _ _ hk HC.out.drew 0⟩
    | exact ⟨_, rfl, HO.out _ _ _ hk HC.out 0⟩
    | exact ⟨_, rfl, HO.out _ _ _ hk HC.out 1⟩
    | exact ⟨_, rfl, HO.out _ _ _ hk (HC.out.drewN 1) 1⟩
    | (trace_state; sorry)
end Go.Proofs.Ytiipepiabeccpaa
