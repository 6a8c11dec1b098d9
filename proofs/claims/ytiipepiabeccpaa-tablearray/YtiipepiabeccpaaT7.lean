/-
  Tables: Len, Map; kinds: count, find, use.
-/
import Derived.Test.YtiipepiabeccpaaTM
namespace Go.Proofs.Ytiipepiabeccpaa
open Go.RowKit Go.Deep
open Go.Maps (Keyed)
set_option linter.all false
attribute [local go_sem] Oper.semAt_some

theorem tMap_c {w : World} {tb : Nat} {q : MN} {ev : Value} (h : Row w tb 128 #[.string (str q.name), .int .i64 (q.kind : Int), .int .i64 (q.key : Int), .int .i64 (q.val : Int), .int .i64 (q.max : Int), ev]) :
    Calls Try.prog 46 #[.pointer (some ⟨tb, 0, none⟩)] w fun e w' => e = .returned q.mp.agg ∧ Calm w w' := by
  have c0 : w.cell? ⟨tb, 0, none⟩ = some (.string (str q.name)) := (h.cell 0).trans rfl
  have c1 : w.cell? ⟨tb, 1, none⟩ = some (.int .i64 (q.kind : Int)) := (h.cell 1).trans rfl
  have c2 : w.cell? ⟨tb, 2, none⟩ = some (.int .i64 (q.key : Int)) := (h.cell 2).trans rfl
  have c3 : w.cell? ⟨tb, 3, none⟩ = some (.int .i64 (q.val : Int)) := (h.cell 3).trans rfl
  have c4 : w.cell? ⟨tb, 4, none⟩ = some (.int .i64 (q.max : Int)) := (h.cell 4).trans rfl
  have hlt := h.lt
  have HC : Calm w w := Keep.refl _ w
  clear h
  go_enter Try.func46, Try.ntmps46
  go_wp2
  have hr := Row.made w 58 #[.string (str q.name), .int .i64 (q.kind : Int), .int .i64 (q.key : Int), .int .i64 (q.val : Int), .int .i64 (q.max : Int)]
  have d0 := (hr.cell 0).trans rfl
  have d1 := (hr.cell 1).trans rfl
  have d2 := (hr.cell 2).trans rfl
  have d3 := (hr.cell 3).trans rfl
  have d4 := (hr.cell 4).trans rfl
  refine bodyPost_ret (by simp [results, Try.results46, go_sem, d0, d1, d2, d3, d4]; try rfl) rfl ?_
  exact ⟨rfl, HC.alloc _⟩

/-- How many entries. -/
theorem count_arr (A n : Nat) (w : World) : Calls Try.prog 108 #[.agg #[.slice (some ⟨A, 0, none⟩) n n]] w fun e w' => e = .returned (.int .i64 (n : Int)) ∧ Calm w w' := by
  go_enter Try.func108, Try.ntmps108
  go_wp2
  go_ret
  exact ⟨rfl, (Keep.refl _ w).alloc _⟩
theorem count_hash {w : World} {b n : Nat} {D : DataW Unit} (mx : Int) (hm : w.ownsMap Try.prog 9 (se n) b (Maps.size D) D) : Calls Try.prog 114 #[.agg #[.int .i64 mx, .map (some b)]] w fun e w' => e = .returned (.int .i64 (Maps.size D : Int)) ∧ Calm w w' := by
  have hlen := fun o => (hm.alloc o).len Try.underlying146 3
  go_enter Try.func114, Try.ntmps114
  go_wp2
  go_ret
  exact ⟨rfl, (Keep.refl _ w).alloc _⟩
theorem count_lru {w : World} {b mx : Nat} {R : Nat → Prop} {L : List (List UInt8 × (Option Addr × Nat × Nat))} (h : LruIs syT w R b mx L) : Calls Try.prog 153 #[.agg #[.pointer (some ⟨b, 0, none⟩)]] w fun e w' => e = .returned (.int .i64 (L.length : Int)) ∧ Calm w w' := by
  have hh := fun o => sy_Len (h.calm ((Keep.refl _ w).alloc o))
  go_enter Try.func153, Try.ntmps153
  go_wp2_with fail
  refine (hh _).mono ?_
  rintro e w' ⟨rfl, rfl⟩
  go_wp2
  go_ret
  exact ⟨rfl, (Keep.refl _ w).alloc _⟩

set_option maxRecDepth 20000 in
theorem tLen_c {w : World} {R : Nat → Prop} {tb : Nat} {q : MN} {E : List Ent} (h : TabAt w R tb q E) :
    Calls Try.prog 45 #[.pointer (some ⟨tb, 0, none⟩)] w fun e w' => e = .returned (.int .i64 (E.length : Int)) ∧ Calm w w' := by
  obtain ⟨ev, h1, h2⟩ := h.top
  have c5 : w.cell? ⟨tb, 5, none⟩ = some ev := (h1.cell 5).trans rfl
  clear h h1
  cases h2 with
  | arr A hk hR hr hkeys =>
    have hl : E.length = q.max := by
      have := congrArg List.length hkeys
      rw [keys_kbs] at this
      simpa [keysL] using this
    have hm := m_ak_count
    have HL := Lib.hid hl
    have HH := Lib.hid (count_arr A q.max)
    clear hR hr hkeys hl
    go_enter Try.func45, Try.ntmps45
    go_wp2_with fail
    refine (HH.out _).mono ?_
    rintro e w' ⟨rfl, hc⟩
    have HC := Lib.hid hc
    clear hc
    go_wp2
    go_ret
    exact ⟨by rw [HL.out]; rfl, HC.out⟩
  | hash b D hk hR hm hD =>
    have hl : Maps.size D = E.length := by rw [hD.sz]; simp [kbs, mapv]
    have hmm := m_hk_count
    have HL := Lib.hid hl
    have HH := Lib.hid (count_hash (q.max : Int) hm)
    clear hR hm hD hl
    go_enter Try.func45, Try.ntmps45
    go_wp2_with fail
    refine HH.out.mono ?_
    rintro e w' ⟨rfl, hc⟩
    have HC := Lib.hid hc
    clear hc
    go_wp2
    go_ret
    exact ⟨by rw [← HL.out]; rfl, HC.out⟩
  | lru b tb0 R0 hk hR hL =>
    have hl : (mapv (lv q.val) (kbs E)).length = E.length := by simp [kbs, mapv]
    have hmm := m_rk_count
    have HL := Lib.hid hl
    have HH := Lib.hid (count_lru hL)
    clear hR hL hl
    go_enter Try.func45, Try.ntmps45
    go_wp2_with fail
    refine HH.out.mono ?_
    rintro e w' ⟨rfl, hc⟩
    have HC := Lib.hid hc
    clear hc
    go_wp2
    go_ret
    exact ⟨by rw [← HL.out]; rfl, HC.out⟩
end Go.Proofs.Ytiipepiabeccpaa
