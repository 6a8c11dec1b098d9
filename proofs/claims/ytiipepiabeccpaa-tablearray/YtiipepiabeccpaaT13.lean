/-
  Tables: Update.
-/
import Derived.Test.YtiipepiabeccpaaT12
namespace Go.Proofs.Ytiipepiabeccpaa
open Go.RowKit Go.Deep
open Go.Maps (Keyed)
set_option linter.all false
attribute [local go_sem] Oper.semAt_some

section
variable {w0 w w' : World} {S : Nat → Prop} {tb : Nat} {q : MN} {E : List Ent}
/-- What the arguments of Update may not be. -/
def BadU (q : MN) (k v : List UInt8) (fl : Int) : Prop := k.length ≠ q.key ∨ v.length ≠ q.val ∨ ¬ (0 ≤ fl ∧ fl ≤ 2)
set_option maxRecDepth 20000 in
set_option maxHeartbeats 2000000 in
theorem update_bad (h : Tab w0 w S tb q E) {kv vv : Value} {k v : List UInt8} (hk : Rd w kv k) (hv : Rd w vv v) (fl : Int) (hb : BadU q k v fl) :
    Calls Try.prog 39 #[.pointer (some ⟨tb, 0, none⟩), kv, vv, .int .i64 fl] w fun e w' => e = .returned (.int .i64 1) ∧ LookNo w0 w S tb q E w' := by
  obtain ⟨R, h1, h2, h3, h4⟩ := h
  obtain ⟨ev, t1, t2⟩ := h1.top
  have c2 : w.cell? ⟨tb, 2, none⟩ = some (.int .i64 (q.key : Int)) := (t1.cell 2).trans rfl
  have c3 : w.cell? ⟨tb, 3, none⟩ = some (.int .i64 (q.val : Int)) := (t1.cell 3).trans rfl
  obtain ⟨A, cap, rfl, _, _⟩ := hk.form
  obtain ⟨B, cap2, rfl, _, _⟩ := hv.form
  have HT : Hid (LookNo w0 w S tb q E w) := Lib.hid ⟨⟨R, h1, h2, h3, h4⟩, Held.refl S w⟩
  clear h1 h2 h3 h4 t1 t2 hk hv
  by_cases g1 : k.length = q.key
  · have e1 : ((k.length : Int) != (q.key : Int)) = false := by rw [bne_eq_false_iff_eq]; omega
    by_cases g2 : v.length = q.val
    · have e2 : ((v.length : Int) != (q.val : Int)) = false := by rw [bne_eq_false_iff_eq]; omega
      have e3 : decide (0 ≤ fl ∧ fl ≤ 2) = false := by
        apply decide_eq_false
        rcases hb with h | h | h
        · exact absurd g1 h
        · exact absurd g2 h
        · exact h
      have hkn := fun W => known_c fl W
      rw [e3] at hkn
      have HK := Lib.hid hkn
      clear hkn e3 hb g1 g2
      go_enter Try.func39, Try.ntmps39
      go_wp2_with fail
      refine (HK.out _).mono ?_
      rintro e w' ⟨rfl, rfl⟩
      go_wp2
      go_ret
      exact ⟨rfl, HT.out⟩
    · have e2 : ((v.length : Int) != (q.val : Int)) = true := by rw [bne_iff_ne]; omega
      clear hb g1 g2
      go_enter Try.func39, Try.ntmps39
      go_wp2
      go_ret
      exact ⟨rfl, HT.out⟩
  · have e1 : ((k.length : Int) != (q.key : Int)) = true := by rw [bne_iff_ne]; omega
    clear hb g1
    go_enter Try.func39, Try.ntmps39
    go_wp2
    go_ret
    exact ⟨rfl, HT.out⟩

set_option maxRecDepth 20000 in
set_option maxHeartbeats 2000000 in
theorem update_refused (h : Tab w0 w S tb q E) {kv vv : Value} {k v : List UInt8} (hk : Rd w kv k) (hv : Rd w vv v) (fl : Int) (hb : ¬ BadU q k v fl) (n : Int) (hn : ((getL k E).isSome = true ∧ fl = 1 ∧ n = 4) ∨ (getL k E = none ∧ fl = 2 ∧ n = 3)) :
    Calls Try.prog 39 #[.pointer (some ⟨tb, 0, none⟩), kv, vv, .int .i64 fl] w fun e w' => e = .returned (.int .i64 n) ∧ LookNo w0 w S tb q E w' := by
  obtain ⟨R, h1, h2, h3, h4⟩ := h
  obtain ⟨ev, t1, t2⟩ := h1.top
  have c2 : w.cell? ⟨tb, 2, none⟩ = some (.int .i64 (q.key : Int)) := (t1.cell 2).trans rfl
  have c3 : w.cell? ⟨tb, 3, none⟩ = some (.int .i64 (q.val : Int)) := (t1.cell 3).trans rfl
  have c5 : w.cell? ⟨tb, 5, none⟩ = some ev := (t1.cell 5).trans rfl
  obtain ⟨t, u, F, rfl, hm, hcf, hc⟩ := kfind_c h1.ok t2 (by rw [keys_kbs]; exact h1.keys) k hk.len
  rw [getL_kbs, Option.isSome_map] at hc
  have hcv := conv_rd hk
  have HT : Hid (∀ w', Calm w w' → LookNo w0 w S tb q E w') := Lib.hid (fun w' c => ⟨⟨R, h1.calm c, h2, fun i hi => Nat.lt_of_lt_of_le (h3 i hi) c.size, h4.trans c⟩, Held.calm h3 c⟩)
  obtain ⟨A, cap, rfl, _, _⟩ := hk.form
  obtain ⟨B, cap2, rfl, _, _⟩ := hv.form
  clear h1 h2 h3 h4 t1 t2 hk hv
  simp only [BadU, not_or, Decidable.not_not] at hb
  obtain ⟨g1, g2, g3⟩ := hb
  have e1 : ((k.length : Int) != (q.key : Int)) = false := by rw [bne_eq_false_iff_eq]; omega
  have e2 : ((v.length : Int) != (q.val : Int)) = false := by rw [bne_eq_false_iff_eq]; omega
  have e3 : decide (0 ≤ fl ∧ fl ≤ 2) = true := decide_eq_true g3
  have hkn := fun W => known_c fl W
  rw [e3] at hkn
  have HK := Lib.hid hkn
  clear hkn e3 g1 g2 g3
  rcases hn with ⟨hg, rfl, rfl⟩ | ⟨hg, rfl, rfl⟩
  · rw [hg] at hc
    generalize fv q.val ((getL k E).map (·.1)) = fr at hc
    have HC := Lib.hid hc
    clear hc hg
    go_enter Try.func39, Try.ntmps39
    go_wp2_with fail
    refine (HK.out _).mono ?_
    rintro e w1 ⟨rfl, rfl⟩
    go_wp2_with fail
    refine HC.out.mono ?_
    rintro e w1 ⟨rfl, hcc⟩
    have HX := Lib.hid (HT.out w1 hcc)
    clear hcc HT HC HK
    go_wp2
    go_ret
    exact ⟨rfl, HX.out⟩
  · rw [hg] at hc
    simp only [Option.map_none, Option.isSome_none, fv] at hc
    have HC := Lib.hid hc
    clear hc hg
    go_enter Try.func39, Try.ntmps39
    go_wp2_with fail
    refine (HK.out _).mono ?_
    rintro e w1 ⟨rfl, rfl⟩
    go_wp2_with fail
    refine HC.out.mono ?_
    rintro e w1 ⟨rfl, hcc⟩
    have HX := Lib.hid (HT.out w1 hcc)
    clear hcc HT HC HK
    go_wp2
    go_ret
    exact ⟨rfl, HX.out⟩
end
end Go.Proofs.Ytiipepiabeccpaa
