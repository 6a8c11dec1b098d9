/-
  DiskPlays: a step of whatever kind; a slice of steps in memory.
-/
import Derived.Test.YtppehlnfoendgaaPlays5
namespace Go.Proofs.Ytppehlnfoendgaa
open Go.RowKit
set_option linter.all false

theorem do_c {w0 w : World} {R Q : Nat → Prop} {d r : Nat} {S : DS} (h : Half w0 w R Q d r S S) (hwm : S.wait.length ≤ 1000) (hops : S.ops ≤ 1000) (kd at_ n : Int) (fill : UInt8) (short : Bool) (A : Option Addr) (ks : List Bool) (c : Nat) (hl : ks.length ≤ c) (hc : c ≤ maxLen) (hn : n ≤ 9223372036854775807) (hz : A = none → c = 0) (hb : Bools w0 (fun _ => True) (.slice A ks.length c) ks) :
    Calls Try.prog 7 #[.pointer (some ⟨d, 0, none⟩), .pointer (some ⟨r, 0, none⟩), stepV kd at_ n fill short (.slice A ks.length c)] w fun e w' => e = .returned (.bool true) ∧ Left w0 w' d r S := by
  by_cases e1 : kd = 1
  · subst e1; exact do_1 h hwm hops at_ n fill short A ks c hl hc hb
  by_cases e2 : kd = 2
  · subst e2; exact do_2 h hwm hops at_ n fill short A ks c hl hc hb
  by_cases e3 : kd = 3
  · subst e3; exact do_3 h hwm hops at_ n fill short A ks c hl hc hb
  by_cases e4 : kd = 4
  · subst e4; exact do_4 h hwm hops at_ n fill short A ks c hl hc hb
  by_cases e5 : kd = 5
  · subst e5; exact do_5 h hwm hops at_ n fill short A ks c hl hc hb
  by_cases e6 : kd = 6
  · subst e6; exact do_6 h hwm hops at_ n fill short A ks c hl hc hn hz hb
  exact do_none h hwm hops kd (by omega) at_ n fill short A ks c hl hc hb

/-- The cells of a step. -/
def stepC (kind at_ n : Int) (fill : UInt8) (short : Bool) (kv : Value) : List Value := [.int .i64 kind, .int .i64 at_, .int .i64 n, .int .u8 (fill.toNat : Int), .bool short, kv]
/-- Cells that lie from an address on. -/
def LieAt (w : World) (a : Addr) (cs : List Value) : Prop := ∀ (j : Nat) v, cs[j]? = some v → w.cell? (a.add j) = some v
/-- A step in memory. -/
def StepAt (w : World) (a : Addr) : Prop := ∃ (kind at_ n : Int) (fill : UInt8) (short : Bool) (A : Option Addr) (ks : List Bool) (c : Nat),
  LieAt w a (stepC kind at_ n fill short (.slice A ks.length c)) ∧ ks.length ≤ c ∧ c ≤ maxLen ∧ n ≤ 9223372036854775807 ∧ (A = none → c = 0) ∧ Bools w (fun _ => True) (.slice A ks.length c) ks
/-- A slice of steps. -/
def StepsAt (w : World) (v : Value) (n : Nat) : Prop := ∃ (A : Option Addr) (cap : Nat), v = .slice A n cap ∧ n ≤ cap ∧ cap ≤ maxLen ∧ ∀ i, i < n → ∃ ad, A = some ad ∧ StepAt w (ad.add (i * 6))
theorem LieAt.calm {w w' : World} {a : Addr} {cs : List Value} (h : LieAt w a cs) (hc : Calm w w') : LieAt w' a cs := fun j v hj => (hc.cell (p := a.add j) (World.block_lt_of_cell? _ _ (h j v hj)) (fun e => e)).trans (h j v hj)
theorem infoStep : (Try.prog.info? 34).map (·.size) = some 6 := by kernel_rfl
theorem run_step {w : World} {a : Addr} {kind at_ n : Int} {fill : UInt8} {short : Bool} {kv : Value} (h : LieAt w a (stepC kind at_ n fill short kv)) : (Instr.loadAt 34 (.pointer (some a))).run Try.prog w = .ok (stepV kind at_ n fill short kv) w := by
  have hl : (loadCells a 6).run Try.prog w = .ok (stepC kind at_ n fill short kv).toArray w := run_loadCells_list (P := Try.prog) w a (stepC kind at_ n fill short kv) h
  obtain ⟨i, hi, hs⟩ := Option.map_eq_some_iff.1 infoStep
  have hagg : (isAgg 34).run Try.prog w = .ok true w := by
    unfold isAgg
    rw [Sem.run_bind, run_underlying Try.underlying34 w]
    rfl
  simp only [Instr.loadAt, Instr.sureAddr, Sem.run_bind, Sem.run_pure, Result.andThen_ok]
  simp [loadVar, Sem.run_bind, hagg, sizeOf, typeInfo, hi, hs, hl]
  rfl
/-- What the statement looks at behind a step. -/
theorem Half.look {w0 w : World} {R Q : Nat → Prop} {d r : Nat} {S : DS} (h : Half w0 w R Q d r S S) : w.cell? ⟨d, 3, none⟩ = some (.bool S.down) ∧ w.cell? ⟨d, 4, none⟩ = some (.int .i64 S.ops) ∧ (∃ a c, w.cell? ⟨d, 0, none⟩ = some (.slice a S.secs.length c)) ∧ w.cell? ⟨r, 2, none⟩ = some (.bool S.down) ∧ w.cell? ⟨r, 3, none⟩ = some (.int .i64 S.ops) := by
  obtain ⟨_, _, ⟨sb, c0⟩, c3, c4⟩ := h.st.disk.cells
  obtain ⟨dv, wv, kv, left, kl, hr⟩ := h.rf
  exact ⟨c3, c4, ⟨_, _, c0⟩, by rw [hr.top.cell]; rfl, by rw [hr.top.cell]; rfl⟩
end Go.Proofs.Ytppehlnfoendgaa
