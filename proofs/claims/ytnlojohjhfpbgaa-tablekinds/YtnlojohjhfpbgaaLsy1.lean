/-
  One instance of the list: its types; leave, stand, close, New.
-/
import Derived.Test.YtnlojohjhfpbgaaLF
namespace Go.Proofs.Ytnlojohjhfpbgaa
open Go.RowKit
open Go.Maps (Keyed)
set_option linter.all false
attribute [local go_sem] Oper.semAt_some

noncomputable def syT : Ty (List UInt8) (Option Addr × Nat × Nat) := { L := 153, E := 151, M := 148, K := 9, pE := 149, zk := .string ⟨#[]⟩, zv := .slice none 0 0, kv := fun k => .string (str k), vv := fun v => .slice v.1 v.2.1 v.2.2, kl := fun k => .string k, ok := fun k => k.length ≤ maxLen }
theorem sy_good : syT.Good := ⟨Go.Maps.string_keyed Try.underlying9, Try.underlying148, fun k hk => Go.WideMaps.keyOf_string_mk Try.underlying9 hk, fun a b _ _ h => by injection h, by decide, fun w => by kernel_rfl⟩

set_option maxHeartbeats 1000000 in
theorem sy_leave (g ab ao bb bo : Nat) (u1 u2 : Value) (w : World) (c2 : w.cell? ⟨g, 2, none⟩ = some (.pointer (some ⟨ab, ao, none⟩))) (c3 : w.cell? ⟨g, 3, none⟩ = some (.pointer (some ⟨bb, bo, none⟩)))
    (e1 : w.cell? ⟨ab, ao + 3, none⟩ = some u1) (f1 : w.frozen? ⟨ab, ao + 3, none⟩ = false) (e2 : w.cell? ⟨bb, bo + 2, none⟩ = some u2) (f2 : w.frozen? ⟨bb, bo + 2, none⟩ = false) (hne : (⟨ab, ao + 3, none⟩ : Addr) ≠ ⟨bb, bo + 2, none⟩) :
    Calls Try.prog 152 #[.pointer (some ⟨g, 0, none⟩)] w fun e w' => e = .returned (.tuple #[]) ∧ ((w.drew.setCell ⟨ab, ao + 3, none⟩ (.pointer (some ⟨bb, bo, none⟩))).setCell ⟨bb, bo + 2, none⟩ (.pointer (some ⟨ab, ao, none⟩))) = w' := by
  go_enter Try.func152, Try.ntmps152
  go_wp2_with fail
  go_region
  go_end0
  exact ⟨rfl, rfl⟩


set_option maxHeartbeats 1000000 in
theorem sy_stand (g b ab ao : Nat) (u1 u2 u3 u4 : Value) (w : World) (c2 : w.cell? ⟨b, 5, none⟩ = some (.pointer (some ⟨ab, ao, none⟩))) (d2 : w.cell? ⟨g, 2, none⟩ = some u1) (d3 : w.cell? ⟨g, 3, none⟩ = some u2)
    (f2 : w.frozen? ⟨g, 2, none⟩ = false) (f3 : w.frozen? ⟨g, 3, none⟩ = false) (f5 : w.frozen? ⟨b, 5, none⟩ = false) (e1 : w.cell? ⟨ab, ao + 3, none⟩ = some u3) (f1 : w.frozen? ⟨ab, ao + 3, none⟩ = false)
    (hb : g ≠ b) (hg : ab ≠ g) (hne : (⟨ab, ao + 3, none⟩ : Addr) ≠ ⟨b, 5, none⟩) :
    Calls Try.prog 151 #[.pointer (some ⟨g, 0, none⟩), .pointer (some ⟨b, 3, none⟩)] w fun e w' => e = .returned (.tuple #[]) ∧
      (((((w.setCell ⟨g, 2, none⟩ (.pointer (some ⟨ab, ao, none⟩))).setCell ⟨g, 3, none⟩ (.pointer (some ⟨b, 3, none⟩))).drew).setCell ⟨ab, ao + 3, none⟩ (.pointer (some ⟨g, 0, none⟩))).setCell ⟨b, 5, none⟩ (.pointer (some ⟨g, 0, none⟩))) = w' := by
  have hb1 : (⟨g, 3, none⟩ : Addr) ≠ ⟨b, 5, none⟩ := fun e => hb (congrArg Addr.block e)
  have hb2 : (⟨g, 2, none⟩ : Addr) ≠ ⟨b, 5, none⟩ := fun e => hb (congrArg Addr.block e)
  have h5 : ∀ v1 v2 v3 : Value, (((w.setCell ⟨g, 2, none⟩ v1).setCell ⟨g, 3, none⟩ v2).setCell ⟨ab, ao + 3, none⟩ v3).cell? ⟨b, 5, none⟩ = some (.pointer (some ⟨ab, ao, none⟩)) := fun v1 v2 v3 => by
    rw [World.cell?_setCell_other (h := hne), World.cell?_setCell_other (h := hb1), World.cell?_setCell_other (h := hb2)]; exact c2
  clear hne hb1 hb2
  go_enter Try.func151, Try.ntmps151
  go_wp2_with fail
  go_region
  go_end0
  exact ⟨rfl, rfl⟩
end Go.Proofs.Ytnlojohjhfpbgaa
