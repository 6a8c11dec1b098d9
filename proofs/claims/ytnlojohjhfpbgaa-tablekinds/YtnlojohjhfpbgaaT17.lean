/-
  Tables: New as a caller sees it; what must be in any case.
-/
import Derived.Test.YtnlojohjhfpbgaaT16
import Derived.Test.YtnlojohjhfpbgaaLConv
namespace Go.Proofs.Ytnlojohjhfpbgaa
open Go.RowKit Go.Deep
open Go.Maps (Keyed)
set_option linter.all false
attribute [local go_sem] Oper.semAt_some

theorem row_rd {w : World} {g n : Nat} {bs : List UInt8} (h : Row w g 5 (bs.map bv).toArray) (hn : bs.length = n) (hl : n ≤ 100000) : Rd w (.slice (some ⟨g, 0, none⟩) n n) bs := by
  subst hn
  refine .inr ⟨_, _, rfl, Nat.le_refl _, by unfold maxLen; omega, fun i b hi => ?_⟩
  rw [addr_mid, Nat.zero_add, h.cell i]
  simp [hi]
/-- A text of one byte, of two, as []byte. -/
theorem const1 (w : World) (a : UInt8) (va : Value) (ha : va = bv a) : Sem.run Try.prog (convert 22 22 (.slice (some ⟨w.heap.size, 0, none⟩) 1 1)) (w.alloc (.cells #[va] 5)) = .ok (.slice (some ⟨w.heap.size, 0, none⟩) 1 1) (w.alloc (.cells #[va] 5 (1, 2))) ∧ Rd (w.alloc (.cells #[va] 5 (1, 2))) (.slice (some ⟨w.heap.size, 0, none⟩) 1 1) [a] ∧ Calm w (w.alloc (.cells #[va] 5 (1, 2))) := by
  subst ha
  exact ⟨conv_const w #[bv a] 1, Rd.marked w [a] 1 #[bv a] (1, 2) rfl rfl (by omega), (Keep.refl _ w).alloc _⟩
theorem const2 (w : World) (a b : UInt8) (va vb : Value) (ha : va = bv a) (hb : vb = bv b) : Sem.run Try.prog (convert 22 22 (.slice (some ⟨w.heap.size, 0, none⟩) 2 2)) (w.alloc (.cells #[va, vb] 5)) = .ok (.slice (some ⟨w.heap.size, 0, none⟩) 2 2) (w.alloc (.cells #[va, vb] 5 (2, 3))) ∧ Rd (w.alloc (.cells #[va, vb] 5 (2, 3))) (.slice (some ⟨w.heap.size, 0, none⟩) 2 2) [a, b] ∧ Calm w (w.alloc (.cells #[va, vb] 5 (2, 3))) := by
  subst ha; subst hb
  exact ⟨conv_const w #[bv a, bv b] 2, Rd.marked w [a, b] 2 #[bv a, bv b] (2, 3) rfl rfl (by omega), (Keep.refl _ w).alloc _⟩

def q10 : MN := ⟨[109], 3, 1, 2, 2⟩
theorem q10_ok : q10.Ok := ⟨by decide, by decide, by decide, by decide, by decide, by decide⟩
def No : Nat → Prop := fun _ => False
theorem tab_no {w0 w : World} {S : Nat → Prop} {tb : Nat} {q : MN} {E : List Ent} (h : Tab w0 w S tb q E) : Tab w0 w No tb q E := h.less (fun _ e => e.elim)
theorem addT_no {w0 w w' : World} {S : Nat → Prop} {tb : Nat} {q : MN} {E : List Ent} {k v : List UInt8} (h : AddT w0 w S tb q E k v w') : ∃ g, Tab w0 w' No tb q (addE q.kind q.max k g v E) := by
  obtain ⟨g, _, h, _⟩ := h
  exact ⟨g, tab_no h⟩

theorem field4 (a b c d : Value) (n : Int) (w : World) : Sem.run Try.prog (Instr.field 52 (.agg #[a, b, c, d, .int .i64 n]) 4) w = .ok (.int .i64 n) w := by kernel_rfl
set_option maxRecDepth 100000 in
set_option maxHeartbeats 8000000 in
theorem shown10_c (w : World) : Calls Try.prog 25 #[] w fun e w' => e = .returned (.bool true) ∧ Calm w w' := by
  have HN := Lib.hid (tNew_yes q10 q10_ok w)
  go_enter Try.func25, Try.ntmps25
  go_wp2_with fail
  refine HN.out.mono ?_
  rintro e w1 ⟨v, rfl, tb, E, rfl, hE, hT⟩
  have e0 : E = [] := by unfold NewE at hE; rw [if_neg (by decide)] at hE; exact hE
  subst e0
  have HT := Lib.hid (tab_no hT)
  clear HN hE hT
  obtain ⟨x1, r1, k1⟩ := const1 w1 97 (.int .u8 97) rfl
  obtain ⟨x2, r2, k2⟩ := const2 (w1.alloc (.cells #[.int .u8 97] 5 (1, 2))) 49 49 (.int .u8 49) (.int .u8 49) rfl rfl
  have HU := Lib.hid (update_new (HT.out.rest (k1.trans k2)) (r1.calm k2) r2 0 (by simp [BadU, q10]) rfl (by decide) 0 _ (.inr ⟨.inr rfl, rfl, fun w' a => addT_no a⟩))
  simp only [World.size_alloc] at x2 HU
  clear r1 r2 k1 k2 HT
  go_wp2_with fail
  refine HU.out.mono ?_
  rintro e w2 ⟨rfl, g1, hT⟩
  have HT : Hid (Tab w w2 No tb q10 [([97], g1, [49, 49])]) := Lib.hid hT
  clear hT x1 x2 HU
  obtain ⟨x1, r1, k1⟩ := const1 w2 98 (.int .u8 98) rfl
  obtain ⟨x2, r2, k2⟩ := const2 (w2.alloc (.cells #[.int .u8 98] 5 (1, 2))) 50 50 (.int .u8 50) (.int .u8 50) rfl rfl
  have HU := Lib.hid (update_new (HT.out.rest (k1.trans k2)) (r1.calm k2) r2 0 (by simp [BadU, q10]) rfl (by decide) 0 _ (.inr ⟨.inr rfl, rfl, fun w' a => addT_no a⟩))
  simp only [World.size_alloc] at x2 HU
  clear r1 r2 k1 k2 HT
  go_wp2_with fail
  refine HU.out.mono ?_
  rintro e w3 ⟨rfl, g2, hT⟩
  have HT : Hid (Tab w w3 No tb q10 [([97], g1, [49, 49]), ([98], g2, [50, 50])]) := Lib.hid hT
  clear hT x1 x2 HU
  obtain ⟨x1, r1, k1⟩ := const1 w3 97 (.int .u8 97) rfl
  have HU := Lib.hid (lookup_yes (HT.out.rest k1) r1 (g := g1) (bs := [49, 49]) rfl)
  clear r1 k1 HT
  go_wp2_with fail
  refine HU.out.mono ?_
  rintro e w4 ⟨x, rfl, _, rx, tx, _⟩
  have hT : Tab w w4 No tb q10 [([98], g2, [50, 50]), ([97], g1, [49, 49])] := tab_no tx
  obtain ⟨d1, _⟩ := hT.data (x := ([97], g1, [49, 49])) (by simp)
  have c1 : w4.cell? ⟨x, 1, none⟩ = some (.slice (some ⟨g1, 0, none⟩) 2 2) := (rx.cell 1).trans rfl
  have c2 : w4.cell? ⟨g1, 1, none⟩ = some (.int .u8 49) := (d1.cell 1).trans rfl
  have f2 := d1.soft 1
  have hT2 : Tab w (w4.setCell ⟨g1, 1, none⟩ (.int .u8 57)) No tb q10 [([98], g2, [50, 50]), ([97], g1, [49, 57])] :=
    (hT.set (k := [97]) (d := g1) (bs := [49, 49]) (bs' := [49, 57]) (by simp) ((Keep.refl (fun i => i = g1) w4).store (p := ⟨g1, 1, none⟩) (fun _ => rfl) _) (d1.store 1 (.int .u8 57)) rfl).1
  have HT := Lib.hid hT2
  clear hT hT2 d1 rx tx x1 HU
  go_upto_region 10 with fail
  generalize w4.setCell ⟨g1, 1, none⟩ (.int .u8 57) = w5 at *
  clear c1 c2 f2
  obtain ⟨x1, r1, k1⟩ := const1 w5 99 (.int .u8 99) rfl
  obtain ⟨x2, r2, k2⟩ := const2 (w5.alloc (.cells #[.int .u8 99] 5 (1, 2))) 51 51 (.int .u8 51) (.int .u8 51) rfl rfl
  have HU := Lib.hid (update_new (HT.out.rest (k1.trans k2)) (r1.calm k2) r2 0 (by simp [BadU, q10]) rfl (by decide) 0 _ (.inr ⟨.inr rfl, rfl, fun w' a => addT_no a⟩))
  simp only [World.size_alloc] at x2 HU
  clear r1 r2 k1 k2 HT
  go_wp2_with fail
  refine HU.out.mono ?_
  rintro e w6 ⟨rfl, g3, hT⟩
  have HT : Hid (Tab w w6 No tb q10 [([97], g1, [49, 57]), ([99], g3, [51, 51])]) := Lib.hid hT
  clear hT x1 x2 HU
  obtain ⟨x1, r1, k1⟩ := const1 w6 98 (.int .u8 98) rfl
  have HU := Lib.hid (lookup_no (HT.out.rest k1) r1 rfl)
  clear r1 k1 HT
  go_wp2_with fail
  refine HU.out.mono ?_
  rintro e w7 ⟨rfl, hT, _⟩
  have HT := Lib.hid hT
  clear hT x1 HU
  obtain ⟨x1, r1, k1⟩ := const1 w7 97 (.int .u8 97) rfl
  have HU := Lib.hid (lookup_yes (HT.out.rest k1) r1 (g := g1) (bs := [49, 57]) rfl)
  clear r1 k1 HT
  go_wp2_with fail
  refine HU.out.mono ?_
  rintro e w8 ⟨y, rfl, _, ry, ty, _⟩
  have hT : Tab w w8 No tb q10 [([99], g3, [51, 51]), ([97], g1, [49, 57])] := tab_no ty
  obtain ⟨d1, _⟩ := hT.data (x := ([97], g1, [49, 57])) (by simp)
  have c0 : w8.cell? ⟨y, 0, none⟩ = some (.string ⟨#[97]⟩) := (ry.cell 0).trans rfl
  have c1 : w8.cell? ⟨y, 1, none⟩ = some (.slice (some ⟨g1, 0, none⟩) 2 2) := (ry.cell 1).trans rfl
  have cv : Sem.run Try.prog (convert 22 9 (.slice (some ⟨g1, 0, none⟩) 2 2)) w8 = .ok (.string ⟨#[49, 57]⟩) w8 := conv_rd (row_rd d1 rfl (by omega))
  have HL := Lib.hid (len_c hT)
  clear hT d1 ry ty x1 HU
  go_wp2_with fail
  refine HL.out.mono ?_
  rintro e w9 ⟨rfl, hT, _⟩
  have HM : Hid (Calls Try.prog 53 #[.pointer (some ⟨tb, 0, none⟩)] w9 fun e w' => e = .returned (.agg #[.string ⟨#[109]⟩, .int .i64 3, .int .i64 1, .int .i64 2, .int .i64 2]) ∧ _) := Lib.hid (map_c hT)
  clear hT HL c0 c1 cv
  have hf4 := field4
  go_wp2_with fail
  refine HM.out.mono ?_
  rintro e w10 ⟨rfl, hT, _⟩
  have HM2 : Hid (Calls Try.prog 53 #[.pointer (some ⟨tb, 0, none⟩)] w10 fun e w' => e = .returned (.agg #[.string ⟨#[109]⟩, .int .i64 3, .int .i64 1, .int .i64 2, .int .i64 2]) ∧ _) := Lib.hid (map_c hT)
  clear hT HM
  go_wp2_with fail
  refine HM2.out.mono ?_
  rintro e w11 ⟨rfl, hT, _⟩
  have HC := Lib.hid hT.calm_
  have HR : Hid (Calls Try.prog 54 #[.agg #[.string ⟨#[109]⟩, .int .i64 3, .int .i64 1, .int .i64 2, .int .i64 2]] w11 fun e w' => e = .returned (.bool true) ∧ Calm w11 w') := Lib.hid (tRight_c q10.mp (by decide) w11)
  clear hT HM2
  go_wp2_with fail
  refine HR.out.mono ?_
  rintro e w12 ⟨rfl, hc⟩
  have HC2 := Lib.hid (HC.out.trans hc)
  clear hc
  go_wp2
  go_ret
  exact ⟨rfl, HC2.out⟩
end Go.Proofs.Ytnlojohjhfpbgaa
