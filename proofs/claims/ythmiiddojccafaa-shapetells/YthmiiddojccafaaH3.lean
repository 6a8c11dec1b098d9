/-
  Package shape: firstWrong, Right.
-/
import Derived.Test.YthmiiddojccafaaH2
namespace Go.Proofs.Ythmiiddojccafaa
open Go.RowKit
set_option linter.all false

def wrAt (l : List In) (k : Nat) (x : In) : Nat → Bool
  | 0 => wr1 x
  | 1 => wr2 x
  | 2 => wr3 x
  | 3 => wr4 l k x
  | 4 => wr5 l k x
  | _ => false
def wrongI (l : List In) (k : Nat) (x : In) : Bool := wr1 x || (wr2 x || (wr3 x || (wr4 l k x || wr5 l k x)))
def wrongO (l : List In) (k : Nat) : Bool := match l[k]? with | none => false | some x => wrongI l k x
theorem wrongO_some {l : List In} {k : Nat} {x : In} (h : l[k]? = some x) : wrongO l k = wrongI l k x := by unfold wrongO; rw [h]
theorem wrongI_yes {l : List In} {k : Nat} {x : In} {j : Nat} (h : wrAt l k x j = true) : wrongI l k x = true := by
  unfold wrongI
  match j, h with
  | 0, h => rw [show wr1 x = true from h]; rfl
  | 1, h => rw [show wr2 x = true from h]; simp
  | 2, h => rw [show wr3 x = true from h]; simp
  | 3, h => rw [show wr4 l k x = true from h]; simp
  | 4, h => rw [show wr5 l k x = true from h]; simp
theorem wrongI_no {l : List In} {k : Nat} {x : In} (h : ∀ j, j < 5 → wrAt l k x j = false) : wrongI l k x = false := by
  unfold wrongI
  rw [show wr1 x = false from h 0 (by decide), show wr2 x = false from h 1 (by decide), show wr3 x = false from h 2 (by decide), show wr4 l k x = false from h 3 (by decide), show wr5 l k x = false from h 4 (by decide)]
  rfl
/-- The first place from k on, of so many, at which something is wrong. -/
def firstFrom (l : List In) : Nat → Nat → Option Nat
  | _, 0 => none
  | k, n + 1 => if wrongO l k then some k else firstFrom l (k + 1) n
def firstO (l : List In) : Option Nat := firstFrom l 0 l.length
theorem firstFrom_some {l : List In} : ∀ {n k m : Nat}, firstFrom l k n = some m ↔ k ≤ m ∧ m < k + n ∧ wrongO l m = true ∧ ∀ j, k ≤ j → j < m → wrongO l j = false
  | 0, k, m => by simp [firstFrom]; omega
  | n + 1, k, m => by
    unfold firstFrom
    by_cases hw : wrongO l k = true
    · rw [if_pos hw]
      constructor
      · intro e; injection e with e; subst e; exact ⟨Nat.le_refl _, by omega, hw, fun j h1 h2 => by omega⟩
      · rintro ⟨h1, h2, h3, h4⟩
        rcases Nat.lt_or_ge k m with hlt | hge
        · rw [h4 k (Nat.le_refl _) hlt] at hw; cases hw
        · rw [Nat.le_antisymm h1 hge]
    · rw [if_neg hw, firstFrom_some]
      constructor
      · rintro ⟨h1, h2, h3, h4⟩
        refine ⟨by omega, by omega, h3, fun j g1 g2 => ?_⟩
        rcases Nat.lt_or_ge k j with hlt | hge
        · exact h4 j hlt g2
        · rw [← Nat.le_antisymm g1 hge]; simpa using hw
      · rintro ⟨h1, h2, h3, h4⟩
        have hne : k ≠ m := fun e => by subst e; exact hw h3
        exact ⟨by omega, by omega, h3, fun j g1 g2 => h4 j (by omega) g2⟩
theorem firstFrom_none {l : List In} : ∀ {n k : Nat}, firstFrom l k n = none ↔ ∀ j, k ≤ j → j < k + n → wrongO l j = false
  | 0, k => by simp [firstFrom]; omega
  | n + 1, k => by
    unfold firstFrom
    by_cases hw : wrongO l k = true
    · rw [if_pos hw]
      constructor
      · intro e; cases e
      · intro h; rw [h k (Nat.le_refl _) (by omega)] at hw; cases hw
    · rw [if_neg hw, firstFrom_none]
      constructor
      · intro h j g1 g2
        rcases Nat.lt_or_ge k j with hlt | hge
        · exact h j hlt (by omega)
        · rw [← Nat.le_antisymm g1 hge]; simpa using hw
      · intro h j g1 g2; exact h j (by omega) (by omega)
theorem firstO_some {l : List In} {m : Nat} : firstO l = some m ↔ m < l.length ∧ wrongO l m = true ∧ ∀ j, j < m → wrongO l j = false := by
  unfold firstO
  rw [firstFrom_some]
  constructor
  · rintro ⟨_, h2, h3, h4⟩; exact ⟨by omega, h3, fun j hj => h4 j (Nat.zero_le _) hj⟩
  · rintro ⟨h2, h3, h4⟩; exact ⟨Nat.zero_le _, by omega, h3, fun j _ hj => h4 j hj⟩
theorem firstO_none {l : List In} : firstO l = none ↔ ∀ j, j < l.length → wrongO l j = false := by
  unfold firstO
  rw [firstFrom_none]
  constructor
  · intro h j hj; exact h j (Nat.zero_le _) (by omega)
  · intro h j _ hj; exact h j (by omega)
def firstP (l : List In) : Nat := match firstO l with | none => 0 | some k => k
def firstE (l : List In) : Nat := match firstO l with | none => 0 | some _ => 7

set_option maxHeartbeats 6400000 in
theorem firstWrong_c {w : World} {v : Value} {l : List In} (h : Ins w v l) (hl : l.length ≤ 512) (hw : ∀ i ∈ l, i.Wf) {g f : Nat} (hg : w.cell? ⟨g, 0, none⟩ = some v)
    (c0 : w.cell? ⟨f, 0, none⟩ = some (.func (.func 24) #[] #[.pointer (some ⟨g, 0, none⟩)])) (c1 : w.cell? ⟨f, 1, none⟩ = some (.func (.func 25) #[] #[.pointer (some ⟨g, 0, none⟩)])) (c2 : w.cell? ⟨f, 2, none⟩ = some (.func (.func 27) #[] #[.pointer (some ⟨g, 0, none⟩)])) (c3 : w.cell? ⟨f, 3, none⟩ = some (.func (.func 29) #[] #[.pointer (some ⟨g, 0, none⟩)])) (c4 : w.cell? ⟨f, 4, none⟩ = some (.func (.func 32) #[] #[.pointer (some ⟨g, 0, none⟩)])) : Calls Try.prog 23 #[.int .i64 (l.length : Int), .slice (some ⟨f, 0, none⟩) 5 5] w fun x w' => x = .returned (.tuple #[.int .i64 (firstP l : Int), .int .i64 (firstE l : Int)]) ∧ Calm w w' := by
  have HI := Lib.hid h
  have HW := Lib.hid hw
  have HG := Lib.hid hg
  have HF := Lib.hid (And.intro c0 (And.intro c1 (And.intro c2 (And.intro c3 c4))))
  have HL := Lib.hid hl
  obtain ⟨n, hn⟩ : ∃ n, n = l.length := ⟨_, rfl⟩
  have HN := Lib.hid hn
  rw [← hn] at hl ⊢
  have i9 : (n : Int) ≤ 512 := by omega
  clear h hw hg c0 c1 c2 c3 c4 hn hl
  go_enter Try.func23, Try.ntmps23
  go_wp2_with fail
  go_loopw [10] (fun i wr => ∃ k : Nat, k ≤ n ∧ i = .int .i64 k ∧ Calm w wr ∧ ∀ j, j < k → wrongO l j = false) (fun i _ => n - (intOf i).toNat)
  case atStart => exact ⟨0, by omega, rfl, Keep.refl _ w, fun j hj => by omega⟩
  case round =>
    obtain ⟨k, hk, rfl, hcal, hno⟩ := hrel
    have HC := Lib.hid hcal
    have HO := Lib.hid hno
    clear hcal hno
    by_cases hlt : k < n
    · have i1 : (k : Int) < (n : Int) := by omega
      obtain ⟨x, hx⟩ : ∃ x, l[k]? = some x := ⟨l[k]'(by rw [← HN.out]; exact hlt), List.getElem?_eq_getElem _⟩
      have HX := Lib.hid hx
      have HXW := Lib.hid (HW.out x (List.mem_of_getElem? hx))
      clear hx
      go_wp2_with fail
      go_loopw [15] (fun i wr' => ∃ j : Nat, j ≤ 5 ∧ i = .int .i64 j ∧ Calm w wr' ∧ ∀ m, m < j → wrAt l k x m = false) (fun i _ => 5 - (intOf i).toNat)
      case atStart => exact ⟨0, by omega, rfl, HC.out, fun m hm => by omega⟩
      case round =>
        obtain ⟨j, hj, rfl, hcal2, hno2⟩ := hrel
        have HC2 := Lib.hid hcal2
        have HO2 := Lib.hid hno2
        clear hcal2 hno2
        have cg := Lib.hid ((HC2.out.cell (World.block_lt_of_cell? _ _ HG.out) (fun e => e)).trans HG.out)
        by_cases hj5 : j < 5
        · have hjj : j = 0 ∨ j = 1 ∨ j = 2 ∨ j = 3 ∨ j = 4 := by omega
          rcases hjj with rfl | rfl | rfl | rfl | rfl
          · have cf := (HC2.out.cell (World.block_lt_of_cell? _ _ HF.out.1) (fun e => e)).trans HF.out.1
            have CC := Lib.hid (clo1_c (HI.out.calm HC2.out) HL.out HX.out HXW.out cg.out)
            have HE : Hid (wrAt l k x 0 = wr1 x) := Lib.hid rfl
            generalize wr1 x = B at CC HE
            go_wp2_with fail
            refine CC.out.mono ?_
            rintro e' w2 ⟨rfl, hc2⟩
            have HC3 := Lib.hid (HC2.out.trans hc2)
            clear hc2 cf CC
            cases B
            · go_wp2_with fail
              go_roundw
              case rel => exact ⟨1, by omega, by go_num, HC3.out, fun m hm => by
                  rcases Nat.lt_or_ge m 0 with hlt | hge
                  · exact HO2.out m hlt
                  · obtain rfl : m = 0 := by omega
                    exact HE.out⟩
              case measure => simp [intOf]
            · have hz : firstO l = some k := firstO_some.2 ⟨by rw [← HN.out]; exact hlt, by rw [wrongO_some HX.out]; exact wrongI_yes HE.out, HO.out⟩
              have HP : Hid (firstP l = k ∧ firstE l = 7) := Lib.hid (by unfold firstP firstE; rw [hz]; exact ⟨rfl, rfl⟩)
              clear hz
              go_wp2_with fail
              go_ret2
              exact ⟨by rw [HP.out.1, HP.out.2]; rfl, HC3.out⟩
          · have cf := (HC2.out.cell (World.block_lt_of_cell? _ _ HF.out.2.1) (fun e => e)).trans HF.out.2.1
            have CC := Lib.hid (clo2_c (HI.out.calm HC2.out) HL.out HX.out HXW.out cg.out)
            have HE : Hid (wrAt l k x 1 = wr2 x) := Lib.hid rfl
            generalize wr2 x = B at CC HE
            go_wp2_with fail
            refine CC.out.mono ?_
            rintro e' w2 ⟨rfl, hc2⟩
            have HC3 := Lib.hid (HC2.out.trans hc2)
            clear hc2 cf CC
            cases B
            · go_wp2_with fail
              go_roundw
              case rel => exact ⟨2, by omega, by go_num, HC3.out, fun m hm => by
                  rcases Nat.lt_or_ge m 1 with hlt | hge
                  · exact HO2.out m hlt
                  · obtain rfl : m = 1 := by omega
                    exact HE.out⟩
              case measure => simp [intOf]
            · have hz : firstO l = some k := firstO_some.2 ⟨by rw [← HN.out]; exact hlt, by rw [wrongO_some HX.out]; exact wrongI_yes HE.out, HO.out⟩
              have HP : Hid (firstP l = k ∧ firstE l = 7) := Lib.hid (by unfold firstP firstE; rw [hz]; exact ⟨rfl, rfl⟩)
              clear hz
              go_wp2_with fail
              go_ret2
              exact ⟨by rw [HP.out.1, HP.out.2]; rfl, HC3.out⟩
          · have cf := (HC2.out.cell (World.block_lt_of_cell? _ _ HF.out.2.2.1) (fun e => e)).trans HF.out.2.2.1
            have CC := Lib.hid (clo3_c (HI.out.calm HC2.out) HL.out HX.out HXW.out cg.out)
            have HE : Hid (wrAt l k x 2 = wr3 x) := Lib.hid rfl
            generalize wr3 x = B at CC HE
            go_wp2_with fail
            refine CC.out.mono ?_
            rintro e' w2 ⟨rfl, hc2⟩
            have HC3 := Lib.hid (HC2.out.trans hc2)
            clear hc2 cf CC
            cases B
            · go_wp2_with fail
              go_roundw
              case rel => exact ⟨3, by omega, by go_num, HC3.out, fun m hm => by
                  rcases Nat.lt_or_ge m 2 with hlt | hge
                  · exact HO2.out m hlt
                  · obtain rfl : m = 2 := by omega
                    exact HE.out⟩
              case measure => simp [intOf]
            · have hz : firstO l = some k := firstO_some.2 ⟨by rw [← HN.out]; exact hlt, by rw [wrongO_some HX.out]; exact wrongI_yes HE.out, HO.out⟩
              have HP : Hid (firstP l = k ∧ firstE l = 7) := Lib.hid (by unfold firstP firstE; rw [hz]; exact ⟨rfl, rfl⟩)
              clear hz
              go_wp2_with fail
              go_ret2
              exact ⟨by rw [HP.out.1, HP.out.2]; rfl, HC3.out⟩
          · have cf := (HC2.out.cell (World.block_lt_of_cell? _ _ HF.out.2.2.2.1) (fun e => e)).trans HF.out.2.2.2.1
            have CC := Lib.hid (clo4_c (HI.out.calm HC2.out) HL.out HX.out HXW.out cg.out)
            have HE : Hid (wrAt l k x 3 = wr4 l k x) := Lib.hid rfl
            generalize wr4 l k x = B at CC HE
            go_wp2_with fail
            refine CC.out.mono ?_
            rintro e' w2 ⟨rfl, hc2⟩
            have HC3 := Lib.hid (HC2.out.trans hc2)
            clear hc2 cf CC
            cases B
            · go_wp2_with fail
              go_roundw
              case rel => exact ⟨4, by omega, by go_num, HC3.out, fun m hm => by
                  rcases Nat.lt_or_ge m 3 with hlt | hge
                  · exact HO2.out m hlt
                  · obtain rfl : m = 3 := by omega
                    exact HE.out⟩
              case measure => simp [intOf]
            · have hz : firstO l = some k := firstO_some.2 ⟨by rw [← HN.out]; exact hlt, by rw [wrongO_some HX.out]; exact wrongI_yes HE.out, HO.out⟩
              have HP : Hid (firstP l = k ∧ firstE l = 7) := Lib.hid (by unfold firstP firstE; rw [hz]; exact ⟨rfl, rfl⟩)
              clear hz
              go_wp2_with fail
              go_ret2
              exact ⟨by rw [HP.out.1, HP.out.2]; rfl, HC3.out⟩
          · have cf := (HC2.out.cell (World.block_lt_of_cell? _ _ HF.out.2.2.2.2) (fun e => e)).trans HF.out.2.2.2.2
            have CC := Lib.hid (clo5_c (HI.out.calm HC2.out) HL.out HX.out HXW.out cg.out)
            have HE : Hid (wrAt l k x 4 = wr5 l k x) := Lib.hid rfl
            generalize wr5 l k x = B at CC HE
            go_wp2_with fail
            refine CC.out.mono ?_
            rintro e' w2 ⟨rfl, hc2⟩
            have HC3 := Lib.hid (HC2.out.trans hc2)
            clear hc2 cf CC
            cases B
            · go_wp2_with fail
              go_roundw
              case rel => exact ⟨5, by omega, by go_num, HC3.out, fun m hm => by
                  rcases Nat.lt_or_ge m 4 with hlt | hge
                  · exact HO2.out m hlt
                  · obtain rfl : m = 4 := by omega
                    exact HE.out⟩
              case measure => simp [intOf]
            · have hz : firstO l = some k := firstO_some.2 ⟨by rw [← HN.out]; exact hlt, by rw [wrongO_some HX.out]; exact wrongI_yes HE.out, HO.out⟩
              have HP : Hid (firstP l = k ∧ firstE l = 7) := Lib.hid (by unfold firstP firstE; rw [hz]; exact ⟨rfl, rfl⟩)
              clear hz
              go_wp2_with fail
              go_ret2
              exact ⟨by rw [HP.out.1, HP.out.2]; rfl, HC3.out⟩
        · obtain rfl : j = 5 := by omega
          have HA : Hid (∀ j, j < k + 1 → wrongO l j = false) := Lib.hid (fun j hj => by
            rcases Nat.lt_or_ge j k with hlt | hge
            · exact HO.out j hlt
            · obtain rfl : j = k := by omega
              rw [wrongO_some HX.out]
              exact wrongI_no (fun m hm => HO2.out m hm))
          go_wp2_with fail
          go_roundw
          case rel => exact ⟨k + 1, by omega, by go_num, HC2.out, HA.out⟩
          case measure => simp [intOf]; omega
    · obtain rfl : k = n := by omega
      have hz : firstO l = none := firstO_none.2 (fun j hj => HO.out j (by rw [HN.out]; exact hj))
      have HP : Hid (firstP l = 0 ∧ firstE l = 0) := Lib.hid (by unfold firstP firstE; rw [hz]; exact ⟨rfl, rfl⟩)
      clear hz
      go_wp2_with fail
      go_ret2
      exact ⟨by rw [HP.out.1, HP.out.2]; rfl, HC.out⟩
/-- What Right tells. -/
def rightP (l : List In) : Nat := if encO l = true then firstP l else 0
def rightE (l : List In) : Nat := if encO l = true then firstE l else 1
def shapeO (l : List In) : Bool := encO l && (firstO l).isNone
end Go.Proofs.Ythmiiddojccafaa
