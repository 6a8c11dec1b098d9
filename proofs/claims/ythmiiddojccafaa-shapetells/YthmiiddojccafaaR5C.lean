/-
  Contracts of the reference of layer 5: shape.
-/
import Derived.Test.YthmiiddojccafaaR5A
import Derived.Test.YthmiiddojccafaaR5B
namespace Go.Proofs.Ythmiiddojccafaa
open Go.RowKit
set_option linter.all false
theorem shape_c (op : Nat) (ho : op < 256) (w : World) : Calls Try.prog 67 #[.int .i64 ((op : Nat) : Int)] w fun e w' => e = .returned (.string (str (shpO op))) ∧ w = w' := by
  rcases seven op with hc | hc | hc | hc | hc | hc | hc | hc
  · by_cases h : op = 24
    · subst h; exact shape_24 w
    · exact shape_0 op ho hc h w
  · by_cases h : op / 32 = 3
    · have : op = 97 ∨ op = 105 ∨ op = 113 ∨ op = 121 := by omega
      rcases this with rfl | rfl | rfl | rfl
      · exact shape_97 w
      · exact shape_105 w
      · exact shape_113 w
      · exact shape_121 w
    · exact shape_1 op ho hc h w
  · by_cases h : op / 32 = 3
    · have : op = 98 ∨ op = 106 ∨ op = 114 ∨ op = 122 := by omega
      rcases this with rfl | rfl | rfl | rfl
      · exact shape_98 w
      · exact shape_106 w
      · exact shape_114 w
      · exact shape_122 w
    · exact shape_2 op ho hc h w
  · by_cases h : op / 32 = 3
    · have : op = 99 ∨ op = 107 ∨ op = 115 ∨ op = 123 := by omega
      rcases this with rfl | rfl | rfl | rfl
      · exact shape_99 w
      · exact shape_107 w
      · exact shape_115 w
      · exact shape_123 w
    · exact shape_3 op ho hc h w
  · by_cases h : op / 16 = 8
    · by_cases hr : op / 8 % 2 = 0
      · exact shape_4a op ho hc h hr w
      · exact shape_4b op ho hc h (by omega) w
    · by_cases h2 : op / 16 ≤ 12
      · by_cases hr : op / 8 % 2 = 0
        · exact shape_4d op ho hc h h2 hr w
        · exact shape_4c op ho hc h h2 (by omega) w
      · exact shape_4e op ho hc (by omega) w
  · by_cases h5 : op = 5
    · subst h5; exact shape_5 w
    by_cases h6 : op = 133
    · subst h6; exact shape_133 w
    by_cases h7 : op = 149
    · subst h7; exact shape_149 w
    by_cases h1 : op / 16 = 0
    · exact shape_5c op ho hc h5 h6 h7 h1 w
    by_cases h2 : 13 < op / 16
    · exact shape_5d op ho hc h5 h6 h7 h2 w
    by_cases h3 : op / 16 = 8
    · exact shape_5e op ho hc h5 h6 h7 h3 w
    by_cases h4 : op / 16 = 9
    · exact shape_5f op ho hc h5 h6 h7 h4 w
    by_cases hr : op / 8 % 2 = 0
    · exact shape_5b op ho hc h5 h6 h7 (by omega) (by omega) h3 h4 hr w
    · exact shape_5a op ho hc h5 h6 h7 (by omega) (by omega) h3 h4 (by omega) w
  · by_cases h5 : op = 5
    · subst h5; omega
    by_cases h6 : op = 133
    · subst h6; omega
    by_cases h7 : op = 149
    · subst h7; omega
    by_cases h1 : op / 16 = 0
    · exact shape_6c op ho hc h5 h6 h7 h1 w
    by_cases h2 : 13 < op / 16
    · exact shape_6d op ho hc h5 h6 h7 h2 w
    by_cases h3 : op / 16 = 8
    · exact shape_6e op ho hc h5 h6 h7 h3 w
    by_cases h4 : op / 16 = 9
    · exact shape_6f op ho hc h5 h6 h7 h4 w
    by_cases hr : op / 8 % 2 = 0
    · exact shape_6b op ho hc h5 h6 h7 (by omega) (by omega) h3 h4 hr w
    · exact shape_6a op ho hc h5 h6 h7 (by omega) (by omega) h3 h4 (by omega) w
  · by_cases h : op / 16 = 8
    · by_cases hr : op / 8 % 2 = 0
      · exact shape_7a op ho hc h hr w
      · exact shape_7b op ho hc h (by omega) w
    · by_cases h2 : op / 16 ≤ 12
      · by_cases hr : op / 8 % 2 = 0
        · exact shape_7d op ho hc h h2 hr w
        · exact shape_7c op ho hc h h2 (by omega) w
      · exact shape_7e op ho hc (by omega) w
end Go.Proofs.Ythmiiddojccafaa
