/-
  shown: what must be in any case.
-/
import Derived.Test.YtiipepiabeccpaaLsi4
namespace Go.Proofs.Ytiipepiabeccpaa
open Go.RowKit
set_option linter.all false
attribute [local go_sem] Oper.semAt_some

def kL (s : List UInt8) (h : s.length ≤ maxLen) : siT.ok s := h
/-- What is carried from call to call: the list, where it lies, that nothing of before has turned. -/
def SH (w w' : World) (b : Nat) (L : List (List UInt8 × Int)) : Prop := ∃ R, LruIs siT w' R b 2 L ∧ (∀ i, R i → ¬ i < w.heap.size) ∧ Calm w w'
theorem SH.put {w w1 : World} {b : Nat} {L : List (List UInt8 × Int)} (h : SH w w1 b L) (k : List UInt8) (hk : k.length ≤ maxLen) (v : Int) (o : Option (List UInt8)) (L' : List (List UInt8 × Int)) (e : putL 2 k v L = (o, L')) (ov : Value) (ho : siT.ko o = ov) (ob : Bool) (hb : o.isSome = ob) :
    Calls Try.prog 24 #[.pointer (some ⟨b, 0, none⟩), .string (str k), .int .i64 v] w1 fun e w' => e = .returned (.tuple #[ov, .bool ob]) ∧ SH w w' b L' := by
  obtain ⟨R, h1, h2, h3⟩ := h
  refine (si_Put' h1 k v hk o L' e ov ho ob hb).mono ?_
  rintro e w2 ⟨rfl, ⟨R2, a, g⟩, k2⟩
  exact ⟨rfl, R2, a, fun i hi => (g i hi).elim (h2 i) (fun e => by have := h3.size; omega), h3.then_ k2 (fun i hi hc => h2 i hc hi)⟩

set_option maxRecDepth 20000 in
set_option maxHeartbeats 2000000 in
theorem shown9_c (w : World) : Calls Try.prog 17 #[] w fun e w' => e = .returned (.bool true) ∧ Calm w w' := by
  go_enter Try.func17, Try.ntmps17
  go_wp2_with fail
  refine (si_new 2 2 (by decide) (by decide) (by decide) w).mono ?_
  rintro e w1 ⟨rfl, h1, k1⟩
  have H1 : Hid (SH w w1 (w.heap.size + 1) []) := Lib.hid ⟨_, h1, fun i hi => by omega, k1⟩
  clear h1 k1
  generalize w.heap.size + 1 = b at H1
  go_wp2_with fail
  refine (H1.out.put [97] (by decide) 1 none [([97], 1)] rfl (.string ⟨#[]⟩) rfl false rfl).mono ?_
  rintro e w2 ⟨rfl, h⟩
  have H2 := Lib.hid h
  clear h H1
  go_wp2_with fail
  refine (H2.out.put [98] (by decide) 2 none [([97], 1), ([98], 2)] rfl (.string ⟨#[]⟩) rfl false rfl).mono ?_
  rintro e w3 ⟨rfl, h⟩
  have H3 := Lib.hid h
  clear h H2
  go_wp2_with fail
  obtain ⟨R3, h3, q3, c3⟩ := H3.out
  refine (si_Get' h3 [97] (kL _ (by decide)) (some 1) rfl [([98], 2), ([97], 1)] rfl (.int .i64 1) rfl true rfl).mono ?_
  rintro e w4 ⟨rfl, h4, k4⟩
  have H4 : Hid (SH w w4 b [([98], 2), ([97], 1)]) := Lib.hid ⟨R3, h4, q3, c3.then_ k4 (fun i hi hc => q3 i hc hi)⟩
  clear h3 q3 c3 h4 k4 H3
  go_wp2_with fail
  refine (H4.out.put [99] (by decide) 3 (some [98]) [([97], 1), ([99], 3)] rfl (.string ⟨#[98]⟩) rfl true rfl).mono ?_
  rintro e w5 ⟨rfl, h⟩
  have H5 := Lib.hid h
  clear h H4
  go_wp2_with fail
  obtain ⟨R5, h5, q5, c5⟩ := H5.out
  refine (si_Peek' h5 [98] (kL _ (by decide)) none rfl (.int .i64 0) rfl false rfl).mono ?_
  rintro e w6 ⟨rfl, k6⟩
  have h6 := h5.calm k6
  have H6 := Lib.hid h6
  have C6 : Hid (Calm w w6) := Lib.hid (c5.trans k6)
  have HO := Lib.hid (si_Oldest' h6 (some [97]) rfl (.string ⟨#[97]⟩) rfl true rfl)
  have HL := Lib.hid (si_Len h6)
  clear h5 q5 c5 k6 H5 h6
  go_wp2_with fail
  refine HO.out.mono ?_
  rintro e w7 ⟨rfl, rfl⟩
  go_wp2_with fail
  refine HL.out.mono ?_
  rintro e w7 ⟨rfl, rfl⟩
  go_wp2
  go_ret
  exact ⟨rfl, C6.out⟩
end Go.Proofs.Ytiipepiabeccpaa