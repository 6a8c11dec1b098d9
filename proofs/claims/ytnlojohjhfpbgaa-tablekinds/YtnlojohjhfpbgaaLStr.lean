/-
  Strings; small facts.
-/
import Derived.Test.YtnlojohjhfpbgaaMem
import Derived.Test.YtnlojohjhfpbgaaProg
import Derived.Laws.IdiomStrings
import Derived.Laws.Closers25
import Derived.Laws.BitsAllLaws
import Derived.Laws.Bits64
import Derived.Deep.DeepCutAuto
import Derived.Deep.CutBlock
namespace Go.Proofs.Ytnlojohjhfpbgaa
open Go.RowKit
set_option linter.all false

/-- Bytes as a string. -/
def str (bs : List UInt8) : ByteArray := ⟨bs.toArray⟩
theorem str_list (bs : List UInt8) : (str bs).data.toList = bs := rfl
theorem str_size (bs : List UInt8) : (str bs).size = bs.length := rfl
theorem str_inj {a b : List UInt8} : str a = str b ↔ a = b := by
  constructor
  · intro h
    have := congrArg (fun x => x.data.toList) h
    simpa [str] using this
  · intro h; rw [h]
theorem str_app (a b : List UInt8) : str a ++ str b = str (a ++ b) := by
  apply ByteArray.ext
  apply Array.toList_inj.1
  simp [str]
theorem str_extract (bs : List UInt8) (i j : Nat) : (str bs).extract i j = str ((bs.take j).drop i) := by
  apply ByteArray.ext
  apply Array.toList_inj.1
  simp [str, List.drop_take]
theorem addr_mid (b o j : Nat) : (⟨b, o, none⟩ : Addr).add j = ⟨b, o + j, none⟩ := by unfold Addr.add; split <;> simp_all
theorem str_none : (str []).toList.isEmpty = true := by rw [← decide_eq_emptyBytes]; exact decide_eq_true rfl
theorem str_some (bs : List UInt8) (h : bs ≠ []) : (str bs).toList.isEmpty = false := by
  rw [← decide_eq_emptyBytes]
  apply decide_eq_false
  intro e
  have := congrArg (fun x : ByteArray => x.data.toList) e
  exact h this
/-- What a cut at n leaves. -/
theorem cut_len (l n : Nat) : ∃ q : Nat, (if (n : Int) < (l : Int) then (n : Int) else (l : Int)) = (q : Int) ∧ q ≤ n ∧ q ≤ l ∧ q = min l n := by
  by_cases h : n < l
  · exact ⟨n, by rw [if_pos (by omega)], Nat.le_refl _, by omega, by omega⟩
  · exact ⟨l, by rw [if_neg (by omega)], by omega, Nat.le_refl _, by omega⟩
theorem cell_of {w : World} {g : Nat} {cs : Array Value} {t : TypeId} {o : Nat × Nat} (h : w.heap[g]? = some (.cells cs t o)) (k : Nat) : w.cell? ⟨g, k, none⟩ = cs[k]? := by
  simp [World.cell?, h]
/-- Two tests that hold together. -/
theorem same_test (x y a b : Nat) (h : x = y ↔ a = b) : ∃ B : Bool, ((x : Int) == (y : Int)) = B ∧ ((a : Int) == (b : Int)) = B := by
  by_cases e : a = b
  · exact ⟨true, by rw [h.2 e]; simp, by rw [e]; simp⟩
  · have e' : ¬ x = y := fun hx => e (h.1 hx)
    exact ⟨false, by rw [beq_eq_false_iff_ne]; omega, by rw [beq_eq_false_iff_ne]; omega⟩
theorem unlike (x y : Nat) (h : x ≠ y) : ((x : Int) == (y : Int)) = false := by rw [beq_eq_false_iff_ne]; omega
end Go.Proofs.Ytnlojohjhfpbgaa
