/-
  Strings turned into bytes.
-/
import Derived.Test.YtnlojohjhfpbgaaLRd
import Derived.Lib.ConvBytes
import Derived.Lib.SlBytesConst
namespace Go.Proofs.Ytnlojohjhfpbgaa
open Go.RowKit
set_option linter.all false

theorem bytesWorld_calm (w : World) (e : TypeId) (s : ByteArray) : Calm w (Lib.bytesWorld w e s) := by
  have hz : w.heap.size ≤ (Lib.bytesWorld w e s).heap.size := by rw [Lib.bytesWorld_size]; omega
  have hh : ∀ k, k < w.heap.size → (Lib.bytesWorld w e s).heap[k]? = w.heap[k]? := fun k hk => Lib.bytesWorld_at_old w e s k hk
  refine ⟨?_, ?_, ?_, hz, fun k hk _ => hh k hk⟩ <;> (unfold Lib.bytesWorld World.freeze; split <;> rfl)
/-- []byte(s). -/
theorem conv_bytes (w : World) (bs : List UInt8) (hm : bs.length ≤ maxLen) : ∃ c W, Sem.run Try.prog (convert 9 22 (.string (str bs))) w = .ok (.slice (some ⟨w.heap.size, 0, none⟩) bs.length c) W ∧ Rd W (.slice (some ⟨w.heap.size, 0, none⟩) bs.length c) bs ∧ Calm w W ∧ W.heap.size = w.heap.size + 1 := by
  have h := Lib.run_convert_string_bytes (P := Try.prog) w 9 22 5 (str bs) Try.underlying9 Try.underlying22 Try.underlying5
  rw [str_size] at h
  refine ⟨_, _, h, ?_, bytesWorld_calm _ _ _, Lib.bytesWorld_size _ _ _⟩
  refine .inr ⟨_, _, rfl, grownCap_ge _ _ _ _, grownCap_le_maxLen _ _ _ _ hm, fun i b hi => ?_⟩
  have hl : i < bs.length := (List.getElem?_eq_some_iff.1 hi).1
  rw [addr_mid, Nat.zero_add, Lib.bytesWorld_cell _ _ _ i (by rw [str_size]; exact hl), str_list]
  simp [bv, List.getD, hi]
/-- []byte("..") of a constant. -/
theorem conv_const (w : World) (C : Array Value) (n : Nat) : Sem.run Try.prog (convert 22 22 (.slice (some ⟨w.heap.size, 0, none⟩) n n)) (w.alloc (.cells C 5)) = .ok (.slice (some ⟨w.heap.size, 0, none⟩) n n) (w.alloc (.cells C 5 (C.size, C.size + 1))) :=
  Lib.run_convert_bytes_const (P := Try.prog) w 22 5 C n n Try.underlying22 Try.underlying5
theorem Rd.marked (w : World) (bs : List UInt8) (n : Nat) (cs : Array Value) (fr : Nat × Nat) (hn : bs.length = n) (hcs : cs.toList = bs.map bv) (hl : n ≤ 1000000000) : Rd (w.alloc (.cells cs 5 fr)) (.slice (some ⟨w.heap.size, 0, none⟩) n n) bs := by
  subst hn
  refine .inr ⟨_, _, rfl, Nat.le_refl _, by unfold maxLen; omega, fun i b hi => ?_⟩
  rw [addr_mid, Nat.zero_add]
  have hh : (w.alloc (.cells cs 5 fr)).heap[w.heap.size]? = some (.cells cs 5 fr) := by
    show (w.heap.push _)[w.heap.size]? = _
    simp
  have : cs[i]? = cs.toList[i]? := by simp
  simp only [World.cell?, hh]
  rw [this, hcs, List.getElem?_map, hi]
  rfl
end Go.Proofs.Ytnlojohjhfpbgaa
