/-
  Rows of keys and values, pure: what the laws need.
-/
import Derived.Test.YtiipepiabeccpaaLW
namespace Go.Proofs.Ytiipepiabeccpaa
open Go.RowKit
set_option linter.all false

section
variable {κ ν : Type} [DecidableEq κ]
theorem putL_yes {most : Nat} {k : κ} {v : ν} {L : List (κ × ν)} (h : k ∈ keysL L) : putL most k v L = (none, dropL k L ++ [(k, v)]) := by unfold putL; rw [if_pos h]
theorem putL_room {most : Nat} {k : κ} {v : ν} {L : List (κ × ν)} (h : k ∉ keysL L) (hr : L.length < most) : putL most k v L = (none, L ++ [(k, v)]) := by unfold putL; rw [if_neg h, if_pos hr]
theorem putL_full {most : Nat} {k : κ} {v : ν} {L : List (κ × ν)} (h : k ∉ keysL L) (hr : ¬ L.length < most) : putL most k v L = (L.head?.map (·.1), L.tail ++ [(k, v)]) := by unfold putL; rw [if_neg h, if_neg hr]
theorem getL_some {L : List (κ × ν)} {k : κ} (h : k ∈ keysL L) : ∃ v, getL k L = some v := by
  obtain ⟨y, hy, rfl⟩ := List.mem_map.1 h
  unfold getL
  obtain ⟨z, hz⟩ : ∃ z, L.find? (fun x => decide (x.1 = y.1)) = some z := by
    rw [← Option.isSome_iff_exists, List.find?_isSome]
    exact ⟨y, hy, by simp⟩
  exact ⟨z.2, by rw [hz]; rfl⟩
theorem getL_last {L : List (κ × ν)} {k : κ} {v : ν} (h : (keysL (L ++ [(k, v)])).Nodup) : getL k (L ++ [(k, v)]) = some v := getL_mid (x := (k, v)) (l2 := []) h
theorem dropL_not {L : List (κ × ν)} {k : κ} : k ∉ keysL (dropL k L) := by
  unfold keysL dropL
  intro h
  obtain ⟨y, hy, e⟩ := List.mem_map.1 h
  have := (List.mem_filter.1 hy).2
  simp at this
  exact this e
theorem dropL_len {L : List (κ × ν)} {k : κ} (hn : (keysL L).Nodup) (h : k ∈ keysL L) : (dropL k L).length + 1 = L.length := by
  obtain ⟨l1, x, l2, rfl, rfl⟩ := split_key h
  rw [dropL_mid hn]
  simp
  omega
theorem getL_put {most : Nat} {k : κ} {v : ν} {L : List (κ × ν)} (hn : (keysL (putL most k v L).2).Nodup) : getL k (putL most k v L).2 = some v := by
  unfold putL at hn ⊢
  split
  · rename_i h; rw [if_pos h] at hn; exact getL_last hn
  · rename_i h
    rw [if_neg h] at hn
    split
    · rename_i h2; rw [if_pos h2] at hn; exact getL_last hn
    · rename_i h2; rw [if_neg h2] at hn; exact getL_last hn
end
end Go.Proofs.Ytiipepiabeccpaa
