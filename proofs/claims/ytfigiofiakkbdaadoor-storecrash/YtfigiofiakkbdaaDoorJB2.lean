/-
  Package journal: cut, an iterator over the sectors of a row of bytes.
-/
import Derived.Test.YtfigiofiakkbdaaDoorJB1
import Derived.Test.YtfigiofiakkbdaaDoorDisk5
namespace Go.Proofs.YtfigiofiakkbdaaDoor
open Go.RowKit Go.Shelf
set_option linter.all false
attribute [local go_sem] Oper.semAt_some

/-- What comes out of the iterator: the sector's place, its bytes. m: how many. -/
def cutEnc (f g o m cap : Nat) (i : Nat) : Array Value := #[.int .i64 ((f + i % m : Nat) : Int), .slice (some ⟨g, o + 512 * (i % m), none⟩) 512 (cap - 512 * (i % m))]
theorem cutEnc_at (f g o m cap i : Nat) (h : i < m) : cutEnc f g o m cap i = #[.int .i64 ((f + i : Nat) : Int), .slice (some ⟨g, o + 512 * i, none⟩) 512 (cap - 512 * i)] := by
  unfold cutEnc; rw [Nat.mod_eq_of_lt h]

/-- What a round keeps: the two boxes of the iterator. -/
def KeepTwo (B1 B2 : Nat) (W W' : World) : Prop := W'.heap[B1]? = W.heap[B1]? ∧ W'.heap[B2]? = W.heap[B2]?

set_option maxRecDepth 100000 in
set_option maxHeartbeats 2000000 in
theorem cut1_in (n : Nat) (hn : 1 ≤ n) (l Ba Bb f g o m cap : Nat) (hm : m ≤ 100000) (hf : f ≤ 1000000) (hcap : 512 * m ≤ cap) (hcm : cap ≤ 1000000000) (J Jx : List Nat → World → Prop)
    (hY : ∀ pre x W, J pre W → pre.length < m → YieldAt Fence.wide (n - 1) Tryd.prog l (cutEnc f g o m cap x) W fun e W' =>
      (e = .returned (.bool true) ∧ J (pre ++ [x]) W' ∧ KeepTwo Ba Bb W W') ∨ (e = .returned (.bool false) ∧ Jx (pre ++ [x]) W'))
    (hJd : ∀ pre W, J pre W → J pre W.drew) (W : World)
    (hBa : W.cell? ⟨Ba, 0, none⟩ = some (.int .i64 (f : Int))) (hBb : W.cell? ⟨Bb, 0, none⟩ = some (.slice (some ⟨g, o, none⟩) (512 * m) cap)) (h0 : J [] W) :
    CallsIn Fence.wide n Tryd.prog 86 #[.func (.yield l) #[] #[], .pointer (some ⟨Bb, 0, none⟩), .pointer (some ⟨Ba, 0, none⟩)] W fun e W' => (∃ v, e = .returned v) ∧
      ((∃ ys, ys = List.range m ∧ J ys W') ∨ (∃ pre, (∃ k, k ≤ m ∧ pre = List.range k) ∧ Jx pre W')) := by
  refine callsIn_of_wp Tryd.func86 rfl trivial ?_ rfl
  simp only [Tryd.ntmps86, List.size_toArray, List.length_cons, List.length_nil, Nat.reduceAdd, Nat.reduceSub, Array.replicate_succ, Array.replicate_zero, List.push_toArray, List.append_toArray, List.nil_append, List.cons_append]
  have HY := Lib.hid hY
  have HJd := Lib.hid hJd
  clear hY hJd
  gi_wp2
  gi_loopw [4] (fun i wr => ∃ k : Nat, k ≤ m ∧ i = .int .i64 ((512 * k : Nat) : Int) ∧ J (List.range k) wr ∧ wr.cell? ⟨Ba, 0, none⟩ = some (.int .i64 (f : Int)) ∧ wr.cell? ⟨Bb, 0, none⟩ = some (.slice (some ⟨g, o, none⟩) (512 * m) cap))
    (fun i _ => 512 * m - (intOf i).toNat)
  case atStart => exact ⟨0, Nat.zero_le _, by simp, h0, hBa, hBb⟩
  case round =>
    obtain ⟨k, hk, rfl, hJs, b1, b2⟩ := hrel
    by_cases hlt : k < m
    · obtain ⟨fn, tmps, assign, body, hy, hR⟩ := HY.out _ k wr.drew (HJd.out _ _ hJs) (by simp; exact hlt)
      rw [cutEnc_at _ _ _ _ _ _ hlt] at hy
      obtain ⟨u, hu⟩ : ∃ u, u = 512 * k := ⟨_, rfl⟩
      rw [← hu, show ((f + k : Nat) : Int) = (f : Int) + (k : Int) by omega] at hy
      rw [← hu]
      have hq : (u : Int) / 512 = (k : Int) := by omega
      have i0 : (u : Int) < ((512 * m : Nat) : Int) := by omega
      have i1 : (u : Int) + 512 ≤ ((512 * m : Nat) : Int) := by omega
      have i2 : (f : Int) ≤ 1000000 := by omega
      have HR := Lib.hid hR
      clear hR
      have i3 : (u : Int) < (cap : Int) := by omega
      have hR' := fun hh => (HR.out).mono (R' := fun e W' => ∃ b, e = .returned (.bool b) ∧ ((b = true ∧ J (List.range k ++ [k]) W' ∧ KeepTwo Ba Bb wr.drew W') ∨ (b = false ∧ Jx (List.range k ++ [k]) W'))) hh
      have HR' := Lib.hid (hR' (by
        rintro e W3 (⟨rfl, a, b⟩ | ⟨rfl, a⟩)
        · exact ⟨true, rfl, .inl ⟨rfl, a, b⟩⟩
        · exact ⟨false, rfl, .inr ⟨rfl, a⟩⟩))
      clear hR' HR
      have hmix : Tryd.prog.follows .mixedOrders = true := by kernel_rfl
      have c1 : (u : Int) + 512 ≤ (cap : Int) := by omega
      have c2 : (u : Int) ≤ (u : Int) + 512 := by omega
      have c3 : (0 : Int) ≤ (u : Int) + 512 := by omega
      have w1 : IntKind.i64.wrap ((u : Int) + 512) = (u : Int) + 512 := by rw [IntKind.wrap_i64]; omega
      have w2 : IntKind.i64.wrap ((f : Int) + (k : Int)) = (f : Int) + (k : Int) := by rw [IntKind.wrap_i64]; omega
      have w4 : IntKind.i64.wrap (k : Int) = (k : Int) := by rw [IntKind.wrap_i64]; omega
      have w3 : Int.tdiv (u : Int) 512 = (k : Int) := by rw [Int.tdiv_eq_ediv_of_nonneg (by omega)]; exact hq
      have c4 : ¬ cap = u := by omega
      have c5 : ((u : Int) + 512).toNat = u + 512 := by omega
      have Hu := Lib.hid hu
      clear hu
      gi_wp2
      gi_region_with (refine HR'.out.mono ?_; rintro e W3 ⟨b, rfl, hpost⟩)
      all_goals
        rcases hpost with ⟨rfl, hJ3, hk3⟩ | ⟨rfl, hJx3⟩
        · have e1 : W3.cell? ⟨Ba, 0, none⟩ = some (.int .i64 (f : Int)) := (World.cell?_of_block (w := wr.drew) hk3.1).trans b1
          have e2 : W3.cell? ⟨Bb, 0, none⟩ = some (.slice (some ⟨g, o, none⟩) (512 * m) cap) := (World.cell?_of_block (w := wr.drew) hk3.2).trans b2
          have HJ3 := Lib.hid hJ3
          clear hJ3 hk3 HR'
          gi_wp2
          go_roundw
          case rel => exact ⟨k + 1, by omega, by have := Hu.out; go_num, by rw [List.range_succ]; exact HJ3.out, e1, e2⟩
          case measure => simp [intOf]; omega
        · have HJx := Lib.hid hJx3
          clear hJx3 HR'
          gi_wp2
          refine bodyPost_ret (results_none rfl _ _ _) rfl ?_
          exact ⟨⟨_, rfl⟩, .inr ⟨_, ⟨k + 1, by omega, by rw [List.range_succ]⟩, HJx.out⟩⟩
    · obtain rfl : k = m := by omega
      have t : ¬ ((512 * k : Nat) : Int) < ((512 * k : Nat) : Int) := by omega
      gi_wp2
      go_end0
      exact ⟨⟨_, rfl⟩, .inl hJs⟩
end Go.Proofs.YtfigiofiakkbdaaDoor
