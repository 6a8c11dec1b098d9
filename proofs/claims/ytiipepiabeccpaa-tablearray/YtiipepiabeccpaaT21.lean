/-
  Tables, the document's: a number as four bytes.
-/
import Derived.Test.YtiipepiabeccpaaT20
namespace Go.Proofs.Ytiipepiabeccpaa
open Go.RowKit Go.Deep
set_option linter.all false
attribute [local go_sem] Oper.semAt_some

theorem bv_nat (n : Nat) (h : n < 256) : bv (UInt8.ofNat n) = .int .u8 (n : Int) := by
  unfold bv
  rw [UInt8.toNat_ofNat', Nat.mod_eq_of_lt h]
theorem digit (i M : Nat) (hi : i < 65536) (m : Int) (hm : m = (M : Int)) : ∃ n : Nat, (wrap64 ((i : Int) / m)).tmod 256 % 256 = (n : Int) ∧ n < 256 ∧ i / M % 256 = n := by
  subst hm
  rw [← Int.natCast_ediv]
  have h1 : i / M ≤ i := Nat.div_le_self _ _
  generalize i / M = d at *
  have e : wrap64 (d : Int) = (d : Int) := by unfold wrap64; omega
  rw [e, Int.tmod_eq_emod_of_nonneg (by omega)]
  exact ⟨d % 256, by omega, by omega, rfl⟩
set_option maxRecDepth 20000 in
set_option maxHeartbeats 2000000 in
theorem numbered_c (i : Nat) (hi : i < 65536) (w : World) : Calls Try.prog 47 #[.int .i64 (i : Int)] w fun e w' => e = .returned (.string (str (numK i))) ∧ Calm w w' := by
  obtain ⟨n0, t0⟩ : ∃ n : Nat, (i : Int) % 256 = (n : Int) := ⟨i % 256, by omega⟩
  obtain ⟨n1, t1, b1, c1⟩ := digit i 256 hi 256 rfl
  obtain ⟨n2, t2, b2, c2⟩ := digit i 65536 hi 65536 rfl
  obtain ⟨n3, t3, b3, c3⟩ := digit i 16777216 hi 16777216 rfl
  have hcv : Sem.run Try.prog (convert 22 9 (.slice (some ⟨w.heap.size, 0, none⟩) 4 4)) (w.alloc (.cells #[.int .u8 (n0 : Int), .int .u8 (n1 : Int), .int .u8 (n2 : Int), .int .u8 (n3 : Int)] 5)) = .ok (.string (str (numK i))) (w.alloc (.cells #[.int .u8 (n0 : Int), .int .u8 (n1 : Int), .int .u8 (n2 : Int), .int .u8 (n3 : Int)] 5)) := by
    have e0 : i % 256 = n0 := by omega
    have hl : (#[.int .u8 (n0 : Int), .int .u8 (n1 : Int), .int .u8 (n2 : Int), .int .u8 (n3 : Int)] : Array Value).toList = (numK i).map bv := by
      unfold numK
      rw [e0, c1, c2, c3]
      show _ = [bv (UInt8.ofNat n0), bv (UInt8.ofNat n1), bv (UInt8.ofNat n2), bv (UInt8.ofNat n3)]
      rw [bv_nat n0 (by omega), bv_nat n1 b1, bv_nat n2 b2, bv_nat n3 b3]
    exact conv_rd (Rd.made w (numK i) 4 _ rfl hl (by omega))
  have HC : Hid (Calm w (w.alloc (.cells #[.int .u8 (n0 : Int), .int .u8 (n1 : Int), .int .u8 (n2 : Int), .int .u8 (n3 : Int)] 5))) := Lib.hid ((Keep.refl _ w).alloc _)
  clear hi b1 b2 b3 c1 c2 c3
  generalize str (numK i) = F at *
  go_enter Try.func47, Try.ntmps47
  go_wp2
  go_ret
  exact ⟨rfl, HC.out⟩
theorem ok_lru {nm : List UInt8} {kd ky vl mx : Nat} (h : (⟨nm, kd, ky, vl, mx⟩ : MN).Ok) : (⟨nm, 3, ky, vl, mx⟩ : MN).Ok := by
  have hr := h.right
  have hn : nmOk nm = true := by
    simp only [MP.right, MN.mp, Bool.and_eq_true] at hr
    exact hr.1
  have h1 := h.key
  have h2 := h.val
  have h3 := h.max
  simp only at h1 h2 h3
  refine ⟨?_, h.name, .inr (.inr rfl), h1, h2, h3⟩
  simp only [MP.right, MN.mp, hn, Bool.true_and, Bool.and_eq_true, kdOk, wi]
  exact ⟨decide_eq_true (.inr (.inr rfl)), decide_eq_true (by omega), decide_eq_true (by omega), decide_eq_true (by omega)⟩

/-! A table that is filled with numbers -/
def vals (E : List Ent) : List (List UInt8 × List UInt8) := mapv (·.2) E
theorem keys_vals (E : List Ent) : keysL (vals E) = keysL E := keys_mapv _ _
theorem getL_vals (k : List UInt8) (E : List Ent) : getL k (vals E) = (getL k E).map (·.2) := getL_mapv _ _ _
theorem vals_len (E : List Ent) : (vals E).length = E.length := by simp [vals, mapv]
theorem vals_use (kind : Nat) (k : List UInt8) (E : List Ent) : vals (useN kind k E) = if kind = 3 then useL k (vals E) else vals E := by
  unfold useN
  split
  · exact (useL_mapv _ _ _).symm
  · rfl
theorem vals_add (kind mx : Nat) (k : List UInt8) (g : Nat) (bs : List UInt8) (E : List Ent) : vals (addE kind mx k g bs E) = if kind = 3 then (putL mx k bs (vals E)).2 else vals E ++ [(k, bs)] := by
  unfold addE
  split
  · have := putL_mapv (fun x : Nat × List UInt8 => x.2) mx k (g, bs) E
    unfold vals
    exact (congrArg Prod.snd this).symm
  · simp [vals, mapv]
def setV (k bs : List UInt8) (L : List (List UInt8 × List UInt8)) : List (List UInt8 × List UInt8) := L.map (fun x => if x.1 = k then (x.1, bs) else x)
theorem vals_set (k bs : List UInt8) (E : List Ent) : vals (setT k bs E) = setV k bs (vals E) := by
  unfold vals setT setV mapv
  rw [List.map_map, List.map_map]
  exact List.map_congr_left (fun x _ => by simp only [Function.comp]; split <;> rfl)
theorem keys_setV (k bs : List UInt8) (L : List (List UInt8 × List UInt8)) : keysL (setV k bs L) = keysL L := by
  unfold keysL setV
  rw [List.map_map]
  exact List.map_congr_left (fun x _ => by simp only [Function.comp]; split <;> rfl)
end Go.Proofs.Ytiipepiabeccpaa
