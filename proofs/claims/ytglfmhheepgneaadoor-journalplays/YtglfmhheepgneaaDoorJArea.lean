/-
  The statements of layer 3: area.
-/
import Derived.Test.YtglfmhheepgneaaDoorLRd
import Derived.Test.YtglfmhheepgneaaDoorLSt
namespace Go.Proofs.YtglfmhheepgneaaDoor
open Go.RowKit
set_option linter.all false

/-- Sectors from a place on, as bytes. -/
def areaB (S : DS) (from_ : Nat) : Nat → List UInt8
  | 0 => []
  | j + 1 => areaB S from_ j ++ S.now (from_ + j)
/-- So many operations more. -/
def DS.more (S : DS) (k : Nat) : DS := { S with ops := S.ops + k }
theorem areaB_more (S : DS) (k f n : Nat) : areaB (S.more k) f n = areaB S f n := by
  induction n with
  | zero => rfl
  | succ n ih => simp only [areaB, ih]; rfl
theorem DS.op_up {S : DS} (h1 : S.down = false) (h2 : S.arm = none) : S.op = (true, S.more 1) := by
  obtain ⟨secs, wait, arm, down, ops⟩ := S
  simp only at h1 h2
  subst h1 h2
  rfl
theorem DS.more_more (S : DS) (a b : Nat) : (S.more a).more b = S.more (a + b) := by simp [DS.more, Nat.add_assoc]
theorem areaB_len (S : DS) (f n : Nat) (h : ∀ i, i < n → (S.now (f + i)).length = 512) : (areaB S f n).length = 512 * n := by
  induction n with
  | zero => rfl
  | succ n ih =>
    simp only [areaB, List.length_append]
    rw [ih (fun i hi => h i (by omega)), h n (by omega)]
    omega

set_option maxHeartbeats 1600000 in
theorem area_c {w0 w : World} {R : Nat → Prop} {d : Nat} {S : DS} (h : St w0 w R d S) (hup : S.down = false) (harm : S.arm = none) (hwm : S.wait.length ≤ 1000000) (hops : S.ops ≤ 999000000) (f n : Nat) (hn : n ≤ 1000) (hfn : f + n ≤ S.secs.length) (hsl : S.secs.length ≤ 4096) :
    Calls Tryd.prog 21 #[.pointer (some ⟨d, 0, none⟩), .int .i64 (f : Int), .int .i64 (n : Int)] w fun e w' => e = .returned (.string (str (areaB S f n))) ∧ St w0 w' R d (S.more n) ∧ Keep R w w' ∧ (areaB S f n).length = 512 * n := by
  have H := Lib.hid h
  have U := Lib.hid (And.intro hup harm)
  have sa := str_app
  have ss := str_size
  have hfn' : (f : Int) + (n : Int) ≤ 4096 := by omega
  clear h hup harm
  go_enter Tryd.func21, Tryd.ntmps21
  go_wp2_with fail
  go_loopw [7, 8] (fun s i wr => ∃ (j : Nat), j ≤ n ∧ i = .int .i64 j ∧ s = .string (str (areaB S f j)) ∧ St w0 wr R d (S.more j) ∧ Keep R w wr ∧ (areaB S f j).length = 512 * j) (fun _ i _ => n - (intOf i).toNat)
  case atStart => exact ⟨0, by omega, rfl, rfl, H.out, Keep.refl _ _, rfl⟩
  case round =>
    obtain ⟨j, hj, rfl, rfl, hst, hk, hal⟩ := hrel
    by_cases hlt : j < n
    · have i0 : (j : Int) < (n : Int) := by omega
      have HS := Lib.hid hst
      have HK := Lib.hid hk
      have hop : (S.more j).op = (true, S.more (j + 1)) := by rw [DS.op_up (S := S.more j) U.out.1 U.out.2, DS.more_more]
      have Hop := Lib.hid hop
      have HA : Hid (areaB S f (j + 1) = areaB S f j ++ S.now (f + j)) := Lib.hid rfl
      obtain ⟨X, hX⟩ : ∃ X, X = areaB S f j := ⟨_, rfl⟩
      rw [← hX] at hal HA ⊢
      clear hst hk hop hX
      have RD := Lib.hid (st_read HS.out (by show S.wait.length ≤ _; exact hwm) (by show S.ops + j ≤ _; omega) Hop.out (f + j) (by show f + j < S.secs.length; omega))
      go_wp2_with fail
      have X := RD.out
      rw [show (((f + j : Nat)) : Int) = (f : Int) + (j : Int) by omega] at X
      refine X.mono ?_
      clear X RD
      rintro e w2 ⟨g, cp, rfl, hd, hs2, k2⟩
      have q := conv_data hd
      have hdl := hd.len
      have S2 := Lib.hid hs2
      have K2 := Lib.hid (HK.out.trans k2)
      have hnow : (S.more (j + 1)).now (f + j) = S.now (f + j) := rfl
      rw [hnow] at q hdl
      generalize S.now (f + j) = Y at q hdl HA
      clear hd hs2 k2 hnow
      go_wp2_with fail
      go_roundw
      case rel => exact ⟨j + 1, by omega, by go_num, by rw [HA.out], S2.out, K2.out, by rw [HA.out, List.length_append, hal, hdl]; omega⟩
      case measure => simp [intOf]; omega
    · obtain rfl : j = n := by omega
      have HS := Lib.hid hst
      have HK := Lib.hid hk
      have HL := Lib.hid hal
      clear hst hk hal
      go_wp2_with fail
      go_ret
      exact ⟨rfl, HS.out, HK.out, HL.out⟩
end Go.Proofs.YtglfmhheepgneaaDoor
