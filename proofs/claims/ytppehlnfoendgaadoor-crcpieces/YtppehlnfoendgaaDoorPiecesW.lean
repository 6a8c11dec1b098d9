/-
  The walk of CrcPieces.
-/
import Derived.Test.YtppehlnfoendgaaDoorOwnW
namespace Go.Proofs.YtppehlnfoendgaaDoor
open Go.RowKit
set_option linter.all false

/-- A slice of slices of bytes that reads as n lists. -/
def Rows8 (w : World) (v : Value) (n : Nat) (f : Nat → List UInt8) : Prop :=
  ∃ (A : Option Addr) (cap : Nat), v = .slice A n cap ∧ n ≤ cap ∧ cap ≤ maxLen ∧ ∀ i, i < n → ∃ ad u, A = some ad ∧ w.cell? (ad.add i) = some u ∧ Rd w u (f i)
theorem more_app (a b : List UInt8) : more (more 0 a) b = more 0 (a ++ b) := by
  have := eat_lt (ones - 0) a (by decide)
  unfold more
  rw [eat_app]
  congr 2
  unfold ones at *
  omega

set_option maxHeartbeats 1600000 in
theorem crcPieces_c (v : Value) (n : Nat) (f : Nat → List UInt8) (w : World) (hT : Tab w) (hv : Rows8 w v n f) :
    Calls Tryd.prog 4 #[v] w fun e w' => e = .returned (.bool true) ∧ Calm w w' := by
  obtain ⟨A, cap, rfl, hcap, hmax, hel⟩ := hv
  unfold maxLen at hmax
  have HT := Lib.hid hT
  have HE := Lib.hid hel
  clear hT hel
  go_enter Tryd.func4, Tryd.ntmps4
  go_wp2_with fail
  refine (shown_c w HT.out).mono ?_
  rintro e w1 ⟨rfl, hc1⟩
  have C1 := Lib.hid hc1
  clear hc1
  go_wp2_with fail
  refine (sum_c _ [] _ (HT.out.calm C1.out) (Bytes.nil_ _) (by decide)).mono ?_
  rintro e w2 ⟨rfl, rfl⟩
  go_wp2_with fail
  go_loopw [4, 5, 6] (fun s a i wr => ∃ (j g c : Nat) (acc : List UInt8), j ≤ 30 ∧ j ≤ n ∧ i = .int .i64 j ∧ s = .int .u32 ((more 0 acc : Nat) : Int) ∧ a = .slice (some ⟨g, 0, none⟩) acc.length c ∧ Calm w1 wr ∧ Own wr w1.heap.size (.slice (some ⟨g, 0, none⟩) acc.length c) acc ∧ acc.length ≤ 200 * j) (fun _ _ i _ => 30 - (intOf i).toNat)
  case atStart => exact ⟨0, w1.heap.size, 0, [], by omega, by omega, rfl, rfl, rfl, (Keep.refl _ w1).alloc _, Own.made w1, by simp⟩
  case round =>
    obtain ⟨j, g, c, acc, hj, hjn, rfl, rfl, rfl, hcw, how, hlen⟩ := hrel
    by_cases hlt : j < n ∧ j < 30
    · obtain ⟨ad, u, rfl, hcell, hrd⟩ := HE.out j hlt.1
      have hcell' := (C1.out.trans hcw).cell (p := ad.add j) (World.block_lt_of_cell? _ _ hcell) (fun e => e)
      rw [hcell] at hcell'
      have hrd' := hrd.calm (C1.out.trans hcw)
      obtain ⟨A', c', rfl, hcap', hmax'⟩ := hrd.form
      unfold maxLen at hmax'
      obtain ⟨q, hq0, hq1, hq2, -⟩ := cut_len (f j).length 200
      have hq : (if 200 < ((f j).length : Int) then 200 else ((f j).length : Int)) = (q : Int) := hq0
      have hrq := Rd.cut hrd' q hq2
      have hlq : ((f j).take q).length = q := by rw [List.length_take]; omega
      generalize (f j).take q = ps at hrq hlq
      generalize (f j).length = fl at hcell' hq hq2 hcap'
      have HC := Lib.hid hcw
      have HO := Lib.hid how
      have HR := Lib.hid hrq
      have HL := Lib.hid hlq
      have i0 : (j : Int) < (n : Int) := by omega
      have i1 : (j : Int) < 30 := by omega
      clear hcw how hrq hlq hcell hrd hrd' hq0
      go_wp2_with fail
      go_region
      go_wp2_with fail
      have HT' : Hid (Tab wr.drew) := Lib.hid ((HT.out.calm C1.out).calm HC.out.drew)
      have HR' : Hid (Rd wr.drew (.slice A' q c') ps) := Lib.hid HR.out
      have HO' : Hid (Own wr.drew w1.heap.size (.slice (some ⟨g, 0, none⟩) acc.length c) acc) := Lib.hid HO.out
      have HC' : Hid (Calm w1 wr.drew) := Lib.hid HC.out.drew
      generalize wr.drew = wd at *
      refine (more_c _ (more_lt 0 acc) _ ps _ HT'.out HR'.out.bytes HR'.out.len).mono ?_
      rintro e w4 ⟨rfl, rfl⟩
      rw [more_app]
      have hb : Hid (w1.heap.size ≤ g) := Lib.hid (by obtain ⟨_, _, h, _⟩ := HO'.out.form; exact h)
      go_wp2_with (at_builtin; go_loud (refine append_own rfl (.tmp 35) (.tmp 36) rfl w1.heap.size g acc.length c acc rfl HO'.out _ ps rfl HR'.out (by have := HL.out; omega) HC'.out.size ?_); rintro g' c2 w5 ho hg; rw [show acc.length + ps.length = (acc ++ ps).length by simp] at ho ⊢; have HO5 := Lib.hid ho; have HG5 := Lib.hid hg; clear ho hg)
      go_roundw
      case rel => exact ⟨j + 1, g', c2, acc ++ ps, by omega, by omega, by go_num, rfl, by rw [List.length_append], HC'.out.grown HG5.out (fun k e hk => by injection e with e; have := hb.out; omega), HO5.out, by have := HL.out; simp; omega⟩
      case measure => simp [intOf]; omega
    · have HC := Lib.hid hcw
      have HR := Lib.hid (how.rd ⟨_, _, _, rfl⟩)
      have T8 : Hid (Tab wr) := Lib.hid ((HT.out.calm C1.out).calm hcw)
      clear hcw how
      by_cases hjn' : j < n
      · have i0 : (j : Int) < (n : Int) := by omega
        obtain rfl : j = 30 := by omega
        clear hlt
        go_wp2_with fail
        refine (sum_c _ _ _ T8.out HR.out.bytes HR.out.len).mono ?_
        rintro e w9 ⟨rfl, rfl⟩
        go_wp2_with fail
        go_ret
        exact ⟨rfl, C1.out.trans HC.out⟩
      · have i0 : ¬ (j : Int) < (n : Int) := by omega
        clear hlt hjn'
        go_wp2_with fail
        refine (sum_c _ _ _ T8.out HR.out.bytes HR.out.len).mono ?_
        rintro e w9 ⟨rfl, rfl⟩
        go_wp2_with fail
        go_ret
        exact ⟨rfl, C1.out.trans HC.out⟩
end Go.Proofs.YtppehlnfoendgaaDoor
