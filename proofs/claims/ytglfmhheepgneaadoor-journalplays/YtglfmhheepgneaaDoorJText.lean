/-
  The statements of layer 3: text.
-/
import Derived.Test.YtglfmhheepgneaaDoorLRd
namespace Go.Proofs.YtglfmhheepgneaaDoor
open Go.RowKit
set_option linter.all false

/-- What text makes. -/
def textB (n : Nat) (c : UInt8) : List UInt8 := (List.range n).map fun i => UInt8.ofNat (c.toNat + i / 100)
theorem textB_len (n : Nat) (c : UInt8) : (textB n c).length = n := by simp [textB]
theorem textB_at (n : Nat) (c : UInt8) (i : Nat) (h : i < n) : (textB n c)[i]? = some (UInt8.ofNat (c.toNat + i / 100)) := by
  simp [textB, List.getElem?_map, List.getElem?_range h]
/-- What the loop has filled. -/
def fill (m : List UInt8) (q j : Nat) : List UInt8 := m.take j ++ List.replicate (q - j) 0
theorem fill_len (m : List UInt8) (q j : Nat) (hm : m.length = q) (hj : j ≤ q) : (fill m q j).length = q := by
  simp [fill, hm]; omega
theorem fill_set (m : List UInt8) (q j : Nat) (hm : m.length = q) (hj : j < q) (x : UInt8) (hx : m[j]? = some x) : (fill m q j).set j x = fill m q (j + 1) := by
  unfold fill
  have hl : (m.take j).length = j := by simp; omega
  rw [List.set_append_right _ _ (by omega), hl, Nat.sub_self, show q - j = (q - (j + 1)) + 1 from by omega, List.replicate_succ, List.take_add_one, hx]
  simp
theorem fill_all (m : List UInt8) (q : Nat) (hm : m.length = q) : fill m q q = m := by
  unfold fill
  rw [Nat.sub_self, List.take_of_length_le (by omega)]
  simp

set_option maxHeartbeats 1600000 in
theorem text_c (n : Nat) (c : UInt8) (w : World) (hn : n ≤ 100000) :
    Calls Tryd.prog 14 #[.int .i64 (n : Int), .int .u8 (c.toNat : Int)] w fun e w' => e = .returned (.string (str (textB n c))) ∧ Calm w w' := by
  have qm := run_make8 w n (by omega)
  have tl := Lib.hid (textB_len n c)
  have ta := Lib.hid (textB_at n c)
  generalize textB n c = T at tl ta
  go_enter Tryd.func14, Tryd.ntmps14
  go_upto_region 3 with fail
  have ho := Lib.hid (Own.zeros w n (by omega))
  have C2 : Hid (Calm w (w.alloc (.cells (zeros8 n) 5))) := Lib.hid ((Keep.refl _ w).alloc _)
  generalize World.alloc w _ = w2 at ho C2 ⊢
  clear qm
  go_wp2_with fail
  go_loopw [6] (fun i wr => ∃ (j : Nat), j ≤ n ∧ i = .int .i64 j ∧ Calm w wr ∧ Own wr w.heap.size (.slice (some ⟨w.heap.size, 0, none⟩) n n) (fill T n j)) (fun i _ => n - (intOf i).toNat)
  case atStart => exact ⟨0, by omega, rfl, C2.out, by simpa [fill] using ho.out⟩
  case round =>
    obtain ⟨j, hj, rfl, hcw, how⟩ := hrel
    by_cases hlt : j < n
    · obtain ⟨x, hx⟩ : ∃ x, x = UInt8.ofNat (c.toNat + j / 100) := ⟨_, rfl⟩
      have hxn : (x.toNat : Int) = ((c.toNat : Int) + (j : Int) / 100 % 256) % 256 := by rw [hx, UInt8.toNat_ofNat']; omega
      have hxn2 : (x.toNat : Int) = ((c.toNat : Int) + (j : Int) / 100) % 256 := by rw [hx, UInt8.toNat_ofNat']; omega
      have hl : (fill T n j).length = n := fill_len T n j tl.out hj
      have f0 := (how.at_ j (by omega)).2
      have f1 := (how.at_ j (by omega)).1
      generalize (fill T n j)[j]'(by omega) = x9 at f1
      have hst := how.set j (by omega) x
      rw [fill_set T n j tl.out hlt x (by rw [ta.out j hlt, hx])] at hst
      have HC := Lib.hid hcw
      have HS := Lib.hid hst
      have HX := Lib.hid hxn
      have HX2 := Lib.hid hxn2
      have i0 : (j : Int) < (n : Int) := by omega
      have i1 : (j : Int) / 100 ≤ 1000 := by omega
      clear hcw how hst hx hl hxn hxn2
      go_wp2_with fail
      go_roundw
      case rel =>
        refine ⟨j + 1, by omega, by go_num, HC.out.store (p := ⟨w.heap.size, j, none⟩) (fun h => absurd h (Nat.lt_irrefl _)) _, ?_⟩
        first
          | (rw [← HX.out]; exact HS.out)
          | (rw [← HX2.out]; exact HS.out)
      case measure => simp [intOf]; omega
    · obtain rfl : j = n := by omega
      rw [fill_all T j tl.out] at how
      have q := conv_rd (how.rd ⟨_, _, _, rfl⟩)
      have HC := Lib.hid hcw
      clear hcw how
      go_wp2_with fail
      go_ret
      exact ⟨rfl, HC.out⟩
end Go.Proofs.YtglfmhheepgneaaDoor
