/-
  The statements of layer 4: area, text, shown.
-/
import Derived.Test.YtfigiofiakkbdaaDoorS9
namespace Go.Proofs.YtfigiofiakkbdaaDoor
open Go.RowKit
set_option linter.all false

/-- What the loop of text has filled. -/
def fillC (n j : Nat) (c : UInt8) : List UInt8 := List.replicate j c ++ List.replicate (n - j) 0
theorem fillC_len (n j : Nat) (c : UInt8) (h : j ≤ n) : (fillC n j c).length = n := by simp [fillC]; omega
theorem fillC_set (n j : Nat) (c : UInt8) (h : j < n) : (fillC n j c).set j c = fillC n (j + 1) c := by
  unfold fillC
  rw [List.set_append_right _ _ (by simp), List.length_replicate, Nat.sub_self, show n - j = (n - (j + 1)) + 1 by omega, List.replicate_succ, List.set_cons_zero, List.replicate_succ']
  simp
theorem fillC_all (n : Nat) (c : UInt8) : fillC n n c = List.replicate n c := by simp [fillC]

set_option maxHeartbeats 1600000 in
theorem text4_c (n : Nat) (c : UInt8) (w : World) (hn : n ≤ 100000) :
    Calls Tryd.prog 14 #[.int .i64 (n : Int), .int .u8 (c.toNat : Int)] w fun e w' => e = .returned (.string (str (List.replicate n c))) ∧ Calm w w' := by
  have qm := run_make8 w n (by omega)
  go_enter Tryd.func14, Tryd.ntmps14
  go_upto_region 3 with fail
  have ho := Lib.hid (Own.zeros w n (by omega))
  have C2 : Hid (Calm w (w.alloc (.cells (zeros8 n) 5))) := Lib.hid ((Keep.refl _ w).alloc _)
  generalize World.alloc w _ = w2 at ho C2 ⊢
  clear qm
  go_wp2_with fail
  go_loopw [6] (fun i wr => ∃ (j : Nat), j ≤ n ∧ i = .int .i64 j ∧ Calm w wr ∧ Own wr w.heap.size (.slice (some ⟨w.heap.size, 0, none⟩) n n) (fillC n j c)) (fun i _ => n - (intOf i).toNat)
  case atStart => exact ⟨0, by omega, rfl, C2.out, by simpa [fillC] using ho.out⟩
  case round =>
    obtain ⟨j, hj, rfl, hcw, how⟩ := hrel
    by_cases hlt : j < n
    · have hl : (fillC n j c).length = n := fillC_len n j c hj
      have f0 := (how.at_ j (by omega)).2
      have f1 := (how.at_ j (by omega)).1
      generalize (fillC n j c)[j]'(by omega) = x9 at f1
      have hst := how.set j (by omega) c
      rw [fillC_set n j c hlt] at hst
      have HC := Lib.hid hcw
      have HS := Lib.hid hst
      have i0 : (j : Int) < (n : Int) := by omega
      clear hcw how hst hl
      go_wp2_with fail
      go_roundw
      case rel => exact ⟨j + 1, by omega, by go_num, HC.out.store (p := ⟨w.heap.size, j, none⟩) (fun h => absurd h (Nat.lt_irrefl _)) _, HS.out⟩
      case measure => simp [intOf]; omega
    · obtain rfl : j = n := by omega
      rw [fillC_all] at how
      have q := conv_rd (how.rd ⟨_, _, _, rfl⟩)
      have HC := Lib.hid hcw
      clear hcw how
      go_wp2_with fail
      go_ret
      exact ⟨rfl, HC.out⟩

set_option maxHeartbeats 1600000 in
theorem area4_c {w0 w : World} {R : Nat → Prop} {d : Nat} {S : DS} {n : Nat} {c : Nat → List UInt8} (h : Sd w0 w R d S) (hu : S.Up) (hs : S.Shows n c) (hwm : S.wait.length ≤ 1000000) (hops : S.ops ≤ 999000000) (hn : n ≤ 1000) :
    Calls Tryd.prog 20 #[.pointer (some ⟨d, 0, none⟩)] w fun e w' => ∃ R', e = .returned (.string (str (areaC c 0 n))) ∧ Sd w0 w' R' d (S.more n) ∧ Ext R R' w ∧ Keep R w w' ∧ (areaC c 0 n).length = 512 * n := by
  have H : Hid (St w0 w R d S) := Lib.hid h.st
  have U := Lib.hid hu
  have HS := Lib.hid hs
  have sa := str_app
  have ss := str_size
  have hsl := hs.1
  clear h hu hs
  go_enter Tryd.func20, Tryd.ntmps20
  go_wp2_with fail
  go_loopw [3, 4] (fun s i wr => ∃ (j : Nat), j ≤ n ∧ i = .int .i64 j ∧ s = .string (str (areaC c 0 j)) ∧ St w0 wr R d (S.more j) ∧ Keep R w wr ∧ (areaC c 0 j).length = 512 * j) (fun _ i _ => n - (intOf i).toNat)
  case atStart => exact ⟨0, by omega, rfl, rfl, H.out, Keep.refl _ _, rfl⟩
  case round =>
    obtain ⟨j, hj, rfl, rfl, hst, hk, hal⟩ := hrel
    have Q := issectors_c hst.disk
    rw [show (S.more j).secs.length = n from hsl] at Q
    have HQ := Lib.hid Q
    clear Q
    by_cases hlt : j < n
    · have i0 : (j : Int) < (n : Int) := by omega
      have HST := Lib.hid hst
      have HK := Lib.hid hk
      have hop : (S.more j).op = (true, S.more (j + 1)) := by rw [DS.op_up (S := S.more j) U.out.1 U.out.2, DS.more_more]
      have Hop := Lib.hid hop
      have HA : Hid (areaC c 0 (j + 1) = areaC c 0 j ++ c j) := Lib.hid (by simp only [areaC, Nat.zero_add])
      obtain ⟨X, hX⟩ : ∃ X, X = areaC c 0 j := ⟨_, rfl⟩
      rw [← hX] at hal HA ⊢
      clear hst hk hop hX
      have RD := Lib.hid (st_read HST.out (by show S.wait.length ≤ _; exact hwm) (by show S.ops + j ≤ _; omega) Hop.out j (by show j < S.secs.length; omega))
      have hnow : Hid ((S.more (j + 1)).now j = c j) := Lib.hid (HS.out.2 j hlt)
      clear hsl
      go_wp2_with (go_at_call 38; refine HQ.out.mono ?_; rintro e w1 ⟨rfl, rfl⟩)
      refine RD.out.mono ?_
      clear RD HQ
      rintro e w2 ⟨g, cp, rfl, hd, hs2, k2⟩
      have q := conv_data hd
      have hdl := hd.len
      have S2 := Lib.hid hs2
      have K2 := Lib.hid (HK.out.trans k2)
      rw [hnow.out] at q hdl
      generalize c j = Y at q hdl HA
      clear hd hs2 k2 hnow
      go_wp2_with fail
      go_roundw
      case rel => exact ⟨j + 1, by omega, by go_num, by rw [HA.out], S2.out, K2.out, by rw [HA.out, List.length_append, hal, hdl]; omega⟩
      case measure => simp [intOf]; omega
    · obtain rfl : j = n := by omega
      have HST := Lib.hid hst
      have HK := Lib.hid hk
      have HL := Lib.hid hal
      clear hst hk hal
      go_wp2_with (go_at_call 38; refine HQ.out.mono ?_; rintro e w1 ⟨rfl, rfl⟩)
      go_ret
      obtain ⟨R', hsd, hr⟩ := HST.out.sd
      exact ⟨R', rfl, hsd, fun k hk => .inl (hr k hk), HK.out, HL.out⟩

section
variable {w0 w : World} {R T : Nat → Prop} {d sb : Nat} {S : DS} {σ : SS} {n : Nat} {c : Nat → List UInt8} {ka kb : Nat} {oa ob : Option (List UInt8)}
theorem su_area (h : Su w0 w R T d sb S σ n c ka oa kb ob) (hn : n ≤ 1000) (ho : S.ops ≤ 999000000) :
    Calls Tryd.prog 20 #[.pointer (some ⟨d, 0, none⟩)] w fun e w' => ∃ R', e = .returned (.string (str (areaC c 0 n))) ∧ Su w0 w' R' T d sb (S.more n) σ n c ka oa kb ob ∧ Ext R R' w ∧ Keep R w w' ∧ (areaC c 0 n).length = 512 * n := by
  refine (area4_c h.sto.sd h.up h.sh (by rw [h.wait]; simp) ho hn).mono ?_
  rintro e w' ⟨R', rfl, hs, hx, hk, hl⟩
  exact ⟨R', rfl, h.moved n hs hx hk, hx, hk, hl⟩
theorem num_full0' : num ((full 0).take 8) ≤ 1 := by rw [num_full0]; omega
/-- Format, of a disk that was never written. -/
theorem su_format (hT : Tab w0) (hsd : Sd w0 w R d S) (hu : S.Up) (hs : S.Shows n (fun _ => full 0)) (hw : S.wait = []) (ho : S.ops ≤ 1000000) (n4 : 4 ≤ n) :
    Calls Tryd.prog 12 #[.pointer (some ⟨d, 0, none⟩)] w fun e w' => ∃ R' T S1 sb σ, e = .returned (.tuple #[.pointer (some ⟨sb, 0, none⟩), .int .i64 0]) ∧ Ext R R' w ∧ Keep R w w' ∧ (∀ k, T k → w.heap.size ≤ k) ∧ Su w0 w' R' T d sb S1 σ n (upd (upd (fun _ => full 0) 0 (begP 1)) (n / 2) (begP 1)) 1 none 1 none ∧
      S1.ops = S.ops + 4 ∧ σ.A.last = 1 ∧ σ.B.last = 1 ∧ σ.kept = none := by
  refine (sformat_up hT hsd hu hs n4 rfl (by unfold DS.fine; rw [hw]; simp; omega)).mono ?_
  rintro e w' ⟨R', S1, sb, ja, jb, T, rfl, hx, hk, ht, hst, a1, a2, a3, a4, a5⟩
  refine ⟨R', T, S1, sb, _, rfl, hx, hk, ht, ⟨hst, a1, a2, a3, n4, rfl, ⟨⟨by omega, ?_, fun _ => ?_, fun b hb => by cases hb⟩, rfl, by simp, rfl, by simp, fun b hb => by cases hb⟩, ⟨⟨by omega, ?_, fun _ => ?_, fun b hb => by cases hb⟩, rfl, rfl, rfl, by simp, fun b hb => by cases hb⟩, rfl⟩, a5, rfl, rfl, rfl⟩
  · simp only [upd]; rw [if_neg (by omega)]; simp
  · simp only [upd]; rw [if_neg (by omega), if_neg (by omega)]; exact num_full0'
  · simp [upd]
  · simp only [upd]; rw [if_neg (by omega), if_neg (by omega)]; exact num_full0'
end
end Go.Proofs.YtfigiofiakkbdaaDoor
