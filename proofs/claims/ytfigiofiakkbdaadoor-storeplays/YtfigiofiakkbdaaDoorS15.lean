import Derived.Test.YtfigiofiakkbdaaDoorS12
import Derived.Test.YtfigiofiakkbdaaDoorJRef5
/-
  Contracts of the reference of layer 4: Bytes, number.
-/
namespace Go.Proofs.YtfigiofiakkbdaaDoor
open Go.RowKit
set_option linter.all false

set_option maxHeartbeats 1600000 in
theorem r4bytes_c (n : Nat) (w : World) (hn : n < 18446744073709551616) :
    Calls Tryd.prog 17 #[.int .u64 (n : Int)] w fun e w' => e = .returned (.string (str (le 8 n))) ∧ Calm w w' := by
  have sa := str_app
  have ss := str_size
  go_enter Tryd.func17, Tryd.ntmps17
  go_wp2_with fail
  go_loopw [0, 3, 4] (fun v0 v3 v4 wr => ∃ j : Nat, j ≤ 8 ∧ v4 = .int .i64 (j : Int) ∧ v3 = .string (str (le j n)) ∧ v0 = .int .u64 ((n / 256 ^ j : Nat) : Int) ∧ Calm w wr) (fun _ _ v4 _ => 8 - (intOf v4).toNat)
  case atStart => exact ⟨0, by omega, rfl, rfl, by simp, Keep.refl _ _⟩
  case round =>
    obtain ⟨j, hj, rfl, rfl, rfl, hc⟩ := hrel
    by_cases hlt : j < 8
    · have hls := Lib.hid (le_succ j n)
      have hlen := le_len j n
      have hd : n / 256 ^ (j + 1) = n / 256 ^ j / 256 := by rw [Nat.pow_succ, Nat.div_div_eq_div_mul]
      have hN : n / 256 ^ j ≤ n := Nat.div_le_self _ _
      generalize hN' : n / 256 ^ (j + 1) = N' at hd
      have HN' := Lib.hid hN'
      generalize n / 256 ^ j = N at *
      generalize hX : le j n = X at *
      obtain ⟨b, hb⟩ : ∃ b : UInt8, b = UInt8.ofNat N := ⟨_, rfl⟩
      rw [← hb] at hls
      have hbn : (N : Int) % 256 = (b.toNat : Int) := by rw [hb, UInt8.toNat_ofNat']; omega
      have hb8 := u8_lt b
      have hbi : (b.toNat : Int) < 256 := by omega
      have q := conv_rd (Rd.made wr [b] 1 #[.int .u8 (b.toNat : Int)] rfl rfl (by omega))
      have HC : Hid (Calm w (wr.alloc (.cells #[.int .u8 (b.toNat : Int)] 5))) := Lib.hid (hc.alloc _)
      have hNi : (N : Int) < 18446744073709551616 := by omega
      have HD : Hid ((N : Int) / 256 = (N' : Int)) := Lib.hid (by omega)
      have i1 : (j : Int) < 8 := by omega
      clear hc hb hX hd hN hN'
      go_wp2_with fail
      go_roundw
      case rel => exact ⟨j + 1, by omega, by go_num, by rw [hls.out], by rw [HN'.out, HD.out], HC.out⟩
      case measure => simp [intOf]; omega
    · obtain rfl : j = 8 := by omega
      have HC := Lib.hid hc
      clear hc
      go_wp2_with fail
      go_ret
      exact ⟨rfl, HC.out⟩

set_option maxHeartbeats 1600000 in
theorem r4number_c (s : List UInt8) (w : World) (hl : 8 ≤ s.length) (hm : s.length ≤ 1000000) :
    Calls Tryd.prog 62 #[.string (str s)] w fun e w' => e = .returned (.int .u64 ((num (s.take 8) : Nat) : Int)) ∧ w = w' := by
  have ss := str_size s
  go_enter Tryd.func62, Tryd.ntmps62
  go_wp2_with fail
  go_loopw [3, 4] (fun v3 v4 wr => ∃ k : Nat, k ≤ 8 ∧ v4 = .int .i64 ((k : Int) - 1) ∧ v3 = .int .u64 ((num ((s.take 8).drop k) : Nat) : Int) ∧ w = wr) (fun _ v4 _ => (intOf v4 + 1).toNat)
  case atStart => exact ⟨8, by omega, rfl, by rw [List.drop_of_length_le (by simp; omega)]; rfl, rfl⟩
  case round =>
    obtain ⟨k, hk, rfl, rfl, rfl⟩ := hrel
    cases k with
    | zero =>
      rw [List.drop_zero]
      go_wp2_with fail
      go_ret
      exact ⟨rfl, rfl⟩
    | succ j =>
      rw [show (((j + 1 : Nat) : Int) - 1) = (j : Int) by omega]
      have i0 : (j : Int) < 8 := by omega
      have i1 : (j : Int) < (s.length : Int) := by omega
      have e : num ((s.take 8).drop j) = (s[j]'(by omega)).toNat + 256 * num ((s.take 8).drop (j + 1)) := by
        have hj8 : j < (s.take 8).length := by simp; omega
        rw [List.drop_eq_getElem_cons hj8, num, List.getElem_take]
      have hb := num_lt64 ((s.take 8).drop j) (by simp; omega)
      have hx8 := u8_lt (s[j]'(by omega))
      have E := Lib.hid (And.intro e (And.intro hb hx8))
      clear e hb hx8
      go_wp2_with fail
      go_roundw
      case rel =>
        refine ⟨j, by omega, rfl, ?_, trivial⟩
        have hx : ∀ h, (str s)[j]'h = s[j]'(by omega) := fun _ => rfl
        rw [hx]
        obtain ⟨e, hb, hx8⟩ := E.out
        rw [IntKind.wrap_u64, IntKind.wrap_u64, IntKind.wrap_u64]
        congr 1
        omega
      case measure => simp [intOf]
end Go.Proofs.YtfigiofiakkbdaaDoor

/-
  StorePlays: what lies in memory beside the store.
-/
namespace Go.Proofs.YtfigiofiakkbdaaDoor
open Go.RowKit
set_option linter.all false

theorem areaC_drop {c : Nat → List UInt8} {f h q : Nat} (hq : q ≤ h) (hl : ∀ i, f ≤ i → i < f + h → (c i).length = 512) : (areaC c f h).drop (512 * q) = areaC c (f + q) (h - q) := by
  rw [show h = q + (h - q) by omega, areaC_add, List.drop_left' (areaC_len (fun i h1 h2 => hl i h1 (by omega))), Nat.add_sub_cancel_left]
/-- A half behind a Save. -/
theorem savC_area {c : Nat → List UInt8} {f h L : Nat} {b : List UInt8} (hb : 1 + secsOf b.length ≤ h) (hl : ∀ i, f ≤ i → i < f + h → (c i).length = 512) :
    areaC (savC c f L b) f h = (begP (L + 1) ++ recP (L + 2) b) ++ (areaC c f h).drop (512 * (1 + secsOf b.length)) := by
  have hp := secsOf_pos b.length
  obtain ⟨q, hq⟩ : ∃ q, secsOf b.length = q + 1 := ⟨secsOf b.length - 1, by omega⟩
  rw [areaC_drop hb hl]
  have := areaC_put (upd c f (begP (L + 1))) f h 1 q (recP (L + 2) b) (by rw [rec_len, hq]) (by omega)
  unfold savC
  rw [hq, Nat.add_sub_cancel, this]
  have e1 : areaC (upd c f (begP (L + 1))) f 1 = begP (L + 1) := by simp [areaC, upd]
  have e2 : areaC (upd c f (begP (L + 1))) (f + 1 + (q + 1)) (h - 1 - (q + 1)) = areaC c (f + (1 + (q + 1))) (h - (1 + (q + 1))) := by
    rw [show h - (1 + (q + 1)) = h - 1 - (q + 1) by omega, show f + (1 + (q + 1)) = f + 1 + (q + 1) by omega]
    exact areaC_congr (fun i h1 _ => by unfold upd; rw [if_neg (by omega)])
  rw [e1, e2, List.append_assoc]

structure Py (w1 w : World) (d sb hb nb n i : Nat) (R T : Nat → Prop) (S : DS) (σ : SS) (c : Nat → List UInt8) (ka : Nat) (oa : Option (List UInt8)) (kb : Nat) (ob : Option (List UInt8)) (lst : List UInt8) : Prop where
  su : Su w1 w R T d sb S σ n c ka oa kb ob
  hr : Row w hb 34 #[.string (str (areaC c 0 (n / 2))), .string (str (areaC c (n / 2) (n / 2)))]
  nr : Row w nb 35 #[.int .u64 ((σ.A.last + 1 : Nat) : Int), .int .u64 ((σ.B.last + 1 : Nat) : Int)]
  hx : ¬ R hb ∧ ¬ T hb ∧ w1.heap.size ≤ hb
  nx : ¬ R nb ∧ ¬ T nb ∧ w1.heap.size ≤ nb
  rest : areaC c (n / 2 + n / 2) (n - 2 * (n / 2)) = List.replicate (512 * (n - 2 * (n / 2))) 0
  al : σ.A.last ≤ 1 + 2 * i
  bl : σ.B.last ≤ 1 + 2 * i
  cn : σ.count ≤ i
  kp : (σ.kept = none ∧ lst = []) ∨ (1 ≤ σ.count ∧ ∃ y, σ.kept = some (y, σ.count, lst))
  ll : lst.length ≤ 3000
section
variable {w1 w w' : World} {d sb hb nb n i : Nat} {R T R' Q : Nat → Prop} {S : DS} {σ : SS} {c : Nat → List UInt8} {ka : Nat} {oa : Option (List UInt8)} {kb : Nat} {ob : Option (List UInt8)} {lst : List UInt8}
theorem Py.rest' (h : Py w1 w d sb hb nb n i R T S σ c ka oa kb ob lst) (k : Calm w w') : Py w1 w' d sb hb nb n i R T S σ c ka oa kb ob lst := { h with su := h.su.rest k, hr := h.hr.keep k (fun e => e), nr := h.nr.keep k (fun e => e) }
theorem Py.calm (h : Py w1 w d sb hb nb n i R T S σ c ka oa kb ob lst) : Calm w1 w := h.su.calm
theorem Py.moved (h : Py w1 w d sb hb nb n i R T S σ c ka oa kb ob lst) (q : Nat) (hs : Sd w1 w' R' d (S.more q)) (hx : Ext R R' w) (k : Keep R w w') : Py w1 w' d sb hb nb n i R' T (S.more q) σ c ka oa kb ob lst :=
  { h with su := h.su.moved q hs hx k, hr := h.hr.keep k h.hx.1, nr := h.nr.keep k h.nx.1, hx := ⟨hx.not h.hx.1 h.hr.lt, h.hx.2⟩, nx := ⟨hx.not h.nx.1 h.nr.lt, h.nx.2⟩ }
theorem Py.len (h : Py w1 w d sb hb nb n i R T S σ c ka oa kb ob lst) : ∀ j, j < n → (c j).length = 512 := h.su.len
theorem Py.step (h : Py w1 w d sb hb nb n i R T S σ c ka oa kb ob lst) : Py w1 w d sb hb nb n (i + 1) R T S σ c ka oa kb ob lst := { h with al := by have := h.al; omega, bl := by have := h.bl; omega, cn := by have := h.cn; omega }
end
/-- Behind a Save to half y: what the statement has written beside it. -/
theorem py_saved {w1 w wa w' w'' : World} {d sb hb nb n i : Nat} {R T R' T' : Nat → Prop} {S S1 : DS} {σ : SS} {c : Nat → List UInt8} {ka : Nat} {oa : Option (List UInt8)} {kb : Nat} {ob : Option (List UInt8)} {lst bs : List UInt8} (hn : n ≤ 13) (h : Py w1 w d sb hb nb n i R T S σ c ka oa kb ob lst) (hx : Ext R R' w) (ht : Ext T T' w) (hk : Keep (fun k => R k ∨ T k) w wa) (hbl : bs.length ≤ 3000) (hroom : secsOf (8 + bs.length) + 1 ≤ n / 2) (hc1 : Calm wa w')
    (hcase : (σ.other = 0 ∧ Su w1 wa R' T' d sb S1 (σ.saved bs) n (savC c 0 σ.A.last (recB (σ.count + 1) bs)) (σ.A.last + 1) (some (recB (σ.count + 1) bs)) kb ob) ∨ (σ.other = 1 ∧ Su w1 wa R' T' d sb S1 (σ.saved bs) n (savC c (n / 2) σ.B.last (recB (σ.count + 1) bs)) ka oa (σ.B.last + 1) (some (recB (σ.count + 1) bs))))
    (y L : Nat) (hy : y = σ.other) (hL : L = (σ.J y).last) (hw : w'' = (w'.setCell ⟨nb, y, none⟩ (.int .u64 ((L + 3 : Nat) : Int))).setCell ⟨hb, y, none⟩ (.string (str ((begP (L + 1) ++ recP (L + 2) (recB (σ.count + 1) bs)) ++ (areaC c (y * (n / 2)) (n / 2)).drop (512 * (1 + secsOf (8 + bs.length))))))) :
    ∃ c' ka' oa' kb' ob', Py w1 w'' d sb hb nb n (i + 1) R' T' S1 (σ.saved bs) c' ka' oa' kb' ob' bs := by
  have hlr := recB_len (σ.count + 1) bs
  have n4 := h.su.n4
  have hbw := h.hr.lt
  have nbw := h.nr.lt
  have hbR := hx.not h.hx.1 hbw
  have hbT := ht.not h.hx.2.1 hbw
  have nbR := hx.not h.nx.1 nbw
  have nbT := ht.not h.nx.2.1 nbw
  have hne : hb ≠ nb := h.hr.ne h.nr (by decide)
  have r1 := (h.hr.keep hk (fun e => e.elim h.hx.1 h.hx.2.1)).keep hc1 (fun e => e)
  have r2 := (h.nr.keep hk (fun e => e.elim h.nx.1 h.nx.2.1)).keep hc1 (fun e => e)
  have kk : Keep (fun k => k = hb ∨ k = nb) w' w'' := by
    rw [hw]
    exact ((Keep.refl _ w').store (p := ⟨nb, y, none⟩) (fun _ => .inr rfl) _).store (p := ⟨hb, y, none⟩) (fun _ => .inl rfl) _
  have ks := saved_kept σ bs
  have kc := count1 ks
  have hapart : ∀ k, k = hb ∨ k = nb → ¬ R' k ∧ ¬ T' k ∧ w1.heap.size ≤ k := fun k e => by
    rcases e with rfl | rfl
    · exact ⟨hbR, hbT, h.hx.2.2⟩
    · exact ⟨nbR, nbT, h.nx.2.2⟩
  have hlen := h.len
  have al := h.al
  have bl := h.bl
  have cn := h.cn
  have rN := r2.store y (.int .u64 ((L + 3 : Nat) : Int))
  have rH := (r1.far (p := ⟨nb, y, none⟩) hne (.int .u64 ((L + 3 : Nat) : Int))).store y (.string (str ((begP (L + 1) ++ recP (L + 2) (recB (σ.count + 1) bs)) ++ (areaC c (y * (n / 2)) (n / 2)).drop (512 * (1 + secsOf (8 + bs.length))))))
  have rN' := rN.far (p := ⟨hb, y, none⟩) hne.symm (.string (str ((begP (L + 1) ++ recP (L + 2) (recB (σ.count + 1) bs)) ++ (areaC c (y * (n / 2)) (n / 2)).drop (512 * (1 + secsOf (8 + bs.length))))))
  rw [← hw] at rH rN'
  rcases hcase with ⟨e, hs⟩ | ⟨e, hs⟩
  · obtain rfl : y = 0 := hy.trans e
    have hA := saved_A0 bs e
    have hL' : L = σ.A.last := hL
    subst hL'
    refine ⟨_, _, _, _, _, ⟨(hs.rest hc1).apart kk hapart, ?_, ?_, ⟨hbR, hbT, h.hx.2.2⟩, ⟨nbR, nbT, h.nx.2.2⟩, ?_, by omega, by rw [hA.2.1]; omega, by omega, .inr ⟨by omega, 0, by rw [ks, e, kc]⟩, hbl⟩⟩
    · have e1 := savC_area (c := c) (f := 0) (h := n / 2) (L := σ.A.last) (b := recB (σ.count + 1) bs) (by rw [hlr]; omega) (fun j _ h2 => hlen j (by omega))
      have e2 : areaC (savC c 0 σ.A.last (recB (σ.count + 1) bs)) (n / 2) (n / 2) = areaC c (n / 2) (n / 2) := areaC_congr (fun j h1 _ => savC_out (.inr (by rw [hlr]; omega)))
      rw [e1, e2, hlr]
      simpa using rH
    · rw [hA.1, hA.2.1, show σ.A.last + 2 + 1 = σ.A.last + 3 by omega]
      simpa using rN'
    · rw [areaC_congr (c' := c) (fun j h1 _ => savC_out (.inr (by rw [hlr]; omega)))]
      exact h.rest
  · obtain rfl : y = 1 := hy.trans e
    have hB := saved_B1 bs e
    have hL' : L = σ.B.last := hL
    subst hL'
    refine ⟨_, _, _, _, _, ⟨(hs.rest hc1).apart kk hapart, ?_, ?_, ⟨hbR, hbT, h.hx.2.2⟩, ⟨nbR, nbT, h.nx.2.2⟩, ?_, by rw [hB.2.1]; omega, by omega, by omega, .inr ⟨by omega, 1, by rw [ks, e, kc]⟩, hbl⟩⟩
    · have e1 := savC_area (c := c) (f := n / 2) (h := n / 2) (L := σ.B.last) (b := recB (σ.count + 1) bs) (by rw [hlr]; omega) (fun j _ h2 => hlen j (by omega))
      have e2 : areaC (savC c (n / 2) σ.B.last (recB (σ.count + 1) bs)) 0 (n / 2) = areaC c 0 (n / 2) := areaC_congr (fun j _ h2 => savC_out (.inl (by omega)))
      rw [e1, e2, hlr]
      simpa using rH
    · rw [hB.1, hB.2.1, show σ.B.last + 2 + 1 = σ.B.last + 3 by omega]
      simpa using rN'
    · rw [areaC_congr (c' := c) (fun j h1 _ => savC_out (.inr (by rw [hlr]; omega)))]
      exact h.rest
end Go.Proofs.YtfigiofiakkbdaaDoor

