/-
  Package journal: sum, picture, isBeginning.
-/
import Derived.Test.YtfigiofiakkbdaaDoorJA1
import Derived.Test.YtfigiofiakkbdaaDoorCrc2
import Derived.Test.YtfigiofiakkbdaaDoorRegion
import Derived.Laws.CopyOwn
import Derived.Deep.QuietTactic
import Derived.BigQuiet
namespace Go.Proofs.YtfigiofiakkbdaaDoor
open Go.RowKit
set_option linter.all false

theorem more_more (a b : List UInt8) : more (more 0 a) b = more 0 (a ++ b) := by
  have h : eat (ones - 0) a < 2 ^ 32 := eat_lt _ _ (by decide)
  unfold more
  rw [eat_app, show ones - (ones - eat (ones - 0) a) = eat (ones - 0) a by unfold ones at *; omega]
theorem more_lt32 (s : Nat) (bs : List UInt8) : more s bs < 4294967296 := by unfold more ones; omega
theorem rep_add (a b : Nat) (x : UInt8) : List.replicate (a + b) x = List.replicate a x ++ List.replicate b x := by simp
theorem u32_u64 (n : Nat) (h : n < 4294967296) : IntKind.u64.wrap (n : Int) = (n : Int) := by rw [IntKind.wrap_u64]; omega

set_option maxHeartbeats 800000 in
theorem jsum_c (g n cap : Nat) (bs : List UInt8) (v : Value) (b : List UInt8) (w : World) (hT : Tab w) (h : Rd w (.slice (some ⟨g, 0, none⟩) n cap) bs) (hl : 16 ≤ bs.length) (hv : Rd w v b) :
    Calls Tryd.prog 73 #[.slice (some ⟨g, 0, none⟩) n cap, v] w fun e w' => e = .returned (.int .u64 ((more 0 (bs.take 12 ++ b) : Nat) : Int)) ∧ w = w' := by
  obtain ⟨rfl, h1, h2, h3⟩ := h.cells0
  have hc := h.cut 12 (by omega)
  have Q1 := Lib.hid (sum_c _ _ w hT hc.bytes hc.len)
  have Q2 := Lib.hid (more_c (more 0 (bs.take 12)) (more_lt32 _ _) v b w hT hv.bytes hv.len)
  have Hm := Lib.hid (more_more (bs.take 12) b)
  have hx := u32_u64 (more (more 0 (bs.take 12)) b) (more_lt32 _ _)
  rw [IntKind.wrap_u64] at hx
  obtain ⟨A, c, rfl, _, _⟩ := hv.form
  unfold maxLen at h2
  generalize more (more 0 (bs.take 12)) b = m2 at *
  generalize more 0 (bs.take 12) = m1 at *
  clear h3 h hv hc hT
  go_enter Tryd.func73, Tryd.ntmps73
  go_wp2_with fail
  refine Q1.out.mono ?_
  rintro e w1 ⟨rfl, rfl⟩
  go_wp2_with fail
  refine Q2.out.mono ?_
  rintro e w1 ⟨rfl, rfl⟩
  go_wp2_with fail
  go_ret
  exact ⟨by rw [← Hm.out]; rfl, rfl⟩

/-- A row of bytes. -/
def BRow (w : World) (g : Nat) (bs : List UInt8) : Prop := Row w g 5 (bs.map bv).toArray
theorem BRow.rd {w : World} {g : Nat} {bs : List UInt8} (h : BRow w g bs) {n c : Nat} (hn : n = bs.length) (hc : c = bs.length) (hm : bs.length ≤ 1000000000) : Rd w (.slice (some ⟨g, 0, none⟩) n c) bs := by
  subst hn; subst hc
  refine .inr ⟨_, _, rfl, Nat.le_refl _, by unfold maxLen; omega, fun i b hi => ?_⟩
  rw [addr_mid, Nat.zero_add, Row.cell h]
  simp [hi]
theorem putTill_bytes (a m c : List UInt8) (n : Nat) : putTill ((a ++ (m ++ c)).map bv).toArray a.length n m.length = ((a ++ (le m.length n ++ c)).map bv).toArray := by
  unfold putTill
  simp only [List.map_append]
  rw [List.take_append_of_le_length (by simp), List.take_of_length_le (by simp), List.drop_append, List.drop_of_length_le (by simp), show a.length + m.length - (a.map bv).length = (m.map bv).length by simp, List.drop_append, List.drop_of_length_le (by simp)]
  simp
theorem put_b (g o k cap n : Nat) (a m c : List UInt8) (w : World) (hk : k ≤ 8) (ho : o = a.length) (hkm : k = m.length) (hr : BRow w g (a ++ (m ++ c))) (hn : n < 18446744073709551616) :
    Calls Tryd.prog 80 #[.slice (some ⟨g, o, none⟩) k cap, .int .u64 (n : Int)] w fun e w' => e = .returned (.tuple #[]) ∧ Keep (· = g) w w' ∧ BRow w' g (a ++ (le k n ++ c)) := by
  subst ho; subst hkm
  have := put_c g a.length m.length cap n _ w hk hr (by simp) ⟨a ++ (m ++ c), rfl⟩ hn
  rwa [putTill_bytes] at this
theorem BRow.zeros (w : World) (n : Nat) : BRow (w.alloc (.cells (zeros8 n) 5)) w.heap.size (List.replicate n 0) := by
  have := Row.made w 5 (zeros8 n)
  have e : zeros8 n = ((List.replicate n (0 : UInt8)).map bv).toArray := by apply Array.toList_inj.1; rw [zeros8_bv]
  rw [e] at this
  rw [e]; exact this
theorem Keep.fresh {w w1 w2 : World} {g : Nat} (h : Calm w w1) (k : Keep (· = g) w1 w2) (hg : w.heap.size ≤ g) : Calm w w2 := h.then_ k (fun i hi e => absurd hi (by subst e; omega))

set_option maxHeartbeats 1600000 in
theorem jpicture_c (n len : Nat) (v : Value) (bs : List UInt8) (w : World) (hT : Tab w) (hv : Rd w v bs) (hbs : bs.length ≤ 2100000) (hn : n < 18446744073709551616) (hlen : len < 4294967296) :
    Calls Tryd.prog 63 #[.int .u64 (n : Int), .int .u64 (len : Int), v] w fun e w' => ∃ g, e = .returned (.slice (some ⟨g, 0, none⟩) (secsOf bs.length * 512) (secsOf bs.length * 512)) ∧ w.heap.size ≤ g ∧ BRow w' g (pic n len bs) ∧ Calm w w' := by
  obtain ⟨A, c, rfl, hcl, hcm⟩ := hv.form
  unfold maxLen at hcm
  obtain ⟨L, hL⟩ : ∃ L, L = secsOf bs.length * 512 := ⟨_, rfl⟩
  have hL1 : 512 ≤ L ∧ bs.length + 16 ≤ L ∧ L ≤ 3000000 := by rw [hL]; unfold secsOf; omega
  have hpic : Hid (head12 n len ++ le 4 (more 0 (head12 n len ++ bs)) ++ bs ++ List.replicate (L - 16 - bs.length) 0 = pic n len bs) := by
    refine Lib.hid ?_
    unfold pic head16 pad
    congr 2
    rw [hL]; unfold secsOf; omega
  have qm := run_make8 w L (by omega)
  have hmul : ((secsOf bs.length : Nat) : Int) * 512 = (L : Int) := by omega
  have Q0 := Lib.hid (sectorsOf_c bs.length w (by omega))
  have HV := Lib.hid hv
  have HT := Lib.hid hT
  rw [← hL]
  have i1 : (16 : Int) ≤ (L : Int) := by omega
  have i2 : (L : Int) ≤ 3000000 := by omega
  have i3 : (bs.length : Int) ≤ 2100000 := by omega
  generalize secsOf bs.length = q at *
  clear hL hv hT
  go_enter Tryd.func63, Tryd.ntmps63
  go_wp2_with fail
  refine Q0.out.mono ?_
  rintro e w1 ⟨rfl, rfl⟩
  go_upto_region 2 with fail
  have B1 := Lib.hid (BRow.zeros w L)
  have C1 : Hid (Calm w (w.alloc (.cells (zeros8 L) 5))) := Lib.hid ((Keep.refl _ w).alloc _)
  generalize World.alloc w _ = w2 at B1 C1 ⊢
  clear qm Q0 hmul
  obtain ⟨g, hg⟩ : ∃ g, g = w.heap.size := ⟨_, rfl⟩
  rw [← hg] at B1 ⊢
  have Hg := Lib.hid hg
  clear hg
  have P1 := Lib.hid (put_b g 0 8 L n [] (List.replicate 8 0) (List.replicate (L - 8) 0) w2 (by omega) rfl (by simp) (by have := B1.out; rw [show L = 8 + (L - 8) by omega, rep_add] at this; exact this) hn)
  go_wp2_with fail
  refine P1.out.mono ?_
  rintro e w3 ⟨rfl, k3, b3⟩
  have C3 := Lib.hid (Keep.fresh C1.out k3 (Nat.le_of_eq Hg.out.symm))
  have B3 : Hid (BRow w3 g (le 8 n ++ (List.replicate 4 0 ++ List.replicate (L - 12) 0))) := Lib.hid (by
    rw [show L - 8 = 4 + (L - 12) by omega, rep_add] at b3
    simpa using b3)
  clear k3 b3 P1 B1 C1
  have P2 := Lib.hid (put_b g 8 4 (L - 8) len (le 8 n) (List.replicate 4 0) (List.replicate (L - 12) 0) w3 (by omega) (by simp [le_len]) (by simp) B3.out (by omega))
  go_wp2_with fail
  refine P2.out.mono ?_
  rintro e w4 ⟨rfl, k4, b4⟩
  have C4 := Lib.hid (Keep.fresh C3.out k4 (Nat.le_of_eq Hg.out.symm))
  have B4 : Hid (BRow w4 g (head12 n len ++ (List.replicate 4 0 ++ List.replicate (L - 16) 0))) := Lib.hid (by
    rw [show L - 12 = 4 + (L - 16) by omega, rep_add] at b4
    unfold head12
    simpa using b4)
  clear k4 b4 P2 B3 C3
  have hl4 : (head12 n len ++ (List.replicate 4 (0 : UInt8) ++ List.replicate (L - 16) 0)).length = L := by simp [head12_len]; omega
  have P3 := jsum_c g L L _ (.slice A bs.length c) bs w4.drew (HT.out.calm C4.out.drew) (BRow.rd (w := w4.drew) B4.out hl4.symm hl4.symm (by omega)) (by omega) (HV.out.calm C4.out.drew)
  rw [List.take_append_of_le_length (by simp [head12_len]), List.take_of_length_le (by simp [head12_len])] at P3
  have hsl := more_lt32 0 (head12 n len ++ bs)
  have HP3 := Lib.hid P3
  generalize hsm : more 0 (head12 n len ++ bs) = sm at *
  have P4 := Lib.hid (put_b g 12 4 (L - 12) sm (head12 n len) (List.replicate 4 0) (List.replicate (L - 16) 0) w4.drew (by omega) (by simp [head12_len]) (by simp) B4.out (by omega))
  clear P3 hl4 B4 hsm
  go_upto_region 4 with fail
  refine wp_region_noPanic ?_
  refine wp_region_held_drew (S := fun _ => True) (by kernel_rfl) trivial (fun hHeld => ?_)
  refine take_at 0 21 (.slice (some ⟨g, 0, none⟩) L L) rfl rfl (by kernel_rfl) (by kernel_rfl) (by kernel_rfl) (fun _ _ _ h => h) (Or.inl ⟨by rfl, ?_⟩) hHeld ?_
  · intro w hSw; go_simp
  simp only [List.setIfInBounds_toArray, List.set_cons_zero, List.set_cons_succ]
  refine take_at 1 22 (.slice (some ⟨g, 12, none⟩) 4 (L - 12)) rfl rfl (by kernel_rfl) (by kernel_rfl) (by kernel_rfl) (fun _ _ _ h => h) (Or.inl ⟨by rfl, ?_⟩) hHeld ?_
  · intro w hSw; go_simp; omega
  simp only [List.setIfInBounds_toArray, List.set_cons_zero, List.set_cons_succ]
  refine take_at 2 23 (.slice (some ⟨g, 0, none⟩) L L) rfl rfl (by kernel_rfl) (by kernel_rfl) (by kernel_rfl) (fun _ _ _ h => h) (Or.inl ⟨by rfl, ?_⟩) hHeld ?_
  · intro w hSw; go_simp
  simp only [List.setIfInBounds_toArray, List.set_cons_zero, List.set_cons_succ]
  refine take_at 3 24 (.slice A bs.length c) rfl rfl (by kernel_rfl) (by kernel_rfl) (by kernel_rfl) (fun _ _ _ h => h) (Or.inl ⟨by rfl, ?_⟩) hHeld ?_
  · intro w hSw; go_simp
  simp only [List.setIfInBounds_toArray, List.set_cons_zero, List.set_cons_succ]
  refine wpAnyH_ready (rs := [4]) (by kernel_rfl) (by simp) ?_
  refine AllReadyH.cons rfl (fun K hK => ?_) AllReadyH.nil
  go_simp
  refine HP3.out.mono ?_
  rintro e w5 ⟨rfl, rfl⟩
  refine hK.out _ _ trivial (fun hHeld => ?_)
  clear hK K
  try simp only [List.setIfInBounds_toArray, List.set_cons_zero, List.set_cons_succ]
  refine wpAnyH_ready (rs := [5]) (by kernel_rfl) (by simp) ?_
  refine AllReadyH.cons rfl (fun K hK => ?_) AllReadyH.nil
  go_simp
  refine P4.out.mono ?_
  rintro e w6 ⟨rfl, k6, b6⟩
  refine hK.out _ _ trivial (fun hHeld => ?_)
  clear hK K
  try simp only [List.setIfInBounds_toArray, List.set_cons_zero, List.set_cons_succ]
  refine wpAnyH_done (by kernel_rfl) (NoPanic.normal ?_) _
  have C6 := Lib.hid (Keep.fresh C4.out.drew k6 (Nat.le_of_eq Hg.out.symm))
  have hl6 : ((head12 n len ++ (le 4 sm ++ List.replicate (L - 16) 0)).map bv).length = L := by simp [head12_len, le_len]; omega
  have B6 := Lib.hid b6
  have V6 := Lib.hid (HV.out.calm C6.out)
  clear k6 b6 P4 HP3 C4 HV
  obtain ⟨sp, hpos⟩ : ∃ cs : List Value, cs = bs.map bv := ⟨_, rfl⟩
  have hcl6 : sp.length = Nat.min bs.length (L - 16) := by rw [hpos]; simp only [List.length_map]; exact (Nat.min_eq_left (by omega)).symm
  have hps : 0 < sp.length → (some (⟨g, 16, none⟩ : Addr)) = some ⟨g, 16, none⟩ ∧ ∃ ad, A = some ad ∧ ∀ j v, sp[j]? = some v → w6.cell? (ad.add j) = some v := by
    intro h0
    refine ⟨rfl, ?_⟩
    rcases V6.out with ⟨e, rfl⟩ | ⟨ad, cap, e, h1, h2, h3⟩
    · simp [hpos] at h0
    · injection e with e1 e2 e3
      refine ⟨ad, e1, fun j v hj => ?_⟩
      rw [hpos, List.getElem?_map, Option.map_eq_some_iff] at hj
      obtain ⟨b, hb, rfl⟩ := hj
      exact h3 j b hb
  have hfit : 16 + sp.length ≤ ((head12 n len ++ (le 4 sm ++ List.replicate (L - 16) 0)).map bv).length := by rw [hl6, hpos]; simp; omega
  have hone : ∀ v ∈ sp, v.oneCell' = true := by rw [hpos]; exact bv_one bs
  have hgg : w.heap.size ≤ g := Nat.le_of_eq Hg.out.symm
  have FIN : ∀ w', Hid (w'.heap[g]? = some (.cells (splice ((head12 n len ++ (le 4 sm ++ List.replicate (L - 16) 0)).map bv) 16 sp).toArray 5 (0, 0))) → BRow w' g (pic n len bs) := by
    intro w' h
    show w'.heap[g]? = _
    rw [h.out, ← hpic.out]
    congr 2
    rw [hpos]
    unfold splice
    simp only [List.map_append]
    have e1 : ((head12 n len).map bv ++ ((le 4 sm).map bv ++ (List.replicate (L - 16) (0 : UInt8)).map bv)) = ((head12 n len).map bv ++ (le 4 sm).map bv) ++ (List.replicate (L - 16) (0 : UInt8)).map bv := by simp
    rw [e1, List.take_append_of_le_length (by simp [head12_len, le_len]), List.take_of_length_le (by simp [head12_len, le_len]), List.drop_append, List.drop_of_length_le (by simp [head12_len, le_len])]
    simp [head12_len, le_len]
  have HFIN := Lib.hid FIN
  clear FIN hpic
  generalize hcur : (head12 n len ++ (le 4 sm ++ List.replicate (L - 16) 0)).map bv = cur at *
  have hrow : w6.heap[g]? = some (.cells cur.toArray 5 (0, 0)) := by have := B6.out; unfold BRow Row at this; rw [hcur] at this; exact this
  have HP := Lib.hid hps
  have HB : Hid (Below w.heap.size w w6) := Lib.hid C6.out.to
  have HR := Lib.hid hrow
  have H1 := Lib.hid hcl6
  have H2 := Lib.hid hone
  clear hrow hps hcl6 hone hcur B6 V6 hl6 hpos
  go_wp2_with (with_reducible refine wpList_copy_splice rfl (.tmp 28) (.tmp 29) 31 31 rfl 5 Tryd.underlying31 (by kernel_rfl) (some ⟨g, 16, none⟩) A (L - 16) (L - 16) bs.length c rfl rfl g 16 cur 5 HR.out sp H1.out HP.out hfit H2.out w.heap.size w HB.out hgg ?_; intro w7 hg7 hb7)
  have G7 := Lib.hid hg7
  have B7 := Lib.hid hb7
  clear hg7 hb7
  go_wp2_with fail
  go_ret
  exact ⟨g, rfl, hgg, HFIN.out w7 G7.out, Keep.of_below B7.out _⟩

/-- A head is right just if its sum is. -/
theorem head16_iff (s b : List UInt8) (h : 16 ≤ s.length) : head16 (num (s.take 8)) (num ((s.take 12).drop 8)) b = s.take 16 ↔ num ((s.take 16).drop 12) = more 0 (s.take 12 ++ b) := by
  have e1 : le 8 (num (s.take 8)) = s.take 8 := by have := le_num (s.take 8); rwa [show (s.take 8).length = 8 by simp; omega] at this
  have e2 : le 4 (num ((s.take 12).drop 8)) = (s.take 12).drop 8 := by have := le_num ((s.take 12).drop 8); rwa [show ((s.take 12).drop 8).length = 4 by simp; omega] at this
  have e3 : le 4 (num ((s.take 16).drop 12)) = (s.take 16).drop 12 := by have := le_num ((s.take 16).drop 12); rwa [show ((s.take 16).drop 12).length = 4 by simp; omega] at this
  have e12 : s.take 8 ++ (s.take 12).drop 8 = s.take 12 := by
    have := List.take_append_drop 8 (s.take 12)
    rwa [List.take_take, show min 8 12 = 8 by decide] at this
  have e16 : s.take 12 ++ (s.take 16).drop 12 = s.take 16 := by
    have := List.take_append_drop 12 (s.take 16)
    rwa [List.take_take, show min 12 16 = 12 by decide] at this
  unfold head16 head12
  rw [e1, e2, e12]
  constructor
  · intro hh
    rw [← e16] at hh
    have := List.append_cancel_left hh
    rw [← this, num_le 4 _ (more_lt32 _ _)]
  · intro hh
    rw [← hh, e3, e16]
/-- A sector is a beginning. -/
def isBeg (s : List UInt8) : Bool := decide (1 ≤ num (s.take 8) ∧ num (s.take 8) ≤ 4611686018427387904 ∧ head16 (num (s.take 8)) 4294967295 [] = s.take 16)
theorem isBeg_iff (s : List UInt8) (h : 16 ≤ s.length) : (num ((s.take 12).drop 8) = 4294967295 ∧ num ((s.take 16).drop 12) = more 0 (s.take 12 ++ [])) ↔ head16 (num (s.take 8)) 4294967295 [] = s.take 16 := by
  constructor
  · rintro ⟨h1, h2⟩
    have := (head16_iff s [] h).2 h2
    rwa [h1] at this
  · intro hh
    have h8 : num ((s.take 12).drop 8) = 4294967295 := by
      have := congrArg (fun l => num ((l.take 12).drop 8)) hh
      rw [List.take_take, show min 12 16 = 12 by decide] at this
      have e := head16_len4 (num (s.take 8)) 4294967295 [] []
      rw [List.append_nil] at e
      rw [e, num_le 4 _ (by decide)] at this
      exact this.symm
    refine ⟨h8, (head16_iff s [] h).1 ?_⟩
    rw [h8]; exact hh

set_option maxHeartbeats 1600000 in
theorem isBeginning_c (g n cap : Nat) (bs : List UInt8) (w : World) (hT : Tab w) (h : Rd w (.slice (some ⟨g, 0, none⟩) n cap) bs) (hl : 16 ≤ bs.length) :
    Calls Tryd.prog 57 #[.slice (some ⟨g, 0, none⟩) n cap] w fun e w' => e = .returned (.bool (isBeg bs)) ∧ w = w' := by
  have Q1 := Lib.hid (number_c g n cap bs w h hl)
  have Q2 := Lib.hid (length_c g n cap bs w h hl)
  have Q3 := Lib.hid (told_c g n cap bs w h hl)
  have Q4 := Lib.hid (jsum_c g n cap bs (.slice none 0 0) [] w hT h hl (.inl ⟨rfl, rfl⟩))
  have hB := Lib.hid (isBeg_iff bs hl)
  have hD : Hid (isBeg bs = decide (1 ≤ num (bs.take 8) ∧ num (bs.take 8) ≤ 4611686018427387904 ∧ head16 (num (bs.take 8)) 4294967295 [] = bs.take 16)) := Lib.hid rfl
  have hn8 := num_lt64 (bs.take 8) (by simp; omega)
  generalize isBeg bs = R at *
  generalize num ((bs.take 12).drop 8) = b at *
  generalize num ((bs.take 16).drop 12) = c at *
  generalize more 0 (bs.take 12 ++ []) = d at *
  generalize head16 (num (bs.take 8)) 4294967295 [] = e1 at *
  generalize bs.take 16 = e2 at *
  generalize num (bs.take 8) = a at *
  clear h hT
  by_cases h1 : 1 ≤ a
  rotate_left
  · have e : R = false := by rw [hD.out]; exact decide_eq_false (fun x => h1 x.1)
    subst e
    have t1 : decide ((1 : Int) ≤ (a : Int)) = false := decide_eq_false (by omega)
    go_enter Tryd.func57, Tryd.ntmps57
    go_wp2_with (first | (refine Q1.out.mono ?_; rintro e w1 ⟨rfl, rfl⟩))
    go_ret
    exact ⟨rfl, rfl⟩
  have t1 : decide ((1 : Int) ≤ (a : Int)) = true := decide_eq_true (by omega)
  by_cases h2 : a ≤ 4611686018427387904
  rotate_left
  · have e : R = false := by rw [hD.out]; exact decide_eq_false (fun x => h2 x.2.1)
    subst e
    have t2 : decide ((a : Int) ≤ (4611686018427387904 : Int)) = false := decide_eq_false (by omega)
    go_enter Tryd.func57, Tryd.ntmps57
    go_wp2_with (first | (refine Q1.out.mono ?_; rintro e w1 ⟨rfl, rfl⟩))
    go_ret
    exact ⟨rfl, rfl⟩
  have t2 : decide ((a : Int) ≤ (4611686018427387904 : Int)) = true := decide_eq_true (by omega)
  by_cases h3 : b = 4294967295
  rotate_left
  · have e : R = false := by rw [hD.out]; exact decide_eq_false (fun x => h3 (hB.out.2 x.2.2).1)
    subst e
    have t3 : ((b : Int) == (4294967295 : Int)) = false := by rw [beq_eq_false_iff_ne]; omega
    go_enter Tryd.func57, Tryd.ntmps57
    go_wp2_with (first | (refine Q1.out.mono ?_; rintro e w1 ⟨rfl, rfl⟩) | (refine Q2.out.mono ?_; rintro e w1 ⟨rfl, rfl⟩))
    go_ret
    exact ⟨rfl, rfl⟩
  have t3 : ((b : Int) == (4294967295 : Int)) = true := by rw [beq_iff_eq]; omega
  by_cases h4 : c = d
  · have e : R = true := by rw [hD.out]; exact decide_eq_true ⟨h1, h2, hB.out.1 ⟨h3, h4⟩⟩
    subst e
    have t4 : ((c : Int) == (d : Int)) = true := by rw [beq_iff_eq]; omega
    clear h3 h4
    go_enter Tryd.func57, Tryd.ntmps57
    go_wp2_with (first | (refine Q1.out.mono ?_; rintro e w1 ⟨rfl, rfl⟩) | (refine Q2.out.mono ?_; rintro e w1 ⟨rfl, rfl⟩) | (refine Q3.out.mono ?_; rintro e w1 ⟨rfl, rfl⟩) | (refine Q4.out.mono ?_; rintro e w1 ⟨rfl, rfl⟩))
    go_ret
    exact ⟨rfl, rfl⟩
  · have e : R = false := by rw [hD.out]; exact decide_eq_false (fun x => h4 (hB.out.2 x.2.2).2)
    subst e
    have t4 : ((c : Int) == (d : Int)) = false := by rw [beq_eq_false_iff_ne]; omega
    clear h3
    go_enter Tryd.func57, Tryd.ntmps57
    go_wp2_with (first | (refine Q1.out.mono ?_; rintro e w1 ⟨rfl, rfl⟩) | (refine Q2.out.mono ?_; rintro e w1 ⟨rfl, rfl⟩) | (refine Q3.out.mono ?_; rintro e w1 ⟨rfl, rfl⟩) | (refine Q4.out.mono ?_; rintro e w1 ⟨rfl, rfl⟩))
    go_ret
    exact ⟨rfl, rfl⟩
end Go.Proofs.YtfigiofiakkbdaaDoor
