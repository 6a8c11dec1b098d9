/-
  Package span: Do.
-/
import Derived.Test.YtboiakahhkihiaaN5b
namespace Go.Proofs.Ytboiakahhkihiaa
open Go.RowKit
set_option linter.all false

def doS (wide : Bool) (op : Nat) (s t : Sp) : Sp :=
  if isO op = true ∧ (cutS wide s).lo = (cutS wide s).hi ∧ (cutS wide t).lo = (cutS wide t).hi then ⟨D (bW wide) op (cutS wide s).lo (cutS wide t).lo, D (bW wide) op (cutS wide s).lo (cutS wide t).lo⟩
  else cutS wide (madeS (bW wide) op (cutS wide s) (cutS wide t))
theorem Sp.Ok.low {s : Sp} (h : s.Ok) : (lowS s).Ok := by
  unfold lowS
  split
  · exact ⟨by decide, by decide⟩
  · exact h

set_option maxHeartbeats 3200000 in
theorem pdo64_c {s t : Sp} {op : Nat} (hs : s.Ok) (ht : t.Ok) (w : World) : Calls Try.prog 14 #[.int .u8 (op : Int), .bool true, .agg #[.int .u64 (s.lo : Int), .int .u64 (s.hi : Int)], .agg #[.int .u64 (t.lo : Int), .int .u64 (t.hi : Int)]] w fun x w' => x = .returned (.agg #[.int .u64 ((doS true op s t).lo : Int), .int .u64 ((doS true op s t).hi : Int)]) ∧ Calm w w' := by
  obtain ⟨s', es⟩ : ∃ s', s' = s := ⟨_, rfl⟩
  obtain ⟨t', et⟩ : ∃ t', t' = t := ⟨_, rfl⟩
  have KS : Hid (∀ w, Calls Try.prog 31 #[.agg #[.int .u64 (s.lo : Int), .int .u64 (s.hi : Int)]] w fun x w' => x = .returned (.agg #[.int .u64 ((s').lo : Int), .int .u64 ((s').hi : Int)]) ∧ Calm w w') := Lib.hid fun w => by rw [es]; exact pdo1_c s w
  have KT : Hid (∀ w, Calls Try.prog 31 #[.agg #[.int .u64 (t.lo : Int), .int .u64 (t.hi : Int)]] w fun x w' => x = .returned (.agg #[.int .u64 ((t').lo : Int), .int .u64 ((t').hi : Int)]) ∧ Calm w w') := Lib.hid fun w => by rw [et]; exact pdo1_c t w
  have hs' : s'.Ok := by rw [es]; exact hs
  have ht' : t'.Ok := by rw [et]; exact ht
  obtain ⟨r, er⟩ : ∃ r, r = doS true op s t := ⟨_, rfl⟩
  rw [← er]
  obtain ⟨m, em⟩ : ∃ m, m = madeS 64 op s' t' := ⟨_, rfl⟩
  have KM : Hid (∀ w, Calls Try.prog 33 #[.int .u8 (op : Int), .int .u64 64, .agg #[.int .u64 ((s').lo : Int), .int .u64 ((s').hi : Int)], .agg #[.int .u64 ((t').lo : Int), .int .u64 ((t').hi : Int)]] w fun x w' => x = .returned (.agg #[.int .u64 (m.lo : Int), .int .u64 (m.hi : Int)]) ∧ Calm w w') := Lib.hid fun w => by rw [em]; exact pmade64_c w hs' ht'
  have KC : Hid (∀ w, Calls Try.prog 31 #[.agg #[.int .u64 (m.lo : Int), .int .u64 (m.hi : Int)]] w fun x w' => x = .returned (.agg #[.int .u64 (m.lo : Int), .int .u64 (m.hi : Int)]) ∧ Calm w w') := Lib.hid fun w => pdo1_c m w
  obtain ⟨d, ed⟩ : ∃ d, d = D 64 op s'.lo t'.lo := ⟨_, rfl⟩
  obtain ⟨q, eq⟩ : ∃ q, q = isO op := ⟨_, rfl⟩
  have KD : Hid (∀ w, Calls Try.prog 27 #[.int .u8 (op : Int), .bool true, .int .u64 (s'.lo : Int), .int .u64 (t'.lo : Int)] w fun x w' => x = .returned (.tuple #[.int .u64 (d : Int), .bool q]) ∧ Calm w w') := Lib.hid fun w => by rw [ed, eq]; exact do_c true w hs'.l ht'.l
  have ER : Hid (r = if q = true ∧ s'.lo = s'.hi ∧ t'.lo = t'.hi then ⟨d, d⟩ else m) := Lib.hid (by rw [er, ed, em, es, et, eq]; rfl)
  have HS : Hid (True) := Lib.hid trivial
  clear hs ht hs' ht' es et er em ed eq
  go_enter Try.func14, Try.ntmps14
  go_upto_region 4 with fail
  have F := Lib.hid (F3.made w s t (.int .u64 0) (.int .u64 0))
  obtain ⟨w1, hw1⟩ : ∃ w1, w1 = ((w.alloc (.cells #[.int .u64 (s.lo : Int), .int .u64 (s.hi : Int)] 27)).alloc (.cells #[.int .u64 (t.lo : Int), .int .u64 (t.hi : Int)] 27)).alloc (.cells #[.int .u64 0, .int .u64 0] 27) := ⟨_, rfl⟩
  rw [← hw1] at F ⊢
  clear hw1
  obtain ⟨g0, h0⟩ : ∃ g, g = w.heap.size := ⟨_, rfl⟩
  rw [← h0] at F ⊢
  obtain ⟨g1, h1⟩ : ∃ g, g = g0 + 1 := ⟨_, rfl⟩
  rw [← h1] at F ⊢
  obtain ⟨g2, h2⟩ : ∃ g, g = g1 + 1 := ⟨_, rfl⟩
  rw [← h2] at F ⊢
  clear h0 h1 h2
  go_cut [] (fun wc => F3 w wc g0 g1 g2 s' t')
  case first =>
    have FW := F.out.drew
    obtain ⟨a1, a2, a3, a4⟩ := FW.s.two
    obtain ⟨b1, b2, b3, b4⟩ := FW.t.two
    refine wp_region_noPanic ?_
    refine wp_region_held_drew (S := fun _ => True) (by kernel_rfl) trivial (fun hHeld => ?_)
    refine take_at 0 15 (.func (.func 31) #[] #[]) rfl rfl (by kernel_rfl) (by kernel_rfl) (by kernel_rfl) (fun _ _ _ h => h) (Or.inl ⟨by rfl, ?_⟩) hHeld ?_
    · intro w hSw; go_simp
    simp only [List.setIfInBounds_toArray, List.set_cons_zero, List.set_cons_succ]
    refine take_at 3 18 (.func (.func 31) #[] #[]) rfl rfl (by kernel_rfl) (by kernel_rfl) (by kernel_rfl) (fun _ _ _ h => h) (Or.inl ⟨by rfl, ?_⟩) hHeld ?_
    · intro w hSw; go_simp
    simp only [List.setIfInBounds_toArray, List.set_cons_zero, List.set_cons_succ]
    refine wpAnyH_ready (rs := [1, 4]) (by kernel_rfl) (by simp) ?_
    refine AllReadyH.cons rfl (fun K hK => ?_) ?_
    · go_simp
      refine hK.out _ _ trivial (fun hHeld => ?_)
      clear hK K
      try simp only [List.setIfInBounds_toArray, List.set_cons_zero, List.set_cons_succ]
      refine wpAnyH_ready (rs := [2, 4]) (by kernel_rfl) (by simp) ?_
      refine AllReadyH.cons rfl (fun K hK => ?_) ?_
      · go_simp
        refine (KS.out _).mono ?_
        rintro e w3 ⟨rfl, hc⟩
        replace FW := FW.calm hc
        clear hc a1 a2 a3 a4 b1 b2 b3 b4
        obtain ⟨a1, a2, a3, a4⟩ := FW.s.two
        obtain ⟨b1, b2, b3, b4⟩ := FW.t.two
        refine hK.out _ _ trivial (fun hHeld => ?_)
        clear hK K
        try simp only [List.setIfInBounds_toArray, List.set_cons_zero, List.set_cons_succ]
        refine wpAnyH_ready (rs := [4]) (by kernel_rfl) (by simp) ?_
        refine AllReadyH.cons rfl (fun K hK => ?_) AllReadyH.nil
        go_simp
        refine hK.out _ _ trivial (fun hHeld => ?_)
        clear hK K
        try simp only [List.setIfInBounds_toArray, List.set_cons_zero, List.set_cons_succ]
        refine wpAnyH_ready (rs := [5]) (by kernel_rfl) (by simp) ?_
        refine AllReadyH.cons rfl (fun K hK => ?_) AllReadyH.nil
        go_simp
        refine (KT.out _).mono ?_
        rintro e w4 ⟨rfl, hc⟩
        replace FW := FW.calm hc
        clear hc a1 a2 a3 a4 b1 b2 b3 b4
        obtain ⟨a1, a2, a3, a4⟩ := FW.s.two
        obtain ⟨b1, b2, b3, b4⟩ := FW.t.two
        refine hK.out _ _ trivial (fun hHeld => ?_)
        clear hK K
        try simp only [List.setIfInBounds_toArray, List.set_cons_zero, List.set_cons_succ]
        refine wpAnyH_ready (rs := [6]) (by kernel_rfl) (by simp) ?_
        refine AllReadyH.cons rfl (fun K hK => ?_) AllReadyH.nil
        go_simp
        refine hK.out _ _ trivial (fun hHeld => ?_)
        clear hK K
        try simp only [List.setIfInBounds_toArray, List.set_cons_zero, List.set_cons_succ]
        replace FW := FW.set0 s'
        obtain ⟨w5, h5⟩ : ∃ w5, w5 = (w4.setCell ⟨g0, 0, none⟩ (.int .u64 (s'.lo : Int))).setCell ⟨g0, 1, none⟩ (.int .u64 (s'.hi : Int)) := ⟨_, rfl⟩
        rw [← h5] at FW ⊢
        clear h5 a1 a2 a3 a4 b1 b2 b3 b4
        obtain ⟨a1, a2, a3, a4⟩ := FW.s.two
        obtain ⟨b1, b2, b3, b4⟩ := FW.t.two
        refine wpAnyH_ready (rs := [7]) (by kernel_rfl) (by simp) ?_
        refine AllReadyH.cons rfl (fun K hK => ?_) AllReadyH.nil
        go_simp
        refine hK.out _ _ trivial (fun hHeld => ?_)
        clear hK K
        try simp only [List.setIfInBounds_toArray, List.set_cons_zero, List.set_cons_succ]
        refine wpAnyH_done (by kernel_rfl) (NoPanic.normal ?_) _
        go_wp2_with fail
        go_meet
        exact FW.set1 t'
      refine AllReadyH.cons rfl (fun K hK => ?_) ?_
      · go_simp
        refine hK.out _ _ trivial (fun hHeld => ?_)
        clear hK K
        try simp only [List.setIfInBounds_toArray, List.set_cons_zero, List.set_cons_succ]
        refine wpAnyH_ready (rs := [2]) (by kernel_rfl) (by simp) ?_
        refine AllReadyH.cons rfl (fun K hK => ?_) AllReadyH.nil
        go_simp
        refine (KS.out _).mono ?_
        rintro e w3 ⟨rfl, hc⟩
        replace FW := FW.calm hc
        clear hc a1 a2 a3 a4 b1 b2 b3 b4
        obtain ⟨a1, a2, a3, a4⟩ := FW.s.two
        obtain ⟨b1, b2, b3, b4⟩ := FW.t.two
        refine hK.out _ _ trivial (fun hHeld => ?_)
        clear hK K
        try simp only [List.setIfInBounds_toArray, List.set_cons_zero, List.set_cons_succ]
        refine wpAnyH_ready (rs := [5]) (by kernel_rfl) (by simp) ?_
        refine AllReadyH.cons rfl (fun K hK => ?_) AllReadyH.nil
        go_simp
        refine (KT.out _).mono ?_
        rintro e w4 ⟨rfl, hc⟩
        replace FW := FW.calm hc
        clear hc a1 a2 a3 a4 b1 b2 b3 b4
        obtain ⟨a1, a2, a3, a4⟩ := FW.s.two
        obtain ⟨b1, b2, b3, b4⟩ := FW.t.two
        refine hK.out _ _ trivial (fun hHeld => ?_)
        clear hK K
        try simp only [List.setIfInBounds_toArray, List.set_cons_zero, List.set_cons_succ]
        refine wpAnyH_ready (rs := [6]) (by kernel_rfl) (by simp) ?_
        refine AllReadyH.cons rfl (fun K hK => ?_) AllReadyH.nil
        go_simp
        refine hK.out _ _ trivial (fun hHeld => ?_)
        clear hK K
        try simp only [List.setIfInBounds_toArray, List.set_cons_zero, List.set_cons_succ]
        replace FW := FW.set0 s'
        obtain ⟨w5, h5⟩ : ∃ w5, w5 = (w4.setCell ⟨g0, 0, none⟩ (.int .u64 (s'.lo : Int))).setCell ⟨g0, 1, none⟩ (.int .u64 (s'.hi : Int)) := ⟨_, rfl⟩
        rw [← h5] at FW ⊢
        clear h5 a1 a2 a3 a4 b1 b2 b3 b4
        obtain ⟨a1, a2, a3, a4⟩ := FW.s.two
        obtain ⟨b1, b2, b3, b4⟩ := FW.t.two
        refine wpAnyH_ready (rs := [7]) (by kernel_rfl) (by simp) ?_
        refine AllReadyH.cons rfl (fun K hK => ?_) AllReadyH.nil
        go_simp
        refine hK.out _ _ trivial (fun hHeld => ?_)
        clear hK K
        try simp only [List.setIfInBounds_toArray, List.set_cons_zero, List.set_cons_succ]
        refine wpAnyH_done (by kernel_rfl) (NoPanic.normal ?_) _
        go_wp2_with fail
        go_meet
        exact FW.set1 t'
      exact AllReadyH.nil
    refine AllReadyH.cons rfl (fun K hK => ?_) ?_
    · go_simp
      refine hK.out _ _ trivial (fun hHeld => ?_)
      clear hK K
      try simp only [List.setIfInBounds_toArray, List.set_cons_zero, List.set_cons_succ]
      refine wpAnyH_ready (rs := [1]) (by kernel_rfl) (by simp) ?_
      refine AllReadyH.cons rfl (fun K hK => ?_) AllReadyH.nil
      go_simp
      refine hK.out _ _ trivial (fun hHeld => ?_)
      clear hK K
      try simp only [List.setIfInBounds_toArray, List.set_cons_zero, List.set_cons_succ]
      refine wpAnyH_ready (rs := [2]) (by kernel_rfl) (by simp) ?_
      refine AllReadyH.cons rfl (fun K hK => ?_) AllReadyH.nil
      go_simp
      refine (KS.out _).mono ?_
      rintro e w3 ⟨rfl, hc⟩
      replace FW := FW.calm hc
      clear hc a1 a2 a3 a4 b1 b2 b3 b4
      obtain ⟨a1, a2, a3, a4⟩ := FW.s.two
      obtain ⟨b1, b2, b3, b4⟩ := FW.t.two
      refine hK.out _ _ trivial (fun hHeld => ?_)
      clear hK K
      try simp only [List.setIfInBounds_toArray, List.set_cons_zero, List.set_cons_succ]
      refine wpAnyH_ready (rs := [5]) (by kernel_rfl) (by simp) ?_
      refine AllReadyH.cons rfl (fun K hK => ?_) AllReadyH.nil
      go_simp
      refine (KT.out _).mono ?_
      rintro e w4 ⟨rfl, hc⟩
      replace FW := FW.calm hc
      clear hc a1 a2 a3 a4 b1 b2 b3 b4
      obtain ⟨a1, a2, a3, a4⟩ := FW.s.two
      obtain ⟨b1, b2, b3, b4⟩ := FW.t.two
      refine hK.out _ _ trivial (fun hHeld => ?_)
      clear hK K
      try simp only [List.setIfInBounds_toArray, List.set_cons_zero, List.set_cons_succ]
      refine wpAnyH_ready (rs := [6]) (by kernel_rfl) (by simp) ?_
      refine AllReadyH.cons rfl (fun K hK => ?_) AllReadyH.nil
      go_simp
      refine hK.out _ _ trivial (fun hHeld => ?_)
      clear hK K
      try simp only [List.setIfInBounds_toArray, List.set_cons_zero, List.set_cons_succ]
      replace FW := FW.set0 s'
      obtain ⟨w5, h5⟩ : ∃ w5, w5 = (w4.setCell ⟨g0, 0, none⟩ (.int .u64 (s'.lo : Int))).setCell ⟨g0, 1, none⟩ (.int .u64 (s'.hi : Int)) := ⟨_, rfl⟩
      rw [← h5] at FW ⊢
      clear h5 a1 a2 a3 a4 b1 b2 b3 b4
      obtain ⟨a1, a2, a3, a4⟩ := FW.s.two
      obtain ⟨b1, b2, b3, b4⟩ := FW.t.two
      refine wpAnyH_ready (rs := [7]) (by kernel_rfl) (by simp) ?_
      refine AllReadyH.cons rfl (fun K hK => ?_) AllReadyH.nil
      go_simp
      refine hK.out _ _ trivial (fun hHeld => ?_)
      clear hK K
      try simp only [List.setIfInBounds_toArray, List.set_cons_zero, List.set_cons_succ]
      refine wpAnyH_done (by kernel_rfl) (NoPanic.normal ?_) _
      go_wp2_with fail
      go_meet
      exact FW.set1 t'
    exact AllReadyH.nil
  case rest =>
    have FC := Lib.hid hcut
    clear hcut
    obtain ⟨a1, a2, a3, a4⟩ := FC.out.s.two
    obtain ⟨b1, b2, b3, b4⟩ := FC.out.t.two
    go_wp2_with fail
    refine (KD.out _).mono ?_
    rintro x w6 ⟨rfl, hc⟩
    replace FC := Lib.hid (FC.out.calm hc)
    clear hc a1 a2 a3 a4 b1 b2 b3 b4
    obtain ⟨a1, a2, a3, a4⟩ := FC.out.s.two
    obtain ⟨b1, b2, b3, b4⟩ := FC.out.t.two
    cases q with
    | false =>
      have h1 : True := trivial
      have h2 : True := trivial
      have h3 : True := trivial
      go_wp2_with fail
      refine (KM.out _).mono ?_
      rintro x w8 ⟨rfl, hc⟩
      replace FC := Lib.hid (FC.out.calm hc)
      clear hc
      clear a1 a2 a3 a4 b1 b2 b3 b4
      obtain ⟨a1, a2, a3, a4⟩ := FC.out.s.two
      obtain ⟨b1, b2, b3, b4⟩ := FC.out.t.two
      go_wp2_with fail
      refine (KC.out _).mono ?_
      rintro x w9 ⟨rfl, hc⟩
      replace FC := Lib.hid (FC.out.calm hc)
      clear hc
      clear a1 a2 a3 a4 b1 b2 b3 b4
      obtain ⟨a1, a2, a3, a4⟩ := FC.out.s.two
      obtain ⟨b1, b2, b3, b4⟩ := FC.out.t.two
      obtain ⟨x, y, ho⟩ := FC.out.o
      obtain ⟨c1, c2, c3, c4⟩ := ho.two
      go_wp2_with fail
      replace FC := Lib.hid (FC.out.put (.int .u64 (m.lo : Int)) (.int .u64 (m.hi : Int)))
      have hR := ho.both (x := .int .u64 (m.lo : Int)) (y := .int .u64 (m.hi : Int))
      obtain ⟨w5, h5⟩ : ∃ w5, w5 = (w9.setCell ⟨g2, 0, none⟩ (.int .u64 (m.lo : Int))).setCell ⟨g2, 1, none⟩ (.int .u64 (m.hi : Int)) := ⟨_, rfl⟩
      rw [← h5] at hR FC ⊢
      have z := hR.two
      clear h5 hR ho
      refine bodyPost_ret (by simp [results, Try.results14, go_sem, z.1, z.2.1]; try rfl) rfl ?_
      refine ⟨?_, FC.out.cal⟩
      rw [ER.out]
      simp only [h1, h2, h3, and_true, and_false, true_and, false_and, if_true, if_false, reduceIte, Bool.false_eq_true]
    | true =>
      by_cases h2 : s'.lo = s'.hi
      · have h1 : True := trivial
        have K1 : Hid (∀ w, Calls Try.prog 32 #[.agg #[.int .u64 ((s').lo : Int), .int .u64 ((s').hi : Int)]] w fun x w' => x = .returned (.bool true) ∧ w' = w.alloc (.cells #[.int .u64 (s'.lo : Int), .int .u64 (s'.hi : Int)] 27)) := Lib.hid fun w => by
          have k := pisone_c s'.lo s'.hi w
          rw [decide_eq_true h2] at k
          exact k
        by_cases h3 : t'.lo = t'.hi
        · have K2 : Hid (∀ w, Calls Try.prog 32 #[.agg #[.int .u64 ((t').lo : Int), .int .u64 ((t').hi : Int)]] w fun x w' => x = .returned (.bool true) ∧ w' = w.alloc (.cells #[.int .u64 (t'.lo : Int), .int .u64 (t'.hi : Int)] 27)) := Lib.hid fun w => by
            have k := pisone_c t'.lo t'.hi w
            rw [decide_eq_true h3] at k
            exact k
          have H2 := Lib.hid h2
          have H3 := Lib.hid h3
          clear h2 h3
          go_wp2_with fail
          refine (K1.out _).mono ?_
          rintro x w7 ⟨rfl, hw⟩
          replace FC := Lib.hid (FC.out.calm (hw ▸ (Keep.refl _ _).alloc _))
          clear hw
          clear a1 a2 a3 a4 b1 b2 b3 b4
          obtain ⟨a1, a2, a3, a4⟩ := FC.out.s.two
          obtain ⟨b1, b2, b3, b4⟩ := FC.out.t.two
          go_wp2_with fail
          refine (K2.out _).mono ?_
          rintro x w8 ⟨rfl, hw⟩
          replace FC := Lib.hid (FC.out.calm (hw ▸ (Keep.refl _ _).alloc _))
          clear hw
          clear a1 a2 a3 a4 b1 b2 b3 b4
          obtain ⟨a1, a2, a3, a4⟩ := FC.out.s.two
          obtain ⟨b1, b2, b3, b4⟩ := FC.out.t.two
          go_wp2_with fail
          refine (pone_c _ _).mono ?_
          rintro x w9 ⟨rfl, hw⟩
          replace FC := Lib.hid (FC.out.calm (hw ▸ (Keep.refl _ _).alloc _))
          clear hw
          clear a1 a2 a3 a4 b1 b2 b3 b4
          obtain ⟨a1, a2, a3, a4⟩ := FC.out.s.two
          obtain ⟨b1, b2, b3, b4⟩ := FC.out.t.two
          obtain ⟨x, y, ho⟩ := FC.out.o
          obtain ⟨c1, c2, c3, c4⟩ := ho.two
          go_wp2_with fail
          have h2 := H2.out
          have h3 := H3.out
          replace FC := Lib.hid (FC.out.put (.int .u64 (d : Int)) (.int .u64 (d : Int)))
          have hR := ho.both (x := .int .u64 (d : Int)) (y := .int .u64 (d : Int))
          obtain ⟨w5, h5⟩ : ∃ w5, w5 = (w9.setCell ⟨g2, 0, none⟩ (.int .u64 (d : Int))).setCell ⟨g2, 1, none⟩ (.int .u64 (d : Int)) := ⟨_, rfl⟩
          rw [← h5] at hR FC ⊢
          have z := hR.two
          clear h5 hR ho
          refine bodyPost_ret (by simp [results, Try.results14, go_sem, z.1, z.2.1]; try rfl) rfl ?_
          refine ⟨?_, FC.out.cal⟩
          rw [ER.out]
          simp only [h1, h2, h3, and_true, and_false, true_and, false_and, if_true, if_false, reduceIte, Bool.false_eq_true]
        · have K2 : Hid (∀ w, Calls Try.prog 32 #[.agg #[.int .u64 ((t').lo : Int), .int .u64 ((t').hi : Int)]] w fun x w' => x = .returned (.bool false) ∧ w' = w.alloc (.cells #[.int .u64 (t'.lo : Int), .int .u64 (t'.hi : Int)] 27)) := Lib.hid fun w => by
            have k := pisone_c t'.lo t'.hi w
            rw [decide_eq_false h3] at k
            exact k
          have H2 := Lib.hid h2
          have H3 := Lib.hid h3
          clear h2 h3
          go_wp2_with fail
          refine (K1.out _).mono ?_
          rintro x w7 ⟨rfl, hw⟩
          replace FC := Lib.hid (FC.out.calm (hw ▸ (Keep.refl _ _).alloc _))
          clear hw
          clear a1 a2 a3 a4 b1 b2 b3 b4
          obtain ⟨a1, a2, a3, a4⟩ := FC.out.s.two
          obtain ⟨b1, b2, b3, b4⟩ := FC.out.t.two
          go_wp2_with fail
          refine (K2.out _).mono ?_
          rintro x w72 ⟨rfl, hw⟩
          replace FC := Lib.hid (FC.out.calm (hw ▸ (Keep.refl _ _).alloc _))
          clear hw
          clear a1 a2 a3 a4 b1 b2 b3 b4
          obtain ⟨a1, a2, a3, a4⟩ := FC.out.s.two
          obtain ⟨b1, b2, b3, b4⟩ := FC.out.t.two
          go_wp2_with fail
          have h2 := H2.out
          have h3 := H3.out
          refine (KM.out _).mono ?_
          rintro x w8 ⟨rfl, hc⟩
          replace FC := Lib.hid (FC.out.calm hc)
          clear hc
          clear a1 a2 a3 a4 b1 b2 b3 b4
          obtain ⟨a1, a2, a3, a4⟩ := FC.out.s.two
          obtain ⟨b1, b2, b3, b4⟩ := FC.out.t.two
          go_wp2_with fail
          refine (KC.out _).mono ?_
          rintro x w9 ⟨rfl, hc⟩
          replace FC := Lib.hid (FC.out.calm hc)
          clear hc
          clear a1 a2 a3 a4 b1 b2 b3 b4
          obtain ⟨a1, a2, a3, a4⟩ := FC.out.s.two
          obtain ⟨b1, b2, b3, b4⟩ := FC.out.t.two
          obtain ⟨x, y, ho⟩ := FC.out.o
          obtain ⟨c1, c2, c3, c4⟩ := ho.two
          go_wp2_with fail
          replace FC := Lib.hid (FC.out.put (.int .u64 (m.lo : Int)) (.int .u64 (m.hi : Int)))
          have hR := ho.both (x := .int .u64 (m.lo : Int)) (y := .int .u64 (m.hi : Int))
          obtain ⟨w5, h5⟩ : ∃ w5, w5 = (w9.setCell ⟨g2, 0, none⟩ (.int .u64 (m.lo : Int))).setCell ⟨g2, 1, none⟩ (.int .u64 (m.hi : Int)) := ⟨_, rfl⟩
          rw [← h5] at hR FC ⊢
          have z := hR.two
          clear h5 hR ho
          refine bodyPost_ret (by simp [results, Try.results14, go_sem, z.1, z.2.1]; try rfl) rfl ?_
          refine ⟨?_, FC.out.cal⟩
          rw [ER.out]
          simp only [h1, h2, h3, and_true, and_false, true_and, false_and, if_true, if_false, reduceIte, Bool.false_eq_true]
      · have h1 : True := trivial
        have h3 : True := trivial
        have K1 : Hid (∀ w, Calls Try.prog 32 #[.agg #[.int .u64 ((s').lo : Int), .int .u64 ((s').hi : Int)]] w fun x w' => x = .returned (.bool false) ∧ w' = w.alloc (.cells #[.int .u64 (s'.lo : Int), .int .u64 (s'.hi : Int)] 27)) := Lib.hid fun w => by
          have k := pisone_c s'.lo s'.hi w
          rw [decide_eq_false h2] at k
          exact k
        have H2 := Lib.hid h2
        clear h2
        go_wp2_with fail
        refine (K1.out _).mono ?_
        rintro x w7 ⟨rfl, hw⟩
        replace FC := Lib.hid (FC.out.calm (hw ▸ (Keep.refl _ _).alloc _))
        clear hw
        clear a1 a2 a3 a4 b1 b2 b3 b4
        obtain ⟨a1, a2, a3, a4⟩ := FC.out.s.two
        obtain ⟨b1, b2, b3, b4⟩ := FC.out.t.two
        go_wp2_with fail
        have h2 := H2.out
        refine (KM.out _).mono ?_
        rintro x w8 ⟨rfl, hc⟩
        replace FC := Lib.hid (FC.out.calm hc)
        clear hc
        clear a1 a2 a3 a4 b1 b2 b3 b4
        obtain ⟨a1, a2, a3, a4⟩ := FC.out.s.two
        obtain ⟨b1, b2, b3, b4⟩ := FC.out.t.two
        go_wp2_with fail
        refine (KC.out _).mono ?_
        rintro x w9 ⟨rfl, hc⟩
        replace FC := Lib.hid (FC.out.calm hc)
        clear hc
        clear a1 a2 a3 a4 b1 b2 b3 b4
        obtain ⟨a1, a2, a3, a4⟩ := FC.out.s.two
        obtain ⟨b1, b2, b3, b4⟩ := FC.out.t.two
        obtain ⟨x, y, ho⟩ := FC.out.o
        obtain ⟨c1, c2, c3, c4⟩ := ho.two
        go_wp2_with fail
        replace FC := Lib.hid (FC.out.put (.int .u64 (m.lo : Int)) (.int .u64 (m.hi : Int)))
        have hR := ho.both (x := .int .u64 (m.lo : Int)) (y := .int .u64 (m.hi : Int))
        obtain ⟨w5, h5⟩ : ∃ w5, w5 = (w9.setCell ⟨g2, 0, none⟩ (.int .u64 (m.lo : Int))).setCell ⟨g2, 1, none⟩ (.int .u64 (m.hi : Int)) := ⟨_, rfl⟩
        rw [← h5] at hR FC ⊢
        have z := hR.two
        clear h5 hR ho
        refine bodyPost_ret (by simp [results, Try.results14, go_sem, z.1, z.2.1]; try rfl) rfl ?_
        refine ⟨?_, FC.out.cal⟩
        rw [ER.out]
        simp only [h1, h2, h3, and_true, and_false, true_and, false_and, if_true, if_false, reduceIte, Bool.false_eq_true]
set_option maxHeartbeats 3200000 in
theorem pdo32_c {s t : Sp} {op : Nat} (hs : s.Ok) (ht : t.Ok) (w : World) : Calls Try.prog 14 #[.int .u8 (op : Int), .bool false, .agg #[.int .u64 (s.lo : Int), .int .u64 (s.hi : Int)], .agg #[.int .u64 (t.lo : Int), .int .u64 (t.hi : Int)]] w fun x w' => x = .returned (.agg #[.int .u64 ((doS false op s t).lo : Int), .int .u64 ((doS false op s t).hi : Int)]) ∧ Calm w w' := by
  obtain ⟨s', es⟩ : ∃ s', s' = lowS s := ⟨_, rfl⟩
  obtain ⟨t', et⟩ : ∃ t', t' = lowS t := ⟨_, rfl⟩
  have KS : Hid (∀ w, Calls Try.prog 23 #[.agg #[.int .u64 (s.lo : Int), .int .u64 (s.hi : Int)]] w fun x w' => x = .returned (.agg #[.int .u64 ((s').lo : Int), .int .u64 ((s').hi : Int)]) ∧ Calm w w') := Lib.hid fun w => by rw [es]; exact plow_c s w
  have KT : Hid (∀ w, Calls Try.prog 23 #[.agg #[.int .u64 (t.lo : Int), .int .u64 (t.hi : Int)]] w fun x w' => x = .returned (.agg #[.int .u64 ((t').lo : Int), .int .u64 ((t').hi : Int)]) ∧ Calm w w') := Lib.hid fun w => by rw [et]; exact plow_c t w
  have hs' : s'.Ok := by rw [es]; exact hs.low
  have ht' : t'.Ok := by rw [et]; exact ht.low
  obtain ⟨r, er⟩ : ∃ r, r = doS false op s t := ⟨_, rfl⟩
  rw [← er]
  obtain ⟨m, em⟩ : ∃ m, m = madeS 32 op s' t' := ⟨_, rfl⟩
  have KM : Hid (∀ w, Calls Try.prog 33 #[.int .u8 (op : Int), .int .u64 32, .agg #[.int .u64 ((s').lo : Int), .int .u64 ((s').hi : Int)], .agg #[.int .u64 ((t').lo : Int), .int .u64 ((t').hi : Int)]] w fun x w' => x = .returned (.agg #[.int .u64 (m.lo : Int), .int .u64 (m.hi : Int)]) ∧ Calm w w') := Lib.hid fun w => by rw [em]; exact pmade32_c w hs' ht'
  have KC : Hid (∀ w, Calls Try.prog 23 #[.agg #[.int .u64 (m.lo : Int), .int .u64 (m.hi : Int)]] w fun x w' => x = .returned (.agg #[.int .u64 ((lowS m).lo : Int), .int .u64 ((lowS m).hi : Int)]) ∧ Calm w w') := Lib.hid fun w => plow_c m w
  obtain ⟨d, ed⟩ : ∃ d, d = D 32 op s'.lo t'.lo := ⟨_, rfl⟩
  obtain ⟨q, eq⟩ : ∃ q, q = isO op := ⟨_, rfl⟩
  have KD : Hid (∀ w, Calls Try.prog 27 #[.int .u8 (op : Int), .bool false, .int .u64 (s'.lo : Int), .int .u64 (t'.lo : Int)] w fun x w' => x = .returned (.tuple #[.int .u64 (d : Int), .bool q]) ∧ Calm w w') := Lib.hid fun w => by rw [ed, eq]; exact do_c false w hs'.l ht'.l
  have ER : Hid (r = if q = true ∧ s'.lo = s'.hi ∧ t'.lo = t'.hi then ⟨d, d⟩ else lowS m) := Lib.hid (by rw [er, ed, em, es, et, eq]; rfl)
  have HS : Hid (True) := Lib.hid trivial
  clear hs ht hs' ht' es et er em ed eq
  go_enter Try.func14, Try.ntmps14
  go_upto_region 4 with fail
  have F := Lib.hid (F3.made w s t (.int .u64 0) (.int .u64 0))
  obtain ⟨w1, hw1⟩ : ∃ w1, w1 = ((w.alloc (.cells #[.int .u64 (s.lo : Int), .int .u64 (s.hi : Int)] 27)).alloc (.cells #[.int .u64 (t.lo : Int), .int .u64 (t.hi : Int)] 27)).alloc (.cells #[.int .u64 0, .int .u64 0] 27) := ⟨_, rfl⟩
  rw [← hw1] at F ⊢
  clear hw1
  obtain ⟨g0, h0⟩ : ∃ g, g = w.heap.size := ⟨_, rfl⟩
  rw [← h0] at F ⊢
  obtain ⟨g1, h1⟩ : ∃ g, g = g0 + 1 := ⟨_, rfl⟩
  rw [← h1] at F ⊢
  obtain ⟨g2, h2⟩ : ∃ g, g = g1 + 1 := ⟨_, rfl⟩
  rw [← h2] at F ⊢
  clear h0 h1 h2
  go_cut [] (fun wc => F3 w wc g0 g1 g2 s' t')
  case first =>
    have FW := F.out.drew
    obtain ⟨a1, a2, a3, a4⟩ := FW.s.two
    obtain ⟨b1, b2, b3, b4⟩ := FW.t.two
    refine wp_region_noPanic ?_
    refine wp_region_held_drew (S := fun _ => True) (by kernel_rfl) trivial (fun hHeld => ?_)
    refine take_at 0 15 (.func (.func 23) #[] #[]) rfl rfl (by kernel_rfl) (by kernel_rfl) (by kernel_rfl) (fun _ _ _ h => h) (Or.inl ⟨by rfl, ?_⟩) hHeld ?_
    · intro w hSw; go_simp
    simp only [List.setIfInBounds_toArray, List.set_cons_zero, List.set_cons_succ]
    refine take_at 3 18 (.func (.func 23) #[] #[]) rfl rfl (by kernel_rfl) (by kernel_rfl) (by kernel_rfl) (fun _ _ _ h => h) (Or.inl ⟨by rfl, ?_⟩) hHeld ?_
    · intro w hSw; go_simp
    simp only [List.setIfInBounds_toArray, List.set_cons_zero, List.set_cons_succ]
    refine wpAnyH_ready (rs := [1, 4]) (by kernel_rfl) (by simp) ?_
    refine AllReadyH.cons rfl (fun K hK => ?_) ?_
    · go_simp
      refine hK.out _ _ trivial (fun hHeld => ?_)
      clear hK K
      try simp only [List.setIfInBounds_toArray, List.set_cons_zero, List.set_cons_succ]
      refine wpAnyH_ready (rs := [2, 4]) (by kernel_rfl) (by simp) ?_
      refine AllReadyH.cons rfl (fun K hK => ?_) ?_
      · go_simp
        refine (KS.out _).mono ?_
        rintro e w3 ⟨rfl, hc⟩
        replace FW := FW.calm hc
        clear hc a1 a2 a3 a4 b1 b2 b3 b4
        obtain ⟨a1, a2, a3, a4⟩ := FW.s.two
        obtain ⟨b1, b2, b3, b4⟩ := FW.t.two
        refine hK.out _ _ trivial (fun hHeld => ?_)
        clear hK K
        try simp only [List.setIfInBounds_toArray, List.set_cons_zero, List.set_cons_succ]
        refine wpAnyH_ready (rs := [4]) (by kernel_rfl) (by simp) ?_
        refine AllReadyH.cons rfl (fun K hK => ?_) AllReadyH.nil
        go_simp
        refine hK.out _ _ trivial (fun hHeld => ?_)
        clear hK K
        try simp only [List.setIfInBounds_toArray, List.set_cons_zero, List.set_cons_succ]
        refine wpAnyH_ready (rs := [5]) (by kernel_rfl) (by simp) ?_
        refine AllReadyH.cons rfl (fun K hK => ?_) AllReadyH.nil
        go_simp
        refine (KT.out _).mono ?_
        rintro e w4 ⟨rfl, hc⟩
        replace FW := FW.calm hc
        clear hc a1 a2 a3 a4 b1 b2 b3 b4
        obtain ⟨a1, a2, a3, a4⟩ := FW.s.two
        obtain ⟨b1, b2, b3, b4⟩ := FW.t.two
        refine hK.out _ _ trivial (fun hHeld => ?_)
        clear hK K
        try simp only [List.setIfInBounds_toArray, List.set_cons_zero, List.set_cons_succ]
        refine wpAnyH_ready (rs := [6]) (by kernel_rfl) (by simp) ?_
        refine AllReadyH.cons rfl (fun K hK => ?_) AllReadyH.nil
        go_simp
        refine hK.out _ _ trivial (fun hHeld => ?_)
        clear hK K
        try simp only [List.setIfInBounds_toArray, List.set_cons_zero, List.set_cons_succ]
        replace FW := FW.set0 s'
        obtain ⟨w5, h5⟩ : ∃ w5, w5 = (w4.setCell ⟨g0, 0, none⟩ (.int .u64 (s'.lo : Int))).setCell ⟨g0, 1, none⟩ (.int .u64 (s'.hi : Int)) := ⟨_, rfl⟩
        rw [← h5] at FW ⊢
        clear h5 a1 a2 a3 a4 b1 b2 b3 b4
        obtain ⟨a1, a2, a3, a4⟩ := FW.s.two
        obtain ⟨b1, b2, b3, b4⟩ := FW.t.two
        refine wpAnyH_ready (rs := [7]) (by kernel_rfl) (by simp) ?_
        refine AllReadyH.cons rfl (fun K hK => ?_) AllReadyH.nil
        go_simp
        refine hK.out _ _ trivial (fun hHeld => ?_)
        clear hK K
        try simp only [List.setIfInBounds_toArray, List.set_cons_zero, List.set_cons_succ]
        refine wpAnyH_done (by kernel_rfl) (NoPanic.normal ?_) _
        go_wp2_with fail
        go_meet
        exact FW.set1 t'
      refine AllReadyH.cons rfl (fun K hK => ?_) ?_
      · go_simp
        refine hK.out _ _ trivial (fun hHeld => ?_)
        clear hK K
        try simp only [List.setIfInBounds_toArray, List.set_cons_zero, List.set_cons_succ]
        refine wpAnyH_ready (rs := [2]) (by kernel_rfl) (by simp) ?_
        refine AllReadyH.cons rfl (fun K hK => ?_) AllReadyH.nil
        go_simp
        refine (KS.out _).mono ?_
        rintro e w3 ⟨rfl, hc⟩
        replace FW := FW.calm hc
        clear hc a1 a2 a3 a4 b1 b2 b3 b4
        obtain ⟨a1, a2, a3, a4⟩ := FW.s.two
        obtain ⟨b1, b2, b3, b4⟩ := FW.t.two
        refine hK.out _ _ trivial (fun hHeld => ?_)
        clear hK K
        try simp only [List.setIfInBounds_toArray, List.set_cons_zero, List.set_cons_succ]
        refine wpAnyH_ready (rs := [5]) (by kernel_rfl) (by simp) ?_
        refine AllReadyH.cons rfl (fun K hK => ?_) AllReadyH.nil
        go_simp
        refine (KT.out _).mono ?_
        rintro e w4 ⟨rfl, hc⟩
        replace FW := FW.calm hc
        clear hc a1 a2 a3 a4 b1 b2 b3 b4
        obtain ⟨a1, a2, a3, a4⟩ := FW.s.two
        obtain ⟨b1, b2, b3, b4⟩ := FW.t.two
        refine hK.out _ _ trivial (fun hHeld => ?_)
        clear hK K
        try simp only [List.setIfInBounds_toArray, List.set_cons_zero, List.set_cons_succ]
        refine wpAnyH_ready (rs := [6]) (by kernel_rfl) (by simp) ?_
        refine AllReadyH.cons rfl (fun K hK => ?_) AllReadyH.nil
        go_simp
        refine hK.out _ _ trivial (fun hHeld => ?_)
        clear hK K
        try simp only [List.setIfInBounds_toArray, List.set_cons_zero, List.set_cons_succ]
        replace FW := FW.set0 s'
        obtain ⟨w5, h5⟩ : ∃ w5, w5 = (w4.setCell ⟨g0, 0, none⟩ (.int .u64 (s'.lo : Int))).setCell ⟨g0, 1, none⟩ (.int .u64 (s'.hi : Int)) := ⟨_, rfl⟩
        rw [← h5] at FW ⊢
        clear h5 a1 a2 a3 a4 b1 b2 b3 b4
        obtain ⟨a1, a2, a3, a4⟩ := FW.s.two
        obtain ⟨b1, b2, b3, b4⟩ := FW.t.two
        refine wpAnyH_ready (rs := [7]) (by kernel_rfl) (by simp) ?_
        refine AllReadyH.cons rfl (fun K hK => ?_) AllReadyH.nil
        go_simp
        refine hK.out _ _ trivial (fun hHeld => ?_)
        clear hK K
        try simp only [List.setIfInBounds_toArray, List.set_cons_zero, List.set_cons_succ]
        refine wpAnyH_done (by kernel_rfl) (NoPanic.normal ?_) _
        go_wp2_with fail
        go_meet
        exact FW.set1 t'
      exact AllReadyH.nil
    refine AllReadyH.cons rfl (fun K hK => ?_) ?_
    · go_simp
      refine hK.out _ _ trivial (fun hHeld => ?_)
      clear hK K
      try simp only [List.setIfInBounds_toArray, List.set_cons_zero, List.set_cons_succ]
      refine wpAnyH_ready (rs := [1]) (by kernel_rfl) (by simp) ?_
      refine AllReadyH.cons rfl (fun K hK => ?_) AllReadyH.nil
      go_simp
      refine hK.out _ _ trivial (fun hHeld => ?_)
      clear hK K
      try simp only [List.setIfInBounds_toArray, List.set_cons_zero, List.set_cons_succ]
      refine wpAnyH_ready (rs := [2]) (by kernel_rfl) (by simp) ?_
      refine AllReadyH.cons rfl (fun K hK => ?_) AllReadyH.nil
      go_simp
      refine (KS.out _).mono ?_
      rintro e w3 ⟨rfl, hc⟩
      replace FW := FW.calm hc
      clear hc a1 a2 a3 a4 b1 b2 b3 b4
      obtain ⟨a1, a2, a3, a4⟩ := FW.s.two
      obtain ⟨b1, b2, b3, b4⟩ := FW.t.two
      refine hK.out _ _ trivial (fun hHeld => ?_)
      clear hK K
      try simp only [List.setIfInBounds_toArray, List.set_cons_zero, List.set_cons_succ]
      refine wpAnyH_ready (rs := [5]) (by kernel_rfl) (by simp) ?_
      refine AllReadyH.cons rfl (fun K hK => ?_) AllReadyH.nil
      go_simp
      refine (KT.out _).mono ?_
      rintro e w4 ⟨rfl, hc⟩
      replace FW := FW.calm hc
      clear hc a1 a2 a3 a4 b1 b2 b3 b4
      obtain ⟨a1, a2, a3, a4⟩ := FW.s.two
      obtain ⟨b1, b2, b3, b4⟩ := FW.t.two
      refine hK.out _ _ trivial (fun hHeld => ?_)
      clear hK K
      try simp only [List.setIfInBounds_toArray, List.set_cons_zero, List.set_cons_succ]
      refine wpAnyH_ready (rs := [6]) (by kernel_rfl) (by simp) ?_
      refine AllReadyH.cons rfl (fun K hK => ?_) AllReadyH.nil
      go_simp
      refine hK.out _ _ trivial (fun hHeld => ?_)
      clear hK K
      try simp only [List.setIfInBounds_toArray, List.set_cons_zero, List.set_cons_succ]
      replace FW := FW.set0 s'
      obtain ⟨w5, h5⟩ : ∃ w5, w5 = (w4.setCell ⟨g0, 0, none⟩ (.int .u64 (s'.lo : Int))).setCell ⟨g0, 1, none⟩ (.int .u64 (s'.hi : Int)) := ⟨_, rfl⟩
      rw [← h5] at FW ⊢
      clear h5 a1 a2 a3 a4 b1 b2 b3 b4
      obtain ⟨a1, a2, a3, a4⟩ := FW.s.two
      obtain ⟨b1, b2, b3, b4⟩ := FW.t.two
      refine wpAnyH_ready (rs := [7]) (by kernel_rfl) (by simp) ?_
      refine AllReadyH.cons rfl (fun K hK => ?_) AllReadyH.nil
      go_simp
      refine hK.out _ _ trivial (fun hHeld => ?_)
      clear hK K
      try simp only [List.setIfInBounds_toArray, List.set_cons_zero, List.set_cons_succ]
      refine wpAnyH_done (by kernel_rfl) (NoPanic.normal ?_) _
      go_wp2_with fail
      go_meet
      exact FW.set1 t'
    exact AllReadyH.nil
  case rest =>
    have FC := Lib.hid hcut
    clear hcut
    obtain ⟨a1, a2, a3, a4⟩ := FC.out.s.two
    obtain ⟨b1, b2, b3, b4⟩ := FC.out.t.two
    go_wp2_with fail
    refine (KD.out _).mono ?_
    rintro x w6 ⟨rfl, hc⟩
    replace FC := Lib.hid (FC.out.calm hc)
    clear hc a1 a2 a3 a4 b1 b2 b3 b4
    obtain ⟨a1, a2, a3, a4⟩ := FC.out.s.two
    obtain ⟨b1, b2, b3, b4⟩ := FC.out.t.two
    cases q with
    | false =>
      have h1 : True := trivial
      have h2 : True := trivial
      have h3 : True := trivial
      go_wp2_with fail
      refine (KM.out _).mono ?_
      rintro x w8 ⟨rfl, hc⟩
      replace FC := Lib.hid (FC.out.calm hc)
      clear hc
      clear a1 a2 a3 a4 b1 b2 b3 b4
      obtain ⟨a1, a2, a3, a4⟩ := FC.out.s.two
      obtain ⟨b1, b2, b3, b4⟩ := FC.out.t.two
      go_wp2_with fail
      refine (KC.out _).mono ?_
      rintro x w9 ⟨rfl, hc⟩
      replace FC := Lib.hid (FC.out.calm hc)
      clear hc
      clear a1 a2 a3 a4 b1 b2 b3 b4
      obtain ⟨a1, a2, a3, a4⟩ := FC.out.s.two
      obtain ⟨b1, b2, b3, b4⟩ := FC.out.t.two
      obtain ⟨x, y, ho⟩ := FC.out.o
      obtain ⟨c1, c2, c3, c4⟩ := ho.two
      go_wp2_with fail
      replace FC := Lib.hid (FC.out.put (.int .u64 ((lowS m).lo : Int)) (.int .u64 ((lowS m).hi : Int)))
      have hR := ho.both (x := .int .u64 ((lowS m).lo : Int)) (y := .int .u64 ((lowS m).hi : Int))
      obtain ⟨w5, h5⟩ : ∃ w5, w5 = (w9.setCell ⟨g2, 0, none⟩ (.int .u64 ((lowS m).lo : Int))).setCell ⟨g2, 1, none⟩ (.int .u64 ((lowS m).hi : Int)) := ⟨_, rfl⟩
      rw [← h5] at hR FC ⊢
      have z := hR.two
      clear h5 hR ho
      refine bodyPost_ret (by simp [results, Try.results14, go_sem, z.1, z.2.1]; try rfl) rfl ?_
      refine ⟨?_, FC.out.cal⟩
      rw [ER.out]
      simp only [h1, h2, h3, and_true, and_false, true_and, false_and, if_true, if_false, reduceIte, Bool.false_eq_true]
    | true =>
      by_cases h2 : s'.lo = s'.hi
      · have h1 : True := trivial
        have K1 : Hid (∀ w, Calls Try.prog 32 #[.agg #[.int .u64 ((s').lo : Int), .int .u64 ((s').hi : Int)]] w fun x w' => x = .returned (.bool true) ∧ w' = w.alloc (.cells #[.int .u64 (s'.lo : Int), .int .u64 (s'.hi : Int)] 27)) := Lib.hid fun w => by
          have k := pisone_c s'.lo s'.hi w
          rw [decide_eq_true h2] at k
          exact k
        by_cases h3 : t'.lo = t'.hi
        · have K2 : Hid (∀ w, Calls Try.prog 32 #[.agg #[.int .u64 ((t').lo : Int), .int .u64 ((t').hi : Int)]] w fun x w' => x = .returned (.bool true) ∧ w' = w.alloc (.cells #[.int .u64 (t'.lo : Int), .int .u64 (t'.hi : Int)] 27)) := Lib.hid fun w => by
            have k := pisone_c t'.lo t'.hi w
            rw [decide_eq_true h3] at k
            exact k
          have H2 := Lib.hid h2
          have H3 := Lib.hid h3
          clear h2 h3
          go_wp2_with fail
          refine (K1.out _).mono ?_
          rintro x w7 ⟨rfl, hw⟩
          replace FC := Lib.hid (FC.out.calm (hw ▸ (Keep.refl _ _).alloc _))
          clear hw
          clear a1 a2 a3 a4 b1 b2 b3 b4
          obtain ⟨a1, a2, a3, a4⟩ := FC.out.s.two
          obtain ⟨b1, b2, b3, b4⟩ := FC.out.t.two
          go_wp2_with fail
          refine (K2.out _).mono ?_
          rintro x w8 ⟨rfl, hw⟩
          replace FC := Lib.hid (FC.out.calm (hw ▸ (Keep.refl _ _).alloc _))
          clear hw
          clear a1 a2 a3 a4 b1 b2 b3 b4
          obtain ⟨a1, a2, a3, a4⟩ := FC.out.s.two
          obtain ⟨b1, b2, b3, b4⟩ := FC.out.t.two
          go_wp2_with fail
          refine (pone_c _ _).mono ?_
          rintro x w9 ⟨rfl, hw⟩
          replace FC := Lib.hid (FC.out.calm (hw ▸ (Keep.refl _ _).alloc _))
          clear hw
          clear a1 a2 a3 a4 b1 b2 b3 b4
          obtain ⟨a1, a2, a3, a4⟩ := FC.out.s.two
          obtain ⟨b1, b2, b3, b4⟩ := FC.out.t.two
          obtain ⟨x, y, ho⟩ := FC.out.o
          obtain ⟨c1, c2, c3, c4⟩ := ho.two
          go_wp2_with fail
          have h2 := H2.out
          have h3 := H3.out
          replace FC := Lib.hid (FC.out.put (.int .u64 (d : Int)) (.int .u64 (d : Int)))
          have hR := ho.both (x := .int .u64 (d : Int)) (y := .int .u64 (d : Int))
          obtain ⟨w5, h5⟩ : ∃ w5, w5 = (w9.setCell ⟨g2, 0, none⟩ (.int .u64 (d : Int))).setCell ⟨g2, 1, none⟩ (.int .u64 (d : Int)) := ⟨_, rfl⟩
          rw [← h5] at hR FC ⊢
          have z := hR.two
          clear h5 hR ho
          refine bodyPost_ret (by simp [results, Try.results14, go_sem, z.1, z.2.1]; try rfl) rfl ?_
          refine ⟨?_, FC.out.cal⟩
          rw [ER.out]
          simp only [h1, h2, h3, and_true, and_false, true_and, false_and, if_true, if_false, reduceIte, Bool.false_eq_true]
        · have K2 : Hid (∀ w, Calls Try.prog 32 #[.agg #[.int .u64 ((t').lo : Int), .int .u64 ((t').hi : Int)]] w fun x w' => x = .returned (.bool false) ∧ w' = w.alloc (.cells #[.int .u64 (t'.lo : Int), .int .u64 (t'.hi : Int)] 27)) := Lib.hid fun w => by
            have k := pisone_c t'.lo t'.hi w
            rw [decide_eq_false h3] at k
            exact k
          have H2 := Lib.hid h2
          have H3 := Lib.hid h3
          clear h2 h3
          go_wp2_with fail
          refine (K1.out _).mono ?_
          rintro x w7 ⟨rfl, hw⟩
          replace FC := Lib.hid (FC.out.calm (hw ▸ (Keep.refl _ _).alloc _))
          clear hw
          clear a1 a2 a3 a4 b1 b2 b3 b4
          obtain ⟨a1, a2, a3, a4⟩ := FC.out.s.two
          obtain ⟨b1, b2, b3, b4⟩ := FC.out.t.two
          go_wp2_with fail
          refine (K2.out _).mono ?_
          rintro x w72 ⟨rfl, hw⟩
          replace FC := Lib.hid (FC.out.calm (hw ▸ (Keep.refl _ _).alloc _))
          clear hw
          clear a1 a2 a3 a4 b1 b2 b3 b4
          obtain ⟨a1, a2, a3, a4⟩ := FC.out.s.two
          obtain ⟨b1, b2, b3, b4⟩ := FC.out.t.two
          go_wp2_with fail
          have h2 := H2.out
          have h3 := H3.out
          refine (KM.out _).mono ?_
          rintro x w8 ⟨rfl, hc⟩
          replace FC := Lib.hid (FC.out.calm hc)
          clear hc
          clear a1 a2 a3 a4 b1 b2 b3 b4
          obtain ⟨a1, a2, a3, a4⟩ := FC.out.s.two
          obtain ⟨b1, b2, b3, b4⟩ := FC.out.t.two
          go_wp2_with fail
          refine (KC.out _).mono ?_
          rintro x w9 ⟨rfl, hc⟩
          replace FC := Lib.hid (FC.out.calm hc)
          clear hc
          clear a1 a2 a3 a4 b1 b2 b3 b4
          obtain ⟨a1, a2, a3, a4⟩ := FC.out.s.two
          obtain ⟨b1, b2, b3, b4⟩ := FC.out.t.two
          obtain ⟨x, y, ho⟩ := FC.out.o
          obtain ⟨c1, c2, c3, c4⟩ := ho.two
          go_wp2_with fail
          replace FC := Lib.hid (FC.out.put (.int .u64 ((lowS m).lo : Int)) (.int .u64 ((lowS m).hi : Int)))
          have hR := ho.both (x := .int .u64 ((lowS m).lo : Int)) (y := .int .u64 ((lowS m).hi : Int))
          obtain ⟨w5, h5⟩ : ∃ w5, w5 = (w9.setCell ⟨g2, 0, none⟩ (.int .u64 ((lowS m).lo : Int))).setCell ⟨g2, 1, none⟩ (.int .u64 ((lowS m).hi : Int)) := ⟨_, rfl⟩
          rw [← h5] at hR FC ⊢
          have z := hR.two
          clear h5 hR ho
          refine bodyPost_ret (by simp [results, Try.results14, go_sem, z.1, z.2.1]; try rfl) rfl ?_
          refine ⟨?_, FC.out.cal⟩
          rw [ER.out]
          simp only [h1, h2, h3, and_true, and_false, true_and, false_and, if_true, if_false, reduceIte, Bool.false_eq_true]
      · have h1 : True := trivial
        have h3 : True := trivial
        have K1 : Hid (∀ w, Calls Try.prog 32 #[.agg #[.int .u64 ((s').lo : Int), .int .u64 ((s').hi : Int)]] w fun x w' => x = .returned (.bool false) ∧ w' = w.alloc (.cells #[.int .u64 (s'.lo : Int), .int .u64 (s'.hi : Int)] 27)) := Lib.hid fun w => by
          have k := pisone_c s'.lo s'.hi w
          rw [decide_eq_false h2] at k
          exact k
        have H2 := Lib.hid h2
        clear h2
        go_wp2_with fail
        refine (K1.out _).mono ?_
        rintro x w7 ⟨rfl, hw⟩
        replace FC := Lib.hid (FC.out.calm (hw ▸ (Keep.refl _ _).alloc _))
        clear hw
        clear a1 a2 a3 a4 b1 b2 b3 b4
        obtain ⟨a1, a2, a3, a4⟩ := FC.out.s.two
        obtain ⟨b1, b2, b3, b4⟩ := FC.out.t.two
        go_wp2_with fail
        have h2 := H2.out
        refine (KM.out _).mono ?_
        rintro x w8 ⟨rfl, hc⟩
        replace FC := Lib.hid (FC.out.calm hc)
        clear hc
        clear a1 a2 a3 a4 b1 b2 b3 b4
        obtain ⟨a1, a2, a3, a4⟩ := FC.out.s.two
        obtain ⟨b1, b2, b3, b4⟩ := FC.out.t.two
        go_wp2_with fail
        refine (KC.out _).mono ?_
        rintro x w9 ⟨rfl, hc⟩
        replace FC := Lib.hid (FC.out.calm hc)
        clear hc
        clear a1 a2 a3 a4 b1 b2 b3 b4
        obtain ⟨a1, a2, a3, a4⟩ := FC.out.s.two
        obtain ⟨b1, b2, b3, b4⟩ := FC.out.t.two
        obtain ⟨x, y, ho⟩ := FC.out.o
        obtain ⟨c1, c2, c3, c4⟩ := ho.two
        go_wp2_with fail
        replace FC := Lib.hid (FC.out.put (.int .u64 ((lowS m).lo : Int)) (.int .u64 ((lowS m).hi : Int)))
        have hR := ho.both (x := .int .u64 ((lowS m).lo : Int)) (y := .int .u64 ((lowS m).hi : Int))
        obtain ⟨w5, h5⟩ : ∃ w5, w5 = (w9.setCell ⟨g2, 0, none⟩ (.int .u64 ((lowS m).lo : Int))).setCell ⟨g2, 1, none⟩ (.int .u64 ((lowS m).hi : Int)) := ⟨_, rfl⟩
        rw [← h5] at hR FC ⊢
        have z := hR.two
        clear h5 hR ho
        refine bodyPost_ret (by simp [results, Try.results14, go_sem, z.1, z.2.1]; try rfl) rfl ?_
        refine ⟨?_, FC.out.cal⟩
        rw [ER.out]
        simp only [h1, h2, h3, and_true, and_false, true_and, false_and, if_true, if_false, reduceIte, Bool.false_eq_true]
theorem pdo_c {s t : Sp} {op : Nat} (wide : Bool) (hs : s.Ok) (ht : t.Ok) (w : World) : Calls Try.prog 14 #[.int .u8 (op : Int), .bool wide, .agg #[.int .u64 (s.lo : Int), .int .u64 (s.hi : Int)], .agg #[.int .u64 (t.lo : Int), .int .u64 (t.hi : Int)]] w fun x w' => x = .returned (.agg #[.int .u64 ((doS wide op s t).lo : Int), .int .u64 ((doS wide op s t).hi : Int)]) ∧ Calm w w' := by
  cases wide
  · exact pdo32_c hs ht w
  · exact pdo64_c hs ht w

end Go.Proofs.Ytboiakahhkihiaa
