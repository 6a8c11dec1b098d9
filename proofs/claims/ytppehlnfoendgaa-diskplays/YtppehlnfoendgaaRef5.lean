/-
  The document's answer for disk: Barrier.
-/
import Derived.Test.YtppehlnfoendgaaRef4
import Derived.Test.YtppehlnfoendgaaRegion
namespace Go.Proofs.Ytppehlnfoendgaa
open Go.RowKit
set_option linter.all false

def mix (T s : List (List UInt8)) : Nat → List (List UInt8)
  | 0 => s
  | j + 1 => (mix T s j).set j (T.getD j [])
theorem mix_len (T s : List (List UInt8)) (j : Nat) : (mix T s j).length = s.length := by
  induction j with
  | zero => rfl
  | succ j ih => simp [mix, ih]
theorem mix_at (T s : List (List UInt8)) (j k : Nat) (hk : k < s.length) : (mix T s j).getD k [] = if k < j then T.getD k [] else s.getD k [] := by
  induction j with
  | zero => simp [mix]
  | succ j ih =>
    have hl := mix_len T s j
    by_cases e : j = k
    · subst e
      simp [mix, List.getD, List.getElem?_set, hl, hk]
    · have e1 : (mix T s (j + 1)).getD k [] = (mix T s j).getD k [] := by simp [mix, List.getD, List.getElem?_set, e]
      rw [e1, ih]
      by_cases h1 : k < j
      · rw [if_pos h1, if_pos (by omega)]
      · rw [if_neg h1, if_neg (by omega)]
theorem mix_all (T s : List (List UInt8)) (h : T.length = s.length) : mix T s s.length = T := by
  apply List.ext_getElem
  · rw [mix_len, h]
  · intro i h1 h2
    have := mix_at T s s.length i (by omega)
    rw [if_pos (by omega)] at this
    simpa [h1, h2] using this

theorem RLay.setDone {w : World} {R : Nat → Prop} {r : Nat} {S : DS} {dv wv kv : Value} {left : Int} {kl : List Bool} (h : RLay w R r S dv wv kv left kl) {db dc : Nat} (hdv : dv = .slice (some ⟨db, 0, none⟩) S.secs.length dc) (x : Nat) (hx : x < S.secs.length) (b : List UInt8) :
    RLay (w.setCell ⟨db, x, none⟩ (.string (str b))) R r { S with secs := S.secs.set x b } dv wv kv left kl := by
  obtain ⟨db', dc', cur, e, _, hr, _⟩ := own_done h.done h.some_
  rw [hdv] at e
  injection e with e _ _
  injection e with e
  injection e with e
  subst e
  have far : ∀ {g t c}, t ≠ 9 → Row w g t c → Row (w.setCell ⟨db, x, none⟩ (.string (str b))) g t c := fun ht hrow => hrow.far (p := ⟨db, x, none⟩) (hrow.ne hr ht) _
  refine ⟨far (by decide) h.top, ?_, own_move h.wrow (fun g c _ hrow => far (by decide) hrow), own_move h.krow (fun g c _ hrow => far (by decide) hrow), h.arm, h.rd, h.rD, h.rW, h.rK, by simpa using h.few, by simpa using h.some_, by simpa using h.at_⟩
  have := h.done
  rw [hdv] at this
  have := own_set this hx (.string (str b))
  rw [hdv]
  show World.ownsRow _ 0 _ 1 _ (S.secs.set x b).length ((S.secs.set x b).map sv)
  rw [List.length_set, List.map_set]
  exact this
theorem RLay.drew {w : World} {R : Nat → Prop} {r : Nat} {S : DS} {dv wv kv : Value} {left : Int} {kl : List Bool} (h : RLay w R r S dv wv kv left kl) : RLay w.drew R r S dv wv kv left kl :=
  ⟨h.top, h.done, h.wrow, h.krow, h.arm, h.rd, h.rD, h.rW, h.rK, h.few, h.some_, h.at_⟩
theorem RLay.noWaits {w : World} {R : Nat → Prop} {r : Nat} {S : DS} {dv wv kv : Value} {left : Int} {kl : List Bool} (h : RLay w R r S dv wv kv left kl) : RLay (w.setCell ⟨r, 1, none⟩ (.slice none 0 0)) R r { S with wait := [] } dv (.slice none 0 0) kv left kl := by
  have far : ∀ {g t c}, t ≠ 38 → Row w g t c → Row (w.setCell ⟨r, 1, none⟩ (.slice none 0 0)) g t c := fun ht hrow => hrow.far (p := ⟨r, 1, none⟩) (hrow.ne h.top ht) _
  exact ⟨by simpa using h.top.store 1 (.slice none 0 0), own_move h.done (fun g c _ hrow => far (by decide) hrow), World.ownsRow_nil _ _ _ _, own_move h.krow (fun g c _ hrow => far (by decide) hrow), h.arm, h.rd, h.rD, fun g e => by simp [Value.ownBlock] at e, h.rK, h.few, h.some_, fun x hx => by simp at hx⟩

set_option maxHeartbeats 400000 in
theorem rbarrier_no {w : World} {R : Nat → Prop} {r : Nat} {S S1 : DS} (h : IsRef w R r S) (hwm : S.wait.length ≤ 1000000) (hops : S.ops ≤ 1000000000) (hop : S.op = (false, S1)) :
    Calls Try.prog 20 #[.pointer (some ⟨r, 0, none⟩)] w fun e w' => e = .returned (.int .i64 11) ∧ IsRef w' R r S1 ∧ Keep R w w' := by
  have hc := rop_c h hwm hops
  rw [hop] at hc
  have H := Lib.hid hc
  clear hc h hop
  go_enter Try.func20, Try.ntmps20
  go_wp2_with fail
  refine H.out.mono ?_
  rintro e w1 ⟨rfl, h1, k1⟩
  have H1 := Lib.hid h1
  have K1 := Lib.hid k1
  clear h1 k1
  go_wp2_with fail
  go_ret
  exact ⟨rfl, H1.out, K1.out⟩
set_option maxHeartbeats 1600000 in
theorem rbarrier_ok {w : World} {R : Nat → Prop} {r : Nat} {S S1 : DS} (h : IsRef w R r S) (hwm : S.wait.length ≤ 1000000) (hops : S.ops ≤ 1000000000) (hop : S.op = (true, S1)) :
    Calls Try.prog 20 #[.pointer (some ⟨r, 0, none⟩)] w fun e w' => e = .returned (.int .i64 0) ∧ IsRef w' R r S1.settled ∧ Keep R w w' := by
  have hc := rop_c h hwm hops
  rw [hop] at hc
  obtain ⟨s1, s2⟩ := rop_same hop
  rw [← s2] at hwm
  have H := Lib.hid hc
  clear hc h hop s1 s2
  go_enter Try.func20, Try.ntmps20
  go_wp2_with fail
  refine H.out.mono ?_
  rintro e w1 ⟨rfl, h1, k1⟩
  obtain ⟨dv, wv, kv, left, kl, h⟩ := h1
  obtain ⟨db, dc, dcur, hdv, hdo, hdr, _⟩ := own_done h.done h.some_
  have hfew := h.few
  have H1 := Lib.hid h
  have K1 := Lib.hid k1
  have Hdv := Lib.hid hdv
  have Hset : Hid (S1.settled.secs.length = S1.secs.length) := Lib.hid (by simp [DS.settled, putTo_len])
  clear h k1 H hdv hdo hdr
  go_wp2_with fail
  go_loopw [3] (fun i wr => ∃ j : Nat, j ≤ S1.secs.length ∧ i = .int .i64 j ∧ RLay wr R r { S1 with secs := mix S1.settled.secs S1.secs j } dv wv kv left kl ∧ Keep R w wr) (fun i _ => S1.secs.length - (intOf i).toNat)
  case atStart => exact ⟨0, by omega, rfl, H1.out, K1.out⟩
  case round =>
    obtain ⟨j, hj, rfl, hB, hK⟩ := hrel
    have HB := Lib.hid hB
    have HK := Lib.hid hK
    have c0 : wr.cell? ⟨r, 0, none⟩ = some (.slice (some ⟨db, 0, none⟩) S1.secs.length dc) := by
      have := hB.top.cell 0
      simp at this
      rw [this, Hdv.out]
    by_cases hlt : j < S1.secs.length
    · have Hnow : Hid (DS.now { S1 with secs := mix S1.settled.secs S1.secs j } j = S1.settled.secs.getD j []) := Lib.hid (by
        have e1 := mix_at S1.settled.secs S1.secs j j hlt
        rw [if_neg (by omega)] at e1
        have e2 := settled_now S1 j hlt
        show nowOf S1.wait j ((mix S1.settled.secs S1.secs j).getD j []) = _
        rw [e1]
        exact e2.symm)
      obtain ⟨db', dc', cur, e, eo, hr, _, _, hcells⟩ := own_done hB.done hB.some_
      have e' := Hdv.out
      rw [e] at e'
      injection e' with e' _ _
      injection e' with e'
      injection e' with e'
      subst e'
      have hne : r ≠ db' := hB.top.ne hr (by decide)
      have c3 := hcells j ((mix S1.settled.secs S1.secs j)[j]'(by rw [mix_len]; exact hlt)) (List.getElem?_eq_getElem _)
      have f3 := hr.soft j
      have hdb : R db' := hB.rD db' eo
      have Hn : Hid (RLay (wr.setCell ⟨db', j, none⟩ (.string (str (S1.settled.secs.getD j [])))) R r { S1 with secs := mix S1.settled.secs S1.secs (j + 1) } dv wv kv left kl) := Lib.hid (hB.setDone (by rw [e]) j (by rw [mix_len]; exact hlt) _)
      have Hk2 : Hid (Keep R w (wr.setCell ⟨db', j, none⟩ (.string (str (S1.settled.secs.getD j []))))) := Lib.hid (hK.store (p := ⟨db', j, none⟩) (fun _ => hdb) _)
      have c0' : (wr.setCell ⟨db', j, none⟩ (.string (str (S1.settled.secs.getD j [])))).cell? ⟨r, 0, none⟩ = some (.slice (some ⟨db', 0, none⟩) S1.secs.length dc) := (World.cell?_setCell_other _ _ _ _ (fun e => hne (congrArg Addr.block e).symm)).trans c0
      have j0 : (0 : Int) ≤ (j : Int) := by omega
      have j1 : (j : Int) < (S1.secs.length : Int) := by omega
      generalize S1.settled.secs.getD j [] = T at Hnow Hn Hk2 c0'
      clear hB hK hcells hr e eo
      go_wp2_with fail
      refine wp_region_noPanic ?_
      refine wp_region_held_drew (S := fun w' => w'.cell? ⟨r, 0, none⟩ = some (.slice (some ⟨db', 0, none⟩) S1.secs.length dc)) (by kernel_rfl) c0 (fun hHeld => ?_)
      refine take_at 0 16 (.pointer (some ⟨r, 0, none⟩)) rfl rfl (by kernel_rfl) (by kernel_rfl) (by kernel_rfl) (fun _ _ _ h => h) (Or.inl ⟨by rfl, ?_⟩) hHeld ?_
      · intro w hSw; go_simp
      simp only [List.setIfInBounds_toArray, List.set_cons_zero, List.set_cons_succ]
      refine take_at 1 17 (.pointer (some ⟨r, 0, none⟩)) rfl rfl (by kernel_rfl) (by kernel_rfl) (by kernel_rfl) (fun _ _ _ h => h) (Or.inl ⟨by rfl, ?_⟩) hHeld ?_
      · intro w hSw; go_simp
      simp only [List.setIfInBounds_toArray, List.set_cons_zero, List.set_cons_succ]
      refine take_at 2 18 (.pointer (some ⟨r, 0, none⟩)) rfl rfl (by kernel_rfl) (by kernel_rfl) (by kernel_rfl) (fun _ _ _ h => h) (Or.inl ⟨by rfl, ?_⟩) hHeld ?_
      · intro w hSw; go_simp
      simp only [List.setIfInBounds_toArray, List.set_cons_zero, List.set_cons_succ]
      refine take_at 3 19 (.slice (some ⟨db', 0, none⟩) S1.secs.length dc) rfl rfl (by kernel_rfl) (by kernel_rfl) (by kernel_rfl) (fun _ _ _ h => h) (Or.inl ⟨by rfl, ?_⟩) hHeld ?_
      · intro w hSw; go_simp
      simp only [List.setIfInBounds_toArray, List.set_cons_zero, List.set_cons_succ]
      refine take_at 4 20 (.int .i64 j) rfl rfl (by kernel_rfl) (by kernel_rfl) (by kernel_rfl) (fun _ _ _ h => h) (Or.inl ⟨by rfl, ?_⟩) hHeld ?_
      · intro w hSw; go_simp
      simp only [List.setIfInBounds_toArray, List.set_cons_zero, List.set_cons_succ]
      refine take_at 5 21 (.pointer (some ⟨r, 0, none⟩)) rfl rfl (by kernel_rfl) (by kernel_rfl) (by kernel_rfl) (fun _ _ _ h => h) (Or.inl ⟨by rfl, ?_⟩) hHeld ?_
      · intro w hSw; go_simp
      simp only [List.setIfInBounds_toArray, List.set_cons_zero, List.set_cons_succ]
      refine take_at 6 22 (.int .i64 j) rfl rfl (by kernel_rfl) (by kernel_rfl) (by kernel_rfl) (fun _ _ _ h => h) (Or.inl ⟨by rfl, ?_⟩) hHeld ?_
      · intro w hSw; go_simp
      simp only [List.setIfInBounds_toArray, List.set_cons_zero, List.set_cons_succ]
      refine wpAnyH_ready (rs := [7]) (by kernel_rfl) (by simp) ?_
      refine AllReadyH.cons rfl (fun K hK => ?_) AllReadyH.nil
      go_simp
      refine (rnow_ref (R := R) (S := { S1 with secs := mix S1.settled.secs S1.secs j }) ⟨_, _, _, _, _, HB.out.drew⟩ hwm j (by rw [mix_len]; exact hlt)).mono ?_
      rintro e w2 ⟨rfl, rfl⟩
      rw [Hnow.out]
      refine hK.out _ _ c0 (fun hHeld => ?_)
      clear hK K
      try simp only [List.setIfInBounds_toArray, List.set_cons_zero, List.set_cons_succ]
      refine wpAnyH_ready (rs := [8]) (by kernel_rfl) (by simp) ?_
      refine AllReadyH.cons rfl (fun K hK => ?_) AllReadyH.nil
      go_simp
      refine hK.out _ _ c0 (fun hHeld => ?_)
      clear hK K
      try simp only [List.setIfInBounds_toArray, List.set_cons_zero, List.set_cons_succ]
      refine wpAnyH_ready (rs := [9]) (by kernel_rfl) (by simp) ?_
      refine AllReadyH.cons rfl (fun K hK => ?_) AllReadyH.nil
      go_simp
      refine hK.out _ _ c0' (fun hHeld => ?_)
      clear hK K
      try simp only [List.setIfInBounds_toArray, List.set_cons_zero, List.set_cons_succ]
      refine wpAnyH_done (by kernel_rfl) (NoPanic.normal ?_) _
      go_wp2_with fail
      go_roundw
      case rel => exact ⟨j + 1, by omega, by go_num, Hn.out.drew, Hk2.out.drew⟩
      case measure => simp [intOf]; omega
    · obtain rfl : j = S1.secs.length := by omega
      have c1 := hB.top.cell 1
      have f1 := hB.top.soft 1
      simp at c1
      have Hmix := Lib.hid (mix_all S1.settled.secs S1.secs Hset.out)
      clear hB hK
      go_wp2_with fail
      go_ret
      refine ⟨rfl, ⟨dv, .slice none 0 0, kv, left, kl, ?_⟩, HK.out.store (p := ⟨r, 1, none⟩) (fun _ => H1.out.rd) _⟩
      have := HB.out.noWaits
      rw [Hmix.out] at this
      exact this
end Go.Proofs.Ytppehlnfoendgaa
