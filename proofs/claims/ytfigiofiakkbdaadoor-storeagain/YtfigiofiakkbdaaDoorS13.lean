/-
  StoreAgain: sectors that are no records; two stores on two disks.
-/
import Derived.Test.YtfigiofiakkbdaaDoorS12
namespace Go.Proofs.YtfigiofiakkbdaaDoor
open Go.RowKit
set_option linter.all false

/-- A sector that is no record of a number from 3 to 100. -/
def Dud (b : List UInt8) : Prop := ∀ N r, 3 ≤ N → N ≤ 100 → oneAt (b ++ r) N = none
theorem sums_some : ∀ N : Fin 101, le 4 (more 0 (head12 N.val 0 ++ [])) ≠ [0, 0, 0, 0] := by decide +kernel
theorem num_rep (j : Nat) (x : UInt8) (k : Nat) : num (List.replicate (j + 2) x ++ List.replicate k 0) = x.toNat + 256 * (x.toNat + 256 * num (List.replicate j x ++ List.replicate k 0)) := by
  rw [List.replicate_succ, List.replicate_succ]
  rfl
theorem num_zeros (k : Nat) : num (List.replicate k (0 : UInt8)) = 0 := num_rep0 k
theorem rep_take (j k n : Nat) (x : UInt8) : (List.replicate j x ++ List.replicate k (0 : UInt8)).take n = List.replicate (min n j) x ++ List.replicate (min (n - j) k) 0 := by
  rw [List.take_append, List.take_replicate, List.take_replicate, List.length_replicate]
theorem dud_rep (j : Nat) (x : UInt8) (hj : j ≤ 11) : Dud (List.replicate j x ++ List.replicate (512 - j) 0) := by
  intro N r h3 h100
  have hbl : (List.replicate j x ++ List.replicate (512 - j) (0 : UInt8)).length = 512 := by simp; omega
  generalize hb : List.replicate j x ++ List.replicate (512 - j) (0 : UInt8) = b at *
  by_cases hn : num ((b ++ r).take 8) = N
  rotate_left
  · exact oneAt_other _ _ hn
  have ht : ∀ n, n ≤ 512 → (b ++ r).take n = b.take n := fun n h => List.take_append_of_le_length (by omega)
  rw [ht 8 (by omega), ← hb, rep_take] at hn
  -- just one byte is not nought
  have hj1 : j = 1 := by
    rcases (show j = 0 ∨ j = 1 ∨ 2 ≤ j by omega) with rfl | h | h
    · rw [show min 8 0 = 0 by rfl] at hn
      simp only [List.replicate_zero, List.nil_append, num_zeros] at hn
      omega
    · exact h
    · obtain ⟨q, hq⟩ : ∃ q, min 8 j = q + 2 := ⟨min 8 j - 2, by omega⟩
      rw [hq, num_rep] at hn
      by_cases hx : x.toNat = 0
      · have : x = 0 := by apply UInt8.toNat.inj; simpa using hx
        subst this
        have hz : num (List.replicate q (0 : UInt8) ++ List.replicate (min (8 - j) (512 - j)) 0) = 0 := by rw [List.replicate_append_replicate, num_zeros]
        rw [hz] at hn
        simp at hn
        omega
      · omega
  subst hj1
  unfold oneAt
  split
  · rfl
  · simp only
    have e12 : num (((b ++ r).take 12).drop 8) = 0 := by
      rw [ht 12 (by omega), ← hb, rep_take, show min 12 1 = 1 by rfl, List.drop_append, List.drop_of_length_le (by simp), List.drop_replicate, List.nil_append]
      exact num_zeros _
    rw [e12]
    split
    · rfl
    · have e0 : ((b ++ r).take (16 + 0)).drop 16 = [] := List.drop_of_length_le (by simp; omega)
      rw [e0]
      split
      · rename_i hh
        exfalso
        have h12 := congrArg (fun l => l.drop 12) hh
        have hz : ((b ++ r).take 16).drop 12 = [0, 0, 0, 0] := by
          rw [ht 16 (by omega), ← hb, rep_take, show min 16 1 = 1 by rfl, List.drop_append, List.drop_of_length_le (by simp), List.drop_replicate, List.nil_append]
          rfl
        rw [hz] at h12
        have hd : (head16 N 0 []).drop 12 = le 4 (more 0 (head12 N 0 ++ [])) := by rw [head16, List.drop_left' (head12_len N 0)]
        rw [hd] at h12
        exact sums_some ⟨N, by omega⟩ h12
      · rfl
theorem dud_full : Dud (full 0) := by
  have := dud_rep 0 0 (by omega)
  rw [List.replicate_zero, List.nil_append] at this
  exact this
/-- The second sector of a record. -/
theorem rec_tail (n k m : Nat) (x : UInt8) (h1 : 489 ≤ m) (h2 : m ≤ 499) : secAt (recP n (recB k (List.replicate m x))) 1 = List.replicate (m - 488) x ++ List.replicate (512 - (m - 488)) 0 := by
  have hr := recB_len k (List.replicate m x)
  rw [List.length_replicate] at hr
  have e : recP n (recB k (List.replicate m x)) = (head16 n (recB k (List.replicate m x)).length (recB k (List.replicate m x)) ++ (le 8 k ++ List.replicate 488 x)) ++ (List.replicate (m - 488) x ++ List.replicate (512 - (m - 488)) 0) := by
    have hp : pad (16 + (recB k (List.replicate m x)).length) = List.replicate (512 - (m - 488)) 0 := by
      unfold pad
      rw [hr, show (512 - (16 + (8 + m)) % 512) % 512 = 512 - (m - 488) by omega]
    rw [recP, pic, hp]
    have hm : List.replicate m x = List.replicate 488 x ++ List.replicate (m - 488) x := by rw [List.replicate_append_replicate, show 488 + (m - 488) = m by omega]
    have hB : recB k (List.replicate m x) = le 8 k ++ (List.replicate 488 x ++ List.replicate (m - 488) x) := by rw [recB, ← hm]
    generalize head16 n _ _ = hd
    rw [hB]
    simp only [List.append_assoc]
  rw [secAt, e, List.drop_left' (by rw [List.length_append, head16_len, List.length_append, le_len, List.length_replicate])]
  exact List.take_of_length_le (by simp; omega)

/-- A half tells just what its journal counts. -/
structure Rc (c : Nat → List UInt8) (f k L : Nat) : Prop where
  told : ∃ l u, replay (areaC c f 5) = some (l, k + 1 + l.length, u) ∧ k + l.length = L
  d2 : Dud (c (f + 2))
  d3 : Dud (c (f + 3))
  lens : ∀ i, f ≤ i → i < f + 5 → (c i).length = 512
theorem Rc.away {c c' : Nat → List UInt8} {f k L : Nat} (h : Rc c f k L) (e : ∀ i, f ≤ i → i < f + 5 → c' i = c i) : Rc c' f k L := by
  obtain ⟨l, u, h1, h2⟩ := h.told
  exact ⟨⟨l, u, by rw [areaC_congr (c := c') (c' := c) e]; exact h1, h2⟩, by rw [e _ (by omega) (by omega)]; exact h.d2, by rw [e _ (by omega) (by omega)]; exact h.d3, fun i h1 h2 => by rw [e i h1 h2]; exact h.lens i h1 h2⟩
theorem Rc.save {c : Nat → List UInt8} {f k L n m : Nat} {x : UInt8} (h : Rc c f k L) (hm : m ≤ 499) (hL : L ≤ 90) (hl : ∀ i, f ≤ i → i < f + 5 → (savC c f L (recB n (List.replicate m x)) i).length = 512) : Rc (savC c f L (recB n (List.replicate m x))) f (L + 1) (L + 2) := by
  have hr := recB_len n (List.replicate m x)
  rw [List.length_replicate] at hr
  have hq : secsOf (recB n (List.replicate m x)).length = 1 ∧ m ≤ 488 ∨ secsOf (recB n (List.replicate m x)).length = 2 ∧ 489 ≤ m := by rw [hr]; unfold secsOf; omega
  have hf := savC_hf (c := c) (f := f) (h := 5) (L := L) (b := recB n (List.replicate m x)) (by omega) (by omega)
  have d2 : Dud (savC c f L (recB n (List.replicate m x)) (f + 2)) := by
    rcases hq with ⟨h1, _⟩ | ⟨h1, h2⟩
    · rw [savC_out (.inr (by omega))]; exact h.d2
    · have : savC c f L (recB n (List.replicate m x)) (f + 2) = secAt (recP (L + 2) (recB n (List.replicate m x))) 1 := by
        unfold savC putAt
        rw [if_pos (by omega), show f + 2 - (f + 1) = 1 by omega]
      rw [this, rec_tail _ _ _ _ h2 hm]
      exact dud_rep _ _ (by omega)
  have d3 : Dud (savC c f L (recB n (List.replicate m x)) (f + 3)) := by rw [savC_out (.inr (by omega))]; exact h.d3
  refine ⟨⟨[recB n (List.replicate m x)], 1 + secsOf (recB n (List.replicate m x)).length, ?_, rfl⟩, d2, d3, hl⟩
  have hy := (hf.yes _ rfl).1
  have ha : areaC (savC c f L (recB n (List.replicate m x))) f 5 = begP (L + 1) ++ (layR (L + 1 + 1) [recB n (List.replicate m x)] ++ areaC (savC c f L (recB n (List.replicate m x))) (f + 1 + secsOf (recB n (List.replicate m x)).length) (4 - secsOf (recB n (List.replicate m x)).length)) := by
    rw [show (5 : Nat) = 1 + (secsOf (recB n (List.replicate m x)).length + (4 - secsOf (recB n (List.replicate m x)).length)) by omega, areaC_add, areaC_add, hy]
    simp only [areaC, List.nil_append, Nat.add_zero, layR, List.append_nil]
    rw [hf.beg]
  rw [ha]
  have := replay_lay (L + 1) [recB n (List.replicate m x)] (areaC (savC c f L (recB n (List.replicate m x))) (f + 1 + secsOf (recB n (List.replicate m x)).length) (4 - secsOf (recB n (List.replicate m x)).length)) (by omega) (by omega) (by simp; omega) (fun b hb => by simp only [List.mem_singleton] at hb; subst hb; omega) (by
    simp only [List.length_cons, List.length_nil, Nat.zero_add]
    rcases hq with ⟨h1, _⟩ | ⟨h1, h2⟩
    · rw [h1, show (4 - 1 : Nat) = 1 + 2 by rfl, areaC_add]
      simp only [areaC, List.nil_append, Nat.add_zero]
      exact d2 _ _ (by omega) (by omega)
    · rw [h1, show (4 - 2 : Nat) = 1 + 1 by rfl, areaC_add]
      simp only [areaC, List.nil_append, Nat.add_zero]
      exact d3 _ _ (by omega) (by omega))
  rw [this]
  simp [secsAll]

/-- Two stores on two disks that hold the same. -/
structure Tw (w1 w : World) (d sb g tb : Nat) (R T : Nat → Prop) (S : DS) (σ : SS) (R' T' : Nat → Prop) (S' : DS) (σ' : SS) (c : Nat → List UInt8) (ka : Nat) (oa : Option (List UInt8)) (kb : Nat) (ob : Option (List UInt8)) (i : Nat) : Prop where
  s : Su w1 w R T d sb S σ 10 c ka oa kb ob
  t : Su w1 w R' T' g tb S' σ' 10 c ka oa kb ob
  dj : ∀ k, (R k ∨ T k) → ¬ (R' k ∨ T' k)
  ra : Rc c 0 ka σ.A.last
  rb : Rc c 5 kb σ.B.last
  la : σ'.A.last = σ.A.last
  lb : σ'.B.last = σ.B.last
  al : σ.A.last ≤ 1 + 2 * i
  bl : σ.B.last ≤ 1 + 2 * i
  cn : σ.count ≤ i
section
variable {w1 w w' : World} {d sb g tb : Nat} {R T : Nat → Prop} {S : DS} {σ : SS} {R' T' : Nat → Prop} {S' : DS} {σ' : SS} {c : Nat → List UInt8} {ka : Nat} {oa : Option (List UInt8)} {kb : Nat} {ob : Option (List UInt8)} {i : Nat}
theorem Tw.rest (h : Tw w1 w d sb g tb R T S σ R' T' S' σ' c ka oa kb ob i) (k : Calm w w') : Tw w1 w' d sb g tb R T S σ R' T' S' σ' c ka oa kb ob i := { h with s := h.s.rest k, t := h.t.rest k }
theorem Tw.calm (h : Tw w1 w d sb g tb R T S σ R' T' S' σ' c ka oa kb ob i) : Calm w1 w := h.s.calm
theorem Su.reg (h : Su w1 w R T d sb S σ 10 c ka oa kb ob) (k : Nat) (hk : R k ∨ T k) : w1.heap.size ≤ k ∧ k < w.heap.size := hk.elim (fun e => ⟨h.sto.sd.st.new k e, h.sto.sd.st.lt k e⟩) (fun e => ⟨h.sto.sm.new k e, h.sto.sm.lt k e⟩)
theorem Tw.kept (h : Tw w1 w d sb g tb R T S σ R' T' S' σ' c ka oa kb ob i) : σ'.kept = σ.kept := h.t.kept.trans h.s.kept.symm
/-- The second one is opened anew. -/
theorem Tw.open_ (hT : Tab w1) (h : Tw w1 w d sb g tb R T S σ R' T' S' σ' c ka oa kb ob i) (hi : i ≤ 15) (ho : S'.ops ≤ 10000) :
    Calls Tryd.prog 19 #[.pointer (some ⟨g, 0, none⟩)] w fun e w' => ∃ tb2 R2 T2 S2 σ2, e = .returned (.tuple #[.pointer (some ⟨tb2, 0, none⟩), .int .i64 0]) ∧ Tw w1 w' d sb g tb2 R T S σ R2 T2 S2 σ2 c ka oa kb ob i ∧ S2.ops ≤ S'.ops + 10 := by
  have la := h.al
  have lb := h.bl
  have a1 := h.s.a.lo
  have b1 := h.s.b.lo
  refine (su_open hT h.t.sto.sd h.t.up h.t.sh h.t.wait (by omega) (by omega) h.t.a.hf h.t.b.hf (by omega) (by omega) (by omega)).mono ?_
  rintro e w' ⟨R2, T2, tb2, σ2, q, l0, u0, l1, u1, rfl, hq, ht, hx, hk, hsu, r0, e0, -, r1, e1, -⟩
  have hreg := h.s.reg
  have hdj := h.dj
  obtain ⟨la0, ua0, ra0, ea0⟩ := h.ra.told
  obtain ⟨lb0, ub0, rb0, eb0⟩ := h.rb.told
  have q0 : some (l0, ka + 1 + l0.length, u0) = some (la0, ka + 1 + la0.length, ua0) := r0.symm.trans ra0
  have q1 : some (l1, kb + 1 + l1.length, u1) = some (lb0, kb + 1 + lb0.length, ub0) := r1.symm.trans rb0
  injection q0 with q0
  injection q0 with q0 _
  injection q1 with q1
  injection q1 with q1 _
  subst q0; subst q1
  refine ⟨tb2, R2, T2, _, σ2, rfl, ⟨h.s.apart hk (fun k hk => ⟨fun e => hdj k (.inl e) (.inl hk), fun e => hdj k (.inr e) (.inl hk), (h.t.reg k (.inl hk)).1⟩), hsu, ?_, h.ra, h.rb, by omega, by omega, la, lb, h.cn⟩, by show S'.ops + q ≤ _; omega⟩
  · intro k hk e
    have hl := hreg k hk
    rcases e with e | e
    · rcases hx k e with e | e
      · exact hdj k hk (.inl e)
      · omega
    · have := ht k e
      omega
/-- Both save the same. -/
theorem Tw.save (hT : Tab w1) (h : Tw w1 w d sb g tb R T S σ R' T' S' σ' c ka oa kb ob i) (hi : i < 15) (ho : S.ops ≤ 10000) (ho' : S'.ops ≤ 10000) (m : Nat) (x : UInt8) (hm : m ≤ 499) (xg xc : Nat) (hv : Rd w (.slice (some ⟨xg, 0, none⟩) m xc) (List.replicate m x)) (hxl : xg < w.heap.size) (hxR : ¬ (R xg ∨ T xg)) :
    Calls Tryd.prog 15 #[.pointer (some ⟨sb, 0, none⟩), .slice (some ⟨xg, 0, none⟩) m xc] w fun e w' => e = .returned (.int .i64 0) ∧ ∃ R1 T1 S1, S1.ops ≤ S.ops + 10 ∧
      Calls Tryd.prog 15 #[.pointer (some ⟨tb, 0, none⟩), .slice (some ⟨xg, 0, none⟩) m xc] w' fun e w'' => e = .returned (.int .i64 0) ∧ ∃ R2 T2 S2 c2 ka2 oa2 kb2 ob2, S2.ops ≤ S'.ops + 10 ∧ Tw w1 w'' d sb g tb R1 T1 S1 (σ.saved (List.replicate m x)) R2 T2 S2 (σ'.saved (List.replicate m x)) c2 ka2 oa2 kb2 ob2 (i + 1) := by
  have hk := h.kept
  have hot : σ'.other = σ.other := by unfold SS.other; rw [hk]
  have hct : σ'.count = σ.count := by unfold SS.count; rw [hk]
  have la := h.la
  have lb := h.lb
  have al := h.al
  have bl := h.bl
  have cn := h.cn
  have h0 := J_zero σ
  have h1 := J_one σ
  have h0' := J_zero σ'
  have h1' := J_one σ'
  have hy : σ.other = 0 ∨ σ.other = 1 := by unfold SS.other; split <;> omega
  have hsec : secsOf (8 + (List.replicate m x).length) ≤ 2 := by simp [secsOf]; omega
  refine (su_save hT h.s (by omega) _ (List.replicate m x) hv (by rw [h.s.hh]; simp; omega) (by omega) (by
    rcases hy with e | e
    · rw [e, h0]; omega
    · rw [e, h1]; omega) (by omega)).mono ?_
  rintro e w' ⟨R1, T1, S1, rfl, hx1, ht1, hk1, ho1, hcase1⟩
  refine ⟨rfl, R1, T1, S1, by omega, ?_⟩
  have ht' : Su w1 w' R' T' g tb S' σ' 10 c ka oa kb ob := h.t.apart hk1 (fun k hk => ⟨fun e => h.dj k hk (.inl e), fun e => h.dj k hk (.inr e), (h.s.reg k hk).1⟩)
  have hv' : Rd w' (.slice (some ⟨xg, 0, none⟩) m xc) (List.replicate m x) := by
    rcases hv with ⟨e, _⟩ | ⟨ad, cap, e, h1, h2, h3⟩
    · cases e
    · injection e with e1 e2 e3
      injection e1 with e1
      subst e1; subst e3
      refine .inr ⟨_, xc, by rw [List.length_replicate], h1, h2, fun j b hj => ?_⟩
      have := h3 j b hj
      rw [addr_mid] at this ⊢
      exact (hk1.cell (p := ⟨xg, 0 + j, none⟩) hxl hxR).trans this
  refine (su_save hT ht' (by omega) _ (List.replicate m x) hv' (by rw [h.t.hh]; simp; omega) (by omega) (by
    rw [hot]
    rcases hy with e | e
    · rw [e, h0']; omega
    · rw [e, h1']; omega) (by omega)).mono ?_
  rintro e w'' ⟨R2, T2, S2, rfl, hx2, ht2, hk2, ho2, hcase2⟩
  have hdj1 : ∀ k, (R1 k ∨ T1 k) → ¬ (R' k ∨ T' k) := fun k hk e => by
    have hl := h.t.reg k e
    have : R k ∨ T k := by
      rcases hk with hk | hk
      · exact .inl ((hx1 k hk).resolve_right (by omega))
      · exact .inr ((ht1 k hk).resolve_right (by omega))
    exact h.dj k this e
  have fin : ∀ {c2 ka2 oa2 kb2 ob2}, Su w1 w' R1 T1 d sb S1 (σ.saved (List.replicate m x)) 10 c2 ka2 oa2 kb2 ob2 → (∀ k, (R1 k ∨ T1 k) → ¬ (R2 k ∨ T2 k)) ∧ Su w1 w'' R1 T1 d sb S1 (σ.saved (List.replicate m x)) 10 c2 ka2 oa2 kb2 ob2 := fun hs1 => by
    refine ⟨fun k hk e => ?_, hs1.apart hk2 (fun k hk => ⟨fun e => hdj1 k (.inl e) hk, fun e => hdj1 k (.inr e) hk, (ht'.reg k hk).1⟩)⟩
    have hl := hs1.reg k hk
    rcases e with e | e
    · exact hdj1 k hk (.inl ((hx2 k e).resolve_right (by omega)))
    · exact hdj1 k hk (.inr ((ht2 k e).resolve_right (by omega)))
  refine ⟨rfl, R2, T2, S2, ?_⟩
  have ks := saved_kept σ (List.replicate m x)
  have kc := count1 ks
  rcases hy with e | e
  · have s1 := saved_A0 (List.replicate m x) e
    have s2 := saved_A0 (List.replicate m x) (hot.trans e)
    rcases hcase1 with ⟨_, hs1⟩ | ⟨e1, _⟩
    rotate_left
    · omega
    rcases hcase2 with ⟨_, hs2⟩ | ⟨e1, _⟩
    rotate_left
    · omega
    rw [la, hct] at hs2
    obtain ⟨f1, f2⟩ := fin hs1
    refine ⟨_, _, _, _, _, by omega, ⟨f2, hs2, f1, ?_, ?_, by omega, by rw [s1.2.1, s2.2.1]; exact lb, by omega, by rw [s1.2.1]; omega, by omega⟩⟩
    · rw [s1.1]; exact h.ra.save hm (by omega) (fun j _ h2 => hs1.len j (by omega))
    · rw [s1.2.1]; exact h.rb.away (fun j h1 h2 => savC_out (.inr (by rw [recB_len]; omega)))
  · have s1 := saved_B1 (List.replicate m x) e
    have s2 := saved_B1 (List.replicate m x) (hot.trans e)
    rcases hcase1 with ⟨e1, _⟩ | ⟨_, hs1⟩
    · omega
    rcases hcase2 with ⟨e1, _⟩ | ⟨_, hs2⟩
    · omega
    rw [lb, hct] at hs2
    obtain ⟨f1, f2⟩ := fin hs1
    refine ⟨_, _, _, _, _, by omega, ⟨f2, hs2, f1, ?_, ?_, by rw [s1.2.1, s2.2.1]; exact la, by omega, by rw [s1.2.1]; omega, by omega, by omega⟩⟩
    · rw [s1.2.1]; exact h.ra.away (fun j h1 h2 => savC_out (.inl (by omega)))
    · rw [s1.1]; exact h.rb.save hm (by omega) (fun j _ h2 => hs1.len j (by omega))
end
end Go.Proofs.YtfigiofiakkbdaaDoor
