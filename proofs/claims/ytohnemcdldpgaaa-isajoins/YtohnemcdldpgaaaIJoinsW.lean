/-
  The walk of IsaJoins.
-/
import Derived.Test.YtohnemcdldpgaaaIS
import Derived.Test.YtohnemcdldpgaaaISame
import Derived.Test.YtohnemcdldpgaaaIA
import Derived.Test.YtohnemcdldpgaaaMasks
namespace Go.Proofs.Ytohnemcdldpgaaa
open Go.RowKit
set_option linter.all false

/-- append(v, y...) aa a step of a region that draws its order. -/
theorem step_append8 {w : World} {ops : Array Oper} {o : Oper} {a : Act} {K : Act → World → Prop} {Q : Exit → Act → World → Prop} {E : Prop} (hgd : o.guard = none) (s x : Operand)
    (ho : o.op = .call { callee := .builtin .append, args := #[s, x], argTypes := #[27, 27] })
    (base g0 n0 c0 : Nat) (xs : List UInt8) (hs : a.eval s = .slice (some ⟨g0, 0, none⟩) n0 c0) (hown : Own w base (.slice (some ⟨g0, 0, none⟩) n0 c0) xs)
    (y : Value) (bs : List UInt8) (hx : a.eval x = y) (hb : Rd w y bs) (hlen : xs.length + bs.length ≤ 1000000000) (hbase : base ≤ w.heap.size)
    (h : ∀ g cap w', Own w' base (.slice (some ⟨g, 0, none⟩) (xs.length + bs.length) cap) (xs ++ bs) → w.grownBy w' (some g0) → K (a.put o.dst (.slice (some ⟨g, 0, none⟩) (xs.length + bs.length) cap)) w') :
    if Region.wanted o (yielded ops a.tmps) = true then Oper.wp Try.prog o a w K Q else E := by
  have hw : Region.wanted o (yielded ops a.tmps) = true := by simp [Region.wanted, hgd]
  rw [if_pos hw]
  obtain ⟨g, cap, w', hr, h2, h3⟩ := run_append_bytes w o.type base g0 n0 c0 xs hown y bs hb hlen hbase
  unfold Oper.wp execOp
  simp only [ho, resolve, invoke, builtin, Sem.run_bind, Sem.run_pure, Result.andThen_ok, List.map_toArray, List.map_cons, List.map_nil, hs, hx, hr]
  exact h g cap w' h2 h3
/-- What decodes to so many. -/
theorem dec_parts {bs : List UInt8} (h : decO bs = true) : bs.length = 8 * (decL bs).length ∧ 1 ≤ (decL bs).length ∧ rightO (decL bs) = true := by
  unfold decO at h
  simp only [Bool.and_eq_true, decide_eq_true_eq] at h
  have hl := decL_len _ bs rfl
  exact ⟨by omega, by omega, h.2⟩
theorem dec_both {a b : List UInt8} (ha : decO a = true) (hb : decO b = true) (hla : a.length ≤ 2000) (hlb : b.length ≤ 2000) : decL (a ++ b) = decL a ++ decL b ∧ decO (a ++ b) = true := by
  obtain ⟨a1, a2, a3⟩ := dec_parts ha
  obtain ⟨b1, b2, b3⟩ := dec_parts hb
  have he := decL_app _ a b a1
  refine ⟨he, ?_⟩
  unfold decO
  rw [he, right_app _ _ a3, b3, Bool.and_true]
  apply decide_eq_true
  rw [List.length_append]
  omega
/-- Cut between two. -/
theorem dec_cut {bs : List UInt8} (h : decO bs = true) (k : Nat) (x : In) (h1 : 1 ≤ k) (hx : (decL bs)[k]? = some x) :
    decO (bs.take (8 * k)) = decide (x.op ≠ 0) ∧ decO (bs.drop (8 * k)) = decide (x.op ≠ 0) ∧ (decL (bs.take (8 * k))).length = k ∧ (decL (bs.drop (8 * k))).length = (decL bs).length - k := by
  obtain ⟨p1, p2, p3⟩ := dec_parts h
  have hk : k < (decL bs).length := (List.getElem?_eq_some_iff.1 hx).1
  have l1 : (bs.take (8 * k)).length = 8 * k := by rw [List.length_take]; omega
  have l2 : (bs.drop (8 * k)).length = 8 * ((decL bs).length - k) := by rw [List.length_drop]; omega
  have e0 : decL (bs.take (8 * k) ++ bs.drop (8 * k)) = _ := decL_app k _ _ l1
  rw [List.take_append_drop] at e0
  have n1 : (decL (bs.take (8 * k))).length = k := decL_len k _ (by omega)
  have n2 : (decL (bs.drop (8 * k))).length = (decL bs).length - k := decL_len _ _ (by omega)
  have key : ∀ (P Q : List In), P.length = k → (P ++ Q).take k = P ∧ (P ++ Q).drop k = Q := fun P Q h => by subst h; simp
  have e3 := key _ (decL (bs.drop (8 * k))) n1
  rw [← e0] at e3
  have e1 : decL (bs.take (8 * k)) = (decL bs).take k := e3.1.symm
  have e2 : decL (bs.drop (8 * k)) = (decL bs).drop k := e3.2.symm
  have hc := right_cut (decL bs) k x p3 hx
  have hm : (decL bs).length ≤ 512 := by
    unfold decO at h
    simp only [Bool.and_eq_true, decide_eq_true_eq] at h
    omega
  refine ⟨?_, ?_, n1, n2⟩
  · unfold decO
    rw [e1, hc.1, decide_eq_true (by omega), Bool.true_and]
  · unfold decO
    rw [e2, hc.2, decide_eq_true (by omega), Bool.true_and]
/-- v[:n] of a row that the call made; v[n:]. -/
theorem Rd.drop {w : World} {ad : Addr} {n cap : Nat} {bs : List UInt8} (h : Rd w (.slice (some ad) n cap) bs) (k : Nat) (hk : k < bs.length) : Rd w (.slice (some (ad.add k)) (n - k) (cap - k)) (bs.drop k) := by
  rcases h with ⟨e, _⟩ | ⟨ad', cap', e, h1, h2, h4⟩
  · cases e
  · injection e with e1 e2 e3
    injection e1 with e1
    subst e1; subst e2; subst e3
    refine .inr ⟨ad.add k, cap - k, by rw [List.length_drop], by rw [List.length_drop]; omega, by omega, fun i b hi => ?_⟩
    rw [add_add]
    rw [List.getElem?_drop] at hi
    exact h4 (k + i) b hi
set_option maxRecDepth 100000 in
set_option maxHeartbeats 6400000 in
theorem isaJoins_c {w : World} {v u : Value} {aa bs : List UInt8} (ha : Rd w v aa) (hb : Rd w u bs) (at_ : Int) : Calls Try.prog 7 #[v, u, .int .i64 at_] w fun e w' => e = .returned (.bool true) ∧ Calm w w' := by
  obtain ⟨A, ca, rfl, hca, hma⟩ := ha.form
  obtain ⟨B, cb, rfl, hcb, hmb⟩ := hb.form
  unfold maxLen at hma hmb
  have H1 := Lib.hid ha
  have H2 := Lib.hid hb
  obtain ⟨n, hn⟩ : ∃ n, n = aa.length := ⟨_, rfl⟩
  obtain ⟨m, hm⟩ : ∃ m, m = bs.length := ⟨_, rfl⟩
  have HN := Lib.hid (And.intro hn hm)
  have i9 : (n : Int) ≤ 9223372036854775807 := by omega
  have i8 : (m : Int) ≤ 9223372036854775807 := by omega
  have i7 : (n : Int) ≤ (ca : Int) := by omega
  have i6 : (m : Int) ≤ (cb : Int) := by omega
  obtain ⟨q, hq0, hq1, hq2, -⟩ := cut_len n 2000
  obtain ⟨p, hp0, hp1, hp2, -⟩ := cut_len m 2000
  have hq : (if 2000 < (n : Int) then 2000 else (n : Int)) = (q : Int) := hq0
  have hp : (if 2000 < (m : Int) then 2000 else (m : Int)) = (p : Int) := hp0
  rw [← hn] at H1 ⊢
  rw [← hm] at H2 ⊢
  have R1 : Hid (Rd w (.slice A q ca) (aa.take q)) := Lib.hid (by have := H1.out; rw [HN.out.1] at this; exact this.cut q (by rw [← HN.out.1]; exact hq2))
  have R2 : Hid (Rd w (.slice B p cb) (bs.take p)) := Lib.hid (by have := H2.out; rw [HN.out.2] at this; exact this.cut p (by rw [← HN.out.2]; exact hp2))
  have HQ : Hid ((aa.take q).length = q ∧ (bs.take p).length = p) := Lib.hid ⟨by rw [List.length_take, ← HN.out.1]; omega, by rw [List.length_take, ← HN.out.2]; omega⟩
  generalize aa.take q = xa at R1 HQ
  generalize bs.take p = xb at R2 HQ
  have j1 : (q : Int) ≤ 2000 := by omega
  have j2 : (q : Int) ≤ (ca : Int) := by omega
  have j3 : (p : Int) ≤ (cb : Int) := by omega
  have j4 : (p : Int) ≤ 2000 := by omega
  have j5 : (q : Int) ≤ (n : Int) := by omega
  have j6 : (p : Int) ≤ (m : Int) := by omega
  clear ha hb hn hm hca hcb hma hmb hq0 hp0 H1 H2 HN hq1 hq2 hp1 hp2
  go_enter Try.func7, Try.ntmps7
  go_wp2_with fail
  refine (shown5_c w).mono ?_
  rintro e w1 ⟨rfl, hc1⟩
  have C1 := Lib.hid hc1
  have D1 := Lib.hid (decode_c (R1.out.calm hc1))
  clear hc1
  go_wp2_with fail
  refine D1.out.mono ?_
  rintro e w2 ⟨hc2, hcase⟩
  have C2 := Lib.hid (C1.out.trans hc2)
  have D2 := Lib.hid (decode_c (R2.out.calm C2.out))
  clear hc2 D1 C1
  rcases hcase with ⟨hya, vx, rfl, hix⟩ | ⟨hna, rfl⟩
  rotate_left
  · clear hna
    go_wp2_with fail
    refine D2.out.mono ?_
    rintro e w3 ⟨hc3, hcase⟩
    have C3 := Lib.hid (C2.out.trans hc3)
    clear hc3 D2
    rcases hcase with ⟨-, vy, rfl, -⟩ | ⟨-, rfl⟩
    · go_wp2_with fail
      go_ret
      exact ⟨rfl, C3.out⟩
    · go_wp2_with fail
      go_ret
      exact ⟨rfl, C3.out⟩
  obtain ⟨AX, cx, rfl, -, -⟩ := hix.form
  have HIX := Lib.hid hix
  have HYA := Lib.hid hya
  clear hix hya
  go_wp2_with fail
  refine D2.out.mono ?_
  rintro e w3 ⟨hc3, hcase⟩
  have C3 := Lib.hid (C2.out.trans hc3)
  have HIX := Lib.hid (HIX.out.calm hc3)
  clear hc3 D2 C2
  rcases hcase with ⟨hyb, vy, rfl, hiy⟩ | ⟨hnb, rfl⟩
  rotate_left
  · clear hnb
    go_wp2_with fail
    go_ret
    exact ⟨rfl, C3.out⟩
  obtain ⟨AY, cy, rfl, -, -⟩ := hiy.form
  have HIY := Lib.hid hiy
  have HYB := Lib.hid hyb
  clear hiy hyb
  obtain ⟨a1, a2, -⟩ := dec_parts HYA.out
  obtain ⟨b1, b2, -⟩ := dec_parts HYB.out
  rw [HQ.out.1] at a1
  rw [HQ.out.2] at b1
  have BOTH := Lib.hid (dec_both HYA.out HYB.out (by rw [HQ.out.1]; omega) (by rw [HQ.out.2]; omega))
  obtain ⟨X, hX⟩ : ∃ X, X = decL xa := ⟨_, rfl⟩
  obtain ⟨Y, hY⟩ : ∃ Y, Y = decL xb := ⟨_, rfl⟩
  rw [← hX] at HIX a1 a2 BOTH ⊢
  rw [← hY] at HIY b1 b2 BOTH ⊢
  obtain ⟨nx, hnx⟩ : ∃ k, k = X.length := ⟨_, rfl⟩
  obtain ⟨ny, hny⟩ : ∃ k, k = Y.length := ⟨_, rfl⟩
  rw [← hnx] at HIX a1 a2 ⊢
  rw [← hny] at HIY b1 b2 ⊢
  have HLEN := Lib.hid (And.intro hnx hny)
  have RA : Hid (Rd w3 (.slice A q ca) xa) := Lib.hid (R1.out.calm C3.out)
  have RB : Hid (Rd w3 (.slice B p cb) xb) := Lib.hid (R2.out.calm C3.out)
  have y1 : (8 * (nx : Int)) = (q : Int) := by omega
  have y2 : (8 * (ny : Int)) = (p : Int) := by omega
  have y3 : IntKind.i64.wrap (q : Int) = (q : Int) := by rw [IntKind.wrap_i64]; omega
  have y4 : IntKind.i64.wrap (p : Int) = (p : Int) := by rw [IntKind.wrap_i64]; omega
  have y5 : ¬ ((q : Int) < 0) := by omega
  have y6 : ¬ ((p : Int) < 0) := by omega
  have HAB := Lib.hid (And.intro a1 (And.intro a2 (And.intro b1 b2)))
  clear hX hY hnx hny a1 a2 b1 b2 R1 R2
  go_upto_region 6 with fail
  refine wp_region_noPanic ?_
  refine wp_region_held_drew (S := fun w' => Calm w3 w') (by kernel_rfl) (Keep.refl _ w3).drew (fun hHeld => ?_)
  refine take_at 1 48 (.slice A n ca) rfl rfl (by kernel_rfl) (by kernel_rfl) (by kernel_rfl) (fun _ _ _ h => h) (Or.inl ⟨by rfl, ?_⟩) hHeld ?_
  · intro w hSw; go_simp
  simp only [List.setIfInBounds_toArray, List.set_cons_zero, List.set_cons_succ]
  refine take_at 2 49 (.slice AX nx cx) rfl rfl (by kernel_rfl) (by kernel_rfl) (by kernel_rfl) (fun _ _ _ h => h) (Or.inl ⟨by rfl, ?_⟩) hHeld ?_
  · intro w hSw; go_simp
  simp only [List.setIfInBounds_toArray, List.set_cons_zero, List.set_cons_succ]
  refine take_at 3 50 (.int .i64 (nx : Int)) rfl rfl (by kernel_rfl) (by kernel_rfl) (by kernel_rfl) (fun _ _ _ h => h) (Or.inl ⟨by rfl, ?_⟩) hHeld ?_
  · intro w hSw; go_simp
  simp only [List.setIfInBounds_toArray, List.set_cons_zero, List.set_cons_succ]
  refine take_at 4 51 (.int .i64 (q : Int)) rfl rfl (by kernel_rfl) (by kernel_rfl) (by kernel_rfl) (fun _ _ _ h => h) (Or.inl ⟨by rfl, ?_⟩) hHeld ?_
  · intro w hSw; go_simp
  simp only [List.setIfInBounds_toArray, List.set_cons_zero, List.set_cons_succ]
  refine take_at 5 52 (.slice A q ca) rfl rfl (by kernel_rfl) (by kernel_rfl) (by kernel_rfl) (fun _ _ _ h => h) (Or.inl ⟨by rfl, ?_⟩) hHeld ?_
  · intro w hSw; go_simp
  simp only [List.setIfInBounds_toArray, List.set_cons_zero, List.set_cons_succ]
  refine take_at 7 54 (.slice B m cb) rfl rfl (by kernel_rfl) (by kernel_rfl) (by kernel_rfl) (fun _ _ _ h => h) (Or.inl ⟨by rfl, ?_⟩) hHeld ?_
  · intro w hSw; go_simp
  simp only [List.setIfInBounds_toArray, List.set_cons_zero, List.set_cons_succ]
  refine take_at 8 55 (.slice AY ny cy) rfl rfl (by kernel_rfl) (by kernel_rfl) (by kernel_rfl) (fun _ _ _ h => h) (Or.inl ⟨by rfl, ?_⟩) hHeld ?_
  · intro w hSw; go_simp
  simp only [List.setIfInBounds_toArray, List.set_cons_zero, List.set_cons_succ]
  refine take_at 9 56 (.int .i64 (ny : Int)) rfl rfl (by kernel_rfl) (by kernel_rfl) (by kernel_rfl) (fun _ _ _ h => h) (Or.inl ⟨by rfl, ?_⟩) hHeld ?_
  · intro w hSw; go_simp
  simp only [List.setIfInBounds_toArray, List.set_cons_zero, List.set_cons_succ]
  refine take_at 10 57 (.int .i64 (p : Int)) rfl rfl (by kernel_rfl) (by kernel_rfl) (by kernel_rfl) (fun _ _ _ h => h) (Or.inl ⟨by rfl, ?_⟩) hHeld ?_
  · intro w hSw; go_simp
  simp only [List.setIfInBounds_toArray, List.set_cons_zero, List.set_cons_succ]
  refine take_at 11 58 (.slice B p cb) rfl rfl (by kernel_rfl) (by kernel_rfl) (by kernel_rfl) (fun _ _ _ h => h) (Or.inl ⟨by rfl, ?_⟩) hHeld ?_
  · intro w hSw; go_simp
  simp only [List.setIfInBounds_toArray, List.set_cons_zero, List.set_cons_succ]
  refine wpAnyH_ready (rs := [0]) (by kernel_rfl) (by simp) ?_
  refine AllReadyH.cons rfl (fun K hK => ?_) AllReadyH.nil
  go_simp
  refine hK.out _ _ (hHeld.trans ((Keep.refl _ _).alloc _)) (fun hHeld => ?_)
  clear hK K
  try simp only [List.setIfInBounds_toArray, List.set_cons_zero, List.set_cons_succ]
  refine wpAnyH_ready (rs := [6]) (by kernel_rfl) (by simp) ?_
  refine AllReadyH.cons rfl (fun K hK => ?_) AllReadyH.nil
  refine step_append8 rfl (.tmp 47) (.tmp 52) rfl w3.heap.size w3.heap.size 0 0 [] rfl (Own.moved (Own.made w3) (Keep.refl _ _).drew) (.slice A q ca) xa rfl (RA.out.calm hHeld) (by rw [HQ.out.1]; simp; omega) hHeld.size ?_
  rintro g4 c4 w4 ho4 hg4
  rw [List.nil_append] at ho4
  generalize hle : (([] : List UInt8).length + xa.length) = l4 at ho4 ⊢
  have HO4 := Lib.hid ho4
  have HL4 := Lib.hid hle
  have hC4 := hHeld.grown hg4 (fun k e hk => by injection e with e; omega)
  rw [put_at _ _ _ 53 rfl]
  refine hK.out _ _ hC4 (fun hHeld => ?_)
  clear hK K
  try simp only [List.setIfInBounds_toArray, List.set_cons_zero, List.set_cons_succ]
  clear ho4 hg4 hle
  refine wpAnyH_ready (rs := [12]) (by kernel_rfl) (by simp) ?_
  refine AllReadyH.cons rfl (fun K hK => ?_) AllReadyH.nil
  refine step_append8 rfl (.tmp 53) (.tmp 58) rfl w3.heap.size g4 l4 c4 xa rfl HO4.out (.slice B p cb) xb rfl (RB.out.calm hHeld) (by rw [HQ.out.1, HQ.out.2]; omega) hHeld.size ?_
  rintro g5 c5 w5 ho5 hg5
  generalize hle5 : (xa.length + xb.length) = l5 at ho5 ⊢
  have HO5 := Lib.hid ho5
  have HL5 := Lib.hid hle5
  have hC5 := hHeld.grown hg5 (fun k e hk => by injection e with e; have := HO4.out.form.choose_spec.2.1; omega)
  rw [put_at _ _ _ 59 rfl]
  refine hK.out _ _ hC5 (fun hHeld => ?_)
  clear hK K
  try simp only [List.setIfInBounds_toArray, List.set_cons_zero, List.set_cons_succ]
  clear ho5 hg5 hle5
  refine wpAnyH_ready (rs := [13]) (by kernel_rfl) (by simp) ?_
  refine AllReadyH.cons rfl (fun K hK => ?_) AllReadyH.nil
  go_simp
  refine hK.out _ _ hHeld (fun hHeld => ?_)
  clear hK K
  try simp only [List.setIfInBounds_toArray, List.set_cons_zero, List.set_cons_succ]
  refine wpAnyH_done (by kernel_rfl) (NoPanic.normal ?_) _
  have C5 := Lib.hid (C3.out.trans hHeld)
  have HIX5 := Lib.hid (HIX.out.calm hHeld)
  have HIY5 := Lib.hid (HIY.out.calm hHeld)
  clear hHeld hC4 hC5 HO4 HL4 RA RB HIX HIY
  have HR5 := Lib.hid (HO5.out.rd ⟨_, _, _, rfl⟩)
  have hl5 : l5 = (nx + ny) * 8 := by have := HL5.out; have := HAB.out; rw [HQ.out.1, HQ.out.2] at *; omega
  subst hl5
  have D5 := Lib.hid (decode_c HR5.out)
  go_wp2_with fail
  refine D5.out.mono ?_
  rintro e w6 ⟨hc6, hcase⟩
  rcases hcase with ⟨-, vl, rfl, hil⟩ | ⟨hno, -⟩
  rotate_left
  · rw [BOTH.out.2] at hno; cases hno
  rw [BOTH.out.1] at hil
  obtain ⟨AL, cl, rfl, hcl, -⟩ := hil.form
  have hll : (X ++ Y).length = nx + ny := by rw [List.length_append, HLEN.out.1, HLEN.out.2]
  rw [hll] at hil hcl ⊢
  have C6 := Lib.hid (C5.out.trans hc6)
  have HIL := Lib.hid hil
  have HIX6 := Lib.hid (HIX5.out.calm hc6)
  have HIY6 := Lib.hid (HIY5.out.calm hc6)
  have HR6 := Lib.hid (HR5.out.calm hc6)
  have kcl : ((nx : Int) + (ny : Int)) ≤ (cl : Int) := by omega
  have kx : (nx : Int) ≤ 250 := by have := HAB.out.1; omega
  have ky : (ny : Int) ≤ 250 := by have := HAB.out.2.2.1; omega
  have kx1 : (1 : Int) ≤ (nx : Int) := by have := HAB.out.2.1; omega
  have ky1 : (1 : Int) ≤ (ny : Int) := by have := HAB.out.2.2.2; omega
  clear hil hc6 D5 C5 HIX5 HIY5 hll hcl HO5 HL5
  have CA : Hid (Calm w6 (w6.alloc (.cells #[] 24))) := Lib.hid ((Keep.refl _ w6).alloc _)
  go_wp2_with (first
    | (at_builtin; go_loud (refine append_ins rfl (.tmp 69) (.tmp 70) rfl w6.heap.size w6.heap.size 0 0 [] rfl (OwnI.made w6) (.slice AX nx cx) X rfl (HIX6.out.calm CA.out) (by have := HLEN.out.1; have := HAB.out.1; simp; omega) (by simp) ?_); rintro g7 c7 w7 ho7 hg7; rw [List.nil_append] at ho7; have C7 : Hid (Calm w6 w7) := Lib.hid (CA.out.grown hg7 (fun k e hk => by injection e with e; omega)); have HO7 := Lib.hid ho7; generalize hle7 : (([] : List In).length + X.length) = l7 at HO7 ⊢; clear ho7 hg7 hle7)
    | (at_builtin; go_loud (refine append_ins rfl (.tmp 71) (.tmp 72) rfl w6.heap.size g7 l7 c7 X rfl HO7.out (.slice AY ny cy) Y rfl (HIY6.out.calm C7.out) (by have := HLEN.out; have := HAB.out; omega) C7.out.size ?_); rintro g8 c8 w8 ho8 hg8; have C8 : Hid (Calm w6 w8) := Lib.hid (C7.out.grown hg8 (fun k e hk => by injection e with e; have := HO7.out.low.1; omega)); have HO8 := Lib.hid ho8.ins; generalize hle8 : (X.length + Y.length) = l8 at HO8 ⊢; clear ho8 hg8 hle8))
  have SM := Lib.hid (same_c (HIL.out.calm C8.out) HO8.out)
  rw [decide_eq_true (rfl : X ++ Y = X ++ Y)] at SM
  refine SM.out.mono ?_
  rintro e w9 ⟨rfl, hc9⟩
  have C9 := Lib.hid (C6.out.trans (C8.out.trans hc9))
  have HIL9 := Lib.hid (HIL.out.calm (C8.out.trans hc9))
  have HR9 := Lib.hid (HR6.out.calm (C8.out.trans hc9))
  clear hc9 SM HIX6 HIY6 HIL HR6 C7 C8 HO7 HO8 CA C6
  obtain ⟨N, hN⟩ : ∃ N, N = nx + ny := ⟨_, rfl⟩
  have HNN := Lib.hid hN
  rw [← hN] at HIL9 HR9 ⊢
  have hlXY : (xa ++ xb).length = N * 8 := by rw [List.length_append, HQ.out.1, HQ.out.2, hN]; have := HAB.out; omega
  have hlL : (decL (xa ++ xb)).length = N := by rw [BOTH.out.1, List.length_append, ← HLEN.out.1, ← HLEN.out.2, hN]
  have n1 : (2 : Int) ≤ (N : Int) := by omega
  have n2 : (N : Int) ≤ 500 := by omega
  have n3 : (N : Int) ≤ (cl : Int) := by omega
  have n4 : decide ((N : Int) < 2) = false := decide_eq_false (by omega)
  obtain ⟨r, hr16, hmask⟩ := mask_nat at_ 16 65535 (by decide) rfl
  obtain ⟨t, ht⟩ : ∃ t, t = r % (N - 1) := ⟨_, rfl⟩
  have hd1 : 0 < N - 1 := by omega
  have htlt : t < N - 1 := by rw [ht]; exact Nat.mod_lt _ hd1
  have hrem : (r : Int) % ((N : Int) - 1) = (t : Int) := by
    rw [ht, Int.natCast_emod, Int.ofNat_sub (by omega)]
    rfl
  have hrem2 : (r : Int).tmod ((N : Int) - 1) = (t : Int) := by rw [Int.tmod_eq_emod_of_nonneg (by omega)]; exact hrem
  obtain ⟨k, hk⟩ : ∃ k, k = 1 + t := ⟨_, rfl⟩
  have hk1 : (1 : Int) + (t : Int) = (k : Int) := by omega
  obtain ⟨kk, hkk⟩ : ∃ kk, kk = 8 * k := ⟨_, rfl⟩
  have hkk1 : (8 : Int) * (k : Int) = (kk : Int) := by omega
  have hkN : k < N := by omega
  have k1 : (k : Int) < (N : Int) := by omega
  have hx0 : (decL (xa ++ xb))[k]? = some ((decL (xa ++ xb))[k]'(by rw [hlL]; exact hkN)) := List.getElem?_eq_getElem _
  generalize (decL (xa ++ xb))[k]'(by rw [hlL]; exact hkN) = x at hx0
  have CUT := dec_cut BOTH.out.2 k x (by omega) hx0
  rw [← hkk, hlL] at CUT
  have HCUT := Lib.hid CUT
  obtain ⟨ad, x', rfl, hx1, hat⟩ := HIL9.out.at_ (Keep.refl _ w9) k (by rw [← BOTH.out.1, hlL]; exact hkN)
  rw [← BOTH.out.1, hx0] at hx1
  cases hx1
  have HAT := Lib.hid hat
  have hkkN : (kk : Int) < (N : Int) * 8 := by omega
  have RT : Hid (Rd w9 (.slice (some ⟨g5, 0, none⟩) kk c5) ((xa ++ xb).take kk)) := Lib.hid (by
    have := HR9.out
    rw [← hlXY] at this
    exact this.cut kk (by rw [hlXY]; omega))
  have hc5 : N * 8 ≤ c5 := by
    obtain ⟨_, _, e1, h2, _⟩ := HR9.out.form
    injection e1 with _ e2 e3
    rw [hlXY] at h2
    omega
  have RDd : Hid (Rd w9 (.slice (some (Addr.add ⟨g5, 0, none⟩ kk)) (N * 8 - kk) (c5 - kk)) ((xa ++ xb).drop kk)) := Lib.hid (HR9.out.drop kk (by rw [hlXY]; omega))
  rw [addr_mid, Nat.zero_add] at RDd
  have n5 : (N : Int) * 8 ≤ (c5 : Int) := by omega
  have n6 : (kk : Int) ≤ (c5 : Int) := by omega
  have HKN := Lib.hid (And.intro hkN (And.intro hc5 (And.intro hkk hk)))
  clear hx0 CUT hat hlXY hlL hr16 ht hd1 htlt hrem hk hkk hkN hc5 hN HNN HR9 BOTH HLEN HAB
  have D6 := Lib.hid (decode_c RT.out)
  go_wp2_with fail
  refine D6.out.mono ?_
  rintro e wa ⟨hca, hcase⟩
  rw [HCUT.out.1] at hcase
  have Ca := Lib.hid (C9.out.trans hca)
  have D7 := Lib.hid (decode_c (RDd.out.calm hca))
  have HATa := Lib.hid (HAT.out.calm hca)
  clear hca D6
  by_cases hx : x.op = 0
  · rw [decide_eq_false (fun h => h hx)] at hcase
    rcases hcase with ⟨h, -⟩ | ⟨-, rfl⟩
    · cases h
    have gx : ((x.op : Int) == 0) = true := by rw [beq_iff_eq]; omega
    have HX := Lib.hid hx
    clear hx
    go_wp2_with fail
    refine D7.out.mono ?_
    rintro e wb ⟨hcb, hcase⟩
    rw [HCUT.out.2.1, decide_eq_false (fun h => h HX.out)] at hcase
    rcases hcase with ⟨h, -⟩ | ⟨-, rfl⟩
    · cases h
    have Cb := Lib.hid (Ca.out.trans hcb)
    have e0 := (HATa.out.calm hcb).c0
    clear hcb D7
    go_wp2_with fail
    go_ret
    exact ⟨rfl, Cb.out⟩
  · rw [decide_eq_true hx] at hcase
    rcases hcase with ⟨-, vp, rfl, hip⟩ | ⟨h, -⟩
    rotate_left
    · cases h
    obtain ⟨AP, cp, rfl, -, -⟩ := hip.form
    rw [HCUT.out.2.2.1]
    have gx : ((x.op : Int) == 0) = false := by rw [beq_eq_false_iff_ne]; omega
    have HX := Lib.hid hx
    clear hx hip
    go_wp2_with fail
    refine D7.out.mono ?_
    rintro e wb ⟨hcb, hcase⟩
    rw [HCUT.out.2.1, decide_eq_true HX.out] at hcase
    rcases hcase with ⟨-, vq, rfl, hiq⟩ | ⟨h, -⟩
    rotate_left
    · cases h
    obtain ⟨AQ, cq, rfl, -, -⟩ := hiq.form
    rw [HCUT.out.2.2.2]
    have Cb := Lib.hid (Ca.out.trans hcb)
    have e0 := (HATa.out.calm hcb).c0
    have gl : ((((N - k : Nat) : Int)) == (N : Int) - (k : Int)) = true := by rw [beq_iff_eq]; omega
    clear hcb D7 hiq
    go_wp2_with fail
    go_ret
    exact ⟨rfl, Cb.out⟩
end Go.Proofs.Ytohnemcdldpgaaa
