/-
  Package journal: readNext.
-/
import Derived.Test.YtfigiofiakkbdaaDoorJB4
import Derived.Handy
namespace Go.Proofs.YtfigiofiakkbdaaDoor
open Go.RowKit
set_option linter.all false

/-! ### Reads, one behind the other -/
def DS.rds : Nat → DS → Bool × DS
  | 0, S => (true, S)
  | k + 1, S => match S.op with
    | (true, S1) => DS.rds k S1
    | (false, S1) => (false, S1)
theorem DS.op_true {S S1 : DS} (h : S.op = (true, S1)) : S1.secs = S.secs ∧ S1.wait = S.wait ∧ S1.down = false ∧ S.down = false := by
  unfold DS.op at h
  split at h
  · simp at h
  · rename_i hd
    simp at hd
    split at h
    · injection h with _ h; subst h; exact ⟨rfl, rfl, hd, hd⟩
    · simp at h
    · injection h with _ h; subst h; exact ⟨rfl, rfl, hd, hd⟩
theorem DS.rds_true {k : Nat} : ∀ {S S1 : DS}, DS.rds k S = (true, S1) → S1.secs = S.secs ∧ S1.wait = S.wait := by
  induction k with
  | zero => intro S S1 h; simp only [DS.rds, Prod.mk.injEq] at h; obtain ⟨_, rfl⟩ := h; exact ⟨rfl, rfl⟩
  | succ k ih =>
    intro S S1 h
    simp only [DS.rds] at h
    rcases hop : S.op with ⟨ok, S2⟩
    rw [hop] at h
    cases ok
    · simp at h
    · have h1 := DS.op_true hop
      have h2 := ih h
      exact ⟨h2.1.trans h1.1, h2.2.trans h1.2.1⟩
theorem DS.rds_snoc {k : Nat} : ∀ {S S1 S2 : DS} {ok : Bool}, DS.rds k S = (true, S1) → S1.op = (ok, S2) → DS.rds (k + 1) S = (ok, S2) := by
  induction k with
  | zero =>
    intro S S1 S2 ok h hop
    simp only [DS.rds, Prod.mk.injEq] at h
    obtain ⟨_, rfl⟩ := h
    simp only [DS.rds, hop]
    cases ok <;> rfl
  | succ k ih =>
    intro S S1 S2 ok h hop
    simp only [DS.rds] at h
    rw [DS.rds]
    rcases hop' : S.op with ⟨ok', S'⟩
    rw [hop'] at h
    cases ok'
    · simp at h
    · exact ih h hop
theorem DS.rds_add {a b : Nat} {S S1 S2 : DS} {ok : Bool} (h : DS.rds a S = (true, S1)) (k : DS.rds b S1 = (ok, S2)) : DS.rds (a + b) S = (ok, S2) := by
  induction a generalizing S with
  | zero => simp only [DS.rds, Prod.mk.injEq] at h; obtain ⟨_, rfl⟩ := h; rw [Nat.zero_add]; exact k
  | succ a ih =>
    rw [show a + 1 + b = (a + b) + 1 by omega]
    simp only [DS.rds] at h ⊢
    rcases hop' : S.op with ⟨ok', S'⟩
    rw [hop'] at h
    cases ok'
    · simp at h
    · exact ih h
theorem DS.rds_fine {k n : Nat} : ∀ {S S1 : DS} {ok : Bool}, DS.rds k S = (ok, S1) → S.fine (n + k) → S1.fine n ∧ S1.secs.length = S.secs.length := by
  induction k with
  | zero => intro S S1 ok h hf; simp only [DS.rds, Prod.mk.injEq] at h; obtain ⟨_, rfl⟩ := h; exact ⟨hf, rfl⟩
  | succ k ih =>
    intro S S1 ok h hf
    simp only [DS.rds] at h
    rcases hop : S.op with ⟨ok', S2⟩
    rw [hop] at h
    have h1 := DS.op_wait hop
    have h2 := DS.op_fine (n := n + k) hop hf
    cases ok'
    · simp only [Prod.mk.injEq] at h; obtain ⟨_, rfl⟩ := h; exact ⟨h2.mono (by omega), h1.2.2⟩
    · have h3 := ih h h2
      exact ⟨h3.1, h3.2.trans h1.2.2⟩
theorem now_of {S S1 : DS} (h : S1.secs = S.secs ∧ S1.wait = S.wait) (i : Nat) : S1.now i = S.now i := by unfold DS.now; rw [h.1, h.2]
theorem areaB_of {S S1 : DS} (h : S1.secs = S.secs ∧ S1.wait = S.wait) (f n : Nat) : areaB S1 f n = areaB S f n := by
  induction n with
  | zero => rfl
  | succ n ih => simp only [areaB, ih, now_of h]

/-! ### What a sector holds has 512 bytes -/
theorem nowOf_all {α : Type} (P : α → Prop) (ws : List (Nat × α)) (i : Nat) : ∀ (s : α), P s → (∀ y ∈ ws, P y.2) → P (nowOf ws i s) := by
  induction ws with
  | nil => intro s h _; exact h
  | cons y l ih =>
    intro s h hy
    have : nowOf (y :: l) i s = nowOf l i (if y.1 = i then y.2 else s) := rfl
    rw [this]
    refine ih _ ?_ (fun z hz => hy z (by simp [hz]))
    split
    · exact hy y (by simp)
    · exact h
theorem IsDisk.now_len {w : World} {R : Nat → Prop} {d : Nat} {S : DS} (h : IsDisk w R d S) (i : Nat) (hi : i < S.secs.length) : (S.now i).length = 512 := by
  obtain ⟨sb, svs, wv, wvs, av, h⟩ := h
  refine nowOf_all (fun b => b.length = 512) S.wait i _ ?_ ?_
  · have hl : i < svs.length := by rw [h.secs.1]; exact hi
    have := (h.secs.2 i svs[i] S.secs[i] (List.getElem?_eq_getElem hl) (List.getElem?_eq_getElem hi)).len
    simpa [hi] using this
  · intro y hy
    obtain ⟨j, hj, rfl⟩ := List.getElem_of_mem hy
    have hlw : wvs.length = S.wait.length := by have := congrArg List.length h.waits.1; simpa using this
    exact (h.waits.2.2 j (wvs[j]'(by omega)).2 S.wait[j].2 (by simp [List.getElem?_eq_getElem (show j < wvs.length by omega)]) (by simp [List.getElem?_eq_getElem hj])).len
theorem areaB_add (S : DS) (f a b : Nat) : areaB S f (a + b) = areaB S f a ++ areaB S (f + a) b := by
  induction b with
  | zero => simp [areaB]
  | succ b ih => rw [← Nat.add_assoc]; simp only [areaB, ih, List.append_assoc, Nat.add_assoc]
theorem areaB_take (S : DS) (f n j : Nat) (hj : j ≤ n) (hl : (areaB S f j).length = 512 * j) : (areaB S f n).take (512 * j) = areaB S f j := by
  obtain ⟨r, rfl⟩ : ∃ r, n = j + r := ⟨n - j, by omega⟩
  rw [areaB_add, List.take_append_of_le_length (by omega), List.take_of_length_le (by omega)]

theorem oneAt_of (s P : List UInt8) (n len : Nat) (h1 : 512 ≤ s.length) (hn : n ≤ 4611686018427387904) (h8 : num (s.take 8) = n) (hl : num ((s.take 12).drop 8) = len) (hr : len + 16 ≤ s.length) (hP : P = s.take (512 * secsOf len)) :
    oneAt s n = if num ((P.take 16).drop 12) = more 0 (P.take 12 ++ (P.take (16 + len)).drop 16) then some ((P.take (16 + len)).drop 16) else none := by
  have hk : ∀ k, k ≤ 512 * secsOf len → P.take k = s.take k := fun k hk => by rw [hP, List.take_take, Nat.min_eq_left hk]
  have hq : 16 + len ≤ 512 * secsOf len := by unfold secsOf; omega
  unfold oneAt
  rw [if_neg (by rintro (e | e | e); omega; omega; exact e h8)]
  simp only
  rw [hl, if_neg (by omega), hk 16 (by omega), hk 12 (by omega), hk (16 + len) hq]
  have := head16_iff s ((s.take (16 + len)).drop 16) (by omega)
  rw [h8, hl] at this
  by_cases e : num ((s.take 16).drop 12) = more 0 (s.take 12 ++ (s.take (16 + len)).drop 16)
  · rw [if_pos e, if_pos (this.2 e)]
  · rw [if_neg e, if_neg (fun x => e (this.1 x))]

/-! ### A slice of bytes that the call made -/
def RdF (w : World) (base : Nat) (x : Value) (b : List UInt8) : Prop :=
  ∃ (g o cap : Nat) (cur : Array Value), x = .slice (some ⟨g, o, none⟩) b.length cap ∧ base ≤ g ∧ Row w g 5 cur ∧ b.length ≤ cap ∧ cap ≤ maxLen ∧ ∀ (i : Nat) c, b[i]? = some c → cur[o + i]? = some (bv c)
theorem RdF.rd {w : World} {base : Nat} {x : Value} {b : List UInt8} (h : RdF w base x b) : Rd w x b := by
  obtain ⟨g, o, cap, cur, e, _, hr, h1, h2, h3⟩ := h
  exact .inr ⟨_, cap, e, h1, h2, fun i c hi => by rw [addr_mid, hr.cell]; exact h3 i c hi⟩
theorem RdF.keep {w w' : World} {base : Nat} {x : Value} {b : List UInt8} {Q : Nat → Prop} (h : RdF w base x b) (k : Keep Q w w') (hQ : ∀ g cur, base ≤ g → Row w g 5 cur → ¬ Q g) : RdF w' base x b := by
  obtain ⟨g, o, cap, cur, e, hb, hr, h1⟩ := h
  exact ⟨g, o, cap, cur, e, hb, hr.keep k (hQ g cur hb hr), h1⟩
theorem Own.rdf {w : World} {base g n c o k : Nat} {bs : List UInt8} (h : Own w base (.slice (some ⟨g, 0, none⟩) n c) bs) (b : List UInt8) (hb : b = (bs.take (o + k)).drop o) (ho : o + k ≤ bs.length) : RdF w base (.slice (some ⟨g, o, none⟩) k (c - o)) b := by
  obtain ⟨cur, e, h0, h1, h2, h3, h4, h5⟩ := h.form
  have hl : b.length = k := by rw [hb]; simp; omega
  refine ⟨g, o, c - o, cur, by rw [hl], h0, h1, by omega, by omega, fun i x hi => ?_⟩
  rw [hb, List.getElem?_drop, List.getElem?_take] at hi
  split at hi
  · have e2 := congrArg (fun l => l[o + i]?) h5
    simp only [List.getElem?_take, if_pos (show o + i < n by omega), List.getElem?_map, hi] at e2
    simpa using e2
  · simp at hi
theorem Own.keep {w w' : World} {base : Nat} {v : Value} {bs : List UInt8} {Q : Nat → Prop} (h : Own w base v bs) (k : Keep Q w w') (hQ : ∀ g, base ≤ g → g < w.heap.size → ¬ Q g) : Own w' base v bs := by
  refine ⟨h.1, ?_⟩
  rcases h.2 with h0 | ⟨g, cap, cur, e, b0, h1, h2⟩
  · exact .inl h0
  · exact .inr ⟨g, cap, cur, e, b0, Row.keep (t := 5) (cs := cur) h1 k (hQ g b0 (Row.lt h1)), h2⟩
theorem Data.own_from {w : World} {g cap base : Nat} {bs : List UInt8} (h : Data w (fun k => k = g ∧ base ≤ k) (.slice (some ⟨g, 0, none⟩) 512 cap) bs) : Own w base (.slice (some ⟨g, 0, none⟩) 512 cap) bs := by
  have hl := h.len
  obtain ⟨g', cap', cur, e, h1, h2, h3, h4, h5, h6⟩ := h
  injection e with e1 _ e3
  injection e1 with e1
  injection e1 with e1
  subst e1; subst e3
  exact ⟨by simp, .inr ⟨g, cap, cur, by rw [hl], h6.2, h1, by omega, h3, by omega, by simpa [hl] using h5⟩⟩

/-- What readNext answers. -/
def RnRes (w0 w : World) (R : Nat → Prop) (d jb : Nat) (S : DS) (J : JS) (e : Ending) (w' : World) : Prop :=
  ∃ R' S1 k, k ≤ J.end_ - J.free ∧ Jn w0 w' R' d jb S1 J ∧ (∀ i, R' i → R i) ∧ Keep R w w' ∧
    ((DS.rds k S = (false, S1) ∧ e = .returned (.tuple #[.slice none 0 0, .bool false, .int .i64 11])) ∨
     (DS.rds k S = (true, S1) ∧ ((oneAt (areaB S J.free (J.end_ - J.free)) (J.last + 1) = none ∧ e = .returned (.tuple #[.slice none 0 0, .bool false, .int .i64 0])) ∨
       ∃ b v, oneAt (areaB S J.free (J.end_ - J.free)) (J.last + 1) = some b ∧ k = secsOf b.length ∧ e = .returned (.tuple #[v, .bool true, .int .i64 0]) ∧ RdF w' w.heap.size v b)))
theorem Jn.less {w0 w w' : World} {R R' : Nat → Prop} {d jb : Nat} {S S1 : DS} {J : JS} (h : Jn w0 w R d jb S J) (hs : Sd w0 w' R' d S1) (hx : ∀ k, R' k → R k) (hk : Keep R w w') : Jn w0 w' R' d jb S1 J := ⟨hs, h.row.keep hk h.out, fun e => h.out (hx _ e), h.new⟩
theorem Keep.less {R R' : Nat → Prop} {w w1 w2 : World} (h : Keep R w w1) (k : Keep R' w1 w2) (hx : ∀ k, R' k → R k) : Keep R w w2 := h.then_ k (fun i _ e => hx i e)

set_option maxRecDepth 100000 in
set_option maxHeartbeats 8000000 in
theorem readNext_c {w0 w : World} {R : Nat → Prop} {d jb : Nat} {S : DS} {J : JS} (hT : Tab w0) (h : Jn w0 w R d jb S J) (hle : J.free ≤ J.end_) (hen : J.end_ ≤ S.secs.length) (hl : J.last ≤ 4611686018427387904) (hf : S.fine (J.end_ - J.free)) :
    Calls Tryd.prog 75 #[.pointer (some ⟨jb, 0, none⟩)] w (RnRes w0 w R d jb S J) := by
  obtain ⟨from_, end_, free, last, failed⟩ := J
  simp only at hle hen hl hf
  unfold RnRes
  simp only
  have hfew := h.sd.few
  obtain ⟨c0, -, c2, c3, -, -⟩ := h.row.cells
  simp only at c0 c2 c3
  have hjl := h.lt
  have N := fun nq => Lib.hid (jnext_c (w := w.drewN nq) (h.row.calm ((Keep.refl _ w).drewN nq)) (by simp only; omega))
  simp only at N
  have hnl : Hid (∀ i, i < S.secs.length → (S.now i).length = 512) := Lib.hid (fun i hi => h.sd.st.disk.now_len i hi)
  have hsl : Hid (∀ n, free + n ≤ S.secs.length → (areaB S free n).length = 512 * n) := Lib.hid (fun n hn => areaB_len S free n (fun i hi => hnl.out _ (by omega)))
  have i1 : (last : Int) ≤ 4611686018427387904 := by omega
  have i2 : (free : Int) ≤ (end_ : Int) := by omega
  have i3 : (end_ : Int) ≤ 4096 := by omega
  have H := Lib.hid h
  clear h
  by_cases he : free = end_
  · -- no sector left
    subst he
    have hno : Hid (oneAt (areaB S free (free - free)) (last + 1) = none) := Lib.hid (oneAt_short _ _ (by rw [Nat.sub_self]; simp [areaB]))
    have t : ((free : Int) == (free : Int)) = true := by simp
    clear N
    go_enter Tryd.func75, Tryd.ntmps75
    go_wp2_with fail
    go_quiet (fail)
    go_wp2_with fail
    go_ret3
    exact ⟨R, S, 0, by omega, H.out.rest ((Keep.refl _ w).drewN _), fun _ e => e, (Keep.refl _ w).drewN _, .inr ⟨rfl, .inl ⟨hno.out, rfl⟩⟩⟩
  have hlt : free < end_ := by omega
  have t : ((free : Int) == (end_ : Int)) = false := by rw [beq_eq_false_iff_ne]; omega
  have hlen := hsl.out (end_ - free) (by omega)
  obtain ⟨s, hs⟩ : ∃ s, s = areaB S free (end_ - free) := ⟨_, rfl⟩
  rw [← hs] at hlen ⊢
  by_cases hbig : 4611686018427387904 < last + 1
  · have hno : Hid (oneAt s (last + 1) = none) := Lib.hid (by unfold oneAt; rw [if_pos (.inr (.inl hbig))])
    have t2 : decide ((4611686018427387904 : Int) < ((last + 1 : Nat) : Int)) = true := decide_eq_true (by omega)
    generalize last + 1 = nx at *
    clear hs hlen he
    go_enter Tryd.func75, Tryd.ntmps75
    go_wp2_with fail
    go_quiet ((go_at_call 68; exact Calls.quiet_of_same ((N _).out.mono (fun _ _ x => ⟨x.1, x.2.symm⟩))))
    go_wp2_with fail
    go_ret3
    exact ⟨R, S, 0, by omega, H.out.rest ((Keep.refl _ w).drewN _), fun _ e => e, (Keep.refl _ w).drewN _, .inr ⟨rfl, .inl ⟨hno.out, rfl⟩⟩⟩
  have t2 : decide ((4611686018427387904 : Int) < ((last + 1 : Nat) : Int)) = false := decide_eq_false (by omega)
  have Hs := Lib.hid hs
  have Hlen := Lib.hid hlen
  have Hf := Lib.hid hf
  clear hs hlen he hf
  obtain ⟨nx, hnx⟩ : ∃ nx, nx = last + 1 := ⟨_, rfl⟩
  rw [← hnx] at t2 N ⊢
  have Hnx := Lib.hid hnx
  clear hnx
  go_enter Tryd.func75, Tryd.ntmps75
  go_wp2_with fail
  go_quiet ((go_at_call 68; exact Calls.quiet_of_same ((N _).out.mono (fun _ _ x => ⟨x.1, x.2.symm⟩))))
  have H1 := Lib.hid (H.out.rest ((Keep.refl _ w).drewN nq))
  have C1 : Hid (Calm w (w.drewN nq)) := Lib.hid ((Keep.refl _ w).drewN nq)
  have d0 : (w.drewN nq).cell? ⟨jb, 0, none⟩ = some (.pointer (some ⟨d, 0, none⟩)) := c0
  have d3 : (w.drewN nq).cell? ⟨jb, 3, none⟩ = some (.int .i64 (free : Int)) := c3
  have hj1 : jb < (w.drewN nq).heap.size := hjl
  clear N c0 c2 c3 t t2
  generalize w.drewN nq = w1 at *
  have RD := Lib.hid (sd_read (w := w1.drew) (H1.out.rest ((Keep.refl _ w1).drew)).sd (Hf.out.mono (by omega)) free (by omega))
  go_upto_region 3 with fail
  refine wp_region_noPanic ?_
  refine wp_region_held_drew (S := fun wx => wx.cell? ⟨jb, 0, none⟩ = some (.pointer (some ⟨d, 0, none⟩)) ∧ wx.cell? ⟨jb, 3, none⟩ = some (.int .i64 (free : Int))) (by kernel_rfl) ⟨d0, d3⟩ (fun hHeld => ?_)
  refine take_at 0 27 (.pointer (some ⟨jb, 0, none⟩)) rfl rfl (by kernel_rfl) (by kernel_rfl) (by kernel_rfl) (fun _ _ _ h => h) (Or.inl ⟨by rfl, ?_⟩) hHeld ?_
  · intro w hSw; go_simp
  simp only [List.setIfInBounds_toArray, List.set_cons_zero, List.set_cons_succ]
  refine take_at 1 28 (.pointer (some ⟨jb, 0, none⟩)) rfl rfl (by kernel_rfl) (by kernel_rfl) (by kernel_rfl) (fun _ _ _ h => h) (Or.inl ⟨by rfl, ?_⟩) hHeld ?_
  · intro w hSw; go_simp
  simp only [List.setIfInBounds_toArray, List.set_cons_zero, List.set_cons_succ]
  refine take_at 2 29 (.pointer (some ⟨jb, 0, none⟩)) rfl rfl (by kernel_rfl) (by kernel_rfl) (by kernel_rfl) (fun _ _ _ h => h) (Or.inl ⟨by rfl, ?_⟩) hHeld ?_
  · intro w hSw; go_simp
  simp only [List.setIfInBounds_toArray, List.set_cons_zero, List.set_cons_succ]
  refine take_at 3 30 (.pointer (some ⟨d, 0, none⟩)) rfl rfl (by kernel_rfl) (by kernel_rfl) (by kernel_rfl) (fun _ _ _ h => h) (Or.inl ⟨by rfl, ?_⟩) hHeld ?_
  · intro w hSw; obtain ⟨s1, s2⟩ := hSw; go_simp
  simp only [List.setIfInBounds_toArray, List.set_cons_zero, List.set_cons_succ]
  refine take_at 4 31 (.pointer (some ⟨jb, 0, none⟩)) rfl rfl (by kernel_rfl) (by kernel_rfl) (by kernel_rfl) (fun _ _ _ h => h) (Or.inl ⟨by rfl, ?_⟩) hHeld ?_
  · intro w hSw; go_simp
  simp only [List.setIfInBounds_toArray, List.set_cons_zero, List.set_cons_succ]
  refine take_at 5 32 (.pointer (some ⟨jb, 0, none⟩)) rfl rfl (by kernel_rfl) (by kernel_rfl) (by kernel_rfl) (fun _ _ _ h => h) (Or.inl ⟨by rfl, ?_⟩) hHeld ?_
  · intro w hSw; go_simp
  simp only [List.setIfInBounds_toArray, List.set_cons_zero, List.set_cons_succ]
  refine take_at 6 33 (.pointer (some ⟨jb, 3, none⟩)) rfl rfl (by kernel_rfl) (by kernel_rfl) (by kernel_rfl) (fun _ _ _ h => h) (Or.inl ⟨by rfl, ?_⟩) hHeld ?_
  · intro w hSw; go_simp
  simp only [List.setIfInBounds_toArray, List.set_cons_zero, List.set_cons_succ]
  refine take_at 7 34 (.int .i64 (free : Int)) rfl rfl (by kernel_rfl) (by kernel_rfl) (by kernel_rfl) (fun _ _ _ h => h) (Or.inl ⟨by rfl, ?_⟩) hHeld ?_
  · intro w hSw; obtain ⟨s1, s2⟩ := hSw; go_simp
  simp only [List.setIfInBounds_toArray, List.set_cons_zero, List.set_cons_succ]
  refine wpAnyH_ready (rs := [8]) (by kernel_rfl) (by simp) ?_
  refine AllReadyH.cons rfl (fun K hK => ?_) AllReadyH.nil
  go_simp
  refine RD.out.mono ?_
  rintro e w2 ⟨R2, S2, hcase, hs2, hx2, hk2⟩
  have e0 : w2.cell? ⟨jb, 0, none⟩ = some (.pointer (some ⟨d, 0, none⟩)) := (hk2.cell (p := ⟨jb, 0, none⟩) hj1 H1.out.out).trans d0
  have e1 : w2.cell? ⟨jb, 3, none⟩ = some (.int .i64 (free : Int)) := (hk2.cell (p := ⟨jb, 3, none⟩) hj1 H1.out.out).trans d3
  have H2 := Lib.hid ((H1.out.rest ((Keep.refl _ w1).drew)).less hs2 hx2 hk2)
  have X2 := Lib.hid hx2
  have K2 : Hid (Keep R w w2) := Lib.hid ((Calm.keep (C1.out.trans ((Keep.refl _ w1).drew)) R).less hk2 (fun _ e => e))
  obtain ⟨pv, c9, rfl, h9⟩ : ∃ pv c, e = .returned (.tuple #[pv, .int .i64 c]) ∧ ((c = 0 ∧ S.op = (true, S2) ∧ ∃ g cap, pv = .slice (some ⟨g, 0, none⟩) 512 cap ∧ Data w2 (fun k => k = g ∧ w1.heap.size ≤ k) (.slice (some ⟨g, 0, none⟩) 512 cap) (S2.now free)) ∨ (c = 11 ∧ S.op = (false, S2) ∧ pv = .slice none 0 0)) := by
    rcases hcase with ⟨hw2, g, cap, rfl, hd⟩ | ⟨hw2, rfl⟩
    · exact ⟨_, 0, rfl, .inl ⟨rfl, hw2, g, cap, rfl, hd⟩⟩
    · exact ⟨_, 11, rfl, .inr ⟨rfl, hw2, rfl⟩⟩
  have H9 := Lib.hid h9
  clear hs2 hx2 hk2 hcase h9 RD
  refine hK.out _ _ ⟨e0, e1⟩ (fun hHeld => ?_)
  clear hK K
  try simp only [List.setIfInBounds_toArray, List.set_cons_zero, List.set_cons_succ]
  refine take_at 9 26 (.tuple #[pv, .int .i64 c9]) rfl rfl (by kernel_rfl) (by kernel_rfl) (by kernel_rfl) (fun _ _ _ h => h) (Or.inl ⟨by rfl, ?_⟩) hHeld ?_
  · intro w hSw; go_simp
  simp only [List.setIfInBounds_toArray, List.set_cons_zero, List.set_cons_succ]
  refine take_at 10 36 (pv) rfl rfl (by kernel_rfl) (by kernel_rfl) (by kernel_rfl) (fun _ _ _ h => h) (Or.inl ⟨by rfl, ?_⟩) hHeld ?_
  · intro w hSw; go_simp
  simp only [List.setIfInBounds_toArray, List.set_cons_zero, List.set_cons_succ]
  refine take_at 11 37 (.int .i64 c9) rfl rfl (by kernel_rfl) (by kernel_rfl) (by kernel_rfl) (fun _ _ _ h => h) (Or.inl ⟨by rfl, ?_⟩) hHeld ?_
  · intro w hSw; go_simp
  simp only [List.setIfInBounds_toArray, List.set_cons_zero, List.set_cons_succ]
  refine take_at 12 5 (pv) rfl rfl (by kernel_rfl) (by kernel_rfl) (by kernel_rfl) (fun _ _ _ h => h) (Or.inl ⟨by rfl, ?_⟩) hHeld ?_
  · intro w hSw; go_simp
  simp only [List.setIfInBounds_toArray, List.set_cons_zero, List.set_cons_succ]
  refine take_at 13 6 (.int .i64 c9) rfl rfl (by kernel_rfl) (by kernel_rfl) (by kernel_rfl) (fun _ _ _ h => h) (Or.inl ⟨by rfl, ?_⟩) hHeld ?_
  · intro w hSw; go_simp
  simp only [List.setIfInBounds_toArray, List.set_cons_zero, List.set_cons_succ]
  refine wpAnyH_done (by kernel_rfl) (NoPanic.normal ?_) _
  clear hHeld d0 d3 hj1
  rcases H9.out with ⟨rfl, hop, g, cap, rfl, hd⟩ | ⟨rfl, hop, rfl⟩
  rotate_left
  · have OP := Lib.hid hop
    clear hop H9
    go_wp2_with fail
    go_ret3
    exact ⟨R2, S2, 1, by omega, H2.out, X2.out, K2.out, .inl ⟨by simp only [DS.rds, OP.out], rfl⟩⟩
  have hsame := DS.op_true hop
  have hsame2 : S2.secs = S.secs ∧ S2.wait = S.wait := ⟨hsame.1, hsame.2.1⟩
  rw [now_of hsame2] at hd
  have hfs : (S.now free).take 512 = s.take 512 := by
    rw [Hs.out]
    have := areaB_take S free (end_ - free) 1 (by omega) (hsl.out 1 (by omega))
    rw [Nat.mul_one] at this
    rw [this, List.take_of_length_le (by rw [hd.len]; exact Nat.le_refl _)]
    simp [areaB]
  have hfk : Hid (∀ k, k ≤ 512 → (S.now free).take k = s.take k) := Lib.hid (fun k hk => by
    have := congrArg (List.take k) hfs
    rwa [List.take_take, List.take_take, Nat.min_eq_left hk] at this)
  have O2 := Lib.hid hd.own_from
  have RD2 := hd.own_from.rd ⟨_, _, _, rfl⟩
  have hdl := hd.len
  have OP := Lib.hid hop
  have HS2 := Lib.hid hsame2
  have q1 := number_c g 512 cap (S.now free) w2 RD2 (by omega)
  have q2 := length_c g 512 cap (S.now free) w2 RD2 (by omega)
  rw [hfk.out 8 (by omega)] at q1
  rw [hfk.out 12 (by omega)] at q2
  have HQ1 := Lib.hid q1
  have HQ2 := Lib.hid q2
  have HN2 := jnext_c H2.out.row (by simp only; omega)
  simp only at HN2
  rw [← Hnx.out] at HN2
  have HN := Lib.hid HN2
  have hRD2 := Lib.hid RD2
  clear hop hsame hsame2 hd hfs RD2 q1 q2 HN2 H9 hdl
  obtain ⟨nn, hnn⟩ : ∃ nn, nn = num (s.take 8) := ⟨_, rfl⟩
  obtain ⟨len, hlen2⟩ : ∃ len, len = num ((s.take 12).drop 8) := ⟨_, rfl⟩
  have hl32 : len < 4294967296 := by rw [hlen2]; have := num_lt ((s.take 12).drop 8); exact Nat.lt_of_lt_of_le this (Nat.le_trans (Nat.pow_le_pow_right (by decide) (show ((s.take 12).drop 8).length ≤ 4 by simp; omega)) (by decide))
  rw [← hnn] at HQ1
  rw [← hlen2] at HQ2
  have Hnn := Lib.hid hnn
  have Hl2 := Lib.hid hlen2
  clear hnn hlen2
  have rds1 : Hid (DS.rds 1 S = (true, S2)) := Lib.hid (by simp only [DS.rds, OP.out])
  by_cases hne : nn = nx
  rotate_left
  · have hno : Hid (oneAt s nx = none) := Lib.hid (oneAt_other _ _ (by rw [← Hnn.out]; exact hne))
    have t : ((nn : Int) != (nx : Int)) = true := by rw [bne_iff_ne]; omega
    clear hne
    go_wp2_with (first | (go_at_call 58; refine HQ1.out.mono ?_; rintro e w3 ⟨rfl, rfl⟩) | (go_at_call 68; refine HN.out.mono ?_; rintro e w3 ⟨rfl, rfl⟩))
    go_ret3
    exact ⟨R2, S2, 1, by omega, H2.out, X2.out, K2.out, .inr ⟨rds1.out, .inl ⟨hno.out, rfl⟩⟩⟩
  have t3 : ((nn : Int) != (nx : Int)) = false := by rw [bne_eq_false_iff_eq]; omega
  have HR := jroom_c H2.out.row hle (by simp only; omega)
  rw [show (JS.mk from_ end_ free last failed).room = ((end_ - free) * 512 - 16 : Nat) by simp only [JS.room]; rw [if_neg (by omega)]; omega] at HR
  obtain ⟨rm, hrm⟩ : ∃ rm, rm = (end_ - free) * 512 - 16 := ⟨_, rfl⟩
  rw [← hrm] at HR
  have hrmb : rm ≤ 3000000 := by omega
  have hwr : IntKind.u64.wrap (rm : Int) = (rm : Int) := by rw [IntKind.wrap_u64]; omega
  have Hrm := Lib.hid hrm
  have HRM := Lib.hid HR
  have Hne := Lib.hid hne
  clear HR hrm hne
  have ii : (rm : Int) ≤ 3000000 := by omega
  by_cases hlr : rm < len
  · have hno : Hid (oneAt s nx = none) := Lib.hid (by
      unfold oneAt
      split
      · rfl
      · simp only
        rw [← Hl2.out, if_pos (by have := Hrm.out; have := Hlen.out; omega)])
    have t4 : decide (rm < len) = true := decide_eq_true (by omega)
    go_wp2_with (first | (go_at_call 58; refine HQ1.out.mono ?_; rintro e w3 ⟨rfl, rfl⟩) | (go_at_call 68; refine HN.out.mono ?_; rintro e w3 ⟨rfl, rfl⟩) | (go_at_call 71; refine HQ2.out.mono ?_; rintro e w3 ⟨rfl, rfl⟩) | (go_at_call 67; refine HRM.out.mono ?_; rintro e w3 ⟨rfl, hc3⟩; have HC3 := Lib.hid hc3; clear hc3))
    go_ret3
    exact ⟨R2, S2, 1, by omega, H2.out.rest HC3.out, X2.out, K2.out.trans (Calm.keep HC3.out R), .inr ⟨rds1.out, .inl ⟨hno.out, rfl⟩⟩⟩
  have t4 : decide (rm < len) = false := decide_eq_false (by omega)
  go_wp2_with (first | (go_at_call 58; refine HQ1.out.mono ?_; rintro e w3 ⟨rfl, rfl⟩) | (go_at_call 68; refine HN.out.mono ?_; rintro e w3 ⟨rfl, rfl⟩) | (go_at_call 71; refine HQ2.out.mono ?_; rintro e w3 ⟨rfl, rfl⟩))
  refine HRM.out.mono ?_
  rintro e w3 ⟨rfl, hc3⟩
  have q2 := length_c g 512 cap (S.now free) w3 (hRD2.out.calm hc3) (by rw [hnl.out free (by omega)]; omega)
  rw [hfk.out 12 (by omega), ← Hl2.out] at q2
  have HQ3 := Lib.hid q2
  have H3 := Lib.hid (H2.out.rest hc3)
  have K3 : Hid (Keep R w w3) := Lib.hid (K2.out.trans (Calm.keep hc3 R))
  have O3 := Lib.hid (O2.out.moved hc3)
  have z3 : Hid (w.heap.size ≤ w1.heap.size) := Lib.hid C1.out.size
  have z13 : Hid (w1.heap.size ≤ w3.heap.size) := Lib.hid (by have := O3.out.form; obtain ⟨cur, _, hb, hrow, _⟩ := this; exact Nat.le_of_lt (Nat.lt_of_le_of_lt hb hrow.lt))
  clear q2 hc3 HQ1 HQ2 HN HRM O2 H2 K2
  obtain ⟨-, -, -, g3, -, -⟩ := H3.out.row.cells
  simp only at g3
  have ll : (len : Int) < 4294967296 := by omega
  have hwl : IntKind.i64.wrap (len : Int) = (len : Int) := by rw [IntKind.wrap_i64]; omega
  go_wp2_with fail
  refine HQ3.out.mono ?_
  rintro e w4 ⟨rfl, rfl⟩
  clear HQ3 t3 t4 hwr ii
  obtain ⟨q, hq⟩ : ∃ q, q = secsOf len := ⟨_, rfl⟩
  have hq1 : 1 ≤ q ∧ q ≤ end_ - free ∧ 16 + len ≤ 512 * q := by have := Hrm.out; rw [hq]; unfold secsOf; omega
  have SO := fun wx nq => sectorsOf_c len (World.drewN wx nq) (by omega)
  rw [← hq] at SO
  have HSO := Lib.hid SO
  have Hq := Lib.hid hq
  have jq : (q : Int) ≤ 4096 := by omega
  clear SO hq
  go_wp2_with fail
  go_loopw [5, 8] (fun v5 v8 wr => ∃ (j : Nat) (g c : Nat) (Rr : Nat → Prop) (Sr : DS), 1 ≤ j ∧ j ≤ q ∧ v8 = .int .i64 ((free : Int) + (j : Int)) ∧ v5 = .slice (some ⟨g, 0, none⟩) (512 * j) c ∧ Own wr w1.heap.size (.slice (some ⟨g, 0, none⟩) (512 * j) c) (areaB S free j) ∧ Jn w0 wr Rr d jb Sr ⟨from_, end_, free, last, failed⟩ ∧ (∀ i, Rr i → R i) ∧ Keep R w wr ∧ DS.rds j S = (true, Sr) ∧ w1.heap.size ≤ wr.heap.size) (fun _ v8 _ => (q : Nat) + free - (intOf v8).toNat)
  case atStart => exact ⟨1, g, cap, R2, S2, by omega, hq1.1, rfl, rfl, by have := O3.out; simpa [areaB] using this, H3.out, X2.out, K3.out, rds1.out, z13.out⟩
  case round =>
    obtain ⟨j, g, c, Rr, Sr, hj1, hjq, rfl, rfl, hown, hjn, hxr, hkr, hrd, hzr⟩ := hrel
    obtain ⟨k0, -, -, k3, -, -⟩ := hjn.row.cells
    simp only at k0 k3
    have HO := Lib.hid hown
    have HJ := Lib.hid hjn
    have HX := Lib.hid hxr
    have HK := Lib.hid hkr
    have HRd := Lib.hid hrd
    have w1' : IntKind.i64.wrap ((free : Int) + (q : Int)) = (free : Int) + (q : Int) := by rw [IntKind.wrap_i64]; omega
    have hsame := DS.rds_true hrd
    have hfin := DS.rds_fine (n := end_ - free - j) hrd (Hf.out.mono (by omega))
    have HSm := Lib.hid hsame
    have HFn := Lib.hid hfin
    clear hown hjn hxr hkr hrd hsame hfin
    by_cases hjl2 : j < q
    · have t5 : decide ((free : Int) + (j : Int) < (free : Int) + (q : Int)) = true := decide_eq_true (by omega)
      have hjq2 : (j : Int) < (q : Int) := by omega
      clear g3
      go_wp2_with fail
      go_quiet ((go_at_call 79; exact Calls.quiet_of_same ((HSO.out _ _).mono (fun _ _ x => ⟨x.1, x.2.symm⟩))))
      have J5 := Lib.hid (HJ.out.rest ((Keep.refl _ wr).drewN nq))
      have O5 : Hid (Own (wr.drewN nq) w1.heap.size (.slice (some ⟨g, 0, none⟩) (512 * j) c) (areaB S free j)) := Lib.hid HO.out
      have K5 : Hid (Keep R w (wr.drewN nq)) := Lib.hid (HK.out.drewN nq)
      have l0 : (wr.drewN nq).cell? ⟨jb, 0, none⟩ = some (.pointer (some ⟨d, 0, none⟩)) := k0
      have hz5 : w1.heap.size ≤ (wr.drewN nq).heap.size := hzr
      clear k0 k3 HJ HO HK hzr
      generalize wr.drewN nq = w5 at *
      have RD := sd_read J5.out.sd (HFn.out.1.mono (by omega)) (free + j) (by rw [HFn.out.2]; omega)
      rw [show ((free + j : Nat) : Int) = (free : Int) + (j : Int) by omega] at RD
      have HRD := Lib.hid RD
      clear RD
      go_wp2_with fail
      refine HRD.out.mono ?_
      rintro e w6 ⟨R6, S6, hcase, hs6, hx6, hk6⟩
      have J6 := Lib.hid (J5.out.less hs6 hx6 hk6)
      have X6 : Hid (∀ i, R6 i → R i) := Lib.hid (fun i e => HX.out i (hx6 i e))
      have K6 : Hid (Keep R w w6) := Lib.hid (K5.out.less hk6 HX.out)
      have hlow : ∀ g, w1.heap.size ≤ g → ¬ R g := fun g hg e => absurd (H.out.sd.st.lt g e) (by have := z3.out; omega)
      have O6 := Lib.hid (O5.out.keep hk6 (fun g hg _ e => hlow g hg (HX.out g e)))
      have z6 := Nat.le_trans hz5 hk6.size
      clear hs6 hx6 hk6 HRD
      rcases hcase with ⟨hop, g6, cap6, rfl, hd⟩ | ⟨hop, rfl⟩
      rotate_left
      · have RS := Lib.hid (DS.rds_snoc HRd.out hop)
        clear hop
        go_wp2_with fail
        go_ret3
        exact ⟨R6, S6, j + 1, by omega, J6.out, X6.out, K6.out, .inl ⟨RS.out, rfl⟩⟩
      have RS := Lib.hid (DS.rds_snoc HRd.out hop)
      have hs6 := DS.rds_true RS.out
      rw [now_of hs6] at hd
      have hrd6 := hd.own_from.rd ⟨_, _, _, rfl⟩
      have hd6 := Lib.hid hd
      have hdl := hd.len
      have R6d := Lib.hid hrd6
      have hal := hsl.out j (by omega)
      have HAL := Lib.hid hal
      have HAS : Hid (areaB S free (j + 1) = areaB S free j ++ S.now (free + j)) := Lib.hid rfl
      have HDL := Lib.hid hdl
      have e0 : Hid (0 + 512 * j = 512 * j) := Lib.hid (by omega)
      clear hop hs6 hd hrd6 hal hdl hlow
      generalize areaB S free j = X at O6 O5 HAL HAS
      generalize S.now (free + j) = Y at hd6 R6d HAS HDL
      go_wp2_with (at_builtin; go_loud (refine append_own rfl (.tmp 85) (.tmp 86) rfl w1.heap.size g (512 * j) c X rfl O6.out _ Y rfl R6d.out (by rw [HAL.out, HDL.out]; omega) z6 ?_); rintro g7 c7 w7 ho7 hg7; have O7 := Lib.hid ho7; have G7 := Lib.hid hg7; clear ho7 hg7)
      have hk7 : Keep (fun k => some g = some k) w6 w7 := grown_keep G7.out
      have hgR : ¬ R g := fun e => absurd (H.out.sd.st.lt g e) (by obtain ⟨cur, _, hb, _⟩ := O6.out.form; have := z3.out; omega)
      have hgn : w0.heap.size ≤ g := by obtain ⟨cur, _, hb, _⟩ := O6.out.form; have := z3.out; have := H.out.calm.size; omega
      have hgj : g ≠ jb := by obtain ⟨cur, _, hb, hrow, _⟩ := O6.out.form; exact Row.ne hrow J6.out.row (by decide)
      have J7 : Jn w0 w7 R6 d jb S6 ⟨from_, end_, free, last, failed⟩ := ⟨J6.out.sd.apart hk7 (fun i e => by cases e; exact ⟨fun x => hgR (X6.out _ x), hgn⟩), J6.out.row.keep hk7 (fun e => by cases e; exact hgj rfl), J6.out.out, J6.out.new⟩
      have K7 : Keep R w w7 := K6.out.then_ hk7 (fun i hi e => by cases e; exact absurd hi (by obtain ⟨cur, _, hb, _⟩ := O6.out.form; have := z3.out; omega))
      have z7 : w1.heap.size ≤ w7.heap.size := Nat.le_trans z6 G7.out.size
      have HJ7 := Lib.hid J7
      have HK7 := Lib.hid K7
      have hl7 : Hid (X.length + Y.length = 512 * (j + 1)) := Lib.hid (by rw [HAL.out, HDL.out]; omega)
      clear hk7 J7 K7 hgj hgR hgn
      go_wp2_with fail
      go_roundw
      case rel =>
        refine ⟨j + 1, g7, c7, R6, S6, by omega, by omega, by go_num, by rw [← hl7.out], ?_, HJ7.out, X6.out, HK7.out, RS.out, z7⟩
        rw [HAS.out, ← hl7.out]
        exact O7.out
      case measure => simp [intOf]; omega
    · obtain rfl : j = q := by omega
      have t5 : decide ((free : Int) + (j : Int) < (free : Int) + (j : Int)) = false := decide_eq_false (by omega)
      clear hjl2 g3
      go_wp2_with fail
      go_quiet ((go_at_call 79; exact Calls.quiet_of_same ((HSO.out _ _).mono (fun _ _ x => ⟨x.1, x.2.symm⟩))))
      have J5 := Lib.hid (HJ.out.rest ((Keep.refl _ wr).drewN nq))
      have hP := areaB_take S free (end_ - free) j (by omega) (hsl.out j (by omega))
      rw [← Hs.out] at hP
      have hPl := hsl.out j (by omega)
      have O5 : Own (wr.drewN nq) w1.heap.size (.slice (some ⟨g, 0, none⟩) (512 * j) c) (areaB S free j) := HO.out
      have K5 : Hid (Keep R w (wr.drewN nq)) := Lib.hid (HK.out.drewN nq)
      clear k0 k3 HJ HO HK hzr
      generalize wr.drewN nq = w5 at *
      have hone := oneAt_of s (areaB S free j) nx len (by have := Hlen.out; omega) (by have := Hnx.out; omega) (by rw [← Hnn.out]; exact Hne.out) Hl2.out.symm (by have := Hrm.out; have := Hlen.out; omega) (by rw [← Hq.out]; exact hP.symm)
      have hRd5 := O5.rd ⟨_, _, _, rfl⟩
      generalize areaB S free j = P at *
      have TL := told_c g (512 * j) c P w5 hRd5 (by omega)
      have hF := O5.rdf (o := 16) (k := len) ((P.take (16 + len)).drop 16) rfl (by omega)
      have SM := jsum_c g (512 * j) c P (.slice (some ⟨g, 16, none⟩) len (c - 16)) _ w5 (hT.calm J5.out.calm) hRd5 (by omega) hF.rd
      obtain ⟨cur5, -, -, -, hc5, hm5, -, -⟩ := O5.form
      have e16 : 16 + len - 16 = len := by omega
      unfold maxLen at hm5
      have j5 : (16 : Int) + (len : Int) ≤ (c : Int) := by omega
      have j6 : ¬ c = 16 := by omega
      have hbl : ((P.take (16 + len)).drop 16).length = len := by simp; omega
      have HTL := Lib.hid TL
      have HSM := Lib.hid SM
      have HFF := Lib.hid hF
      have HOne := Lib.hid hone
      have HBL := Lib.hid hbl
      clear TL SM hF hone hRd5 O5 hP hPl hbl
      generalize (P.take (16 + len)).drop 16 = b at *
      generalize num ((P.take 16).drop 12) = a1 at *
      generalize more 0 (P.take 12 ++ b) = a2 at *
      by_cases hsum : a1 = a2
      · have t6 : ((a1 : Int) != (a2 : Int)) = false := by rw [bne_eq_false_iff_eq]; omega
        have h1 : Hid (oneAt s nx = some b) := Lib.hid (by rw [HOne.out, if_pos hsum])
        clear hsum
        go_wp2_with (first | (go_at_call 72; refine HTL.out.mono ?_; rintro e w6 ⟨rfl, rfl⟩) | (go_at_call 73; go_loud (refine HSM.out.mono ?_); rintro e w6 ⟨rfl, rfl⟩))
        go_ret3
        have hF2 : RdF w5 w.heap.size (.slice (some ⟨g, 16, none⟩) len (c - 16)) b := by
          obtain ⟨g9, o9, cap9, cur9, e9, h9, r9⟩ := HFF.out
          exact ⟨g9, o9, cap9, cur9, e9, Nat.le_trans z3.out h9, r9⟩
        exact ⟨Rr, Sr, j, hq1.2.1, J5.out, HX.out, K5.out, .inr ⟨HRd.out, .inr ⟨b, _, h1.out, by rw [HBL.out, ← Hq.out], rfl, hF2⟩⟩⟩
      · have t6 : ((a1 : Int) != (a2 : Int)) = true := by rw [bne_iff_ne]; omega
        have h1 : Hid (oneAt s nx = none) := Lib.hid (by rw [HOne.out, if_neg hsum])
        clear hsum
        go_wp2_with (first | (go_at_call 72; refine HTL.out.mono ?_; rintro e w6 ⟨rfl, rfl⟩) | (go_at_call 73; go_loud (refine HSM.out.mono ?_); rintro e w6 ⟨rfl, rfl⟩))
        go_ret3
        exact ⟨Rr, Sr, j, hq1.2.1, J5.out, HX.out, K5.out, .inr ⟨HRd.out, .inl ⟨h1.out, rfl⟩⟩⟩
end Go.Proofs.YtfigiofiakkbdaaDoor
