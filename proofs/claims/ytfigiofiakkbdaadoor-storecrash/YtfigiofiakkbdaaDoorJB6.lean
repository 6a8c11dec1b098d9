/-
  Package journal: readAll, Open, Format.
-/
import Derived.Test.YtfigiofiakkbdaaDoorJB5
namespace Go.Proofs.YtfigiofiakkbdaaDoor
open Go.RowKit
set_option linter.all false

/-- Rows of bytes that the call made, in a row. -/
def Recs (w : World) (base : Nat) (v : Value) (bss : List (List UInt8)) : Prop :=
  ∃ vs : List Value, vs.length = bss.length ∧ w.ownsRow base 31 1 v vs.length vs ∧ ∀ (i : Nat) x b, vs[i]? = some x → bss[i]? = some b → RdF w base x b
theorem Recs.nil (w : World) (base : Nat) : Recs w base (.slice none 0 0) [] := ⟨[], rfl, World.ownsRow_nil _ _ _ _, fun i x b h => by simp at h⟩
theorem Recs.form {w : World} {base : Nat} {v : Value} {bss : List (List UInt8)} (h : Recs w base v bss) : ∃ A c, v = .slice A bss.length c := by
  obtain ⟨vs, hl, ho, _⟩ := h
  rcases ho.2 with ⟨e, h0⟩ | ⟨g, cap, cur, e, _⟩
  · exact ⟨none, 0, by rw [e, ← hl, h0]⟩
  · exact ⟨_, cap, by rw [e, hl]⟩
theorem Recs.keep {w w' : World} {base : Nat} {v : Value} {bss : List (List UInt8)} {Q : Nat → Prop} (h : Recs w base v bss) (k : Keep Q w w') (hQ : ∀ g t cur, base ≤ g → Row w g t cur → t = 5 ∨ t = 31 → ¬ Q g) : Recs w' base v bss := by
  obtain ⟨vs, hl, ho, hr⟩ := h
  refine ⟨vs, hl, ⟨ho.1, ?_⟩, fun i x b hx hb => (hr i x b hx hb).keep k (fun g cur hg hrow => hQ g _ cur hg hrow (.inl rfl))⟩
  rcases ho.2 with h0 | ⟨g, cap, cur, e, b0, h1, h2⟩
  · exact .inl h0
  · exact .inr ⟨g, cap, cur, e, b0, Row.keep (t := 31) (cs := cur) h1 k (hQ g _ cur b0 h1 (.inr rfl)), h2⟩
theorem Recs.calm {w w' : World} {base : Nat} {v : Value} {bss : List (List UInt8)} (h : Recs w base v bss) (k : Calm w w') : Recs w' base v bss := h.keep k (fun _ _ _ _ _ _ e => e)
theorem RdF.wider {w : World} {base base' : Nat} {x : Value} {b : List UInt8} (h : RdF w base x b) (hb : base' ≤ base) : RdF w base' x b := by
  obtain ⟨g, o, cap, cur, e, h0, r⟩ := h
  exact ⟨g, o, cap, cur, e, Nat.le_trans hb h0, r⟩
/-- What is at a place. -/
theorem Recs.at_ {w : World} {base : Nat} {A : Option Addr} {n c : Nat} {bss : List (List UInt8)} (h : Recs w base (.slice A n c) bss) (i : Nat) (b : List UInt8) (hi : bss[i]? = some b) : ∃ g x, A = some ⟨g, 0, none⟩ ∧ w.cell? ⟨g, i, none⟩ = some x ∧ RdF w base x b := by
  obtain ⟨vs, hl, ho, hr⟩ := h
  have hlt : i < bss.length := (List.getElem?_eq_some_iff.1 hi).1
  rcases ho.2 with ⟨e, h0⟩ | ⟨g, cap, cur, e, _⟩
  · omega
  · injection e with e1 _ _
    have hx : vs[i]? = some (vs[i]'(by omega)) := List.getElem?_eq_getElem (by omega)
    refine ⟨g, vs[i]'(by omega), e1, ?_, hr i _ b hx hi⟩
    have := ho.cells (g := g) (by rw [e1]; rfl) i _ hx
    rwa [addr_mid, Nat.zero_add] at this
theorem infoB : (Tryd.prog.info? 31).map (fun i => (i.zero, i.size, i.bytes)) = some (some (.slice none 0 0), 1, 24) := by kernel_rfl
/-- records = append(records, x). -/
theorem append_recs {w : World} {ops : Array Oper} {rest : List Oper} {o : Oper} {a : Act} {Q : Exit → Act → World → Prop} (hgd : o.guard = none) (s x : Operand)
    (ho : o.op = .call { callee := .builtin .append, args := #[s, x], argTypes := #[61, 61] })
    (base : Nat) (A : Option Addr) (c0 : Nat) (out : List (List UInt8)) (xv : Value) (b : List UInt8) (hs : a.eval s = .slice A out.length c0) (hown : Recs w base (.slice A out.length c0) out) (hxv : RdF w base xv b)
    (hx : a.eval x = .slice (some ⟨w.heap.size, 0, none⟩) 1 1) (hlen : out.length ≤ 1000000) (hbase : base ≤ w.heap.size)
    (h : ∀ g cap w', Recs w' base (.slice (some ⟨g, 0, none⟩) (out.length + 1) cap) (out ++ [b]) → Keep (fun k => base ≤ k ∧ ∃ cur, Row w k 31 cur) w w' → wpList Tryd.prog ops Q rest (a.put o.dst (.slice (some ⟨g, 0, none⟩) (out.length + 1) cap)) w') :
    wpList Tryd.prog ops Q (o :: rest) a (w.alloc (.cells #[xv] 31)) := by
  obtain ⟨i0, hi0, hz0, hz1, hz2⟩ := info_parts infoB
  have hc : Calm w (w.alloc (.cells #[xv] 31)) := (Keep.refl _ w).alloc _
  obtain ⟨vs, hl, hor, hrs⟩ := id hown
  have hor2 : (w.alloc (.cells #[xv] 31)).ownsRow base 31 1 (.slice A out.length c0) out.length vs := by
    have := hor
    rw [hl] at this
    refine ⟨by rw [← hl]; simp, ?_⟩
    rcases this.2 with h0 | ⟨g, cap, cur, e, b0, h1, h2⟩
    · exact .inl h0
    · exact .inr ⟨g, cap, cur, e, b0, Row.keep (t := 31) (cs := cur) h1 hc (fun e => e), h2⟩
  refine wpList_append_lies _ hgd s x 61 ho base 31 i0 _ 1 24 Tryd.underlying61 hi0 hz0 hz1 hz2 rfl (by decide) _ _ _ hs hor2 ⟨w.heap.size, 0, none⟩ 1 1 [xv] hx rfl (fun j u hj => ?_) (fun u hu => by
      simp only [List.mem_singleton] at hu; subst hu
      obtain ⟨g, o, cap, cur, e, _⟩ := hxv
      rw [e]; rfl) (by decide) (by unfold maxLen; omega) (by omega) (by simp; omega) _ rfl ?_
  · have hj0 : j = 0 := by have := (List.getElem?_eq_some_iff.1 hj).1; simpa using this
    subst hj0
    rw [addr_mid, (Row.made w 31 #[xv]).cell]
    simpa using hj
  · intro g cap w' a1 a2 _ _
    have hk2 := grown_keep a2
    have hk : Keep (fun k => base ≤ k ∧ ∃ cur, Row w k 31 cur) w w' := (Calm.keep hc (fun k => base ≤ k ∧ ∃ cur, Row w k 31 cur)).then_ hk2 (fun i hi e => by
      rcases hor.2 with ⟨e0, _⟩ | ⟨g', cap', cur', e0, b0, h1, _⟩
      · rw [e0] at e; simp [Value.ownBlock] at e
      · rw [e0] at e
        have : g' = i := by simpa [Value.ownBlock] using e
        subst this
        exact ⟨b0, cur', h1⟩)
    refine h g cap w' ⟨vs ++ [xv], by simp [hl], by simpa [hl] using a1, fun i y d hy hd => ?_⟩ hk
    have hfar : ∀ y d, RdF w base y d → RdF w' base y d := fun y d hy => hy.keep hk (fun g cur _ hrow e => by
      obtain ⟨_, cur', hr'⟩ := e
      exact (hrow.ne hr' (by decide)) rfl)
    rcases Nat.lt_or_ge i vs.length with hi | hi
    · rw [List.getElem?_append_left hi] at hy
      rw [List.getElem?_append_left (by omega)] at hd
      exact hfar _ _ (hrs i y d hy hd)
    · rw [List.getElem?_append_right hi] at hy
      rw [List.getElem?_append_right (by omega), ← hl] at hd
      generalize i - vs.length = k at hy hd
      cases k with
      | zero => simp at hy hd; subst hy; subst hd; exact hfar _ _ hxv
      | succ k => simp at hy

theorem areaB_drop (S : DS) (f n u : Nat) (hu : u ≤ n) (hl : (areaB S f u).length = 512 * u) : (areaB S f n).drop (512 * u) = areaB S (f + u) (n - u) := by
  obtain ⟨r, rfl⟩ : ∃ r, n = u + r := ⟨n - u, by omega⟩
  rw [areaB_add, List.drop_append_of_le_length (by omega), List.drop_of_length_le (by omega), List.nil_append, Nat.add_sub_cancel_left]
def lenOf : Value → Nat
  | .slice _ n _ => n
  | _ => 0

/-- What readAll answers. -/
def RaRes (w0 w : World) (R : Nat → Prop) (d jb : Nat) (S : DS) (J : JS) (e : Ending) (w' : World) : Prop :=
  ∃ R' S1 k, k ≤ J.end_ - J.free ∧ (∀ i, R' i → R i) ∧ Keep (RJ R jb) w w' ∧ Sd w0 w' R' d S1 ∧
    ((DS.rds k S = (false, S1) ∧ e = .returned (.tuple #[.slice none 0 0, .int .i64 11])) ∨
     (DS.rds k S = (true, S1) ∧ ∃ out n used A c, replayFrom (512 * (J.end_ - J.from_)) (areaB S J.from_ (J.end_ - J.from_)) (J.last + 1) (J.free - J.from_) [] = (out, n, used) ∧ e = .returned (.tuple #[.slice A out.length c, .int .i64 0]) ∧ Recs w' w.heap.size (.slice A out.length c) out ∧
       Jn w0 w' R' d jb S1 { J with free := J.from_ + used, last := n - 1 } ∧ J.last + 1 ≤ n ∧ n ≤ 4611686018427387905 ∧ J.free ≤ J.from_ + used ∧ J.from_ + used ≤ J.end_ ∧ out.length ≤ used))

set_option maxRecDepth 100000 in
set_option maxHeartbeats 4000000 in
theorem readAll_c {w0 w : World} {R : Nat → Prop} {d jb : Nat} {S : DS} {J : JS} (hT : Tab w0) (h : Jn w0 w R d jb S J) (h1 : J.from_ < J.free) (hle : J.free ≤ J.end_) (hen : J.end_ ≤ S.secs.length) (hl : J.last ≤ 4611686018427387904) (hf : S.fine (J.end_ - J.free)) :
    Calls Tryd.prog 59 #[.pointer (some ⟨jb, 0, none⟩)] w (RaRes w0 w R d jb S J) := by
  obtain ⟨from_, end_, free, last, failed⟩ := J
  simp only at h1 hle hen hl hf
  unfold RaRes
  simp only
  have hfew := h.sd.few
  have hnl : Hid (∀ f n, f + n ≤ S.secs.length → (areaB S f n).length = 512 * n) := Lib.hid (fun f n hn => areaB_len S f n (fun i hi => h.sd.st.disk.now_len _ (by omega)))
  have H := Lib.hid h
  have Hf := Lib.hid hf
  obtain ⟨FIN, hF⟩ : ∃ F, F = replayFrom (512 * (end_ - from_)) (areaB S from_ (end_ - from_)) (last + 1) (free - from_) [] := ⟨_, rfl⟩
  rw [← hF]
  have HF := Lib.hid hF
  have hRlow : Hid (∀ k, R k → k < w.heap.size) := Lib.hid (fun k e => h.sd.st.lt k e)
  clear h hf hF
  go_enter Tryd.func59, Tryd.ntmps59
  go_wp2_with fail
  go_loopw [4] (fun v4 wr => ∃ (f k N used : Nat) (out : List (List UInt8)) (A : Option Addr) (c : Nat) (Rr : Nat → Prop) (Sr : DS), v4 = .slice A out.length c ∧ Recs wr w.heap.size (.slice A out.length c) out ∧ Jn w0 wr Rr d jb Sr ⟨from_, end_, from_ + used, N, failed⟩ ∧ (∀ i, Rr i → R i) ∧ Keep (RJ R jb) w wr ∧ DS.rds k S = (true, Sr) ∧
    replayFrom f (areaB S from_ (end_ - from_)) (N + 1) used out = FIN ∧ end_ - from_ ≤ used + f ∧ free ≤ from_ + used ∧ from_ + used ≤ end_ ∧ k = from_ + used - free ∧ last ≤ N ∧ N ≤ 4611686018427387904 ∧ out.length ≤ used ∧ w.heap.size ≤ wr.heap.size) (fun v4 _ => 5000 - lenOf v4)
  case atStart => exact ⟨512 * (end_ - from_), 0, last, free - from_, [], none, 0, R, S, rfl, Recs.nil _ _, by rw [show from_ + (free - from_) = free by omega]; exact H.out, fun _ e => e, Keep.refl _ _, rfl, HF.out.symm, by omega, by omega, by omega, by omega, Nat.le_refl _, hl, by simp, Nat.le_refl _⟩
  case round =>
    obtain ⟨f, k, N, used, out, A, c, Rr, Sr, rfl, hrecs, hjn, hxr, hkr, hrd, hrf, q1, q2, q3, q4, q5, q6, q7, q8⟩ := hrel
    have hsame := DS.rds_true hrd
    have hfin := DS.rds_fine (n := end_ - (from_ + used)) hrd (Hf.out.mono (by omega))
    have RN := readNext_c hT hjn q3 (by simp only; rw [hfin.2]; exact hen) q6 hfin.1
    unfold RnRes at RN
    simp only at RN
    rw [areaB_of hsame, ← Nat.sub_sub, ← areaB_drop S from_ (end_ - from_) used (by omega) (hnl.out _ _ (by omega))] at RN
    have HRN := Lib.hid RN
    have HRc := Lib.hid hrecs
    have HJ := Lib.hid hjn
    have HX := Lib.hid hxr
    have HK := Lib.hid hkr
    have HRd := Lib.hid hrd
    have HRf := Lib.hid hrf
    have HQ := Lib.hid (And.intro q1 (And.intro q2 (And.intro q3 (And.intro q4 (And.intro q5 (And.intro q6 q7))))))
    clear RN hrecs hjn hxr hkr hrd hrf hsame hfin q1 q2 q3 q4 q5 q6 q7
    go_wp2_with fail
    refine HRN.out.mono ?_
    rintro e w1 ⟨R1, S1, k1, hk1, hj1, hx1, hkp1, hcase⟩
    have J1 := Lib.hid hj1
    have X1 : Hid (∀ i, R1 i → R i) := Lib.hid (fun i e => HX.out i (hx1 i e))
    have K1 : Hid (Keep (RJ R jb) w w1) := Lib.hid (HK.out.then_ hkp1 (fun i _ e => .inl (HX.out i e)))
    have hk9 : k + k1 ≤ end_ - free := by have := HQ.out; omega
    have HRc1 := Lib.hid (HRc.out.keep hkp1 (fun g t cur hg _ _ e => absurd (hRlow.out g (HX.out g e)) (by omega)))
    have z1 := Nat.le_trans q8 hkp1.size
    clear hj1 hx1 hkp1 HRN HRc
    rcases hcase with ⟨hr1, rfl⟩ | ⟨hr1, ⟨hone, rfl⟩ | ⟨b, v, hone, hkb, rfl, hv⟩⟩
    · have RS := Lib.hid (DS.rds_add HRd.out hr1)
      clear hr1
      go_wp2_with fail
      go_ret2
      exact ⟨R1, S1, k + k1, hk9, X1.out, K1.out, J1.out.sd, .inl ⟨RS.out, rfl⟩⟩
    · have RS := Lib.hid (DS.rds_add HRd.out hr1)
      have hfin : Hid (FIN = (out, N + 1, used)) := Lib.hid (by
        rw [← HRf.out]
        cases f with
        | zero => rfl
        | succ f => simp only [replayFrom, hone])
      clear hr1 hone
      go_wp2_with fail
      go_ret2
      have Q := HQ.out
      exact ⟨R1, S1, k + k1, hk9, X1.out, K1.out, J1.out.sd, .inr ⟨RS.out, out, N + 1, used, A, c, hfin.out, rfl, HRc1.out, J1.out, by omega, by omega, by omega, by omega, by omega⟩⟩
    · have hol := oneAt_len hone
      have hsl := hnl.out from_ (end_ - from_) (by omega)
      rw [List.length_drop, hsl] at hol
      have hk2 : 1 ≤ secsOf b.length ∧ used + secsOf b.length ≤ end_ - from_ := by have := HQ.out; unfold secsOf; omega
      have hbl : b.length ≤ 3000000 := by have := HQ.out; omega
      have hnext : Hid (∃ f', f = f' + 1 ∧ replayFrom f' (areaB S from_ (end_ - from_)) (N + 1 + 1) (used + secsOf b.length) (out ++ [b]) = FIN) := Lib.hid (by
        cases f with
        | zero => have := HQ.out; omega
        | succ f =>
          refine ⟨f, rfl, ?_⟩
          rw [← HRf.out]
          simp only [replayFrom, hone])
      have RS := Lib.hid (DS.rds_add HRd.out hr1)
      have HB := Lib.hid (And.intro hol (And.intro hk2 (And.intro hbl hkb)))
      have hv2 := hv.wider q8
      have HV := Lib.hid hv2
      obtain ⟨vg, vo, vc, vcur, rfl, -⟩ := id hv2
      have AD := fun w2 (hj : JRow w2 jb d ⟨from_, end_, from_ + used, N, failed⟩) => Lib.hid (jadvance_c hj b.length (by omega) (by simp only; have := HQ.out; omega) (by simp only; have := HQ.out; omega))
      have HAD := Lib.hid AD
      have hbi : (b.length : Int) ≤ 3000000 := by omega
      clear hr1 hone hol hsl hk2 hkb hv hv2 AD
      go_wp2_with (at_builtin; go_loud (refine append_recs rfl (.tmp 20) (.tmp 22) rfl w.heap.size A c out _ b rfl HRc1.out HV.out rfl (by have := HQ.out; omega) z1 ?_); rintro g2 c2 w2 ho2 hk2; have O2 := Lib.hid ho2; have K2 := Lib.hid hk2; clear ho2 hk2)
      have nj : ¬ (w.heap.size ≤ jb ∧ ∃ cur, Row w1 jb 31 cur) := by rintro ⟨_, cur, hr⟩; exact (Row.ne hr J1.out.row (by decide)) rfl
      have J2 : Jn w0 w2 R1 d jb S1 ⟨from_, end_, from_ + used, N, failed⟩ := ⟨J1.out.sd.apart K2.out (fun i e => ⟨fun x => absurd (hRlow.out i (X1.out i x)) (by omega), by have := H.out.calm.size; omega⟩), J1.out.row.keep K2.out nj, J1.out.out, J1.out.new⟩
      have KW : Keep (RJ R jb) w w2 := K1.out.then_ K2.out (fun i hi e => absurd hi (by omega))
      have A2 := HAD.out w2 J2.row
      have z2 : w.heap.size ≤ w2.heap.size := Nat.le_trans z1 K2.out.size
      have HJ2 := Lib.hid J2
      have HKW := Lib.hid KW
      clear J2 KW nj HAD
      go_wp2_with fail
      refine A2.out.mono ?_
      rintro e w3 ⟨rfl, r3, k3⟩
      have J3 := Lib.hid (HJ2.out.turned r3 k3)
      have K3 : Hid (Keep (RJ R jb) w w3) := Lib.hid (HKW.out.trans k3.rj2)
      have O3 := Lib.hid (O2.out.keep k3 (fun g t cur _ hrow ht e => by subst e; exact (Row.ne hrow HJ2.out.row (by rcases ht with rfl | rfl <;> decide)) rfl))
      have z3 : w.heap.size ≤ w3.heap.size := Nat.le_trans z2 k3.size
      clear r3 k3 A2
      go_wp2_with fail
      go_roundw
      case rel =>
        obtain ⟨f', hf', e1⟩ := hnext.out
        have Q := HQ.out
        have B := HB.out
        refine ⟨f', k + k1, N + 1, used + secsOf b.length, out ++ [b], some ⟨g2, 0, none⟩, c2, R1, S1, by simp, by simpa using O3.out, by rw [← Nat.add_assoc]; exact J3.out, X1.out, K3.out, RS.out, e1, by omega, by omega, by omega, by omega, by omega, by omega, by simp; omega, z3⟩
      case measure =>
        have := HQ.out
        simp [lenOf]
        omega

theorem isBeg_of {a b : List UInt8} (h : a.take 512 = b.take 512) : isBeg a = isBeg b := by
  have h8 : a.take 8 = b.take 8 := by have := congrArg (List.take 8) h; simpa [List.take_take] using this
  have h16 : a.take 16 = b.take 16 := by have := congrArg (List.take 16) h; simpa [List.take_take] using this
  unfold isBeg
  rw [h8, h16]
theorem replay_none {s : List UInt8} (h : isBeg s = false) : replay s = none := by
  unfold replay
  simp only
  rw [if_pos]
  unfold isBeg at h
  simp only [decide_eq_false_iff_not] at h
  by_cases h1 : num (s.take 8) < 1
  · exact .inl h1
  · by_cases h2 : 4611686018427387904 < num (s.take 8)
    · exact .inr (.inl h2)
    · exact .inr (.inr (fun e => h ⟨by omega, by omega, e⟩))
theorem replay_some {s : List UInt8} (h : isBeg s = true) : replay s = some (replayFrom s.length s (num (s.take 8) + 1) 1 []) ∧ 1 ≤ num (s.take 8) ∧ num (s.take 8) ≤ 4611686018427387904 := by
  unfold isBeg at h
  simp only [decide_eq_true_eq] at h
  unfold replay
  simp only
  rw [if_neg (by rintro (e | e | e); omega; omega; exact e h.2.2)]
  exact ⟨rfl, h.1, h.2.1⟩

/-- What Open answers. -/
def OpRes (w0 w : World) (R : Nat → Prop) (d f n : Nat) (S : DS) (e : Ending) (w' : World) : Prop :=
  ∃ R' S1 k, k ≤ n ∧ (∀ i, R' i → R i) ∧ Keep R w w' ∧ Sd w0 w' R' d S1 ∧
    ((DS.rds k S = (false, S1) ∧ e = .returned (.tuple #[.pointer none, .slice none 0 0, .int .i64 11])) ∨
     (DS.rds k S = (true, S1) ∧ ((replay (areaB S f n) = none ∧ e = .returned (.tuple #[.pointer none, .slice none 0 0, .int .i64 2])) ∨
       ∃ out n' used A c jb, replay (areaB S f n) = some (out, n', used) ∧ e = .returned (.tuple #[.pointer (some ⟨jb, 0, none⟩), .slice A out.length c, .int .i64 0]) ∧ Recs w' w.heap.size (.slice A out.length c) out ∧ w.heap.size ≤ jb ∧
         Jn w0 w' R' d jb S1 ⟨f, f + n, f + used, n' - 1, false⟩ ∧ 2 ≤ n' ∧ n' ≤ 4611686018427387905 ∧ 1 ≤ used ∧ used ≤ n ∧ out.length ≤ used)))

set_option maxHeartbeats 1600000 in
theorem jopen_arg {w0 w : World} {R : Nat → Prop} {d : Nat} {S : DS} (h : Sd w0 w R d S) (f n : Int) (hfi : -9223372036854775808 ≤ f ∧ f ≤ 9223372036854775807) (hni : -9223372036854775808 ≤ n ∧ n ≤ 9223372036854775807) (hno : ¬ (2 ≤ n ∧ n ≤ S.secs.length ∧ 0 ≤ f ∧ f ≤ S.secs.length - n)) :
    Calls Tryd.prog 37 #[.pointer (some ⟨d, 0, none⟩), .int .i64 f, .int .i64 n] w fun e w' => e = .returned (.tuple #[.pointer none, .slice none 0 0, .int .i64 1]) ∧ w = w' := by
  have F := jfits_c h h.few f n hfi hni
  rw [decide_eq_false hno] at F
  have HF := Lib.hid F
  clear F h hno hfi hni
  go_enter Tryd.func37, Tryd.ntmps37
  go_wp2_with fail
  refine HF.out.mono ?_
  rintro e w1 ⟨rfl, rfl⟩
  go_wp2_with fail
  go_ret3
  exact ⟨rfl, rfl⟩

set_option maxRecDepth 100000 in
set_option maxHeartbeats 4000000 in
theorem jopen_c {w0 w : World} {R : Nat → Prop} {d f n : Nat} {S : DS} (hT : Tab w0) (h : Sd w0 w R d S) (hn : 2 ≤ n) (hfn : f + n ≤ S.secs.length) (hf : S.fine n) :
    Calls Tryd.prog 37 #[.pointer (some ⟨d, 0, none⟩), .int .i64 (f : Int), .int .i64 (n : Int)] w (OpRes w0 w R d f n S) := by
  have hfew := h.few
  have F := jfits_c h hfew (f : Int) (n : Int) (by omega) (by omega)
  rw [decide_eq_true (by omega)] at F
  have HF := Lib.hid F
  have hnl : Hid (∀ f n, f + n ≤ S.secs.length → (areaB S f n).length = 512 * n) := Lib.hid (fun f n hn => areaB_len S f n (fun i hi => h.st.disk.now_len _ (by omega)))
  have RD := Lib.hid (sd_read h (hf.mono (by omega)) f (by omega))
  have H := Lib.hid h
  have Hf := Lib.hid hf
  have i1 : (f : Int) + (n : Int) ≤ 4096 := by omega
  have i2 : (n : Int) ≤ 4096 := by omega
  have i3 : (f : Int) ≤ 4096 := by omega
  have hRlow : Hid (∀ k, R k → k < w.heap.size) := Lib.hid (fun k e => h.st.lt k e)
  unfold OpRes
  clear F h hf
  go_enter Tryd.func37, Tryd.ntmps37
  go_wp2_with fail
  refine HF.out.mono ?_
  rintro e w1 ⟨rfl, rfl⟩
  go_wp2_with fail
  refine RD.out.mono ?_
  rintro e w2 ⟨R2, S2, hcase, hs2, hx2, hk2⟩
  have H2 := Lib.hid hs2
  have X2 := Lib.hid hx2
  have K2 := Lib.hid hk2
  clear hs2 hx2 hk2 RD HF
  rcases hcase with ⟨hop, g, cap, rfl, hd⟩ | ⟨hop, rfl⟩
  rotate_left
  · have RS : Hid (DS.rds 1 S = (false, S2)) := Lib.hid (by simp only [DS.rds, hop])
    clear hop
    go_wp2_with fail
    go_ret3
    exact ⟨R2, S2, 1, by omega, X2.out, K2.out, H2.out, .inl ⟨RS.out, rfl⟩⟩
  have RS : Hid (DS.rds 1 S = (true, S2)) := Lib.hid (by simp only [DS.rds, hop])
  have hsame := DS.rds_true RS.out
  have hfin := DS.rds_fine (n := n - 1) RS.out (Hf.out.mono (by omega))
  rw [now_of hsame] at hd
  have hrd := hd.own_from.rd ⟨_, _, _, rfl⟩
  have hfs : (S.now f).take 512 = (areaB S f n).take 512 := by
    have := areaB_take S f n 1 (by omega) (hnl.out f 1 (by omega))
    rw [Nat.mul_one] at this
    rw [this, List.take_of_length_le (by rw [hd.len]; exact Nat.le_refl _)]
    simp [areaB]
  have hsl := hnl.out f n hfn
  obtain ⟨s, hs⟩ : ∃ s, s = areaB S f n := ⟨_, rfl⟩
  rw [← hs] at hfs hsl
  have Hs := Lib.hid hs
  have B := isBeginning_c g 512 cap (S.now f) w2 (hT.calm H2.out.st.calm) hrd (by have := hd.len; omega)
  rw [isBeg_of hfs] at B
  have NB := number_c g 512 cap (S.now f) w2 hrd (by have := hd.len; omega)
  rw [show (S.now f).take 8 = s.take 8 by have := congrArg (List.take 8) hfs; simpa [List.take_take] using this] at NB
  have HB := Lib.hid B
  have HNB := Lib.hid NB
  have HSm := Lib.hid hsame
  have HFi := Lib.hid hfin
  have HSl := Lib.hid hsl
  clear hs B NB hsame hfin hsl hrd hfs hd hop
  cases hbeg : isBeg s
  · have hno := Lib.hid (replay_none hbeg)
    rw [hbeg] at HB
    clear hbeg
    go_wp2_with (go_at_call 57; refine HB.out.mono ?_; rintro e w3 ⟨rfl, rfl⟩)
    go_ret3
    exact ⟨R2, S2, 1, by omega, X2.out, K2.out, H2.out, .inr ⟨RS.out, .inl ⟨by rw [← Hs.out]; exact hno.out, rfl⟩⟩⟩
  rw [hbeg] at HB
  obtain ⟨hrep, hb1, hb2⟩ := replay_some hbeg
  have HRep := Lib.hid hrep
  clear hrep hbeg
  obtain ⟨nb, hnb⟩ : ∃ nb, nb = num (s.take 8) := ⟨_, rfl⟩
  rw [← hnb] at hb1 hb2 HRep HNB
  have jr : Hid (∀ w9, w9 = w2.alloc (.cells #[.pointer (some ⟨d, 0, none⟩), .int .i64 (f : Int), .int .i64 ((f : Int) + (n : Int)), .int .i64 ((f : Int) + 1), .int .u64 (nb : Int), .bool false] 96) → Jn w0 w9 R2 d w2.heap.size S2 ⟨f, f + n, f + 1, nb, false⟩) := Lib.hid (by
    rintro w9 rfl
    refine ⟨H2.out.rest ((Keep.refl _ w2).alloc _), ?_, H2.out.st.fresh (Nat.le_refl _), Nat.le_trans H2.out.st.calm.size (Nat.le_refl _)⟩
    have := Row.made w2 96 #[.pointer (some ⟨d, 0, none⟩), .int .i64 (f : Int), .int .i64 ((f : Int) + (n : Int)), .int .i64 ((f : Int) + 1), .int .u64 (nb : Int), .bool false]
    unfold JRow
    simp only
    rw [show ((f + n : Nat) : Int) = (f : Int) + (n : Int) by omega, show ((f + 1 : Nat) : Int) = (f : Int) + 1 by omega]
    exact this)
  have hb2i : (nb : Int) ≤ 4611686018427387904 := by omega
  have Hnb := Lib.hid hnb
  clear hnb
  go_wp2_with (first | (go_at_call 57; refine HB.out.mono ?_; rintro e w3 ⟨rfl, rfl⟩) | (go_at_call 58; refine HNB.out.mono ?_; rintro e w3 ⟨rfl, rfl⟩))
  have J3 := jr.out _ rfl
  have c3 : Calm w2 (w2.alloc (.cells #[.pointer (some ⟨d, 0, none⟩), .int .i64 (f : Int), .int .i64 ((f : Int) + (n : Int)), .int .i64 ((f : Int) + 1), .int .u64 (nb : Int), .bool false] 96)) := (Keep.refl _ w2).alloc _
  generalize w2.alloc (.cells #[.pointer (some ⟨d, 0, none⟩), .int .i64 (f : Int), .int .i64 ((f : Int) + (n : Int)), .int .i64 ((f : Int) + 1), .int .u64 (nb : Int), .bool false] 96) = w3 at *
  have RA := readAll_c hT J3 (by simp only; omega) (by simp only; omega) (by simp only; rw [HFi.out.2]; exact hfn) hb2 (by simp only; exact HFi.out.1.mono (by omega))
  unfold RaRes at RA
  simp only at RA
  rw [areaB_of HSm.out, Nat.add_sub_cancel_left, Nat.add_sub_cancel_left, ← Hs.out, ← HSl.out] at RA
  have HRA := Lib.hid RA
  have C3 := Lib.hid c3
  have hjb : w.heap.size ≤ w2.heap.size := K2.out.size
  clear RA c3 J3 jr HB HNB
  go_wp2_with fail
  refine HRA.out.mono ?_
  rintro e w4 ⟨R4, S4, k4, hk4, hx4, hkp4, hs4, hcase⟩
  have KK : Hid (Keep R w w4) := Lib.hid ((K2.out.trans (Calm.keep C3.out R)).then_ hkp4 (fun i hi e => by
    rcases e with e | e
    · exact X2.out i e
    · subst e; omega))
  have X4 : Hid (∀ i, R4 i → R i) := Lib.hid (fun i e => X2.out i (hx4 i e))
  have H4 := Lib.hid hs4
  clear hx4 hkp4 hs4 HRA
  rcases hcase with ⟨hr, rfl⟩ | ⟨hr, out, n', used, A, c, hrf, rfl, hrecs, hjn, a1, a2, a3, a4, a5⟩
  · have RS4 := Lib.hid (DS.rds_add RS.out hr)
    clear hr
    go_wp2_with fail
    go_ret3
    exact ⟨R4, S4, 1 + k4, by omega, X4.out, KK.out, H4.out, .inl ⟨RS4.out, rfl⟩⟩
  · have RS4 := Lib.hid (DS.rds_add RS.out hr)
    have HRc := Lib.hid hrecs
    have HJ := Lib.hid hjn
    have HRf := Lib.hid hrf
    clear hr hrecs hjn hrf
    go_wp2_with fail
    go_ret3
    have hz := Nat.le_trans hjb C3.out.size
    refine ⟨R4, S4, 1 + k4, by omega, X4.out, KK.out, H4.out, .inr ⟨RS4.out, .inr ⟨out, n', used, A, c, w2.heap.size, by rw [← Hs.out, HRep.out, ← HRf.out], rfl, ?_, hjb, HJ.out, by omega, a2, by omega, by omega, a5⟩⟩⟩
    obtain ⟨vs, e1, e2, e3⟩ := HRc.out
    refine ⟨vs, e1, ⟨e2.1, ?_⟩, fun i x b hx hb => (e3 i x b hx hb).wider hz⟩
    rcases e2.2 with h0 | ⟨g, cap, cur, e, b0, h1⟩
    · exact .inl h0
    · exact .inr ⟨g, cap, cur, e, Nat.le_trans hz b0, h1⟩

/-- A beginning is written, and a barrier. -/
def DS.fmt (S : DS) (f : Nat) : Bool × DS := match S.wr f (begP 1) with
  | (true, S1) => S1.bar
  | (false, S1) => (false, S1)
/-- What Format answers. -/
def FmRes (w0 w : World) (R : Nat → Prop) (d f n : Nat) (S : DS) (e : Ending) (w' : World) : Prop :=
  ∃ R' S1, Ext R R' w ∧ Keep R w w' ∧ Sd w0 w' R' d S1 ∧ ((S.fmt f = (false, S1) ∧ e = .returned (.tuple #[.pointer none, .int .i64 11])) ∨
    (S.fmt f = (true, S1) ∧ ∃ jb, e = .returned (.tuple #[.pointer (some ⟨jb, 0, none⟩), .int .i64 0]) ∧ w.heap.size ≤ jb ∧ Jn w0 w' R' d jb S1 ⟨f, f + n, f + 1, 1, false⟩))

set_option maxHeartbeats 1600000 in
theorem jformat_arg {w0 w : World} {R : Nat → Prop} {d : Nat} {S : DS} (h : Sd w0 w R d S) (f n : Int) (hfi : -9223372036854775808 ≤ f ∧ f ≤ 9223372036854775807) (hni : -9223372036854775808 ≤ n ∧ n ≤ 9223372036854775807) (hno : ¬ (2 ≤ n ∧ n ≤ S.secs.length ∧ 0 ≤ f ∧ f ≤ S.secs.length - n)) :
    Calls Tryd.prog 30 #[.pointer (some ⟨d, 0, none⟩), .int .i64 f, .int .i64 n] w fun e w' => e = .returned (.tuple #[.pointer none, .int .i64 1]) ∧ w = w' := by
  have F := jfits_c h h.few f n hfi hni
  rw [decide_eq_false hno] at F
  have HF := Lib.hid F
  clear F h hno hfi hni
  go_enter Tryd.func30, Tryd.ntmps30
  go_wp2_with fail
  refine HF.out.mono ?_
  rintro e w1 ⟨rfl, rfl⟩
  go_wp2_with fail
  go_ret2
  exact ⟨rfl, rfl⟩

set_option maxRecDepth 100000 in
set_option maxHeartbeats 4000000 in
theorem jformat_c {w0 w : World} {R : Nat → Prop} {d f n : Nat} {S : DS} (hT : Tab w0) (h : Sd w0 w R d S) (hn : 2 ≤ n) (hfn : f + n ≤ S.secs.length) (hf : S.fine 2) :
    Calls Tryd.prog 30 #[.pointer (some ⟨d, 0, none⟩), .int .i64 (f : Int), .int .i64 (n : Int)] w (FmRes w0 w R d f n S) := by
  have hfew := h.few
  have F := jfits_c h hfew (f : Int) (n : Int) (by omega) (by omega)
  rw [decide_eq_true (by omega)] at F
  have HF := Lib.hid F
  have i1 : (f : Int) + (n : Int) ≤ 4096 := by omega
  have i2 : (n : Int) ≤ 4096 := by omega
  have i3 : (f : Int) ≤ 4096 := by omega
  have H := Lib.hid h
  have Hf := Lib.hid hf
  unfold FmRes
  have jr : Hid (∀ w9, w9 = w.alloc (.cells #[.pointer (some ⟨d, 0, none⟩), .int .i64 (f : Int), .int .i64 ((f : Int) + (n : Int)), .int .i64 0, .int .u64 0, .bool false] 96) → Jn w0 w9 R d w.heap.size S ⟨f, f + n, 0, 0, false⟩) := Lib.hid (by
    rintro w9 rfl
    refine ⟨H.out.rest ((Keep.refl _ w).alloc _), ?_, H.out.st.fresh (Nat.le_refl _), Nat.le_trans H.out.st.calm.size (Nat.le_refl _)⟩
    have := Row.made w 96 #[.pointer (some ⟨d, 0, none⟩), .int .i64 (f : Int), .int .i64 ((f : Int) + (n : Int)), .int .i64 0, .int .u64 0, .bool false]
    unfold JRow
    simp only
    rw [show ((f + n : Nat) : Int) = (f : Int) + (n : Int) by omega]
    exact this)
  clear F h hf
  go_enter Tryd.func30, Tryd.ntmps30
  go_wp2_with fail
  refine HF.out.mono ?_
  rintro e w1 ⟨rfl, rfl⟩
  clear HF
  have J3 := jr.out _ rfl
  have c3 : Calm w (w.alloc (.cells #[.pointer (some ⟨d, 0, none⟩), .int .i64 (f : Int), .int .i64 ((f : Int) + (n : Int)), .int .i64 0, .int .u64 0, .bool false] 96)) := (Keep.refl _ w).alloc _
  have BG := jbegin_c hT J3 1 (by omega) (by simp only; omega) (Hf.out.mono (by omega))
  have HBG := Lib.hid BG
  have C3 := Lib.hid c3
  clear BG c3 J3 jr
  go_wp2_with fail
  refine HBG.out.mono ?_
  rintro e w4 ⟨R4, S4, J4, hcase, hj4, hx4, hk4⟩
  generalize w.alloc (.cells #[.pointer (some ⟨d, 0, none⟩), .int .i64 (f : Int), .int .i64 ((f : Int) + (n : Int)), .int .i64 0, .int .u64 0, .bool false] 96) = w3 at *
  have KK : Hid (Keep R w w4) := Lib.hid ((Calm.keep C3.out R).then_ hk4 (fun i hi e => by
    rcases e with e | e
    · exact e
    · subst e; omega))
  have X4 : Hid (Ext R R4 w) := Lib.hid (hx4.calm C3.out.size)
  have H4 := Lib.hid hj4
  clear hk4 hx4 hj4 HBG
  rcases hcase with ⟨hw, rfl, rfl⟩ | ⟨hw, rfl, rfl⟩
  rotate_left
  · have HW : Hid (S.fmt f = (false, S4)) := Lib.hid (by unfold DS.fmt; simp only at hw; rw [hw])
    clear hw
    go_wp2_with fail
    go_ret2
    exact ⟨R4, S4, X4.out, KK.out, H4.out.sd, .inl ⟨HW.out, rfl⟩⟩
  have HW : Hid (S.fmt f = S4.bar) := Lib.hid (by unfold DS.fmt; simp only at hw; rw [hw])
  have hf4 := DS.wr_fine (n := 1) hw Hf.out
  have CM := Lib.hid (jcommit_c H4.out rfl hf4.1)
  clear hw hf4
  go_wp2_with fail
  refine CM.out.mono ?_
  rintro e w5 ⟨R5, S5, J5, hcase, hj5, hx5, hk5⟩
  have K5 : Hid (Keep R w w5) := Lib.hid (KK.out.then_ hk5 (fun i hi e => by
    rcases e with e | e
    · exact (X4.out i e).resolve_right (by omega)
    · subst e; omega))
  have X5 : Hid (Ext R R5 w) := Lib.hid (X4.out.trans hx5 KK.out.size)
  have H5 := Lib.hid hj5
  clear hk5 hx5 hj5 CM
  rcases hcase with ⟨hb, rfl, rfl⟩ | ⟨hb, rfl, rfl⟩
  · have HB : Hid (S.fmt f = (true, S5)) := Lib.hid (by rw [HW.out, hb])
    clear hb
    go_wp2_with fail
    go_ret2
    exact ⟨R5, S5, X5.out, K5.out, H5.out.sd, .inr ⟨HB.out, w.heap.size, rfl, Nat.le_refl _, H5.out⟩⟩
  · have HB : Hid (S.fmt f = (false, S5)) := Lib.hid (by rw [HW.out, hb])
    clear hb
    go_wp2_with fail
    go_ret2
    exact ⟨R5, S5, X5.out, K5.out, H5.out.sd, .inl ⟨HB.out, rfl⟩⟩
end Go.Proofs.YtfigiofiakkbdaaDoor
