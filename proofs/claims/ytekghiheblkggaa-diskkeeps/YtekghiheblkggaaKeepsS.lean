/-
  DiskKeeps: what is in memory while later writes are done.
-/
import Derived.Test.YtekghiheblkggaaKeepsM
namespace Go.Proofs.Ytekghiheblkggaa
open Go.RowKit
set_option linter.all false

/-- The law's own memory: the bytes at the barrier (ab), the last ones (lb), the rows of what may be (mb), what is kept (kv); the disk with the later writes es. -/
structure Kp (w1 w : World) (R : Nat → Prop) (d ab lb mb : Nat) (cs : List UInt8) (es el em : List (Nat × UInt8)) (ks : List Bool) (mv : List Value) (kv : Value) (o : Nat) : Prop where
  st : St w1 w R d ⟨cs.map full, fulls es, none, false, o⟩
  len : cs.length = 4
  atr : Row w ab 42 (cs.map bv).toArray
  ltr : Row w lb 42 ((putTo (fun _ => true) cs el el.length).map bv).toArray
  mtr : Row w mb 49 mv.toArray
  ml : mv.length = 4
  may : ∀ (i : Nat) v, mv[i]? = some v → ∃ g cap, v = .slice (some ⟨g, 0, none⟩) (mayOf cs em i).length cap ∧ w.ownsRow 0 5 1 v (mayOf cs em i).length ((mayOf cs em i).map bv) ∧ ¬ R g ∧ w1.heap.size ≤ g ∧ ∀ (i' : Nat) v', i' ≠ i → mv[i']? = some v' → v'.ownBlock ≠ some g
  kr : w.ownsRow 0 4 1 kv ks.length (ks.map Value.bool)
  kout : ∀ g, kv.ownBlock = some g → ¬ R g ∧ w1.heap.size ≤ g
  ao : ¬ R ab ∧ w1.heap.size ≤ ab
  lo : ¬ R lb ∧ w1.heap.size ≤ lb
  mo : ¬ R mb ∧ w1.heap.size ≤ mb
  ne : ab ≠ lb

section
variable {w1 w w' w3 : World} {R R' : Nat → Prop} {d ab lb mb o : Nat} {cs : List UInt8} {es el em : List (Nat × UInt8)} {ks : List Bool} {mv : List Value} {kv : Value}

theorem Kp.mrow (h : Kp w1 w R d ab lb mb cs es el em ks mv kv o) {i : Nat} {v : Value} (hi : mv[i]? = some v) {g : Nat} (hg : v.ownBlock = some g) : ∃ cur, Row w g 5 cur := by
  obtain ⟨g', cap, e, ho, _⟩ := h.may i v hi
  rcases ho.2 with ⟨e0, _⟩ | ⟨g'', cap', cur, e0, _, hr, _⟩
  · rw [e0] at hg; simp [Value.ownBlock] at hg
  · rw [e0] at hg
    have : g'' = g := by simpa [Value.ownBlock] using hg
    subst this
    exact ⟨cur, hr⟩
theorem Kp.krow (h : Kp w1 w R d ab lb mb cs es el em ks mv kv o) {g : Nat} (hg : kv.ownBlock = some g) : ∃ cur, Row w g 4 cur := by
  rcases h.kr.2 with ⟨e0, _⟩ | ⟨g'', cap', cur, e0, _, hr, _⟩
  · rw [e0] at hg; simp [Value.ownBlock] at hg
  · rw [e0] at hg
    have : g'' = g := by simpa [Value.ownBlock] using hg
    subst this
    exact ⟨cur, hr⟩
/-- The disk has gone on; the law's own memory is as it was. -/
theorem Kp.disk (h : Kp w1 w R d ab lb mb cs es el em ks mv kv o) {es' : List (Nat × UInt8)} {o' : Nat} (hs : St w1 w' R' d ⟨cs.map full, fulls es', none, false, o'⟩) (k : Keep R w w') (hr : ∀ i, i < w.heap.size → ¬ R i → ¬ R' i) : Kp w1 w' R' d ab lb mb cs es' el em ks mv kv o' := by
  refine ⟨hs, h.len, h.atr.keep k h.ao.1, h.ltr.keep k h.lo.1, h.mtr.keep k h.mo.1, h.ml, fun i v hi => ?_, own_move h.kr (fun g cur hg hrow => hrow.keep k (h.kout g hg).1), fun g hg => ?_, ⟨hr _ h.atr.lt h.ao.1, h.ao.2⟩, ⟨hr _ h.ltr.lt h.lo.1, h.lo.2⟩, ⟨hr _ h.mtr.lt h.mo.1, h.mo.2⟩, h.ne⟩
  · obtain ⟨g, cap, e, ho, hR, hl, hd⟩ := h.may i v hi
    have hgo : v.ownBlock = some g := by rw [e]; rfl
    obtain ⟨cur, hrow⟩ := h.mrow hi hgo
    exact ⟨g, cap, e, own_move ho (fun g' cur' hg' hrow' => hrow'.keep k (by have : g' = g := by rw [hgo] at hg'; injection hg' with hg'; exact hg'.symm
                                                                             subst this; exact hR)), hr _ hrow.lt hR, hl, hd⟩
  · obtain ⟨cur, hrow⟩ := h.krow hg
    exact ⟨hr _ hrow.lt (h.kout g hg).1, (h.kout g hg).2⟩
theorem Kp.rest (h : Kp w1 w R d ab lb mb cs es el em ks mv kv o) (hc : Calm w w') : Kp w1 w' R d ab lb mb cs es el em ks mv kv o := h.disk (h.st.rest hc) (hc.keep R) (fun _ _ x => x)
theorem Kp.wrote (h : Kp w1 w R d ab lb mb cs es el em ks mv kv o) (hc : Calm w w') {x : Nat} {c : UInt8} (hs : St w1 w3 (Grow R w' w3) d { (⟨cs.map full, fulls es, none, false, o + 1⟩ : DS) with wait := fulls es ++ [(x, full c)] }) (k : Keep R w' w3) :
    Kp w1 w3 (Grow R w' w3) d ab lb mb cs (es ++ [(x, c)]) el em ks mv kv (o + 1) :=
  (h.rest hc).disk (by rw [fulls_snoc]; exact hs) k (fun i hi hn e => e.elim hn (fun e => by omega))
/-- A store into the last bytes. -/
theorem Kp.lastSet (h : Kp w1 w R d ab lb mb cs es el em ks mv kv o) (x : Nat) (c : UInt8) : Kp w1 (w.setCell ⟨lb, x, none⟩ (bv c)) R d ab lb mb cs es (el ++ [(x, c)]) em ks mv kv o := by
  refine ⟨h.st.touch (p := ⟨lb, x, none⟩) h.lo.1 h.lo.2 _, h.len, h.atr.far (p := ⟨lb, x, none⟩) h.ne _, ?_, h.mtr.far (p := ⟨lb, x, none⟩) (h.mtr.ne h.ltr (by decide)) _, h.ml, fun i v hi => ?_, own_move h.kr (fun g cur hg hrow => hrow.far (p := ⟨lb, x, none⟩) (hrow.ne h.ltr (by decide)) _), h.kout, h.ao, h.lo, h.mo, h.ne⟩
  · have := h.ltr.store x (bv c)
    rw [List.setIfInBounds_toArray] at this
    rw [List.length_append, List.length_cons, List.length_nil, putTo_last, List.map_set]
    exact this
  · obtain ⟨g, cap, e, ho, hR, hl, hd⟩ := h.may i v hi
    exact ⟨g, cap, e, own_move ho (fun g' cur' hg' hrow' => hrow'.far (p := ⟨lb, x, none⟩) (hrow'.ne h.ltr (by decide)) _), hR, hl, hd⟩
/-- One more that may be. -/
theorem Kp.mayApp (h : Kp w1 w R d ab lb mb cs es el em ks mv kv o) (hc : Calm w w') {x : Nat} {c : UInt8} {v : Value} (hx : mv[x]? = some v) {gg cg H : Nat} (hg : w'.grownBy w3 v.ownBlock)
    (hown : w3.ownsRow 0 5 1 (.slice (some ⟨gg, 0, none⟩) ((mayOf cs em x).length + 1) cg) ((mayOf cs em x).length + 1) ((mayOf cs em x).map bv ++ [bv c])) (hat : v.ownBlock = some gg ∨ gg = H) (hH : w.heap.size ≤ H) :
    Kp w1 (w3.setCell ⟨mb, x, none⟩ (.slice (some ⟨gg, 0, none⟩) ((mayOf cs em x).length + 1) cg)) R d ab lb mb cs es el (em ++ [(x, c)]) ks (mv.set x (.slice (some ⟨gg, 0, none⟩) ((mayOf cs em x).length + 1) cg)) kv o := by
  have hw := h.rest hc
  obtain ⟨g0, cap0, e0, ho0, hR0, hl0, hd0⟩ := h.may x v hx
  have hvo : v.ownBlock = some g0 := by rw [e0]; rfl
  obtain ⟨cur0, hrow0⟩ := hw.mrow hx hvo
  have far : ∀ {k t cur}, k ≠ g0 → Row w' k t cur → Row w3 k t cur := fun hk hr => hr.grown hg (fun e => hk (by rw [hvo] at e; injection e))
  have hlt : x < mv.length := (List.getElem?_eq_some_iff.1 hx).1
  have hmb3 : Row w3 mb 49 mv.toArray := far (hw.mtr.ne hrow0 (by decide)) hw.mtr
  have ggrow : ∃ cur, Row w3 gg 5 cur := by
    rcases hown.2 with ⟨_, h0⟩ | ⟨g', cap', cur', h0, _, h2, _⟩
    · omega
    · injection h0 with h0 _ _
      injection h0 with h0
      injection h0 with h0
      subst h0
      exact ⟨cur', h2⟩
  obtain ⟨curg, hgr⟩ := ggrow
  have hR : ¬ R gg := by
    rcases hat with hat | hat
    · rw [hvo] at hat; injection hat with hat; subst hat; exact hR0
    · exact h.st.fresh (by omega)
  have hL : w1.heap.size ≤ gg := by
    rcases hat with hat | hat
    · rw [hvo] at hat; injection hat with hat; subst hat; exact hl0
    · have := h.st.calm.size; omega
  have hst3 : St w1 w3 R d ⟨cs.map full, fulls es, none, false, o⟩ := by
    have k3 : Keep (fun k => k = g0) w' w3 := (Keep.refl _ w').grown hg (fun k e _ => by rw [hvo] at e; injection e with e; exact e.symm)
    exact ⟨hw.st.disk.move (fun k hk hkl => k3.block k hkl (fun e => by subst e; exact hR0 hk)) (fun _ x => x), hw.st.calm.then_ k3 (fun i hi e => by subst e; omega), hw.st.new, fun k hk => Nat.lt_of_lt_of_le (hw.st.lt k hk) k3.size⟩
  refine ⟨hst3.touch (p := ⟨mb, x, none⟩) h.mo.1 h.mo.2 _, h.len, (far (hw.atr.ne hrow0 (by decide)) hw.atr).far (p := ⟨mb, x, none⟩) (h.atr.ne h.mtr (by decide)) _, (far (hw.ltr.ne hrow0 (by decide)) hw.ltr).far (p := ⟨mb, x, none⟩) (h.ltr.ne h.mtr (by decide)) _, ?_, by simp [h.ml], fun i u hi => ?_, ?_, h.kout, h.ao, h.lo, h.mo, h.ne⟩
  · have := hmb3.store x (.slice (some ⟨gg, 0, none⟩) ((mayOf cs em x).length + 1) cg)
    rw [List.setIfInBounds_toArray] at this
    exact this
  · rw [List.getElem?_set] at hi
    by_cases ex : x = i
    · subst ex
      simp [hlt] at hi
      subst hi
      have em' : mayOf cs (em ++ [(x, c)]) x = mayOf cs em x ++ [c] := by rw [mayOf_snoc]; simp
      rw [em']
      simp only [List.length_append, List.length_cons, List.length_nil, List.map_append, List.map_cons, List.map_nil]
      refine ⟨gg, cg, rfl, own_move hown (fun g' cur' _ hrow' => hrow'.far (p := ⟨mb, x, none⟩) (hrow'.ne hmb3 (by decide)) _), hR, hL, fun i' v' hne hv' => ?_⟩
      rw [List.getElem?_set, if_neg (fun e => hne e.symm)] at hv'
      rcases hat with hat | hat
      · rw [hvo] at hat; injection hat with hat; subst hat
        exact hd0 i' v' hne hv'
      · intro e
        obtain ⟨cur', hrow'⟩ := h.mrow hv' e
        have := hrow'.lt
        omega
    · simp [ex] at hi
      have em' : mayOf cs (em ++ [(x, c)]) i = mayOf cs em i := by rw [mayOf_snoc]; simp [ex]
      rw [em']
      obtain ⟨g, cap, e, ho, hRg, hlg, hdg⟩ := hw.may i u hi
      have hug : u.ownBlock = some g := by rw [e]; rfl
      have hgg0 : g ≠ g0 := fun e => hd0 i u (fun e => ex e.symm) hi (by rw [hug, e])
      refine ⟨g, cap, e, own_move ho (fun g' cur' hg' hrow' => ?_), hRg, hlg, fun i' v' hne hv' => ?_⟩
      · have : g' = g := by rw [hug] at hg'; injection hg' with hg'; exact hg'.symm
        subst this
        exact (far hgg0 hrow').far (p := ⟨mb, x, none⟩) (hrow'.ne hw.mtr (by decide)) _
      · rw [List.getElem?_set] at hv'
        by_cases ex' : x = i'
        · subst ex'
          simp [hlt] at hv'
          subst hv'
          intro e2
          have : gg = g := by simpa [Value.ownBlock] using e2
          subst this
          rcases hat with hat | hat
          · rw [hvo] at hat; injection hat with hat; exact hgg0 hat.symm
          · obtain ⟨cur', hrow'⟩ := h.mrow hi hug
            have := hrow'.lt
            omega
        · rw [if_neg ex'] at hv'
          exact hdg i' v' hne hv'
  · exact own_move hw.kr (fun g cur hg' hrow => (far (hrow.ne hrow0 (by decide)) hrow).far (p := ⟨mb, x, none⟩) (hrow.ne hw.mtr (by decide)) _)
/-- One more that is kept, or not. -/
theorem Kp.kApp (h : Kp w1 w R d ab lb mb cs es el em ks mv kv o) (hc : Calm w w') {b : Bool} {kv' : Value} (hg : w'.grownBy w3 kv.ownBlock) (hown : w3.ownsRow 0 4 1 kv' (ks.length + 1) (ks.map Value.bool ++ [.bool b])) (hat : kv'.ownBlock = kv.ownBlock ∨ ∃ H, kv'.ownBlock = some H ∧ w.heap.size ≤ H) :
    Kp w1 w3 R d ab lb mb cs es el em (ks ++ [b]) mv kv' o := by
  have hw := h.rest hc
  have far : ∀ {k t cur}, t ≠ 4 → Row w' k t cur → Row w3 k t cur := fun {k t cur} ht hr => hr.grown hg (fun e => by
    obtain ⟨cur', hrow'⟩ := hw.krow e.symm
    exact (hr.ne hrow' ht) rfl)
  have k3 : Keep (fun k => kv.ownBlock = some k) w' w3 := (Keep.refl _ w').grown hg (fun k e _ => e)
  have hst3 : St w1 w3 R d ⟨cs.map full, fulls es, none, false, o⟩ :=
    ⟨hw.st.disk.move (fun k hk hkl => k3.block k hkl (fun e => (hw.kout k e).1 hk)) (fun _ x => x), hw.st.calm.then_ k3 (fun i hi e => by have := (hw.kout i e).2; omega), hw.st.new, fun k hk => Nat.lt_of_lt_of_le (hw.st.lt k hk) k3.size⟩
  refine ⟨hst3, h.len, far (by decide) hw.atr, far (by decide) hw.ltr, far (by decide) hw.mtr, h.ml, fun i v hi => ?_, by simpa using hown, fun g e => ?_, h.ao, h.lo, h.mo, h.ne⟩
  · obtain ⟨g, cap, e, ho, hRg, hlg, hdg⟩ := hw.may i v hi
    exact ⟨g, cap, e, own_move ho (fun g' cur' hg' hrow' => far (by decide) hrow'), hRg, hlg, hdg⟩
  · rcases hat with hat | ⟨H, hat, hH⟩
    · rw [hat] at e; exact h.kout g e
    · rw [hat] at e
      injection e with e
      subst e
      exact ⟨h.st.fresh hH, by have := h.st.calm.size; omega⟩
end
theorem own_one (w : World) (c : UInt8) : (w.alloc (.cells #[.int .u8 (c.toNat : Int)] 5)).ownsRow 0 5 1 (.slice (some ⟨w.heap.size, 0, none⟩) 1 1) 1 [bv c] :=
  World.ownsRow_lit w #[.int .u8 (c.toNat : Int)] 1 (Nat.zero_le _) (by simp [maxLen]) (by simp)
theorem Kp.start {w1 w7 : World} {R : Nat → Prop} {d ab o : Nat} {k0 k1 k2 k3 : UInt8} (hs : St w1 w7 R d ⟨[k0, k1, k2, k3].map full, [], none, false, o⟩) (hr : Row w7 ab 42 ([k0, k1, k2, k3].map bv).toArray) (ho : ¬ R ab) (hl : w1.heap.size ≤ ab) :
    Kp w1 ((((((w7.alloc (.cells #[.int .u8 (k0.toNat : Int), .int .u8 (k1.toNat : Int), .int .u8 (k2.toNat : Int), .int .u8 (k3.toNat : Int)] 42)).alloc (.cells #[.int .u8 (k0.toNat : Int)] 5)).alloc (.cells #[.int .u8 (k1.toNat : Int)] 5)).alloc (.cells #[.int .u8 (k2.toNat : Int)] 5)).alloc (.cells #[.int .u8 (k3.toNat : Int)] 5)).alloc
        (.cells #[.slice (some ⟨w7.heap.size + 1, 0, none⟩) 1 1, .slice (some ⟨w7.heap.size + 1 + 1, 0, none⟩) 1 1, .slice (some ⟨w7.heap.size + 1 + 1 + 1, 0, none⟩) 1 1, .slice (some ⟨w7.heap.size + 1 + 1 + 1 + 1, 0, none⟩) 1 1] 49))
        R d ab w7.heap.size (w7.heap.size + 1 + 1 + 1 + 1 + 1) [k0, k1, k2, k3] [] [] [] [] [.slice (some ⟨w7.heap.size + 1, 0, none⟩) 1 1, .slice (some ⟨w7.heap.size + 1 + 1, 0, none⟩) 1 1, .slice (some ⟨w7.heap.size + 1 + 1 + 1, 0, none⟩) 1 1, .slice (some ⟨w7.heap.size + 1 + 1 + 1 + 1, 0, none⟩) 1 1] (.slice none 0 0) o := by
  have hab := hr.lt
  have hsz := hs.calm.size
  have fr : ∀ k, w7.heap.size ≤ k → ¬ R k ∧ w1.heap.size ≤ k := fun k hk => ⟨hs.fresh hk, by omega⟩
  have l1 := Row.made w7 42 #[.int .u8 (k0.toNat : Int), .int .u8 (k1.toNat : Int), .int .u8 (k2.toNat : Int), .int .u8 (k3.toNat : Int)]
  have e0 := own_one (w7.alloc (.cells #[.int .u8 (k0.toNat : Int), .int .u8 (k1.toNat : Int), .int .u8 (k2.toNat : Int), .int .u8 (k3.toNat : Int)] 42)) k0
  have e1 := own_one ((w7.alloc (.cells #[.int .u8 (k0.toNat : Int), .int .u8 (k1.toNat : Int), .int .u8 (k2.toNat : Int), .int .u8 (k3.toNat : Int)] 42)).alloc (.cells #[.int .u8 (k0.toNat : Int)] 5)) k1
  have e2 := own_one (((w7.alloc (.cells #[.int .u8 (k0.toNat : Int), .int .u8 (k1.toNat : Int), .int .u8 (k2.toNat : Int), .int .u8 (k3.toNat : Int)] 42)).alloc (.cells #[.int .u8 (k0.toNat : Int)] 5)).alloc (.cells #[.int .u8 (k1.toNat : Int)] 5)) k2
  have e3 := own_one ((((w7.alloc (.cells #[.int .u8 (k0.toNat : Int), .int .u8 (k1.toNat : Int), .int .u8 (k2.toNat : Int), .int .u8 (k3.toNat : Int)] 42)).alloc (.cells #[.int .u8 (k0.toNat : Int)] 5)).alloc (.cells #[.int .u8 (k1.toNat : Int)] 5)).alloc (.cells #[.int .u8 (k2.toNat : Int)] 5)) k3
  have mr := Row.made (((((w7.alloc (.cells #[.int .u8 (k0.toNat : Int), .int .u8 (k1.toNat : Int), .int .u8 (k2.toNat : Int), .int .u8 (k3.toNat : Int)] 42)).alloc (.cells #[.int .u8 (k0.toNat : Int)] 5)).alloc (.cells #[.int .u8 (k1.toNat : Int)] 5)).alloc (.cells #[.int .u8 (k2.toNat : Int)] 5)).alloc (.cells #[.int .u8 (k3.toNat : Int)] 5)) 49
    #[.slice (some ⟨w7.heap.size + 1, 0, none⟩) 1 1, .slice (some ⟨w7.heap.size + 1 + 1, 0, none⟩) 1 1, .slice (some ⟨w7.heap.size + 1 + 1 + 1, 0, none⟩) 1 1, .slice (some ⟨w7.heap.size + 1 + 1 + 1 + 1, 0, none⟩) 1 1]
  simp only [World.size_alloc] at e0 e1 e2 e3 mr
  refine ⟨hs.rest ((((((((Keep.refl _ w7).alloc _).alloc _).alloc _).alloc _).alloc _).alloc _)), rfl, (((((hr.alloc _).alloc _).alloc _).alloc _).alloc _).alloc _, ((((l1.alloc _).alloc _).alloc _).alloc _).alloc _, mr, rfl, ?_, World.ownsRow_nil _ _ _ _, fun g e => by simp [Value.ownBlock] at e, ⟨ho, hl⟩, fr _ (Nat.le_refl _), fr _ (by omega), by omega⟩
  intro i v hi
  match i, hi with
  | 0, hi =>
    simp at hi
    subst hi
    refine ⟨_, 1, rfl, ((((e0.alloc _).alloc _).alloc _).alloc _), (fr _ (by omega)).1, (fr _ (by omega)).2, fun i' v' hne hv' => ?_⟩
    match i', hv' with
    | 0, _ => exact absurd rfl hne
    | 1, hv' => simp at hv'; subst hv'; intro e; have e' := Option.some.inj e; dsimp only at e'; omega
    | 2, hv' => simp at hv'; subst hv'; intro e; have e' := Option.some.inj e; dsimp only at e'; omega
    | 3, hv' => simp at hv'; subst hv'; intro e; have e' := Option.some.inj e; dsimp only at e'; omega
    | _ + 4, hv' => simp at hv'
  | 1, hi =>
    simp at hi
    subst hi
    refine ⟨_, 1, rfl, (((e1.alloc _).alloc _).alloc _), (fr _ (by omega)).1, (fr _ (by omega)).2, fun i' v' hne hv' => ?_⟩
    match i', hv' with
    | 0, hv' => simp at hv'; subst hv'; intro e; have e' := Option.some.inj e; dsimp only at e'; omega
    | 1, _ => exact absurd rfl hne
    | 2, hv' => simp at hv'; subst hv'; intro e; have e' := Option.some.inj e; dsimp only at e'; omega
    | 3, hv' => simp at hv'; subst hv'; intro e; have e' := Option.some.inj e; dsimp only at e'; omega
    | _ + 4, hv' => simp at hv'
  | 2, hi =>
    simp at hi
    subst hi
    refine ⟨_, 1, rfl, ((e2.alloc _).alloc _), (fr _ (by omega)).1, (fr _ (by omega)).2, fun i' v' hne hv' => ?_⟩
    match i', hv' with
    | 0, hv' => simp at hv'; subst hv'; intro e; have e' := Option.some.inj e; dsimp only at e'; omega
    | 1, hv' => simp at hv'; subst hv'; intro e; have e' := Option.some.inj e; dsimp only at e'; omega
    | 2, _ => exact absurd rfl hne
    | 3, hv' => simp at hv'; subst hv'; intro e; have e' := Option.some.inj e; dsimp only at e'; omega
    | _ + 4, hv' => simp at hv'
  | 3, hi =>
    simp at hi
    subst hi
    refine ⟨_, 1, rfl, (e3.alloc _), (fr _ (by omega)).1, (fr _ (by omega)).2, fun i' v' hne hv' => ?_⟩
    match i', hv' with
    | 0, hv' => simp at hv'; subst hv'; intro e; have e' := Option.some.inj e; dsimp only at e'; omega
    | 1, hv' => simp at hv'; subst hv'; intro e; have e' := Option.some.inj e; dsimp only at e'; omega
    | 2, hv' => simp at hv'; subst hv'; intro e; have e' := Option.some.inj e; dsimp only at e'; omega
    | 3, _ => exact absurd rfl hne
    | _ + 4, hv' => simp at hv'
  | _ + 4, hi => simp at hi
end Go.Proofs.Ytekghiheblkggaa
