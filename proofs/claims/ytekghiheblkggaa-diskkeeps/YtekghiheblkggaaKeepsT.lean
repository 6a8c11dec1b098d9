/-
  DiskKeeps: what is in memory behind the crash.
-/
import Derived.Test.YtekghiheblkggaaKeepsS
namespace Go.Proofs.Ytekghiheblkggaa
open Go.RowKit
set_option linter.all false

/-- Behind the crash: the disk keeps the bytes ps, nothing waits; the law's own memory. -/
structure Kq (w1 w : World) (R : Nat → Prop) (d ab lb mb : Nat) (cs ps : List UInt8) (es : List (Nat × UInt8)) (mv : List Value) (o : Nat) : Prop where
  st : St w1 w R d ⟨ps.map full, [], none, false, o⟩
  pl : ps.length = 4
  len : cs.length = 4
  atr : Row w ab 42 (cs.map bv).toArray
  ltr : Row w lb 42 ((putTo (fun _ => true) cs es es.length).map bv).toArray
  mtr : Row w mb 49 mv.toArray
  ml : mv.length = 4
  may : ∀ (i : Nat) v, mv[i]? = some v → ∃ g cap, v = .slice (some ⟨g, 0, none⟩) (mayOf cs es i).length cap ∧ w.ownsRow 0 5 1 v (mayOf cs es i).length ((mayOf cs es i).map bv) ∧ ¬ R g
  ao : ¬ R ab
  lo : ¬ R lb
  mo : ¬ R mb

section
variable {w1 w w' : World} {R : Nat → Prop} {d ab lb mb o o' : Nat} {cs ps : List UInt8} {es : List (Nat × UInt8)} {kl : List Bool} {mv : List Value} {kv : Value}

theorem Kq.on (h : Kq w1 w R d ab lb mb cs ps es mv o) (hs : St w1 w' R d ⟨ps.map full, [], none, false, o'⟩) (k : Keep R w w') : Kq w1 w' R d ab lb mb cs ps es mv o' := by
  refine ⟨hs, h.pl, h.len, h.atr.keep k h.ao, h.ltr.keep k h.lo, h.mtr.keep k h.mo, h.ml, fun i v hi => ?_, h.ao, h.lo, h.mo⟩
  obtain ⟨g, cap, e, ho, hR⟩ := h.may i v hi
  have hgo : v.ownBlock = some g := by rw [e]; rfl
  exact ⟨g, cap, e, own_move ho (fun g' cur' hg' hrow' => hrow'.keep k (by
    have : g' = g := by rw [hgo] at hg'; injection hg' with hg'; exact hg'.symm
    subst this; exact hR)), hR⟩
theorem Kq.rest (h : Kq w1 w R d ab lb mb cs ps es mv o) (hc : Calm w w') : Kq w1 w' R d ab lb mb cs ps es mv o := h.on (h.st.rest hc) (hc.keep R)
theorem Kp.crashed (h : Kp w1 w R d ab lb mb cs es es es kl mv kv o) (hs : St w1 w' R d { DS.crash ⟨cs.map full, fulls es, none, false, o⟩ kl with down := false }) (k : Keep R w w') :
    Kq w1 w' R d ab lb mb cs (putTo (keptOf kl) cs es es.length) es mv o := by
  have e : ({ DS.crash ⟨cs.map full, fulls es, none, false, o⟩ kl with down := false } : DS) = ⟨(putTo (keptOf kl) cs es es.length).map full, [], none, false, o⟩ := by
    simp only [DS.crash]
    rw [fulls_len, putTo_full]
  rw [e] at hs
  refine ⟨hs, by rw [putTo_len]; exact h.len, h.len, h.atr.keep k h.ao.1, h.ltr.keep k h.lo.1, h.mtr.keep k h.mo.1, h.ml, fun i v hi => ?_, h.ao.1, h.lo.1, h.mo.1⟩
  obtain ⟨g, cap, e, ho, hR, _⟩ := h.may i v hi
  have hgo : v.ownBlock = some g := by rw [e]; rfl
  exact ⟨g, cap, e, own_move ho (fun g' cur' hg' hrow' => hrow'.keep k (by
    have : g' = g := by rw [hgo] at hg'; injection hg' with hg'; exact hg'.symm
    subst this; exact hR)), hR⟩
theorem Kp.kbools (h : Kp w1 w R d ab lb mb cs es es es kl mv kv o) : Bools w (fun k => ¬ R k) kv kl :=
  (own_bools h.kr).move (Nat.le_refl _) (fun _ _ _ => rfl) (fun k hk => (h.kout k hk.1).1)
theorem Kq.mcell (h : Kq w1 w R d ab lb mb cs ps es mv o) (j : Nat) (hj : j < 4) : ∃ mg mc, (mayOf cs es j).length ≤ mc ∧ ∀ w', Calm w w' → w'.cell? ⟨mb, j, none⟩ = some (.slice (some ⟨mg, 0, none⟩) (mayOf cs es j).length mc) ∧
    ∀ n (hn : n < (mayOf cs es j).length), w'.cell? ⟨mg, n, none⟩ = some (.int .u8 (((mayOf cs es j)[n]).toNat : Int)) := by
  have hl : j < mv.length := by rw [h.ml]; exact hj
  obtain ⟨mg, mc, e, ho, _⟩ := h.may j _ (List.getElem?_eq_getElem hl)
  have hle : (mayOf cs es j).length ≤ mc := by
    rcases ho.2 with ⟨e0, _⟩ | ⟨g, cap, cur, e0, _, _, e1, _⟩
    · rw [e] at e0; injection e0 with e0; cases e0
    · rw [e] at e0; injection e0 with _ _ e2; rw [e2]; exact e1
  refine ⟨mg, mc, hle, fun w' hc => ⟨?_, fun n hn => ?_⟩⟩
  · have := (h.rest hc).mtr.cell j
    rw [this, ← e]
    simp [hl]
  · obtain ⟨mg', mc', e', ho', _⟩ := (h.rest hc).may j _ (List.getElem?_eq_getElem hl)
    rw [e] at e' ho'
    have := ho'.cells (g := mg) rfl n (bv (mayOf cs es j)[n]) (by simp [hn])
    by_cases h0 : n = 0
    · subst h0; simpa [Addr.add, bv] using this
    · simpa [Addr.add, bv, h0] using this
theorem now_full (j : Nat) (hj : j < ps.length) : DS.now ⟨ps.map full, [], none, false, o⟩ j = full (ps.getD j 0) := by
  show (ps.map full).getD j [] = _
  simp [List.getD, hj]
theorem Kq.lcell (h : Kq w1 w R d ab lb mb cs ps es mv o) (e : ps = putTo (fun _ => true) cs es es.length) (j : Nat) (hj : j < 4) : w.cell? ⟨lb, j, none⟩ = some (.int .u8 ((ps.getD j 0).toNat : Int)) := by
  have hp := h.pl
  rw [h.ltr.cell, ← e]
  simp [bv, hp, hj]
theorem Kq.acell (h : Kq w1 w R d ab lb mb cs ps es mv o) (e : ps = cs) (j : Nat) (hj : j < 4) : w.cell? ⟨ab, j, none⟩ = some (.int .u8 ((ps.getD j 0).toNat : Int)) := by
  have hp := h.pl
  rw [h.atr.cell, ← e]
  simp [bv, hp, hj]
theorem keeps_all (hk : kl.length = es.length) (h : ∀ b ∈ kl, b = true) : putTo (keptOf kl) cs es es.length = putTo (fun _ => true) cs es es.length :=
  putTo_congr _ _ _ _ _ (fun i hi => by
    have hi' : i < kl.length := by omega
    simp only [keptOf, List.getElem?_eq_getElem hi', Option.getD_some]
    exact h _ (List.getElem_mem hi'))
theorem keeps_none (hk : kl.length = es.length) (h : ∀ b ∈ kl, b = false) : putTo (keptOf kl) cs es es.length = cs :=
  (putTo_congr _ (fun _ => false) _ _ _ (fun i hi => by
    have hi' : i < kl.length := by omega
    simp only [keptOf, List.getElem?_eq_getElem hi', Option.getD_some]
    exact h _ (List.getElem_mem hi'))).trans (putTo_none _ _ _)
theorem Kq.mcell' (h : Kq w1 w R d ab lb mb cs ps es mv o) (j : Nat) (hj : j < 4) (M : List UInt8) (hM : M = mayOf cs es j) : ∃ mg mc, M.length ≤ mc ∧ ∀ w', Calm w w' → w'.cell? ⟨mb, j, none⟩ = some (.slice (some ⟨mg, 0, none⟩) M.length mc) ∧
    ∀ n (hn : n < M.length), w'.cell? ⟨mg, n, none⟩ = some (.int .u8 ((M[n]).toNat : Int)) := by
  subst hM
  exact h.mcell j hj
end
theorem sees {w : World} {Q : Nat → Prop} {g p : Nat} {c : UInt8} (h : Data w Q (.slice (some ⟨g, 0, none⟩) 512 p) (full c)) : w.cell? ⟨g, 0, none⟩ = some (.int .u8 (c.toNat : Int)) := by
  have := h.cell 0 (by omega)
  rw [this]
  simp [full, bv]
theorem mem_next {M : List UInt8} {c : UInt8} {n : Nat} (hn : n < M.length) (h : c ∈ M.take (n + 1)) : c ∈ M.take n ∨ M[n] = c := by
  rw [List.take_succ, List.getElem?_eq_getElem hn] at h
  rcases List.mem_append.1 h with h | h
  · exact .inl h
  · simp at h
    exact .inr h.symm
end Go.Proofs.Ytekghiheblkggaa
