import Derived.Test.YtnlojohjhfpbgaaT22
import Derived.Deep.AppendLies
import Derived.Deep.RegionLaw
import Derived.Maps.AppendAt
/-
  Rows of entries: keys and slices, appended.
-/
namespace Go.Proofs.Ytnlojohjhfpbgaa
open Go.RowKit Go.Deep
set_option linter.all false

/-- A key, and a slice. -/
abbrev KE := List UInt8 × (Option Addr × Nat × Nat)
def flatE : List KE → List Value
  | [] => []
  | x :: r => .string (str x.1) :: .slice x.2.1 x.2.2.1 x.2.2.2 :: flatE r
theorem flatE_len (l : List KE) : (flatE l).length = l.length * 2 := by
  induction l with
  | nil => rfl
  | cons x r ih => simp [flatE, ih]; omega
theorem flatE_app (a b : List KE) : flatE (a ++ b) = flatE a ++ flatE b := by
  induction a with
  | nil => rfl
  | cons x r ih => simp [flatE, ih]
theorem flatE_at : ∀ (l : List KE) (k : Nat) (x : KE), l[k]? = some x → (flatE l)[k * 2]? = some (.string (str x.1)) ∧ (flatE l)[k * 2 + 1]? = some (.slice x.2.1 x.2.2.1 x.2.2.2)
  | [], k, x, h => by simp at h
  | y :: l, 0, x, h => by simp at h; subst h; simp [flatE]
  | y :: l, k + 1, x, h => by
    have := flatE_at l k x (by simpa using h)
    rw [show (k + 1) * 2 = k * 2 + 2 by omega]
    simpa [flatE] using this
theorem flatE_one : ∀ (l : List KE), ∀ u ∈ flatE l, u.oneCell' = true
  | [], u, h => by cases h
  | x :: r, u, h => by
    simp only [flatE, List.mem_cons] at h
    rcases h with rfl | rfl | h
    · rfl
    · rfl
    · exact flatE_one r u h
theorem infoE10 : (Try.prog.info? 72).map (fun i => (i.zero, i.size, i.bytes)) = some (some (.agg #[.string ⟨#[]⟩, .slice none 0 0]), 2, 40) := by kernel_rfl
theorem infoE10_parts : ∃ i0 : TypeInfo, Try.prog.info? 72 = some i0 ∧ i0.zero = some (.agg #[.string ⟨#[]⟩, .slice none 0 0]) ∧ i0.size = 2 ∧ i0.bytes = 40 := by
  obtain ⟨i, h1, h2⟩ := Option.map_eq_some_iff.1 infoE10
  simp only [Prod.mk.injEq] at h2
  exact ⟨i, h1, h2.1, h2.2.1, h2.2.2⟩

def OwnE (w : World) (base : Nat) (v : Value) (l : List KE) : Prop := w.ownsRow base 72 2 v l.length (flatE l)
theorem OwnE.move {w w' : World} {base : Nat} {v : Value} {l : List KE} (h : OwnE w base v l) (hm : ∀ g, v.ownBlock = some g → g < w.heap.size → w'.heap[g]? = w.heap[g]?) : OwnE w' base v l := by
  refine ⟨h.1, ?_⟩
  rcases h.2 with h0 | ⟨g, cap, cur, e, b0, h1, h2⟩
  · exact .inl h0
  · exact .inr ⟨g, cap, cur, e, b0, (hm g (by subst e; rfl) (Row.lt (t := 72) (cs := cur) h1)).trans h1, h2⟩
theorem OwnE.calm {w w' : World} {base : Nat} {v : Value} {l : List KE} (h : OwnE w base v l) (hc : Calm w w') : OwnE w' base v l := h.move (fun g _ hl => hc.block g hl (fun e => e))
theorem OwnE.made (w : World) : OwnE (w.alloc (.cells #[] 72)) w.heap.size (.slice (some ⟨w.heap.size, 0, none⟩) 0 0) [] := World.ownsRow_made w #[] 0 (Nat.le_refl _) (Nat.zero_le _) rfl
theorem OwnE.nil (w : World) (base : Nat) : OwnE w base (.slice none 0 0) [] := ⟨rfl, .inl ⟨rfl, rfl⟩⟩
theorem OwnE.form {w : World} {base : Nat} {v : Value} {l : List KE} (h : OwnE w base v l) : ∃ A c, v = .slice A l.length c := by
  rcases h.2 with ⟨e, h0⟩ | ⟨g, cap, cur, e, _⟩
  · exact ⟨none, 0, by rw [e, h0]⟩
  · exact ⟨_, cap, e⟩
theorem OwnE.some_ {w : World} {base : Nat} {v : Value} {l : List KE} (h : OwnE w base v l) (hl : l ≠ []) : ∃ g c, v = .slice (some ⟨g, 0, none⟩) l.length c ∧ l.length ≤ c ∧ c ≤ maxLen ∧ base ≤ g ∧ ∀ j u, (flatE l)[j]? = some u → w.cell? ⟨g, j, none⟩ = some u := by
  have hh := h
  rcases h.2 with ⟨e, h0⟩ | ⟨g, cap, cur, e, b0, h1, h2, h3, h4, h5⟩
  · exact absurd (List.eq_nil_of_length_eq_zero h0) hl
  · subst e
    refine ⟨g, cap, rfl, by omega, by omega, b0, fun j u hj => ?_⟩
    have := World.ownsRow.cells hh (g := g) rfl j u hj
    rwa [addr_mid, Nat.zero_add] at this
theorem OwnE.wider {w : World} {base base' : Nat} {v : Value} {l : List KE} (h : OwnE w base v l) (hb : base' ≤ base) : OwnE w base' v l := by
  refine ⟨h.1, ?_⟩
  rcases h.2 with h0 | ⟨g, cap, cur, e, b0, h1⟩
  · exact .inl h0
  · exact .inr ⟨g, cap, cur, e, Nat.le_trans hb b0, h1⟩
theorem OwnE.block {w : World} {base g : Nat} {v : Value} {l : List KE} (h : OwnE w base v l) (hg : v.ownBlock = some g) : base ≤ g ∧ g < w.heap.size := by
  rcases h.2 with ⟨e, _⟩ | ⟨g', cap, cur, e, b0, h1, _⟩
  · subst e; cases hg
  · subst e
    have hg : some g' = some g := hg
    injection hg with hg
    subst hg
    exact ⟨b0, Row.lt (t := 72) (cs := cur) h1⟩

/-- append(v, y...), y a piece of memory that is read. -/
theorem run_append_ents (w : World) (ty : TypeId) (base : Nat) (v : Value) (xs : List KE) (hown : OwnE w base v xs) (ad : Addr) (m c : Nat) (ys : List KE) (hm : ys.length = m)
    (hc : ∀ j u, (flatE ys)[j]? = some u → w.cell? (ad.add j) = some u) (hlen : xs.length + m ≤ 100000) (hbase : base ≤ w.heap.size) :
    ∃ A c' w', (Builtin.append_ #[133, 133] ty #[v, .slice (some ad) m c]).run Try.prog w = .ok (.slice A (xs ++ ys).length c') w' ∧ OwnE w' base (.slice A (xs ++ ys).length c') (xs ++ ys) ∧ w.grownBy w' v.ownBlock ∧ (∀ g, (Value.slice A (xs ++ ys).length c').ownBlock = some g → v.ownBlock = some g ∨ w.heap.size ≤ g) := by
  subst hm
  obtain ⟨i0, hi0, hz0, hz1, hz2⟩ := infoE10_parts
  obtain ⟨v', w', hr, h2, h3, _, h5⟩ := run_append_own_at (P := Try.prog) w base 133 ty 72 i0 _ 2 40 Try.underlying133 hi0 hz0 hz1 hz2 rfl (by decide) v xs.length (flatE xs) hown ad ys.length c (flatE ys) (flatE_len ys) hc (flatE_one ys) (by unfold maxLen; omega) (by omega) hbase
  have ho : OwnE w' base v' (xs ++ ys) := by
    unfold OwnE
    rw [flatE_app, List.length_append]
    exact h2
  obtain ⟨A, c', rfl⟩ := ho.form
  refine ⟨A, c', w', hr, ho, h3, fun g hg => ?_⟩
  rcases h5 with h5 | h5
  · exact .inl (h5 ▸ hg)
  · rw [h5] at hg; injection hg with hg; exact .inr (by omega)

/-- .. as a step of a region that draws its order. -/
theorem step_append_ents {w : World} {ops : Array Oper} {o : Oper} {a : Act} {K : Act → World → Prop} {Q : Exit → Act → World → Prop} {E : Prop} (hgd : o.guard = none) (s x : Operand)
    (ho : o.op = .call { callee := .builtin .append, args := #[s, x], argTypes := #[133, 133] })
    (base : Nat) (v : Value) (xs : List KE) (hs : a.eval s = v) (hown : OwnE w base v xs) (ad : Addr) (m c : Nat) (ys : List KE) (hx : a.eval x = .slice (some ad) m c) (hm : ys.length = m)
    (hc : ∀ j u, (flatE ys)[j]? = some u → w.cell? (ad.add j) = some u) (hlen : xs.length + m ≤ 100000) (hbase : base ≤ w.heap.size) (N : Nat) (hN : (xs ++ ys).length = N)
    (h : ∀ A c' w', OwnE w' base (.slice A N c') (xs ++ ys) → w.grownBy w' v.ownBlock → (∀ g, (Value.slice A N c').ownBlock = some g → v.ownBlock = some g ∨ w.heap.size ≤ g) → K (a.put o.dst (.slice A N c')) w') :
    if Region.wanted o (yielded ops a.tmps) = true then Oper.wp Try.prog o a w K Q else E := by
  subst hN
  have hw : Region.wanted o (yielded ops a.tmps) = true := by simp [Region.wanted, hgd]
  rw [if_pos hw]
  obtain ⟨A, c', w', hr, h2, h3, h4⟩ := run_append_ents w o.type base v xs hown ad m c ys hm hc hlen hbase
  unfold Oper.wp execOp
  simp only [ho, resolve, invoke, builtin, Sem.run_bind, Sem.run_pure, Result.andThen_ok, List.map_toArray, List.map_cons, List.map_nil, hs, hx, hr]
  exact h A c' w' h2 h3 h4
/-- .. in a plain region. -/
theorem list_append_ents {w : World} {ops : Array Oper} {rest : List Oper} {o : Oper} {a : Act} {Q : Exit → Act → World → Prop} (hgd : o.guard = none) (s x : Operand)
    (ho : o.op = .call { callee := .builtin .append, args := #[s, x], argTypes := #[133, 133] })
    (base : Nat) (v : Value) (xs : List KE) (hs : a.eval s = v) (hown : OwnE w base v xs) (ad : Addr) (m c : Nat) (ys : List KE) (hx : a.eval x = .slice (some ad) m c) (hm : ys.length = m)
    (hc : ∀ j u, (flatE ys)[j]? = some u → w.cell? (ad.add j) = some u) (hlen : xs.length + m ≤ 100000) (hbase : base ≤ w.heap.size) (N : Nat) (hN : (xs ++ ys).length = N)
    (h : ∀ A c' w', OwnE w' base (.slice A N c') (xs ++ ys) → w.grownBy w' v.ownBlock → (∀ g, (Value.slice A N c').ownBlock = some g → v.ownBlock = some g ∨ w.heap.size ≤ g) → wpList Try.prog ops Q rest (a.put o.dst (.slice A N c')) w') :
    wpList Try.prog ops Q (o :: rest) a w := by
  refine wpList_step fun K hK => ?_
  exact step_append_ents hgd s x ho base v xs hs hown ad m c ys hx hm hc hlen hbase N hN (fun A c' w' a1 a2 a3 => hK _ _ (h A c' w' a1 a2 a3))

end Go.Proofs.Ytnlojohjhfpbgaa

/-
  Tables: all the entries of an Array.
-/
namespace Go.Proofs.Ytnlojohjhfpbgaa
open Go.RowKit Go.Deep
set_option linter.all false
attribute [local go_sem] Oper.semAt_some

def kes (vl : Nat) (kb : KB) : List KE := mapv (lv vl) kb
theorem kes_len (vl : Nat) (kb : KB) : (kes vl kb).length = kb.length := by simp [kes, mapv]
theorem kes_take (vl : Nat) (kb : KB) (j : Nat) (x : List UInt8 × Nat) (h : kb[j]? = some x) : (kes vl kb).take (j + 1) = (kes vl kb).take j ++ [(x.1, lv vl x.2)] := by
  rw [List.take_add_one]
  simp [kes, mapv, h]
theorem keep_grownT {w w' : World} {row : Option Nat} (h : w.grownBy w' row) : Keep (fun k => row = some k) w w' := ⟨h.os, h.tape, h.output, h.size, fun k hk hn => h.block k hk (fun e => hn e.symm)⟩
/-- All the entries, as a row that the call made. -/
def AllIs (w : World) (vl : Nat) (kb : KB) (e : Ending) (w' : World) : Prop := ∃ v, e = .returned v ∧ OwnE w' w.heap.size v (kes vl kb) ∧ Calm w w'
set_option maxRecDepth 20000 in
set_option maxHeartbeats 2000000 in
theorem all_arr {w : World} {A n vl : Nat} {kb : KB} (hn : n ≤ 1024) (hr : Row w A 22 (kb.map (fun x => slv vl x.2)).toArray) (hkeys : keysL kb = (List.range n).map numK) :
    Calls Try.prog 101 #[.agg #[.slice (some ⟨A, 0, none⟩) n n]] w (AllIs w vl kb) := by
  have hl : kb.length = n := by
    have := congrArg List.length hkeys
    simpa [keysL] using this
  have HR := Lib.hid hr
  have HK := Lib.hid (And.intro hkeys (And.intro hl hn))
  clear hr hkeys hl hn
  go_enter Try.func101, Try.ntmps101
  go_wp2_with fail
  have hc0 : Calm w (w.alloc (.cells #[.slice (some ⟨A, 0, none⟩) n n] 139)) := (Keep.refl _ w).alloc _
  have HC0 := Lib.hid hc0
  have HO : Hid (OwnE (w.alloc (.cells #[.slice (some ⟨A, 0, none⟩) n n] 139)) w.heap.size (.slice none 0 0) ((kes vl kb).take 0)) := Lib.hid (OwnE.nil _ _)
  generalize w.alloc (.cells #[.slice (some ⟨A, 0, none⟩) n n] 139) = W0 at *
  clear hc0
  go_loopw [3, 10] (fun v i wr => ∃ j : Nat, j ≤ n ∧ i = .int .i64 (j : Int) ∧ OwnE wr w.heap.size v ((kes vl kb).take j) ∧ Calm w wr) (fun _ i _ => n - (intOf i).toNat)
  case atStart => exact ⟨0, Nat.zero_le _, rfl, HO.out, HC0.out⟩
  case round =>
    obtain ⟨j, hj, rfl, ho, hc⟩ := hrel
    by_cases hl : j < n
    · have hj' : j < 1024 := Nat.lt_of_lt_of_le hl HK.out.2.2
      obtain ⟨x, hx⟩ : ∃ x, kb[j]? = some x := ⟨_, List.getElem?_eq_getElem (by have := HK.out.2.1; omega)⟩
      have hcell : wr.cell? ⟨A, j, none⟩ = some (.slice (some ⟨x.2, 0, none⟩) vl vl) := by
        rw [(HR.out.keep hc (fun e => e)).cell j]
        simp [hx, slv]
      have hjn : (j : Int) < (n : Int) := by omega
      have hcv : Sem.run Try.prog (convert 22 9 (.slice (some ⟨wr.heap.size, 0, none⟩) 4 4)) (wr.alloc (.cells #[.int .u8 ((j : Int) % 256), .int .u8 ((j : Int) / 256 % 256), .int .u8 ((j : Int) / 65536 % 256), .int .u8 ((j : Int) / 16777216 % 256)] 5)) = .ok (.string (str (numK j))) (wr.alloc (.cells #[.int .u8 ((j : Int) % 256), .int .u8 ((j : Int) / 256 % 256), .int .u8 ((j : Int) / 65536 % 256), .int .u8 ((j : Int) / 16777216 % 256)] 5)) := by
        have hl : (#[.int .u8 ((j : Int) % 256), .int .u8 ((j : Int) / 256 % 256), .int .u8 ((j : Int) / 65536 % 256), .int .u8 ((j : Int) / 16777216 % 256)] : Array Value).toList = (numK j).map bv := by
          unfold numK
          show _ = [bv (UInt8.ofNat (j % 256)), bv (UInt8.ofNat (j / 256 % 256)), bv (UInt8.ofNat (j / 65536 % 256)), bv (UInt8.ofNat (j / 16777216 % 256))]
          rw [bv_nat _ (by omega), bv_nat _ (by omega), bv_nat _ (by omega), bv_nat _ (by omega)]
          simp
        exact conv_rd (Rd.made wr (numK j) 4 _ rfl hl (by omega))
      have HJ := Lib.hid (And.intro hj' (And.intro hl hx))
      have ho1 := ho.calm ((Keep.refl _ wr).alloc (.cells #[.int .u8 ((j : Int) % 256), .int .u8 ((j : Int) / 256 % 256), .int .u8 ((j : Int) / 65536 % 256), .int .u8 ((j : Int) / 16777216 % 256)] 5))
      have hc1 : Calm w (wr.alloc (.cells #[.int .u8 ((j : Int) % 256), .int .u8 ((j : Int) / 256 % 256), .int .u8 ((j : Int) / 65536 % 256), .int .u8 ((j : Int) / 16777216 % 256)] 5)) := hc.alloc _
      have HO1 := Lib.hid ho1
      have HC1 := Lib.hid hc1
      clear hj hl hj' ho hc hx ho1 hc1
      go_upto_region 6 with fail
      clear hcell hcv
      generalize wr.alloc (.cells #[.int .u8 ((j : Int) % 256), .int .u8 ((j : Int) / 256 % 256), .int .u8 ((j : Int) / 65536 % 256), .int .u8 ((j : Int) / 16777216 % 256)] 5) = w1 at *
      have hkA : Calm w1 (w1.alloc (.cells #[.string (str (numK j)), .slice (some ⟨x.2, 0, none⟩) vl vl] 72)) := (Keep.refl _ w1).alloc _
      have HO2 := Lib.hid (HO1.out.calm hkA)
      have hnew := Row.made w1 72 #[.string (str (numK j)), .slice (some ⟨x.2, 0, none⟩) vl vl]
      have HN : Hid (∀ i u, (flatE [(numK j, lv vl x.2)])[i]? = some u → (w1.alloc (.cells #[.string (str (numK j)), .slice (some ⟨x.2, 0, none⟩) vl vl] 72)).cell? ((⟨w1.heap.size, 0, none⟩ : Addr).add i) = some u) := Lib.hid (fun i u hi => by
        rw [addr_mid, Nat.zero_add, hnew.cell]
        simpa [flatE, lv] using hi)
      have HKA := Lib.hid hkA
      have hjl : ((kes vl kb).take j).length = j := by
        rw [List.length_take, kes_len]
        have := HK.out.2.1
        have := HJ.out.2.1
        omega
      have HJL := Lib.hid hjl
      clear hkA hnew
      obtain ⟨A1, c1, e1⟩ : ∃ A c, u3 = .slice A j c := by
        obtain ⟨A, c, e⟩ := HO1.out.form
        exact ⟨A, c, by rw [e, HJL.out]⟩
      subst e1
      clear hjl
      go_wp2_with (at_builtin; go_loud (refine list_append_ents rfl (.tmp 28) (.tmp 32) rfl w.heap.size (.slice A1 j c1) ((kes vl kb).take j) rfl HO2.out ⟨w1.heap.size, 0, none⟩ 1 1 [(numK j, lv vl x.2)] rfl rfl HN.out (by rw [HJL.out]; have := HJ.out.1; omega) (Nat.le_trans HC1.out.size HKA.out.size) (j + 1) (by simp [HJL.out]) ?_); intro A2 c2 w2 ho2 hg2 hb2; have HO3 := Lib.hid ho2; have HG3 := Lib.hid hg2; clear ho2 hg2 hb2)
      have hcw : Calm w w2 := by
        refine (HC1.out.trans HKA.out).then_ (keep_grownT HG3.out) (fun i hi hr => ?_)
        have := (HO2.out.block hr).1
        omega
      have hkey : x.1 = numK j := by
        have h1 : (keysL kb)[j]? = some x.1 := by simp [keysL, HJ.out.2.2]
        rw [HK.out.1] at h1
        have h2 := HJ.out.2.1
        simp [h2] at h1
        exact h1.symm
      have hjs := HJ.out.2.1
      have e1 : wrap64 ((j : Int) + 1) = ((j + 1 : Nat) : Int) := by
        have := HJ.out.1
        unfold wrap64
        omega
      refine ⟨⟨j + 1, by omega, by rw [e1], ?_, hcw⟩, ?_⟩
      · rw [kes_take vl kb j x HJ.out.2.2, hkey]
        exact HO3.out
      · rw [e1]
        simp only [intOf]
        omega
    · have ej : j = n := by omega
      subst ej
      have hjn : ¬ (j : Int) < (j : Int) := by omega
      have HO' := Lib.hid ho
      have HC := Lib.hid hc
      have HL := HK.out.2.1
      clear hj hl ho hc
      go_wp2
      go_ret
      have e : (kes vl kb).take j = kes vl kb := List.take_of_length_le (by rw [kes_len, HL]; exact Nat.le_refl _)
      refine ⟨_, rfl, ?_, HC.out⟩
      rw [← e]
      exact HO'.out
end Go.Proofs.Ytnlojohjhfpbgaa

