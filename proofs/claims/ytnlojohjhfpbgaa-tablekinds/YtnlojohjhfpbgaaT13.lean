import Derived.Test.YtnlojohjhfpbgaaT11
/-
  Tables: kinds: add, drop, whatever the kind.
-/
namespace Go.Proofs.Ytnlojohjhfpbgaa
open Go.RowKit Go.Deep
open Go.Maps (Keyed)
set_option linter.all false
attribute [local go_sem] Oper.semAt_some

def addKB (kind mx : Nat) (k : List UInt8) (g : Nat) (kb : KB) : KB := if kind = 3 then (putL mx k g kb).2 else kb ++ [(k, g)]
def addE (kind mx : Nat) (k : List UInt8) (g : Nat) (bs : List UInt8) (E : List Ent) : List Ent := if kind = 3 then (putL mx k (g, bs) E).2 else E ++ [(k, g, bs)]
theorem kbs_add (kind mx : Nat) (k : List UInt8) (g : Nat) (bs : List UInt8) (E : List Ent) : kbs (addE kind mx k g bs E) = addKB kind mx k g (kbs E) := by
  unfold addE addKB
  split
  · have := putL_mapv (fun x : Nat × List UInt8 => x.1) mx k (g, bs) E
    unfold kbs
    exact (congrArg Prod.snd this).symm
  · simp [kbs, mapv]

def AddK (w : World) (R : Nat → Prop) (q : MN) (bs k : List UInt8) (kb : KB) (ev : Value) (w' : World) : Prop :=
  ∃ (g : Nat) (R' : Nat → Prop), w.heap.size ≤ g ∧ ¬ R' g ∧ Row w' g 5 (bs.map bv).toArray ∧ KindIs w' R' q (addKB q.kind q.max k g kb) ev ∧ Grow R R' w ∧ Keep R w w' ∧ ∀ i, R' i → i < w'.heap.size

section
variable {w : World} {R : Nat → Prop} {q : MN} {kb : KB} {ev : Value}
theorem kadd_no (hlt : ∀ i, R i → i < w.heap.size) (h : KindIs w R q kb ev) (k : List UInt8) (v : Value) (n : Int) (hn : (q.kind = 1 ∧ n = 3) ∨ (q.kind = 2 ∧ q.max ≤ kb.length ∧ n = 5)) :
    Meth ev "swingbridge/table.add" [.string (str k), v] w fun e w' => e = .returned (.int .i64 n) ∧ Calm w w' := by
  cases h with
  | arr A hkd hR hr hkeys =>
    obtain rfl : n = 3 := by omega
    exact ⟨_, _, _, rfl, m_ak_add _, cf_ak_add, add_arr _ v k w⟩
  | hash b D hkd hR hm hD =>
    obtain ⟨hl, rfl⟩ : q.max ≤ kb.length ∧ n = 5 := by omega
    exact ⟨_, _, _, rfl, m_hk_add _, cf_hk_add, add_hash_full v k hm (by rw [hD.sz]; exact hl)⟩
  | lru b tb R0 hkd hR hL => omega
theorem kadd_yes (hq : q.Ok) (hlt : ∀ i, R i → i < w.heap.size) (h : KindIs w R q kb ev) {v : Value} {bs : List UInt8} (hv : Rd w v bs) (hb : bs.length = q.val) (k : List UInt8) (hk : k.length ≤ maxLen) (hkn : k ∉ keysL kb) (hc : (q.kind = 2 ∧ kb.length < q.max) ∨ q.kind = 3) :
    Meth ev "swingbridge/table.add" [.string (str k), v] w fun e w' => e = .returned (.int .i64 0) ∧ AddK w R q bs k kb ev w' := by
  have h1 := hq.val
  have h2 := hq.max
  cases h with
  | arr A hkd hR hr hkeys => omega
  | hash b D hkd hR hm hD =>
    rw [← hb] at hm
    refine ⟨_, _, _, rfl, m_hk_add _, cf_hk_add, (add_hash v bs hv (by omega) (by omega) k hk hm hD hkn (by omega) (by omega)).mono ?_⟩
    rintro e w' ⟨rfl, g, D', g1, g2, g3, g4, g5, g6⟩
    rw [hb] at g4
    have hbl := hlt b hR
    exact ⟨rfl, g, R, g1, fun e => by have := hlt g e; omega, g3, by
      have e : addKB q.kind q.max k g kb = kb ++ [(k, g)] := if_neg (by omega)
      rw [e]
      exact .hash b D' hkd hR g4 g5, Grow.refl R w, g6.mono (fun i _ e => by cases e; exact hR), fun i hi => Nat.lt_of_lt_of_le (hlt i hi) g6.size⟩
  | lru b tb R0 hkd hR hL =>
    rw [← hb] at hL
    refine ⟨_, _, _, rfl, m_rk_add _, cf_rk_add, (add_lru v bs hv (by omega) (by omega) k hk hL).mono ?_⟩
    rintro e w' ⟨rfl, g, R', g1, g2, g3, g4, g5, g6⟩
    rw [hb] at g4
    refine ⟨rfl, g, fun i => R i ∨ R' i, g1, ?_, g3, ?_, ?_, g6.mono (fun i _ e => hR i e), ?_⟩
    · rintro (e | e)
      · have := hlt g e; omega
      · exact g2 e
    · have e : addKB q.kind q.max k g kb = (putL q.max k g kb).2 := if_pos hkd
      rw [e]
      exact .lru b tb R' hkd (fun i hi => .inr hi) g4
    · rintro i (hi | hi)
      · exact .inl hi
      · exact (g5 i hi).imp (hR i) id
    · rintro i (hi | hi)
      · exact Nat.lt_of_lt_of_le (hlt i hi) g6.size
      · exact g4.lt i hi
end

/-! ### drop -/
theorem drop_arr (v : Value) (k : List UInt8) (w : World) : Calls Try.prog 103 #[.agg #[v], .string (str k)] w fun e w' => e = .returned (.int .i64 6) ∧ Calm w w' := by
  go_enter Try.func103, Try.ntmps103
  go_wp2
  go_ret
  exact ⟨rfl, (Keep.refl _ w).alloc _⟩
set_option maxHeartbeats 1000000 in
theorem drop_hash_no {w : World} {b vl mx : Nat} {D : DataW Unit} {kb : KB} (k : List UInt8) (hk : k.length ≤ maxLen) (hm : w.ownsMap Try.prog 9 (se vl) b (Maps.size D) D) (hD : HashD D kb) (hn : (keysL kb).Nodup) (hkn : k ∉ keysL kb) :
    Calls Try.prog 109 #[.agg #[.int .i64 (mx : Int), .map (some b)], .string (str k)] w fun e w' => e = .returned (.int .i64 3) ∧ Calm w w' := by
  have hl := fun o => look_hash (hm.alloc o) hD hn k hk
  rw [getL_miss hkn] at hl
  simp only [fv, Option.isSome_none] at hl
  clear hm hD hn hk hkn
  go_enter Try.func109, Try.ntmps109
  go_wp2
  go_ret
  exact ⟨rfl, (Keep.refl _ w).alloc _⟩
def DropH (w : World) (vl b : Nat) (k : List UInt8) (kb : KB) (w' : World) : Prop := ∃ D', w'.ownsMap Try.prog 9 (se vl) b (Maps.size D') D' ∧ HashD D' (dropL k kb) ∧ Keep (fun i => i = b) w w'
set_option maxHeartbeats 1000000 in
theorem drop_hash {w : World} {b vl mx : Nat} {D : DataW Unit} {kb : KB} (k : List UInt8) (hk : k.length ≤ maxLen) (hm : w.ownsMap Try.prog 9 (se vl) b (Maps.size D) D) (hD : HashD D kb) (hn : (keysL kb).Nodup) {g : Nat} (hg : (k, g) ∈ kb) :
    Calls Try.prog 109 #[.agg #[.int .i64 (mx : Int), .map (some b)], .string (str k)] w fun e w' => e = .returned (.int .i64 0) ∧ DropH w vl b k kb w' := by
  have hl := fun o => look_hash (hm.alloc o) hD hn k hk
  rw [getL_mem hn hg] at hl
  simp only [fv, slv, Option.isSome_some] at hl
  have law := Go.Maps.string_keyed (P := Try.prog) Try.underlying9
  obtain ⟨w4, hrun, hown4, hturn⟩ := (hm.alloc (.cells #[.int .i64 (mx : Int), .map (some b)] 143)).drop law Try.underlying141 (keyS k hk) 0
  have hrun' : (Builtin.delete_ #[141, 9] 0 #[.map (some b), .string (str k)]).run Try.prog (w.alloc (.cells #[.int .i64 (mx : Int), .map (some b)] 143)) = .ok (.tuple #[]) w4 := hrun
  have hgrow := hturn.grown
  have hkp : Keep (fun i => i = b) (w.alloc (.cells #[.int .i64 (mx : Int), .map (some b)] 143)) w4 := ⟨hgrow.os, hgrow.tape, hgrow.output, hgrow.size, fun i hi hn => hgrow.block i hi (fun e => hn (by injection e))⟩
  have HX : Hid (DropH w vl b k kb w4) := Lib.hid ⟨_, owns_tight' hown4, hD.del (hm.tidy law) hn hg, ((Keep.refl _ w).alloc _).trans hkp⟩
  clear hm hD hn hk hg law hrun hown4 hturn hgrow hkp
  go_enter Try.func109, Try.ntmps109
  go_wp2
  go_ret
  exact ⟨rfl, HX.out⟩
set_option maxHeartbeats 1000000 in
theorem drop_lru {w : World} {b mx vl : Nat} {R : Nat → Prop} {kb : KB} (h : LruIs syT w R b mx (mapv (lv vl) kb)) (k : List UInt8) (hk : k.length ≤ maxLen) (n : Int) (hn : ((getL k kb).isSome = true ∧ n = 0) ∨ ((getL k kb).isSome = false ∧ n = 3)) :
    Calls Try.prog 148 #[.agg #[.pointer (some ⟨b, 0, none⟩)], .string (str k)] w fun e w' => e = .returned (.int .i64 n) ∧ LruIs syT w' R b mx (mapv (lv vl) (dropL k kb)) ∧ Keep R w w' := by
  have hh : ∀ o, _ := fun o => sy_Drop (h.calm ((Keep.refl _ w).alloc o)) k hk
  simp only [getL_mapv, dropL_mapv, Option.isSome_map] at hh
  have HH := Lib.hid hh
  clear hh h
  rcases hn with ⟨hg, rfl⟩ | ⟨hg, rfl⟩
  all_goals
    rw [hg] at HH
    clear hg
    go_enter Try.func148, Try.ntmps148
    go_wp2_with fail
    refine (HH.out _).mono ?_
    rintro e w' ⟨rfl, hL, hc⟩
    have HX := Lib.hid (And.intro hL (((Keep.refl R w).alloc (.cells #[.pointer (some ⟨b, 0, none⟩)] 147)).trans hc))
    clear hc hL
    go_wp2
    go_ret
    exact ⟨rfl, HX.out.1, HX.out.2⟩

section
variable {w : World} {R : Nat → Prop} {q : MN} {kb : KB} {ev : Value}
theorem kdrop_arr (h : KindIs w R q kb ev) (hk1 : q.kind = 1) (k : List UInt8) : Meth ev "swingbridge/table.drop" [.string (str k)] w fun e w' => e = .returned (.int .i64 6) ∧ Calm w w' := by
  cases h with
  | arr A hkd hR hr hkeys => exact ⟨_, _, _, rfl, m_ak_drop _, cf_ak_drop, drop_arr _ k w⟩
  | hash b D hkd hR hm hD => omega
  | lru b tb R0 hkd hR hL => omega
theorem kdrop_no (hlt : ∀ i, R i → i < w.heap.size) (h : KindIs w R q kb ev) (hk1 : q.kind ≠ 1) (hn : (keysL kb).Nodup) (k : List UInt8) (hk : k.length ≤ maxLen) (hkn : k ∉ keysL kb) :
    Meth ev "swingbridge/table.drop" [.string (str k)] w fun e w' => e = .returned (.int .i64 3) ∧ KindIs w' R q kb ev ∧ Keep R w w' := by
  cases h with
  | arr A hkd hR hr hkeys => omega
  | hash b D hkd hR hm hD =>
    refine ⟨_, _, _, rfl, m_hk_drop _, cf_hk_drop, (drop_hash_no k hk hm hD hn hkn).mono ?_⟩
    rintro e w' ⟨rfl, hc⟩
    exact ⟨rfl, .hash b D hkd hR (owns_keep' hm (hc.block b (hlt b hR) (fun e => e))) hD, Calm.keep hc R⟩
  | lru b tb R0 hkd hR hL =>
    refine ⟨_, _, _, rfl, m_rk_drop _, cf_rk_drop, (drop_lru hL k hk 3 (.inr ⟨by rw [getL_miss hkn]; rfl, rfl⟩)).mono ?_⟩
    rintro e w' ⟨rfl, hL', hc⟩
    rw [dropL_miss hkn] at hL'
    exact ⟨rfl, .lru b tb R0 hkd hR hL', hc.mono (fun i _ hi => hR i hi)⟩
theorem kdrop_yes (h : KindIs w R q kb ev) (hk1 : q.kind ≠ 1) (hn : (keysL kb).Nodup) (k : List UInt8) (hk : k.length ≤ maxLen) {g : Nat} (hg : (k, g) ∈ kb) :
    Meth ev "swingbridge/table.drop" [.string (str k)] w fun e w' => e = .returned (.int .i64 0) ∧ KindIs w' R q (dropL k kb) ev ∧ Keep R w w' := by
  cases h with
  | arr A hkd hR hr hkeys => omega
  | hash b D hkd hR hm hD =>
    refine ⟨_, _, _, rfl, m_hk_drop _, cf_hk_drop, (drop_hash k hk hm hD hn hg).mono ?_⟩
    rintro e w' ⟨rfl, D', d1, d2, d3⟩
    exact ⟨rfl, .hash b D' hkd hR d1 d2, d3.mono (fun i _ e => by cases e; exact hR)⟩
  | lru b tb R0 hkd hR hL =>
    refine ⟨_, _, _, rfl, m_rk_drop _, cf_rk_drop, (drop_lru hL k hk 0 (.inl ⟨by rw [getL_mem hn hg]; rfl, rfl⟩)).mono ?_⟩
    rintro e w' ⟨rfl, hL', hc⟩
    exact ⟨rfl, .lru b tb R0 hkd hR hL', hc.mono (fun i _ hi => hR i hi)⟩
end
end Go.Proofs.Ytnlojohjhfpbgaa

/-
  Tables: Update.
-/
namespace Go.Proofs.Ytnlojohjhfpbgaa
open Go.RowKit Go.Deep
open Go.Maps (Keyed)
set_option linter.all false
attribute [local go_sem] Oper.semAt_some

section
variable {w0 w w' : World} {S : Nat → Prop} {tb : Nat} {q : MN} {E : List Ent}
/-- What the arguments of Update may not be. -/
def BadU (q : MN) (k v : List UInt8) (fl : Int) : Prop := k.length ≠ q.key ∨ v.length ≠ q.val ∨ ¬ (0 ≤ fl ∧ fl ≤ 2)
set_option maxRecDepth 20000 in
set_option maxHeartbeats 2000000 in
theorem update_bad (h : Tab w0 w S tb q E) {kv vv : Value} {k v : List UInt8} (hk : Rd w kv k) (hv : Rd w vv v) (fl : Int) (hb : BadU q k v fl) :
    Calls Try.prog 33 #[.pointer (some ⟨tb, 0, none⟩), kv, vv, .int .i64 fl] w fun e w' => e = .returned (.int .i64 1) ∧ LookNo w0 w S tb q E w' := by
  obtain ⟨R, h1, h2, h3, h4⟩ := h
  obtain ⟨ev, t1, t2⟩ := h1.top
  have c2 : w.cell? ⟨tb, 2, none⟩ = some (.int .i64 (q.key : Int)) := (t1.cell 2).trans rfl
  have c3 : w.cell? ⟨tb, 3, none⟩ = some (.int .i64 (q.val : Int)) := (t1.cell 3).trans rfl
  obtain ⟨A, cap, rfl, _, _⟩ := hk.form
  obtain ⟨B, cap2, rfl, _, _⟩ := hv.form
  have HT : Hid (LookNo w0 w S tb q E w) := Lib.hid ⟨⟨R, h1, h2, h3, h4⟩, Held.refl S w⟩
  clear h1 h2 h3 h4 t1 t2 hk hv
  by_cases g1 : k.length = q.key
  · have e1 : ((k.length : Int) != (q.key : Int)) = false := by rw [bne_eq_false_iff_eq]; omega
    by_cases g2 : v.length = q.val
    · have e2 : ((v.length : Int) != (q.val : Int)) = false := by rw [bne_eq_false_iff_eq]; omega
      have e3 : decide (0 ≤ fl ∧ fl ≤ 2) = false := by
        apply decide_eq_false
        rcases hb with h | h | h
        · exact absurd g1 h
        · exact absurd g2 h
        · exact h
      have hkn := fun W => known_c fl W
      rw [e3] at hkn
      have HK := Lib.hid hkn
      clear hkn e3 hb g1 g2
      go_enter Try.func33, Try.ntmps33
      go_wp2_with fail
      refine (HK.out _).mono ?_
      rintro e w' ⟨rfl, rfl⟩
      go_wp2
      go_ret
      exact ⟨rfl, HT.out⟩
    · have e2 : ((v.length : Int) != (q.val : Int)) = true := by rw [bne_iff_ne]; omega
      clear hb g1 g2
      go_enter Try.func33, Try.ntmps33
      go_wp2
      go_ret
      exact ⟨rfl, HT.out⟩
  · have e1 : ((k.length : Int) != (q.key : Int)) = true := by rw [bne_iff_ne]; omega
    clear hb g1
    go_enter Try.func33, Try.ntmps33
    go_wp2
    go_ret
    exact ⟨rfl, HT.out⟩

set_option maxRecDepth 20000 in
set_option maxHeartbeats 2000000 in
theorem update_refused (h : Tab w0 w S tb q E) {kv vv : Value} {k v : List UInt8} (hk : Rd w kv k) (hv : Rd w vv v) (fl : Int) (hb : ¬ BadU q k v fl) (n : Int) (hn : ((getL k E).isSome = true ∧ fl = 1 ∧ n = 4) ∨ (getL k E = none ∧ fl = 2 ∧ n = 3)) :
    Calls Try.prog 33 #[.pointer (some ⟨tb, 0, none⟩), kv, vv, .int .i64 fl] w fun e w' => e = .returned (.int .i64 n) ∧ LookNo w0 w S tb q E w' := by
  obtain ⟨R, h1, h2, h3, h4⟩ := h
  obtain ⟨ev, t1, t2⟩ := h1.top
  have c2 : w.cell? ⟨tb, 2, none⟩ = some (.int .i64 (q.key : Int)) := (t1.cell 2).trans rfl
  have c3 : w.cell? ⟨tb, 3, none⟩ = some (.int .i64 (q.val : Int)) := (t1.cell 3).trans rfl
  have c5 : w.cell? ⟨tb, 5, none⟩ = some ev := (t1.cell 5).trans rfl
  obtain ⟨t, u, F, rfl, hm, hcf, hc⟩ := kfind_c h1.ok t2 (by rw [keys_kbs]; exact h1.keys) k hk.len
  rw [getL_kbs, Option.isSome_map] at hc
  have hcv := conv_rd hk
  have HT : Hid (∀ w', Calm w w' → LookNo w0 w S tb q E w') := Lib.hid (fun w' c => ⟨⟨R, h1.calm c, h2, fun i hi => Nat.lt_of_lt_of_le (h3 i hi) c.size, h4.trans c⟩, Held.calm h3 c⟩)
  obtain ⟨A, cap, rfl, _, _⟩ := hk.form
  obtain ⟨B, cap2, rfl, _, _⟩ := hv.form
  clear h1 h2 h3 h4 t1 t2 hk hv
  simp only [BadU, not_or, Decidable.not_not] at hb
  obtain ⟨g1, g2, g3⟩ := hb
  have e1 : ((k.length : Int) != (q.key : Int)) = false := by rw [bne_eq_false_iff_eq]; omega
  have e2 : ((v.length : Int) != (q.val : Int)) = false := by rw [bne_eq_false_iff_eq]; omega
  have e3 : decide (0 ≤ fl ∧ fl ≤ 2) = true := decide_eq_true g3
  have hkn := fun W => known_c fl W
  rw [e3] at hkn
  have HK := Lib.hid hkn
  clear hkn e3 g1 g2 g3
  rcases hn with ⟨hg, rfl, rfl⟩ | ⟨hg, rfl, rfl⟩
  · rw [hg] at hc
    generalize fv q.val ((getL k E).map (·.1)) = fr at hc
    have HC := Lib.hid hc
    clear hc hg
    go_enter Try.func33, Try.ntmps33
    go_wp2_with fail
    refine (HK.out _).mono ?_
    rintro e w1 ⟨rfl, rfl⟩
    go_wp2_with fail
    refine HC.out.mono ?_
    rintro e w1 ⟨rfl, hcc⟩
    have HX := Lib.hid (HT.out w1 hcc)
    clear hcc HT HC HK
    go_wp2
    go_ret
    exact ⟨rfl, HX.out⟩
  · rw [hg] at hc
    simp only [Option.map_none, Option.isSome_none, fv] at hc
    have HC := Lib.hid hc
    clear hc hg
    go_enter Try.func33, Try.ntmps33
    go_wp2_with fail
    refine (HK.out _).mono ?_
    rintro e w1 ⟨rfl, rfl⟩
    go_wp2_with fail
    refine HC.out.mono ?_
    rintro e w1 ⟨rfl, hcc⟩
    have HX := Lib.hid (HT.out w1 hcc)
    clear hcc HT HC HK
    go_wp2
    go_ret
    exact ⟨rfl, HX.out⟩
end
end Go.Proofs.Ytnlojohjhfpbgaa

