import Derived.Test.YtnlojohjhfpbgaaT18
/-
  Tables: what is told in any case.
-/
namespace Go.Proofs.Ytnlojohjhfpbgaa
open Go.RowKit Go.Deep
open Go.Maps (Keyed)
set_option linter.all false

section
variable {w0 w w' : World} {tb : Nat} {q : MN} {E : List Ent}
theorem Tab.klen (h : Tab w0 w No tb q E) : ∀ x ∈ E, x.1.length = q.key := by obtain ⟨_, h, _⟩ := h; exact h.klen
theorem Tab.kinds (h : Tab w0 w No tb q E) : q.kind = 1 ∨ q.kind = 2 ∨ q.kind = 3 := by have := h.ok.kind; omega
def SomeT (w0 : World) (tb : Nat) (q : MN) (w' : World) : Prop := ∃ E, Tab w0 w' No tb q E
theorem update_any (h : Tab w0 w No tb q E) {kv vv : Value} {k v : List UInt8} (hk : Rd w kv k) (hv : Rd w vv v) (fl : Int) :
    Calls Try.prog 33 #[.pointer (some ⟨tb, 0, none⟩), kv, vv, .int .i64 fl] w fun e w' => ∃ n : Int, e = .returned (.int .i64 n) ∧ (n = 1 ↔ BadU q k v fl) ∧ SomeT w0 tb q w' := by
  by_cases hb : BadU q k v fl
  · refine (update_bad h hk hv fl hb).mono ?_
    rintro e w' ⟨rfl, a, _⟩
    exact ⟨1, rfl, ⟨fun _ => hb, fun _ => rfl⟩, _, a⟩
  · have hn : ∀ n : Int, n ≠ 1 → (n = 1 ↔ BadU q k v fl) := fun n h => ⟨fun e => absurd e h, fun e => absurd e hb⟩
    cases hg : getL k E with
    | some x =>
      obtain ⟨g, bs⟩ := x
      by_cases hf : fl = 1
      · refine (update_refused h hk hv fl hb 4 (.inl ⟨by rw [hg]; rfl, hf, rfl⟩)).mono ?_
        rintro e w' ⟨rfl, a, _⟩
        exact ⟨4, rfl, hn 4 (by decide), _, a⟩
      · refine (update_over h hk hv fl hb hg hf).mono ?_
        rintro e w' ⟨rfl, a, _⟩
        exact ⟨0, rfl, hn 0 (by decide), _, a⟩
    | none =>
      by_cases hf : fl = 2
      · refine (update_refused h hk hv fl hb 3 (.inr ⟨hg, hf, rfl⟩)).mono ?_
        rintro e w' ⟨rfl, a, _⟩
        exact ⟨3, rfl, hn 3 (by decide), _, a⟩
      · rcases h.kinds with hc | hc | hc
        · refine (update_new h hk hv fl hb hg hf 3 (SomeT w0 tb q) (.inl ⟨.inl ⟨hc, rfl⟩, fun w' a => ⟨_, a.1⟩⟩)).mono ?_
          rintro e w' ⟨rfl, a⟩
          exact ⟨3, rfl, hn 3 (by decide), a⟩
        · by_cases hl : E.length < q.max
          · refine (update_new h hk hv fl hb hg hf 0 (SomeT w0 tb q) (.inr ⟨.inl ⟨hc, hl⟩, rfl, fun w' a => by obtain ⟨g, a⟩ := addT_no a; exact ⟨_, a⟩⟩)).mono ?_
            rintro e w' ⟨rfl, a⟩
            exact ⟨0, rfl, hn 0 (by decide), a⟩
          · refine (update_new h hk hv fl hb hg hf 5 (SomeT w0 tb q) (.inl ⟨.inr ⟨hc, by omega, rfl⟩, fun w' a => ⟨_, a.1⟩⟩)).mono ?_
            rintro e w' ⟨rfl, a⟩
            exact ⟨5, rfl, hn 5 (by decide), a⟩
        · refine (update_new h hk hv fl hb hg hf 0 (SomeT w0 tb q) (.inr ⟨.inr hc, rfl, fun w' a => by obtain ⟨g, a⟩ := addT_no a; exact ⟨_, a⟩⟩)).mono ?_
          rintro e w' ⟨rfl, a⟩
          exact ⟨0, rfl, hn 0 (by decide), a⟩
theorem lookup_any (h : Tab w0 w No tb q E) {kv : Value} {k : List UInt8} (hk : Rd w kv k) :
    Calls Try.prog 31 #[.pointer (some ⟨tb, 0, none⟩), kv] w fun e w' => ∃ (p : Value) (b : Bool), e = .returned (.tuple #[p, .bool b]) ∧ (k.length ≠ q.key → b = false) ∧ SomeT w0 tb q w' := by
  cases hg : getL k E with
  | some x =>
    obtain ⟨g, bs⟩ := x
    refine (lookup_yes h hk hg).mono ?_
    rintro e w' ⟨x, rfl, _, _, a, _⟩
    exact ⟨_, true, rfl, fun e => absurd (h.klen _ (getL_some hg)) e, _, tab_no a⟩
  | none =>
    refine (lookup_no h hk hg).mono ?_
    rintro e w' ⟨rfl, a, _⟩
    exact ⟨_, false, rfl, fun _ => rfl, _, a⟩
theorem delete_any (h : Tab w0 w No tb q E) {kv : Value} {k : List UInt8} (hk : Rd w kv k) :
    Calls Try.prog 35 #[.pointer (some ⟨tb, 0, none⟩), kv] w fun e w' => ∃ n : Int, e = .returned (.int .i64 n) ∧ (n = 1 ↔ k.length ≠ q.key) ∧ SomeT w0 tb q w' := by
  by_cases hb : k.length = q.key
  · have hn : ∀ n : Int, n ≠ 1 → (n = 1 ↔ k.length ≠ q.key) := fun n h => ⟨fun e => absurd e h, fun e => absurd hb e⟩
    by_cases h1 : q.kind = 1
    · refine (delete_c h hk hb 6 (SomeT w0 tb q) (.inl ⟨.inl ⟨h1, rfl⟩, fun w' a => ⟨_, a.1⟩⟩)).mono ?_
      rintro e w' ⟨rfl, a⟩
      exact ⟨6, rfl, hn 6 (by decide), a⟩
    · cases hg : getL k E with
      | some x =>
        refine (delete_c h hk hb 0 (SomeT w0 tb q) (.inr ⟨h1, by rw [hg]; rfl, rfl, fun w' a => ⟨_, tab_no a.1⟩⟩)).mono ?_
        rintro e w' ⟨rfl, a⟩
        exact ⟨0, rfl, hn 0 (by decide), a⟩
      | none =>
        refine (delete_c h hk hb 3 (SomeT w0 tb q) (.inl ⟨.inr ⟨h1, hg, rfl⟩, fun w' a => ⟨_, a.1⟩⟩)).mono ?_
        rintro e w' ⟨rfl, a⟩
        exact ⟨3, rfl, hn 3 (by decide), a⟩
  · refine (delete_bad h hk hb).mono ?_
    rintro e w' ⟨rfl, a, _⟩
    exact ⟨1, rfl, ⟨fun _ => hb, fun _ => rfl⟩, _, a⟩
end
end Go.Proofs.Ytnlojohjhfpbgaa

/-
  Tables: what an entry holds behind a call.
-/
namespace Go.Proofs.Ytnlojohjhfpbgaa
open Go.RowKit Go.Deep
open Go.Maps (Keyed)
set_option linter.all false

section
variable {w0 w w' : World} {S : Nat → Prop} {tb : Nat} {q : MN} {E : List Ent}
theorem Tab.has (h : Tab w0 w S tb q E) {k bs : List UInt8} {g : Nat} (hg : getL k E = some (g, bs)) : Row w g 5 (bs.map bv).toArray ∧ bs.length = q.val := h.data (getL_some hg)
theorem Tab.old (h : Tab w0 w S tb q E) {k bs : List UInt8} {g : Nat} (hg : getL k E = some (g, bs)) : w0.heap.size ≤ g := by
  obtain ⟨_, _, h2, _⟩ := h
  exact (h2 g (.inr (List.mem_map.2 ⟨_, getL_some hg, rfl⟩))).1
theorem get_use {kind : Nat} {k k' : List UInt8} (hn : (keysL E).Nodup) : getL k' (useN kind k E) = getL k' E := getL_perm (perm_useN hn) hn
theorem get_set {k bs bs' : List UInt8} {g : Nat} (hg : getL k E = some (g, bs)) : getL k (setT k bs' E) = some (g, bs') := by rw [getL_set, if_pos rfl, hg]; rfl
theorem get_over {kind : Nat} {k bs bs' : List UInt8} {g : Nat} (hn : (keysL E).Nodup) (hg : getL k E = some (g, bs)) : getL k (useN kind k (setT k bs' E)) = some (g, bs') := by
  rw [get_use (by rw [keys_set]; exact hn), get_set hg]
theorem get_add {kind mx : Nat} {k bs : List UInt8} {g : Nat} (hk : getL k E = none) (hl : E.length ≤ mx) (h2 : kind ≠ 3 → E.length < mx) (hp : 1 ≤ mx) (hn : (keysL (addE kind mx k g bs E)).Nodup) : getL k (addE kind mx k g bs E) = some (g, bs) := by
  obtain ⟨E0, e1, e2, e3⟩ := addE_form (kind := kind) (g := g) (bs := bs) (getL_none hk) hl h2 hp
  exact getL_mem hn (by rw [e2]; simp)
theorem get_gone {k : List UInt8} : getL k (dropL k E) = none := by rw [getL_drop, if_pos rfl]
theorem gone_blk (hb : (blks E).Nodup) {k bs : List UInt8} {g : Nat} (hg : getL k E = some (g, bs)) : g ∈ blks E ∧ g ∉ blks (dropL k E) := by
  refine ⟨List.mem_map.2 ⟨_, getL_some hg, rfl⟩, fun hc => ?_⟩
  obtain ⟨x, hx, e⟩ := List.mem_map.1 hc
  simp only [dropL, List.mem_filter, decide_eq_true_eq] at hx
  have := uniq_blk hb hx.1 (getL_some hg) e
  exact hx.2 (by rw [this])
theorem drop_lt {k bs : List UInt8} {g : Nat} (hg : getL k E = some (g, bs)) : (dropL k E).length < E.length := by
  have hm := getL_some hg
  obtain ⟨l1, l2, rfl⟩ := List.append_of_mem hm
  unfold dropL
  rw [List.filter_append, List.filter_cons]
  simp only [not_true, decide_false, Bool.false_eq_true, if_false, List.length_append, List.length_cons]
  exact Nat.lt_of_le_of_lt (Nat.add_le_add (List.length_filter_le _ l1) (List.length_filter_le _ l2)) (by omega)
theorem Tab.kinds' (h : Tab w0 w S tb q E) : q.kind = 1 ∨ q.kind = 2 ∨ q.kind = 3 := by have := h.ok.kind; omega
theorem Tab.nod (h : Tab w0 w S tb q E) : (blks E).Nodup := by obtain ⟨_, h, _⟩ := h; exact h.nod

/-- Put, the table new: the key has its value, whatever the kind. -/
def Put1 (w0 : World) (tb : Nat) (q : MN) (k v : List UInt8) (w' : World) : Prop := ∃ E g, Tab w0 w' No tb q E ∧ getL k E = some (g, v)
theorem put_first (h : Tab w0 w No tb q E) (hE : NewE q E) {kv vv : Value} {k v : List UInt8} (hk : Rd w kv k) (hv : Rd w vv v) (hkl : k.length = q.key) (hvl : v.length = q.val) (h1 : q.kind = 1 → k = [0, 0, 0, 0]) :
    Calls Try.prog 33 #[.pointer (some ⟨tb, 0, none⟩), kv, vv, .int .i64 0] w fun e w' => e = .returned (.int .i64 0) ∧ Put1 w0 tb q k v w' := by
  have hb : ¬ BadU q k v 0 := by simp [BadU, hkl, hvl]
  have hm := h.ok.max
  unfold NewE at hE
  split at hE
  · rename_i hk1
    obtain ⟨gs, hl, rfl⟩ := hE
    have e0 := h1 hk1
    subst e0
    obtain ⟨g0, gs', rfl⟩ : ∃ g0 gs', gs = g0 :: gs' := by
      cases gs with
      | nil => simp at hl; omega
      | cons a b => exact ⟨a, b, rfl⟩
    have hg : getL [0, 0, 0, 0] (arrE q.val (g0 :: gs')) = some (g0, List.replicate q.val 0) := getL_mem h.keys (List.mem_map.2 ⟨0, by simp, rfl⟩)
    refine (update_over h hk hv 0 hb hg (by decide)).mono ?_
    rintro e w' ⟨rfl, a, _⟩
    exact ⟨rfl, _, g0, a, get_over h.keys hg⟩
  · rename_i hk1
    subst hE
    have hc : (q.kind = 2 ∧ ([] : List Ent).length < q.max) ∨ q.kind = 3 := by
      rcases h.kinds with h | h | h
      · exact absurd h hk1
      · exact .inl ⟨h, by simp; omega⟩
      · exact .inr h
    refine (update_new h hk hv 0 hb rfl (by decide) 0 (Put1 w0 tb q k v) (.inr ⟨hc, rfl, fun w' a => ?_⟩)).mono ?_
    · obtain ⟨g, a⟩ := addT_no a
      exact ⟨_, g, a, get_add rfl (Nat.zero_le _) (fun _ => by simp; omega) hm.1 a.keys⟩
    · rintro e w' ⟨rfl, a⟩
      exact ⟨rfl, a⟩
end
end Go.Proofs.Ytnlojohjhfpbgaa

/-
  Tables, the document's: a number as four bytes.
-/
namespace Go.Proofs.Ytnlojohjhfpbgaa
open Go.RowKit Go.Deep
set_option linter.all false
attribute [local go_sem] Oper.semAt_some

theorem bv_nat (n : Nat) (h : n < 256) : bv (UInt8.ofNat n) = .int .u8 (n : Int) := by
  unfold bv
  rw [UInt8.toNat_ofNat', Nat.mod_eq_of_lt h]
theorem digit (i M : Nat) (hi : i < 65536) (m : Int) (hm : m = (M : Int)) : ∃ n : Nat, (wrap64 ((i : Int) / m)).tmod 256 % 256 = (n : Int) ∧ n < 256 ∧ i / M % 256 = n := by
  subst hm
  rw [← Int.natCast_ediv]
  have h1 : i / M ≤ i := Nat.div_le_self _ _
  generalize i / M = d at *
  have e : wrap64 (d : Int) = (d : Int) := by unfold wrap64; omega
  rw [e, Int.tmod_eq_emod_of_nonneg (by omega)]
  exact ⟨d % 256, by omega, by omega, rfl⟩
set_option maxRecDepth 20000 in
set_option maxHeartbeats 2000000 in
theorem numbered_c (i : Nat) (hi : i < 65536) (w : World) : Calls Try.prog 57 #[.int .i64 (i : Int)] w fun e w' => e = .returned (.string (str (numK i))) ∧ Calm w w' := by
  obtain ⟨n0, t0⟩ : ∃ n : Nat, (i : Int) % 256 = (n : Int) := ⟨i % 256, by omega⟩
  obtain ⟨n1, t1, b1, c1⟩ := digit i 256 hi 256 rfl
  obtain ⟨n2, t2, b2, c2⟩ := digit i 65536 hi 65536 rfl
  obtain ⟨n3, t3, b3, c3⟩ := digit i 16777216 hi 16777216 rfl
  have hcv : Sem.run Try.prog (convert 22 9 (.slice (some ⟨w.heap.size, 0, none⟩) 4 4)) (w.alloc (.cells #[.int .u8 (n0 : Int), .int .u8 (n1 : Int), .int .u8 (n2 : Int), .int .u8 (n3 : Int)] 5)) = .ok (.string (str (numK i))) (w.alloc (.cells #[.int .u8 (n0 : Int), .int .u8 (n1 : Int), .int .u8 (n2 : Int), .int .u8 (n3 : Int)] 5)) := by
    have e0 : i % 256 = n0 := by omega
    have hl : (#[.int .u8 (n0 : Int), .int .u8 (n1 : Int), .int .u8 (n2 : Int), .int .u8 (n3 : Int)] : Array Value).toList = (numK i).map bv := by
      unfold numK
      rw [e0, c1, c2, c3]
      show _ = [bv (UInt8.ofNat n0), bv (UInt8.ofNat n1), bv (UInt8.ofNat n2), bv (UInt8.ofNat n3)]
      rw [bv_nat n0 (by omega), bv_nat n1 b1, bv_nat n2 b2, bv_nat n3 b3]
    exact conv_rd (Rd.made w (numK i) 4 _ rfl hl (by omega))
  have HC : Hid (Calm w (w.alloc (.cells #[.int .u8 (n0 : Int), .int .u8 (n1 : Int), .int .u8 (n2 : Int), .int .u8 (n3 : Int)] 5))) := Lib.hid ((Keep.refl _ w).alloc _)
  clear hi b1 b2 b3 c1 c2 c3
  generalize str (numK i) = F at *
  go_enter Try.func57, Try.ntmps57
  go_wp2
  go_ret
  exact ⟨rfl, HC.out⟩
theorem ok_lru {nm : List UInt8} {kd ky vl mx : Nat} (h : (⟨nm, kd, ky, vl, mx⟩ : MN).Ok) : (⟨nm, 3, ky, vl, mx⟩ : MN).Ok := by
  have hr := h.right
  have hn : nmOk nm = true := by
    simp only [MP.right, MN.mp, Bool.and_eq_true] at hr
    exact hr.1
  have h1 := h.key
  have h2 := h.val
  have h3 := h.max
  simp only at h1 h2 h3
  refine ⟨?_, h.name, .inr (.inr rfl), h1, h2, h3⟩
  simp only [MP.right, MN.mp, hn, Bool.true_and, Bool.and_eq_true, kdOk, wi]
  exact ⟨decide_eq_true (.inr (.inr rfl)), decide_eq_true (by omega), decide_eq_true (by omega), decide_eq_true (by omega)⟩

/-! A table that is filled with numbers -/
def vals (E : List Ent) : List (List UInt8 × List UInt8) := mapv (·.2) E
theorem keys_vals (E : List Ent) : keysL (vals E) = keysL E := keys_mapv _ _
theorem getL_vals (k : List UInt8) (E : List Ent) : getL k (vals E) = (getL k E).map (·.2) := getL_mapv _ _ _
theorem vals_len (E : List Ent) : (vals E).length = E.length := by simp [vals, mapv]
theorem vals_use (kind : Nat) (k : List UInt8) (E : List Ent) : vals (useN kind k E) = if kind = 3 then useL k (vals E) else vals E := by
  unfold useN
  split
  · exact (useL_mapv _ _ _).symm
  · rfl
theorem vals_add (kind mx : Nat) (k : List UInt8) (g : Nat) (bs : List UInt8) (E : List Ent) : vals (addE kind mx k g bs E) = if kind = 3 then (putL mx k bs (vals E)).2 else vals E ++ [(k, bs)] := by
  unfold addE
  split
  · have := putL_mapv (fun x : Nat × List UInt8 => x.2) mx k (g, bs) E
    unfold vals
    exact (congrArg Prod.snd this).symm
  · simp [vals, mapv]
def setV (k bs : List UInt8) (L : List (List UInt8 × List UInt8)) : List (List UInt8 × List UInt8) := L.map (fun x => if x.1 = k then (x.1, bs) else x)
theorem vals_set (k bs : List UInt8) (E : List Ent) : vals (setT k bs E) = setV k bs (vals E) := by
  unfold vals setT setV mapv
  rw [List.map_map, List.map_map]
  exact List.map_congr_left (fun x _ => by simp only [Function.comp]; split <;> rfl)
theorem keys_setV (k bs : List UInt8) (L : List (List UInt8 × List UInt8)) : keysL (setV k bs L) = keysL L := by
  unfold keysL setV
  rw [List.map_map]
  exact List.map_congr_left (fun x _ => by simp only [Function.comp]; split <;> rfl)
end Go.Proofs.Ytnlojohjhfpbgaa

/-
  Tables: which keys there are.
-/
namespace Go.Proofs.Ytnlojohjhfpbgaa
open Go.RowKit Go.Deep
set_option linter.all false

theorem keys_add {kind mx : Nat} {k bs : List UInt8} {g : Nat} {E : List Ent} (hk : k ∉ keysL E) (h : kind ≠ 3 ∨ E.length < mx) : keysL (addE kind mx k g bs E) = keysL E ++ [k] := by
  unfold addE
  split
  · rename_i h3
    have hl : E.length < mx := h.elim (fun e => absurd h3 e) id
    unfold putL
    rw [if_neg hk, if_pos hl]
    simp [keysL]
  · simp [keysL]
theorem keys_full {mx : Nat} {k bs : List UInt8} {g : Nat} {E : List Ent} (hk : k ∉ keysL E) (h : mx ≤ E.length) : keysL (addE 3 mx k g bs E) = (keysL E).tail ++ [k] := by
  unfold addE putL
  rw [if_pos rfl, if_neg hk, if_neg (by omega)]
  simp [keysL]
theorem get_key {k : List UInt8} {E : List Ent} (h : k ∈ keysL E) : ∃ g bs, getL k E = some (g, bs) := by
  cases hg : getL k E with
  | none => exact absurd h (getL_none hg)
  | some x => exact ⟨x.1, x.2, rfl⟩
theorem get_no {k : List UInt8} {E : List Ent} (h : k ∉ keysL E) : getL k E = none := getL_miss h
theorem mem_use {kind : Nat} {k k' : List UInt8} {E : List Ent} (hn : (keysL E).Nodup) : k' ∈ keysL (useN kind k E) ↔ k' ∈ keysL E := by
  have : (keysL (useN kind k E)).Perm (keysL E) := by unfold keysL; exact (perm_useN hn).map _
  exact this.mem_iff
theorem len_use {kind : Nat} {k : List UInt8} {E : List Ent} (hn : (keysL E).Nodup) : (useN kind k E).length = E.length := (perm_useN hn).length_eq
theorem len_set (k bs : List UInt8) (E : List Ent) : (setT k bs E).length = E.length := by simp [setT]
theorem len_keys (E : List Ent) : (keysL E).length = E.length := by simp [keysL]
theorem num_mem {n i : Nat} (hn : n ≤ 65536) (hi : i < 65536) : numK i ∈ (List.range n).map numK ↔ i < n := by
  constructor
  · intro h
    obtain ⟨j, hj, e⟩ := List.mem_map.1 h
    rw [List.mem_range] at hj
    rw [← numK_inj (by omega) hi e]
    exact hj
  · intro h
    exact List.mem_map.2 ⟨i, List.mem_range.2 h, rfl⟩
/-- A byte as a row. -/
theorem one_byte (w : World) (b : UInt8) (v : Value) (hv : v = bv b) : Rd (w.alloc (.cells #[v] 5)) (.slice (some ⟨w.heap.size, 0, none⟩) 1 1) [b] ∧ Calm w (w.alloc (.cells #[v] 5)) := by
  subst hv
  exact ⟨Rd.made w [b] 1 #[bv b] rfl rfl (by omega), (Keep.refl _ w).alloc _⟩
def Keys (w0 : World) (tb : Nat) (q : MN) (ks : List (List UInt8)) (w : World) : Prop := ∃ E, Tab w0 w No tb q E ∧ keysL E = ks
section
variable {w0 w : World} {tb : Nat} {q : MN} {ks : List (List UInt8)}
theorem Keys.len (h : Keys w0 tb q ks w) : ks.length ≤ q.max := by obtain ⟨E, h, rfl⟩ := h; rw [len_keys]; exact h.few
theorem keys_put (h : Keys w0 tb q ks w) {kv vv : Value} {k v : List UInt8} (hk : Rd w kv k) (hv : Rd w vv v) (fl : Int) (hkl : k.length = q.key) (hvl : v.length = q.val) (hf : 0 ≤ fl ∧ fl ≤ 1) (hkn : k ∉ ks) (hc : (q.kind = 2 ∧ ks.length < q.max) ∨ q.kind = 3) :
    Calls Try.prog 33 #[.pointer (some ⟨tb, 0, none⟩), kv, vv, .int .i64 fl] w fun e w' => e = .returned (.int .i64 0) ∧ Keys w0 tb q (if ks.length < q.max then ks ++ [k] else ks.tail ++ [k]) w' := by
  obtain ⟨E, h, rfl⟩ := h
  have hb : ¬ BadU q k v fl := by
    simp only [BadU, not_or, Decidable.not_not]
    exact ⟨hkl, hvl, by omega⟩
  refine (update_new h hk hv fl hb (get_no hkn) (by omega) 0 (Keys w0 tb q (if (keysL E).length < q.max then keysL E ++ [k] else (keysL E).tail ++ [k])) (.inr ⟨by rw [len_keys] at hc; exact hc, rfl, fun w' a => ?_⟩)).mono (fun e w' a => a)
  obtain ⟨g, a⟩ := addT_no a
  refine ⟨_, a, ?_⟩
  rw [len_keys]
  split
  · exact keys_add hkn (.inr (by assumption))
  · rename_i hl
    have h3 : q.kind = 3 := by
      rcases hc with h | h
      · rw [len_keys] at h; omega
      · exact h
    rw [h3]
    exact keys_full hkn (by omega)
theorem keys_refused (h : Keys w0 tb q ks w) {kv vv : Value} {k v : List UInt8} (hk : Rd w kv k) (hv : Rd w vv v) (fl : Int) (hkl : k.length = q.key) (hvl : v.length = q.val) (hf : 0 ≤ fl ∧ fl ≤ 1) (hkn : k ∉ ks) (h2 : q.kind = 2) (hc : q.max ≤ ks.length) :
    Calls Try.prog 33 #[.pointer (some ⟨tb, 0, none⟩), kv, vv, .int .i64 fl] w fun e w' => e = .returned (.int .i64 5) ∧ Keys w0 tb q ks w' := by
  obtain ⟨E, h, rfl⟩ := h
  have hb : ¬ BadU q k v fl := by
    simp only [BadU, not_or, Decidable.not_not]
    exact ⟨hkl, hvl, by omega⟩
  exact (update_new h hk hv fl hb (get_no hkn) (by omega) 5 (Keys w0 tb q (keysL E)) (.inl ⟨.inr ⟨h2, by rw [len_keys] at hc; exact hc, rfl⟩, fun w' a => ⟨_, a.1, rfl⟩⟩)).mono (fun e w' a => a)
/-- .. as a set, and how many. -/
def KeySet (w0 : World) (tb : Nat) (q : MN) (n : Nat) (P : List UInt8 → Prop) (w : World) : Prop := ∃ E, Tab w0 w No tb q E ∧ E.length = n ∧ ∀ k, k ∈ keysL E ↔ P k
theorem Keys.set (h : Keys w0 tb q ks w) : KeySet w0 tb q ks.length (fun k => k ∈ ks) w := by
  obtain ⟨E, h, rfl⟩ := h
  exact ⟨E, h, (len_keys E).symm, fun k => Iff.rfl⟩
variable {n : Nat} {P : List UInt8 → Prop}
theorem KeySet.calm_ (h : KeySet w0 tb q n P w) : Calm w0 w := by obtain ⟨_, h, _⟩ := h; exact h.calm_
theorem Keys.calm_ (h : Keys w0 tb q ks w) : Calm w0 w := by obtain ⟨_, h, _⟩ := h; exact h.calm_
theorem KeySet.rest {w' : World} (h : KeySet w0 tb q n P w) (k : Calm w w') : KeySet w0 tb q n P w' := by obtain ⟨E, h, a⟩ := h; exact ⟨E, h.rest k, a⟩
theorem Keys.rest {w' : World} (h : Keys w0 tb q ks w) (k : Calm w w') : Keys w0 tb q ks w' := by obtain ⟨E, h, a⟩ := h; exact ⟨E, h.rest k, a⟩
theorem set_over (h : KeySet w0 tb q n P w) {kv vv : Value} {k v : List UInt8} (hk : Rd w kv k) (hv : Rd w vv v) (fl : Int) (hkl : k.length = q.key) (hvl : v.length = q.val) (hf : fl = 0 ∨ fl = 2) (hkn : P k) :
    Calls Try.prog 33 #[.pointer (some ⟨tb, 0, none⟩), kv, vv, .int .i64 fl] w fun e w' => e = .returned (.int .i64 0) ∧ KeySet w0 tb q n P w' := by
  obtain ⟨E, h, rfl, hP⟩ := h
  have hb : ¬ BadU q k v fl := by
    simp only [BadU, not_or, Decidable.not_not]
    exact ⟨hkl, hvl, by omega⟩
  obtain ⟨g, bs, hg⟩ := get_key ((hP k).2 hkn)
  refine (update_over h hk hv fl hb hg (by omega)).mono ?_
  rintro e w' ⟨rfl, a, _⟩
  refine ⟨rfl, _, a, ?_, fun k' => ?_⟩
  · rw [len_use (by rw [keys_set]; exact h.keys), len_set]
  · rw [mem_use (by rw [keys_set]; exact h.keys), keys_set]
    exact hP k'
theorem set_look (h : KeySet w0 tb q n P w) {kv : Value} {k : List UInt8} (hk : Rd w kv k) (hp : P k) :
    Calls Try.prog 31 #[.pointer (some ⟨tb, 0, none⟩), kv] w fun e w' => ∃ v : Value, e = .returned (.tuple #[v, .bool true]) ∧ KeySet w0 tb q n P w' := by
  obtain ⟨E, h, rfl, hP⟩ := h
  obtain ⟨g, bs, hg⟩ := get_key ((hP k).2 hp)
  refine (lookup_yes h hk hg).mono ?_
  rintro e w' ⟨x, rfl, _, _, a, _⟩
  exact ⟨_, rfl, _, tab_no a, len_use h.keys, fun k' => (mem_use h.keys).trans (hP k')⟩
theorem set_miss (h : KeySet w0 tb q n P w) {kv : Value} {k : List UInt8} (hk : Rd w kv k) (hp : ¬ P k) :
    Calls Try.prog 31 #[.pointer (some ⟨tb, 0, none⟩), kv] w fun e w' => ∃ v : Value, e = .returned (.tuple #[v, .bool false]) ∧ KeySet w0 tb q n P w' := by
  obtain ⟨E, h, rfl, hP⟩ := h
  refine (lookup_no h hk (get_no (fun hc => hp ((hP k).1 hc)))).mono ?_
  rintro e w' ⟨rfl, a, _⟩
  exact ⟨_, rfl, E, a, rfl, hP⟩
theorem set_len (h : KeySet w0 tb q n P w) : Calls Try.prog 38 #[.pointer (some ⟨tb, 0, none⟩)] w fun e w' => e = .returned (.int .i64 (n : Int)) ∧ KeySet w0 tb q n P w' := by
  obtain ⟨E, h, rfl, hP⟩ := h
  refine (len_c h).mono ?_
  rintro e w' ⟨rfl, a, _⟩
  exact ⟨rfl, E, a, rfl, hP⟩
theorem KeySet.iff {P' : List UInt8 → Prop} (h : KeySet w0 tb q n P w) (hh : ∀ k, P k ↔ P' k) : KeySet w0 tb q n P' w := by
  obtain ⟨E, h, a, b⟩ := h
  exact ⟨E, h, a, fun k => (b k).trans (hh k)⟩
end
end Go.Proofs.Ytnlojohjhfpbgaa

