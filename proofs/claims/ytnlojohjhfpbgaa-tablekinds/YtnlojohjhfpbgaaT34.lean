import Derived.Test.YtnlojohjhfpbgaaT28
import Derived.Test.YtnlojohjhfpbgaaT29
import Derived.Maps.RangeWalk
/-
  Tables: the order of the keys, as the sort of a Hash's entries asks it.
-/
namespace Go.Proofs.Ytnlojohjhfpbgaa
open Go.RowKit Go.Deep
set_option linter.all false
attribute [local go_sem] Oper.semAt_some

theorem nanS_c (a : ByteArray) (W : World) : Calls Try.prog 118 #[.string a] W fun e w' => e = .returned (.bool false) ∧ w' = W := by
  go_enter Try.func118, Try.ntmps118
  go_wp2
  go_ret
  exact ⟨rfl, rfl⟩
/-- What the comparison of two strings answers. -/
def cmpV (a b : List UInt8) : Int := if Op.bytesLess a b = true then -1 else if a = b then 0 else 1
theorem cmpS_c (a b : List UInt8) (W : World) : Calls Try.prog 115 #[.string (str a), .string (str b)] W fun e w' => e = .returned (.int .i64 (cmpV a b)) ∧ w' = W := by
  have ea : (str a).toList = a := by rw [ByteArray.toList_eq, str_list]
  have eb : (str b).toList = b := by rw [ByteArray.toList_eq, str_list]
  generalize hA : str a = A at *
  generalize hB : str b = B at *
  clear hA hB
  subst ea eb
  go_enter Try.func115, Try.ntmps115
  go_wp2_with fail
  refine (nanS_c A W).mono ?_
  rintro e w1 ⟨rfl, rfl⟩
  go_wp2_with fail
  refine (nanS_c B w1).mono ?_
  rintro e w2 ⟨rfl, rfl⟩
  go_wp2
  · rename_i h
    go_ret
    exact ⟨by simp [cmpV, h], rfl⟩
  · rename_i h _ _ h2
    go_ret
    exact ⟨by simp at h2; simp [cmpV, h, h2], rfl⟩
  · rename_i h h2
    go_ret
    exact ⟨by simp at h2; rw [h2] at h; simp [cmpV, h, h2], rfl⟩
theorem hall1_c (x y : List UInt8 × (Option Addr × Nat × Nat)) (W : World) : Calls Try.prog 114 #[.agg #[.string (str x.1), .slice x.2.1 x.2.2.1 x.2.2.2], .agg #[.string (str y.1), .slice y.2.1 y.2.2.1 y.2.2.2]] W fun e w' =>
    e = .returned (.int .i64 (cmpV x.1 y.1)) ∧ w' = (W.alloc (.cells #[.string (str x.1), .slice x.2.1 x.2.2.1 x.2.2.2] 72)).alloc (.cells #[.string (str y.1), .slice y.2.1 y.2.2.1 y.2.2.2] 72) := by
  have hcon := fun W' => cmpS_c x.1 y.1 W'
  generalize cmpV x.1 y.1 = r at hcon ⊢
  go_enter Try.func114, Try.ntmps114
  go_wp2_with fail
  refine (hcon _).mono ?_
  rintro e w1 ⟨rfl, rfl⟩
  go_wp2
  go_ret
  exact ⟨rfl, rfl⟩
/-! The order of the keys -/
theorem bl_irrefl : ∀ a : List UInt8, Op.bytesLess a a = false
  | [] => rfl
  | x :: a => by simp [Op.bytesLess, bl_irrefl a, UInt8.lt_irrefl]
theorem bl_trans : ∀ a b c : List UInt8, Op.bytesLess a b = true → Op.bytesLess b c = true → Op.bytesLess a c = true
  | _, _, [], _, h => by simp [Op.bytesLess] at h
  | _, [], _ :: _, h, _ => by simp [Op.bytesLess] at h
  | [], _ :: _, _ :: _, _, _ => rfl
  | x :: a, y :: b, z :: c, h1, h2 => by
    simp only [Op.bytesLess, Bool.or_eq_true, decide_eq_true_eq, Bool.and_eq_true, beq_iff_eq] at h1 h2 ⊢
    rcases h1 with h1 | ⟨rfl, h1⟩
    · rcases h2 with h2 | ⟨rfl, h2⟩
      · exact .inl (UInt8.lt_trans h1 h2)
      · exact .inl h1
    · rcases h2 with h2 | ⟨rfl, h2⟩
      · exact .inl h2
      · exact .inr ⟨rfl, bl_trans a b c h1 h2⟩
theorem bl_tri : ∀ a b : List UInt8, Op.bytesLess a b = true ∨ a = b ∨ Op.bytesLess b a = true
  | [], [] => .inr (.inl rfl)
  | [], _ :: _ => .inl rfl
  | _ :: _, [] => .inr (.inr rfl)
  | x :: a, y :: b => by
    by_cases e : x = y
    · subst e
      rcases bl_tri a b with h | rfl | h
      · exact .inl (by simp [Op.bytesLess, h])
      · exact .inr (.inl rfl)
      · exact .inr (.inr (by simp [Op.bytesLess, h]))
    · by_cases hl : x < y
      · exact .inl (by simp [Op.bytesLess, hl])
      · exact .inr (.inr (by simp [Op.bytesLess, UInt8.lt_of_le_of_ne (UInt8.not_lt.1 hl) (Ne.symm e)]))
theorem bl_ntrans (a b c : List UInt8) (h1 : Op.bytesLess a b = false) (h2 : Op.bytesLess b c = false) : Op.bytesLess a c = false := by
  cases h : Op.bytesLess a c with
  | false => rfl
  | true =>
    rcases bl_tri b a with hb | rfl | hb
    · rw [bl_trans b a c hb h] at h2; cases h2
    · rw [h] at h2; cases h2
    · rw [hb] at h1; cases h1
theorem cmpV_neg (a b : List UInt8) : decide (cmpV a b < 0) = Op.bytesLess a b := by
  unfold cmpV
  cases h : Op.bytesLess a b with
  | true => rfl
  | false =>
    by_cases e : a = b
    · simp [e]
    · simp [e]
end Go.Proofs.Ytnlojohjhfpbgaa

/-
  Tables: all the entries of a Hash: what the range over the map collects.
-/
namespace Go.Proofs.Ytnlojohjhfpbgaa
open Go.RowKit Go.Deep
open Go.Maps (Keyed)
set_option linter.all false
attribute [local go_sem] Oper.semAt_some

/-- What has been collected, by what is still to come. -/
structure Got (D : DataW Unit) (kb L : KB) (left : Lit → Bool) : Prop where
  from_ : ∀ x ∈ L, x ∈ kb ∧ left (.string x.1) = false
  nod : (keysL L).Nodup
  all : ∀ x ∈ kb, left (.string x.1) = false → x ∈ L
theorem Got.start {D : DataW Unit} {kb : KB} (hD : HashD D kb) : Got D kb [] (Maps.has D) :=
  ⟨fun x h => (by cases h), List.nodup_nil, fun x hx h => (by rw [(hD.look x hx).2] at h; cases h)⟩
theorem nodup_keys {L : KB} (h : (keysL L).Nodup) : L.Nodup := (List.pairwise_map.1 h).imp (fun h e => h (by rw [e]))
theorem Got.perm {D : DataW Unit} {kb L : KB} {left : Lit → Bool} (h : Got D kb L left) (hn : (keysL kb).Nodup) (he : ∀ kl, left kl = false) : L.Perm kb := by
  have n1 : L.Nodup := nodup_keys h.nod
  have n2 : kb.Nodup := nodup_keys hn
  exact (List.perm_ext_iff_of_nodup n1 n2).2 (fun x => ⟨fun hx => (h.from_ x hx).1, fun hx => h.all x hx (he _)⟩)
theorem Got.step {D : DataW Unit} {kb L : KB} {left : Lit → Bool} (h : Got D kb L left) (hn : (keysL kb).Nodup) {x : List UInt8 × Nat} (hx : x ∈ kb) (hl : left (.string x.1) = true) : Got D kb (L ++ [x]) (fun z => left z && !z.sameKey (.string x.1)) := by
  have hs : ∀ k : List UInt8, Lit.sameKey (.string k) (.string x.1) = (k == x.1) := fun k => by
    simp [Lit.sameKey]
  refine ⟨fun y hy => ?_, ?_, fun y hy hly => ?_⟩
  · rcases List.mem_append.1 hy with hy | hy
    · exact ⟨(h.from_ y hy).1, by simp [(h.from_ y hy).2]⟩
    · obtain rfl := List.mem_singleton.1 hy
      exact ⟨hx, by simp [hs]⟩
  · rw [show keysL (L ++ [x]) = keysL L ++ [x.1] by simp [keysL]]
    refine List.nodup_append.2 ⟨h.nod, by simp, fun a ha b hb e => ?_⟩
    subst e
    obtain rfl := List.mem_singleton.1 hb
    obtain ⟨y, hy, e⟩ := List.mem_map.1 ha
    have h2 := (h.from_ y hy).2
    rw [e, hl] at h2
    cases h2
  · simp only [hs, Bool.and_eq_false_iff, Bool.not_eq_false', beq_iff_eq] at hly
    rcases hly with hly | hly
    · exact List.mem_append_left _ (h.all y hy hly)
    · have h1 := getL_mem (k := y.1) (v := y.2) hn hy
      have h2 := getL_mem (k := x.1) (v := x.2) hn hx
      rw [hly, h2] at h1
      injection h1 with h1
      exact List.mem_append_right _ (List.mem_singleton.2 (Prod.ext hly h1.symm))
/-- One step of the range: nothing is left, or an entry comes. -/
theorem hash_next {w : World} {b r n vl cnt : Nat} {D : DataW Unit} {kb L : KB} {left : Lit → Bool} (h : w.ranges Try.prog 9 (se vl) b r n D left cnt) (hD : HashD D kb) (hn : (keysL kb).Nodup) (hG : Got D kb L left) (ty : TypeId) :
    ((∀ kl, left kl = false) ∧ (Instr.next (.pointer (some ⟨r, 0, none⟩)) false ty).run Try.prog w = .ok (.tuple #[.bool false]) w) ∨
    ∃ (k : List UInt8) (g : Nat) (w' : World) (cnt' : Nat) (left' : Lit → Bool), (k, g) ∈ kb ∧ (Instr.next (.pointer (some ⟨r, 0, none⟩)) false ty).run Try.prog w = .ok (.tuple #[.bool true, .string (str k), slv vl g]) w' ∧
      w'.ranges Try.prog 9 (se vl) b r n D left' cnt' ∧ Got D kb (L ++ [(k, g)]) left' ∧ cnt' < cnt ∧ w.grownBy w' (some r) ∧ w'.heap.size = w.heap.size ∧ (Instr.entry (.pointer (some ⟨r, 0, none⟩))).run Try.prog w' = .ok (.tuple #[.string (str k), slv vl g]) w' := by
  rcases h.next (Go.Maps.string_keyed Try.underlying9) ty with ⟨_, h0, h1⟩ | ⟨key, v, kl, y, w', cnt', h1, h2, h3, h4, h5, h6, h7, h8, h9, h10⟩
  · exact .inl ⟨h0, h1⟩
  · refine .inr ?_
    obtain ⟨s, rfl, rfl, _⟩ := Go.WideMaps.string_of_keyOf Try.underlying9 h1
    obtain ⟨k, hk0⟩ : ∃ k, k = s.data.toList := ⟨_, rfl⟩
    have hs : s = str k := by subst hk0; rfl
    rw [← hk0] at h1 h2 h4 h6
    subst hs
    clear hk0
    have hk : k ∈ keysL kb := by
      refine Decidable.byContradiction (fun hc => ?_)
      have a2 := hD.miss k hc
      have e1 := (Maps.atKey_of_not_has a2 (.lit (.int .i64 0))).symm.trans (h4 _)
      have e2 := (Maps.atKey_of_not_has a2 (.lit (.int .i64 1))).symm.trans (h4 _)
      have := e1.trans e2.symm
      injection this with this
      injection this with _ this
      cases this
    obtain ⟨⟨k', g⟩, hx, rfl⟩ := List.mem_map.1 hk
    have hv : v = slv vl g := by
      have a1 := (hD.look _ hx).1
      rw [h4] at a1
      obtain ⟨yd, yp⟩ := y
      simp only at a1
      subst a1
      exact se_inv h3
    subst hv
    exact ⟨k', g, w', cnt', _, hx, h5, h6, hG.step hn hx h2, h7, h8, h9, h10⟩
end Go.Proofs.Ytnlojohjhfpbgaa

