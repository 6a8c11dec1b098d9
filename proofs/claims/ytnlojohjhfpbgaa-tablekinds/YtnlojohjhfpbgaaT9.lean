import Derived.Test.YtnlojohjhfpbgaaTM
/-
  Tables: Len, Map; kinds: count, find, use.
-/
namespace Go.Proofs.Ytnlojohjhfpbgaa
open Go.RowKit Go.Deep
open Go.Maps (Keyed)
set_option linter.all false
attribute [local go_sem] Oper.semAt_some

theorem tMap_c {w : World} {tb : Nat} {q : MN} {ev : Value} (h : Row w tb 122 #[.string (str q.name), .int .i64 (q.kind : Int), .int .i64 (q.key : Int), .int .i64 (q.val : Int), .int .i64 (q.max : Int), ev]) :
    Calls Try.prog 53 #[.pointer (some ⟨tb, 0, none⟩)] w fun e w' => e = .returned q.mp.agg ∧ Calm w w' := by
  have c0 : w.cell? ⟨tb, 0, none⟩ = some (.string (str q.name)) := (h.cell 0).trans rfl
  have c1 : w.cell? ⟨tb, 1, none⟩ = some (.int .i64 (q.kind : Int)) := (h.cell 1).trans rfl
  have c2 : w.cell? ⟨tb, 2, none⟩ = some (.int .i64 (q.key : Int)) := (h.cell 2).trans rfl
  have c3 : w.cell? ⟨tb, 3, none⟩ = some (.int .i64 (q.val : Int)) := (h.cell 3).trans rfl
  have c4 : w.cell? ⟨tb, 4, none⟩ = some (.int .i64 (q.max : Int)) := (h.cell 4).trans rfl
  have hlt := h.lt
  have HC : Calm w w := Keep.refl _ w
  clear h
  go_enter Try.func53, Try.ntmps53
  go_wp2
  have hr := Row.made w 52 #[.string (str q.name), .int .i64 (q.kind : Int), .int .i64 (q.key : Int), .int .i64 (q.val : Int), .int .i64 (q.max : Int)]
  have d0 := (hr.cell 0).trans rfl
  have d1 := (hr.cell 1).trans rfl
  have d2 := (hr.cell 2).trans rfl
  have d3 := (hr.cell 3).trans rfl
  have d4 := (hr.cell 4).trans rfl
  refine bodyPost_ret (by simp [results, Try.results53, go_sem, d0, d1, d2, d3, d4]; try rfl) rfl ?_
  exact ⟨rfl, HC.alloc _⟩

/-- How many entries. -/
theorem count_arr (A n : Nat) (w : World) : Calls Try.prog 102 #[.agg #[.slice (some ⟨A, 0, none⟩) n n]] w fun e w' => e = .returned (.int .i64 (n : Int)) ∧ Calm w w' := by
  go_enter Try.func102, Try.ntmps102
  go_wp2
  go_ret
  exact ⟨rfl, (Keep.refl _ w).alloc _⟩
theorem count_hash {w : World} {b n : Nat} {D : DataW Unit} (mx : Int) (hm : w.ownsMap Try.prog 9 (se n) b (Maps.size D) D) : Calls Try.prog 108 #[.agg #[.int .i64 mx, .map (some b)]] w fun e w' => e = .returned (.int .i64 (Maps.size D : Int)) ∧ Calm w w' := by
  have hlen := fun o => (hm.alloc o).len Try.underlying141 3
  go_enter Try.func108, Try.ntmps108
  go_wp2
  go_ret
  exact ⟨rfl, (Keep.refl _ w).alloc _⟩
theorem count_lru {w : World} {b mx : Nat} {R : Nat → Prop} {L : List (List UInt8 × (Option Addr × Nat × Nat))} (h : LruIs syT w R b mx L) : Calls Try.prog 147 #[.agg #[.pointer (some ⟨b, 0, none⟩)]] w fun e w' => e = .returned (.int .i64 (L.length : Int)) ∧ Calm w w' := by
  have hh := fun o => sy_Len (h.calm ((Keep.refl _ w).alloc o))
  go_enter Try.func147, Try.ntmps147
  go_wp2_with fail
  refine (hh _).mono ?_
  rintro e w' ⟨rfl, rfl⟩
  go_wp2
  go_ret
  exact ⟨rfl, (Keep.refl _ w).alloc _⟩

set_option maxRecDepth 20000 in
theorem tLen_c {w : World} {R : Nat → Prop} {tb : Nat} {q : MN} {E : List Ent} (h : TabAt w R tb q E) :
    Calls Try.prog 38 #[.pointer (some ⟨tb, 0, none⟩)] w fun e w' => e = .returned (.int .i64 (E.length : Int)) ∧ Calm w w' := by
  obtain ⟨ev, h1, h2⟩ := h.top
  have c5 : w.cell? ⟨tb, 5, none⟩ = some ev := (h1.cell 5).trans rfl
  clear h h1
  cases h2 with
  | arr A hk hR hr hkeys =>
    have hl : E.length = q.max := by
      have := congrArg List.length hkeys
      rw [keys_kbs] at this
      simpa [keysL] using this
    have hm := m_ak_count
    have HL := Lib.hid hl
    have HH := Lib.hid (count_arr A q.max)
    clear hR hr hkeys hl
    go_enter Try.func38, Try.ntmps38
    go_wp2_with fail
    refine (HH.out _).mono ?_
    rintro e w' ⟨rfl, hc⟩
    have HC := Lib.hid hc
    clear hc
    go_wp2
    go_ret
    exact ⟨by rw [HL.out]; rfl, HC.out⟩
  | hash b D hk hR hm hD =>
    have hl : Maps.size D = E.length := by rw [hD.sz]; simp [kbs, mapv]
    have hmm := m_hk_count
    have HL := Lib.hid hl
    have HH := Lib.hid (count_hash (q.max : Int) hm)
    clear hR hm hD hl
    go_enter Try.func38, Try.ntmps38
    go_wp2_with fail
    refine HH.out.mono ?_
    rintro e w' ⟨rfl, hc⟩
    have HC := Lib.hid hc
    clear hc
    go_wp2
    go_ret
    exact ⟨by rw [← HL.out]; rfl, HC.out⟩
  | lru b tb0 R0 hk hR hL =>
    have hl : (mapv (lv q.val) (kbs E)).length = E.length := by simp [kbs, mapv]
    have hmm := m_rk_count
    have HL := Lib.hid hl
    have HH := Lib.hid (count_lru hL)
    clear hR hL hl
    go_enter Try.func38, Try.ntmps38
    go_wp2_with fail
    refine HH.out.mono ?_
    rintro e w' ⟨rfl, hc⟩
    have HC := Lib.hid hc
    clear hc
    go_wp2
    go_ret
    exact ⟨by rw [← HL.out]; rfl, HC.out⟩
end Go.Proofs.Ytnlojohjhfpbgaa

/-
  Tables: kinds: find, use.
-/
namespace Go.Proofs.Ytnlojohjhfpbgaa
open Go.RowKit Go.Deep
open Go.Maps (Keyed)
set_option linter.all false
attribute [local go_sem] Oper.semAt_some

/-- How a look-up is told. -/
def fv (vl : Nat) : Option Nat → Value
  | some g => slv vl g
  | none => .slice none 0 0
/-- What a use makes of the keys. -/
def useKB (kind : Nat) (k : List UInt8) (kb : KB) : KB := if kind = 3 then useL k kb else kb

/-! A key of an Array -/
def kNum (a b c d : UInt8) : Nat := a.toNat + 256 * b.toNat + 65536 * c.toNat + 16777216 * d.toNat
theorem kNum_lt (a b c d : UInt8) : kNum a b c d < 4294967296 := by
  have := a.toNat_lt; have := b.toNat_lt; have := c.toNat_lt; have := d.toNat_lt
  unfold kNum; omega
theorem numK_kNum (a b c d : UInt8) : numK (kNum a b c d) = [a, b, c, d] := by
  have ha := a.toNat_lt; have hb := b.toNat_lt; have hc := c.toNat_lt; have hd := d.toNat_lt
  have e : ∀ (x : UInt8) (n : Nat), n = x.toNat → UInt8.ofNat n = x := fun x n h => by rw [h]; exact UInt8.ofNat_toNat
  unfold numK kNum
  rw [e a _ (by omega), e b _ (by omega), e c _ (by omega), e d _ (by omega)]
theorem numK_inj32 {i j : Nat} (hi : i < 4294967296) (hj : j < 4294967296) (h : numK i = numK j) : i = j := by
  unfold numK at h
  simp only [List.cons.injEq] at h
  have h1 := congrArg UInt8.toNat h.1
  have h2 := congrArg UInt8.toNat h.2.1
  have h3 := congrArg UInt8.toNat h.2.2.1
  have h4 := congrArg UInt8.toNat h.2.2.2.1
  simp only [UInt8.toNat_ofNat'] at h1 h2 h3 h4
  omega
theorem or_u32 (x y : Int) : bits .or .u32 x y = IntKind.u32.wrap (((x % 4294967296).toNat ||| (y % 4294967296).toNat : Nat) : Int) := by
  show IntKind.u32.wrap ((BitVec.ofInt 32 x ||| BitVec.ofInt 32 y).toNat : Nat) = _
  rw [BitVec.toNat_or, BitVec.toNat_ofInt, BitVec.toNat_ofInt]
  rfl
theorem wrap_u32 (n : Int) : IntKind.u32.wrap n = n % 4294967296 := by
  simp [IntKind.wrap, IntKind.bits, IntKind.signed]
theorem or_join (a b k n : Nat) (ha : a < 2 ^ k) (hn : n = a + b * 2 ^ k) (hl : n < 4294967296) : bits .or .u32 (a : Int) (((b * 2 ^ k : Nat) : Int)) = (n : Int) := by
  subst hn
  rw [or_u32, wrap_u32]
  have e1 : ((a : Int) % 4294967296).toNat = a := by omega
  have e2 : (((b * 2 ^ k : Nat) : Int) % 4294967296).toNat = b * 2 ^ k := by omega
  have e3 : b * 2 ^ k % 2 ^ k = 0 := Nat.mul_mod_left b _
  rw [e1, e2, Nat.or_comm, Go.nat_join k (b * 2 ^ k) a e3 ha]
  omega
abbrev byAt (s : ByteArray) (i : Nat) (h : i < s.size) : UInt8 := @getElem ByteArray Nat UInt8 (fun a i => i < a.size) ByteArray.instGetElemNatUInt8LtSize s i h

set_option maxHeartbeats 2000000 in
theorem find_arr {w : World} {A n vl : Nat} {kb : KB} (hn : n ≤ 1024) (hr : Row w A 22 (kb.map (fun x => slv vl x.2)).toArray) (hkeys : keysL kb = (List.range n).map numK) (k : List UInt8) (hk : k.length ≤ maxLen) :
    Calls Try.prog 104 #[.agg #[.slice (some ⟨A, 0, none⟩) n n], .string (str k)] w fun e w' => e = .returned (.tuple #[fv vl (getL k kb), .bool (getL k kb).isSome]) ∧ Calm w w' := by
  have hz := str_size k
  have hl := hr.lt
  unfold maxLen at hk
  by_cases h4 : k.length = 4
  · obtain ⟨a, b, c, d, rfl⟩ : ∃ a b c d, k = [a, b, c, d] := by
      match k, h4 with
      | [a, b, c, d], _ => exact ⟨a, b, c, d, rfl⟩
    have ha := a.toNat_lt; have hb := b.toNat_lt; have hc := c.toNat_lt; have hd := d.toNat_lt
    have e0 : ∀ h, @getElem ByteArray Nat UInt8 (fun a i => i < a.size) ByteArray.instGetElemNatUInt8LtSize (str [a, b, c, d]) 0 h = a := fun _ => rfl
    have e1 : ∀ h, @getElem ByteArray Nat UInt8 (fun a i => i < a.size) ByteArray.instGetElemNatUInt8LtSize (str [a, b, c, d]) 1 h = b := fun _ => rfl
    have e2 : ∀ h, @getElem ByteArray Nat UInt8 (fun a i => i < a.size) ByteArray.instGetElemNatUInt8LtSize (str [a, b, c, d]) 2 h = c := fun _ => rfl
    have e3 : ∀ h, @getElem ByteArray Nat UInt8 (fun a i => i < a.size) ByteArray.instGetElemNatUInt8LtSize (str [a, b, c, d]) 3 h = d := fun _ => rfl
    have m0 : ((a.toNat : Nat) : Int) % 4294967296 = (a.toNat : Int) := by omega
    obtain ⟨x1, hx1⟩ : ∃ x : Nat, x = b.toNat * 256 := ⟨_, rfl⟩
    obtain ⟨x2, hx2⟩ : ∃ x : Nat, x = c.toNat * 65536 := ⟨_, rfl⟩
    obtain ⟨x3, hx3⟩ : ∃ x : Nat, x = d.toNat * 16777216 := ⟨_, rfl⟩
    have m1 : ((b.toNat : Nat) : Int) % 4294967296 * 256 % 4294967296 = (x1 : Int) := by omega
    have m2 : ((c.toNat : Nat) : Int) % 4294967296 * 65536 % 4294967296 = (x2 : Int) := by omega
    have m3 : ((d.toNat : Nat) : Int) % 4294967296 * 16777216 % 4294967296 = (x3 : Int) := by omega
    obtain ⟨n1, hn1⟩ : ∃ x : Nat, x = a.toNat + b.toNat * 256 := ⟨_, rfl⟩
    obtain ⟨n2, hn2⟩ : ∃ x : Nat, x = n1 + c.toNat * 65536 := ⟨_, rfl⟩
    obtain ⟨n3, hn3⟩ : ∃ x : Nat, x = n2 + d.toNat * 16777216 := ⟨_, rfl⟩
    have o1 : bits .or .u32 (a.toNat : Int) (x1 : Int) = (n1 : Int) := by rw [hx1]; exact or_join a.toNat b.toNat 8 n1 ha hn1 (by omega)
    have o2 : bits .or .u32 (n1 : Int) (x2 : Int) = (n2 : Int) := by rw [hx2]; exact or_join n1 c.toNat 16 n2 (by omega) hn2 (by omega)
    have o3 : bits .or .u32 (n2 : Int) (x3 : Int) = (n3 : Int) := by rw [hx3]; exact or_join n2 d.toNat 24 n3 (by omega) hn3 (by omega)
    have hnk : n3 = kNum a b c d := by unfold kNum; omega
    have hN := numK_kNum a b c d
    rw [← hnk] at hN
    have hn32 : n3 < 4294967296 := by omega
    have HN := Lib.hid (And.intro hN hn32)
    have HR := Lib.hid hr
    have HKe := Lib.hid hkeys
    have HZ := Lib.hid hl
    have hc2 : (n : Int) % 4294967296 = (n : Int) := by omega
    have HB := Lib.hid hn32
    clear hx1 hx2 hx3 hn1 hn2 hn3 hnk hN hn32 hr hkeys hl ha hb hc hd
    go_enter Try.func104, Try.ntmps104
    go_wp2_with fail
    go_region
    simp only [e0, e1, e2, e3, m0, m1, m2, m3, o1, o2, o3]
    clear e0 e1 e2 e3 m0 m1 m2 m3 o1 o2 o3
    by_cases hnn : n3 < n
    · have hnn' : (n3 : Int) < (n : Int) := by omega
      obtain ⟨x, hx⟩ : ∃ x, kb[n3]? = some x := by
        have := congrArg List.length HKe.out
        simp [keysL] at this
        exact ⟨_, List.getElem?_eq_getElem (by omega)⟩
      have hcell : w.cell? ⟨A, n3, none⟩ = some (slv vl x.2) := by
        rw [HR.out.cell n3]
        simp [hx]
      have hxk : x.1 = [a, b, c, d] := by
        have := congrArg (fun l => l[n3]?) HKe.out
        simp [keysL, hx, hnn] at this
        rw [this, HN.out.1]
      have hg : getL [a, b, c, d] kb = some x.2 := getL_mem (by rw [HKe.out]; exact numK_nodup (by omega)) (by rw [← hxk]; exact List.mem_of_getElem? hx)
      have hl := HZ.out
      have Hg := Lib.hid hg
      clear hg hxk hx
      unfold slv at hcell
      go_wp2
      go_ret2
      exact ⟨by rw [Hg.out]; rfl, ((Keep.refl _ w).alloc _).drew⟩
    · have hnn' : (n : Int) ≤ (n3 : Int) := by omega
      have hno : getL [a, b, c, d] kb = none := getL_miss (fun hc => by
        rw [HKe.out] at hc
        obtain ⟨i, hi, e⟩ := List.mem_map.1 hc
        rw [List.mem_range] at hi
        rw [← HN.out.1] at e
        exact hnn (by rw [← numK_inj32 (by omega) HN.out.2 e]; exact hi))
      have Hg := Lib.hid hno
      clear hno
      go_wp2
      go_ret2
      exact ⟨by rw [Hg.out]; rfl, ((Keep.refl _ w).alloc _).drew⟩
  · have hno : getL k kb = none := getL_miss (fun hc => by
      rw [hkeys] at hc
      obtain ⟨i, _, rfl⟩ := List.mem_map.1 hc
      exact h4 rfl)
    rw [hno]
    have h4' : ((k.length : Int) != 4) = true := by rw [bne_iff_ne]; omega
    go_enter Try.func104, Try.ntmps104
    go_wp2
    go_ret2
    exact ⟨rfl, (Keep.refl _ w).alloc _⟩
end Go.Proofs.Ytnlojohjhfpbgaa

/-
  Tables: kinds: find, use.
-/
namespace Go.Proofs.Ytnlojohjhfpbgaa
open Go.RowKit Go.Deep
open Go.Maps (Keyed)
set_option linter.all false
attribute [local go_sem] Oper.semAt_some

theorem zeroMB (w : World) : (zeroValue 22).run Try.prog w = .ok (.slice none 0 0) w := by kernel_rfl
theorem keyS (k : List UInt8) (hk : k.length ≤ maxLen) : keyOf Try.prog 9 (.string (str k)) = some (.string k) := Go.WideMaps.keyOf_string_mk (s := str k) Try.underlying9 hk
theorem look_hash {w : World} {b vl : Nat} {D : DataW Unit} {kb : KB} (hm : w.ownsMap Try.prog 9 (se vl) b (Maps.size D) D) (hD : HashD D kb) (hn : (keysL kb).Nodup) (k : List UInt8) (hk : k.length ≤ maxLen) :
    (Instr.lookup 141 (.map (some b)) (.string (str k)) true).run Try.prog w = .ok (.tuple #[fv vl (getL k kb), .bool (getL k kb).isSome]) w := by
  obtain ⟨v, ps, h1, h2⟩ := hm.look_ok (Go.Maps.string_keyed Try.underlying9) Try.underlying141 (zeroMB w) (zd := nilD) (zp := []) rfl (keyS k hk)
  cases hg : getL k kb with
  | some g =>
    obtain ⟨a1, a2⟩ := hD.look (k, g) (getL_some hg)
    rw [show Maps.has D (.string k) = true from a2] at h1
    rw [show D.atKey (.string k) nilD = _ from a1] at h2
    rw [se_inv h2] at h1
    exact h1
  | none =>
    have a2 := hD.miss k (getL_none hg)
    rw [show Maps.has D (.string k) = false from a2] at h1
    rw [Maps.atKey_of_not_has a2 nilD] at h2
    rw [se_inv_nil h2] at h1
    exact h1

set_option maxHeartbeats 1000000 in
theorem find_hash {w : World} {b vl : Nat} {D : DataW Unit} {kb : KB} (mx : Int) (hm : w.ownsMap Try.prog 9 (se vl) b (Maps.size D) D) (hD : HashD D kb) (hn : (keysL kb).Nodup) (k : List UInt8) (hk : k.length ≤ maxLen) :
    Calls Try.prog 110 #[.agg #[.int .i64 mx, .map (some b)], .string (str k)] w fun e w' => e = .returned (.tuple #[fv vl (getL k kb), .bool (getL k kb).isSome]) ∧ Calm w w' := by
  have hl := fun o => look_hash (hm.alloc o) hD hn k hk
  generalize hF : fv vl (getL k kb) = F at *
  generalize hG : (getL k kb).isSome = G at *
  clear hm hD hn hk hF hG
  go_enter Try.func110, Try.ntmps110
  go_wp2
  go_ret2
  exact ⟨rfl, (Keep.refl _ w).alloc _⟩

theorem vo_lv (vl : Nat) (o : Option Nat) : syT.vo (o.map (lv vl)) = fv vl o := by cases o <;> rfl
set_option maxHeartbeats 1000000 in
theorem find_lru {w : World} {b mx vl : Nat} {R : Nat → Prop} {kb : KB} (h : LruIs syT w R b mx (mapv (lv vl) kb)) (k : List UInt8) (hk : k.length ≤ maxLen) :
    Calls Try.prog 149 #[.agg #[.pointer (some ⟨b, 0, none⟩)], .string (str k)] w fun e w' => e = .returned (.tuple #[fv vl (getL k kb), .bool (getL k kb).isSome]) ∧ Calm w w' := by
  have hh := fun o => sy_Peek' (h.calm ((Keep.refl _ w).alloc o)) k hk ((getL k kb).map (lv vl)) (getL_mapv _ _ _) _ (vo_lv vl _) (getL k kb).isSome (by simp)
  generalize hF : fv vl (getL k kb) = F at *
  generalize hG : (getL k kb).isSome = G at *
  clear h hF hG
  have HH := Lib.hid hh
  clear hh
  go_enter Try.func149, Try.ntmps149
  go_wp2_with fail
  refine (HH.out _).mono ?_
  rintro e w' ⟨rfl, hc⟩
  have HC := Lib.hid (((Keep.refl (fun _ => False) w).alloc (.cells #[.pointer (some ⟨b, 0, none⟩)] 147)).trans hc)
  clear hc
  go_wp2
  go_ret2
  exact ⟨rfl, HC.out⟩

/-- One kind's method, whatever the kind. -/
def Meth (ev : Value) (name : String) (args : List Value) (w : World) (Q : Ending → World → Prop) : Prop :=
  ∃ (t : TypeId) (v : Value) (F : FuncId), ev = .iface t v ∧ (∀ w, Sem.run Try.prog (method 301 t v name) w = .ok (F, v) w) ∧ (∀ a w, Sem.run Try.prog (callFunc F a) w = .ok (.enter F a) w) ∧ Calls Try.prog F (v :: args).toArray w Q

theorem kfind_c {w : World} {R : Nat → Prop} {q : MN} {kb : KB} {ev : Value} (hq : q.Ok) (h : KindIs w R q kb ev) (hn : (keysL kb).Nodup) (k : List UInt8) (hk : k.length ≤ maxLen) :
    Meth ev "swingbridge/table.find" [.string (str k)] w fun e w' => e = .returned (.tuple #[fv q.val (getL k kb), .bool (getL k kb).isSome]) ∧ Calm w w' := by
  cases h with
  | arr A hkd hR hr hkeys => exact ⟨_, _, _, rfl, m_ak_find _, cf_ak_find, find_arr hq.max.2 hr hkeys k hk⟩
  | hash b D hkd hR hm hD => exact ⟨_, _, _, rfl, m_hk_find _, cf_hk_find, find_hash _ hm hD hn k hk⟩
  | lru b tb R0 hkd hR hL => exact ⟨_, _, _, rfl, m_rk_find _, cf_rk_find, find_lru hL k hk⟩

theorem use_arr (v : Value) (n : Nat) (k : List UInt8) (w : World) : Calls Try.prog 105 #[.agg #[v], .string (str k)] w fun e w' => e = .returned (.tuple #[]) ∧ Calm w w' := by
  go_enter Try.func105, Try.ntmps105
  go_wp2
  go_end0
  exact ⟨rfl, (Keep.refl _ w).alloc _⟩
theorem use_hash (v u : Value) (k : List UInt8) (w : World) : Calls Try.prog 111 #[.agg #[v, u], .string (str k)] w fun e w' => e = .returned (.tuple #[]) ∧ Calm w w' := by
  go_enter Try.func111, Try.ntmps111
  go_wp2
  go_end0
  exact ⟨rfl, (Keep.refl _ w).alloc _⟩
set_option maxHeartbeats 1000000 in
theorem use_lru {w : World} {b mx vl : Nat} {R : Nat → Prop} {kb : KB} (h : LruIs syT w R b mx (mapv (lv vl) kb)) (k : List UInt8) (hk : k.length ≤ maxLen) :
    Calls Try.prog 150 #[.agg #[.pointer (some ⟨b, 0, none⟩)], .string (str k)] w fun e w' => e = .returned (.tuple #[]) ∧ LruIs syT w' R b mx (mapv (lv vl) (useL k kb)) ∧ Keep R w w' := by
  have hh := fun o => sy_Touch' (h.calm ((Keep.refl _ w).alloc o)) k hk ((getL k kb).map (lv vl)) (getL_mapv _ _ _) (mapv (lv vl) (useL k kb)) (useL_mapv _ _ _) (getL k kb).isSome (by simp)
  generalize hG : (getL k kb).isSome = G at *
  have HLt := Lib.hid h.lt
  clear h hG
  have HH := Lib.hid hh
  clear hh
  go_enter Try.func150, Try.ntmps150
  go_wp2_with fail
  refine (HH.out _).mono ?_
  rintro e w' ⟨rfl, hL, hc⟩
  have HX := Lib.hid (And.intro hL (((Keep.refl R w).alloc (.cells #[.pointer (some ⟨b, 0, none⟩)] 147)).trans hc))
  clear hc hL
  go_wp2
  go_end0
  exact ⟨rfl, HX.out.1, HX.out.2⟩
theorem kuse_c {w : World} {R : Nat → Prop} {q : MN} {kb : KB} {ev : Value} (hlt : ∀ i, R i → i < w.heap.size) (h : KindIs w R q kb ev) (k : List UInt8) (hk : k.length ≤ maxLen) :
    Meth ev "swingbridge/table.use" [.string (str k)] w fun e w' => e = .returned (.tuple #[]) ∧ KindIs w' R q (useKB q.kind k kb) ev ∧ Keep R w w' := by
  cases h with
  | arr A hkd hR hr hkeys =>
    refine ⟨_, _, _, rfl, m_ak_use _, cf_ak_use, (use_arr _ 0 k w).mono ?_⟩
    rintro e w' ⟨rfl, hc⟩
    have e : useKB q.kind k kb = kb := if_neg (by omega)
    rw [e]
    exact ⟨rfl, .arr A hkd hR (hr.keep hc (fun e => e)) hkeys, hc.keep R⟩
  | hash b D hkd hR hm hD =>
    refine ⟨_, _, _, rfl, m_hk_use _, cf_hk_use, (use_hash _ _ k w).mono ?_⟩
    rintro e w' ⟨rfl, hc⟩
    have e : useKB q.kind k kb = kb := if_neg (by omega)
    rw [e]
    exact ⟨rfl, .hash b D hkd hR (owns_keep' hm (hc.block b (hlt b hR) (fun e => e))) hD, hc.keep R⟩
  | lru b tb R0 hkd hR hL =>
    refine ⟨_, _, _, rfl, m_rk_use _, cf_rk_use, (use_lru hL k hk).mono ?_⟩
    rintro e w' ⟨rfl, hL', hc⟩
    have e : useKB q.kind k kb = useL k kb := if_pos hkd
    rw [e]
    exact ⟨rfl, .lru b tb R0 hkd hR hL', hc.mono (fun i _ hi => hR i hi)⟩
end Go.Proofs.Ytnlojohjhfpbgaa

