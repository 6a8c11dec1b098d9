/-
  Tables: kinds: find, use.
-/
import Derived.Test.YtiipepiabeccpaaT8
namespace Go.Proofs.Ytiipepiabeccpaa
open Go.RowKit Go.Deep
open Go.Maps (Keyed)
set_option linter.all false
attribute [local go_sem] Oper.semAt_some

theorem zeroMB (w : World) : (zeroValue 22).run Try.prog w = .ok (.slice none 0 0) w := by kernel_rfl
theorem keyS (k : List UInt8) (hk : k.length ≤ maxLen) : keyOf Try.prog 9 (.string (str k)) = some (.string k) := Go.WideMaps.keyOf_string_mk (s := str k) Try.underlying9 hk
theorem look_hash {w : World} {b vl : Nat} {D : DataW Unit} {kb : KB} (hm : w.ownsMap Try.prog 9 (se vl) b (Maps.size D) D) (hD : HashD D kb) (hn : (keysL kb).Nodup) (k : List UInt8) (hk : k.length ≤ maxLen) :
    (Instr.lookup 146 (.map (some b)) (.string (str k)) true).run Try.prog w = .ok (.tuple #[fv vl (getL k kb), .bool (getL k kb).isSome]) w := by
  obtain ⟨v, ps, h1, h2⟩ := hm.look_ok (Go.Maps.string_keyed Try.underlying9) Try.underlying146 (zeroMB w) (zd := nilD) (zp := []) rfl (keyS k hk)
  cases hg : getL k kb with
  | some g =>
    obtain ⟨a1, a2⟩ := hD.look (k, g) (getL_some hg)
    rw [show Maps.has D (.string k) = true from a2] at h1
    rw [show D.atKey (.string k) nilD = _ from a1] at h2
    rw [se_inv h2] at h1
    exact h1
  | none =>
    have a2 := hD.miss k (getL_none hg)
    rw [show Maps.has D (.string k) = false from a2] at h1
    rw [Maps.atKey_of_not_has a2 nilD] at h2
    rw [se_inv_nil h2] at h1
    exact h1

set_option maxHeartbeats 1000000 in
theorem find_hash {w : World} {b vl : Nat} {D : DataW Unit} {kb : KB} (mx : Int) (hm : w.ownsMap Try.prog 9 (se vl) b (Maps.size D) D) (hD : HashD D kb) (hn : (keysL kb).Nodup) (k : List UInt8) (hk : k.length ≤ maxLen) :
    Calls Try.prog 116 #[.agg #[.int .i64 mx, .map (some b)], .string (str k)] w fun e w' => e = .returned (.tuple #[fv vl (getL k kb), .bool (getL k kb).isSome]) ∧ Calm w w' := by
  have hl := fun o => look_hash (hm.alloc o) hD hn k hk
  generalize hF : fv vl (getL k kb) = F at *
  generalize hG : (getL k kb).isSome = G at *
  clear hm hD hn hk hF hG
  go_enter Try.func116, Try.ntmps116
  go_wp2
  go_ret2
  exact ⟨rfl, (Keep.refl _ w).alloc _⟩

theorem vo_lv (vl : Nat) (o : Option Nat) : syT.vo (o.map (lv vl)) = fv vl o := by cases o <;> rfl
set_option maxHeartbeats 1000000 in
theorem find_lru {w : World} {b mx vl : Nat} {R : Nat → Prop} {kb : KB} (h : LruIs syT w R b mx (mapv (lv vl) kb)) (k : List UInt8) (hk : k.length ≤ maxLen) :
    Calls Try.prog 155 #[.agg #[.pointer (some ⟨b, 0, none⟩)], .string (str k)] w fun e w' => e = .returned (.tuple #[fv vl (getL k kb), .bool (getL k kb).isSome]) ∧ Calm w w' := by
  have hh := fun o => sy_Peek' (h.calm ((Keep.refl _ w).alloc o)) k hk ((getL k kb).map (lv vl)) (getL_mapv _ _ _) _ (vo_lv vl _) (getL k kb).isSome (by simp)
  generalize hF : fv vl (getL k kb) = F at *
  generalize hG : (getL k kb).isSome = G at *
  clear h hF hG
  have HH := Lib.hid hh
  clear hh
  go_enter Try.func155, Try.ntmps155
  go_wp2_with fail
  refine (HH.out _).mono ?_
  rintro e w' ⟨rfl, hc⟩
  have HC := Lib.hid (((Keep.refl (fun _ => False) w).alloc (.cells #[.pointer (some ⟨b, 0, none⟩)] 152)).trans hc)
  clear hc
  go_wp2
  go_ret2
  exact ⟨rfl, HC.out⟩

/-- One kind's method, whatever the kind. -/
def Meth (ev : Value) (name : String) (args : List Value) (w : World) (Q : Ending → World → Prop) : Prop :=
  ∃ (t : TypeId) (v : Value) (F : FuncId), ev = .iface t v ∧ (∀ w, Sem.run Try.prog (method 306 t v name) w = .ok (F, v) w) ∧ (∀ a w, Sem.run Try.prog (callFunc F a) w = .ok (.enter F a) w) ∧ Calls Try.prog F (v :: args).toArray w Q

theorem kfind_c {w : World} {R : Nat → Prop} {q : MN} {kb : KB} {ev : Value} (hq : q.Ok) (h : KindIs w R q kb ev) (hn : (keysL kb).Nodup) (k : List UInt8) (hk : k.length ≤ maxLen) :
    Meth ev "swingbridge/table.find" [.string (str k)] w fun e w' => e = .returned (.tuple #[fv q.val (getL k kb), .bool (getL k kb).isSome]) ∧ Calm w w' := by
  cases h with
  | arr A hkd hR hr hkeys => exact ⟨_, _, _, rfl, m_ak_find _, cf_ak_find, find_arr hq.max.2 hr hkeys k hk⟩
  | hash b D hkd hR hm hD => exact ⟨_, _, _, rfl, m_hk_find _, cf_hk_find, find_hash _ hm hD hn k hk⟩
  | lru b tb R0 hkd hR hL => exact ⟨_, _, _, rfl, m_rk_find _, cf_rk_find, find_lru hL k hk⟩

theorem use_arr (v : Value) (n : Nat) (k : List UInt8) (w : World) : Calls Try.prog 111 #[.agg #[v], .string (str k)] w fun e w' => e = .returned (.tuple #[]) ∧ Calm w w' := by
  go_enter Try.func111, Try.ntmps111
  go_wp2
  go_end0
  exact ⟨rfl, (Keep.refl _ w).alloc _⟩
theorem use_hash (v u : Value) (k : List UInt8) (w : World) : Calls Try.prog 117 #[.agg #[v, u], .string (str k)] w fun e w' => e = .returned (.tuple #[]) ∧ Calm w w' := by
  go_enter Try.func117, Try.ntmps117
  go_wp2
  go_end0
  exact ⟨rfl, (Keep.refl _ w).alloc _⟩
set_option maxHeartbeats 1000000 in
theorem use_lru {w : World} {b mx vl : Nat} {R : Nat → Prop} {kb : KB} (h : LruIs syT w R b mx (mapv (lv vl) kb)) (k : List UInt8) (hk : k.length ≤ maxLen) :
    Calls Try.prog 156 #[.agg #[.pointer (some ⟨b, 0, none⟩)], .string (str k)] w fun e w' => e = .returned (.tuple #[]) ∧ LruIs syT w' R b mx (mapv (lv vl) (useL k kb)) ∧ Keep R w w' := by
  have hh := fun o => sy_Touch' (h.calm ((Keep.refl _ w).alloc o)) k hk ((getL k kb).map (lv vl)) (getL_mapv _ _ _) (mapv (lv vl) (useL k kb)) (useL_mapv _ _ _) (getL k kb).isSome (by simp)
  generalize hG : (getL k kb).isSome = G at *
  have HLt := Lib.hid h.lt
  clear h hG
  have HH := Lib.hid hh
  clear hh
  go_enter Try.func156, Try.ntmps156
  go_wp2_with fail
  refine (HH.out _).mono ?_
  rintro e w' ⟨rfl, hL, hc⟩
  have HX := Lib.hid (And.intro hL (((Keep.refl R w).alloc (.cells #[.pointer (some ⟨b, 0, none⟩)] 152)).trans hc))
  clear hc hL
  go_wp2
  go_end0
  exact ⟨rfl, HX.out.1, HX.out.2⟩
theorem kuse_c {w : World} {R : Nat → Prop} {q : MN} {kb : KB} {ev : Value} (hlt : ∀ i, R i → i < w.heap.size) (h : KindIs w R q kb ev) (k : List UInt8) (hk : k.length ≤ maxLen) :
    Meth ev "swingbridge/table.use" [.string (str k)] w fun e w' => e = .returned (.tuple #[]) ∧ KindIs w' R q (useKB q.kind k kb) ev ∧ Keep R w w' := by
  cases h with
  | arr A hkd hR hr hkeys =>
    refine ⟨_, _, _, rfl, m_ak_use _, cf_ak_use, (use_arr _ 0 k w).mono ?_⟩
    rintro e w' ⟨rfl, hc⟩
    have e : useKB q.kind k kb = kb := if_neg (by omega)
    rw [e]
    exact ⟨rfl, .arr A hkd hR (hr.keep hc (fun e => e)) hkeys, hc.keep R⟩
  | hash b D hkd hR hm hD =>
    refine ⟨_, _, _, rfl, m_hk_use _, cf_hk_use, (use_hash _ _ k w).mono ?_⟩
    rintro e w' ⟨rfl, hc⟩
    have e : useKB q.kind k kb = kb := if_neg (by omega)
    rw [e]
    exact ⟨rfl, .hash b D hkd hR (owns_keep' hm (hc.block b (hlt b hR) (fun e => e))) hD, hc.keep R⟩
  | lru b tb R0 hkd hR hL =>
    refine ⟨_, _, _, rfl, m_rk_use _, cf_rk_use, (use_lru hL k hk).mono ?_⟩
    rintro e w' ⟨rfl, hL', hc⟩
    have e : useKB q.kind k kb = useL k kb := if_pos hkd
    rw [e]
    exact ⟨rfl, .lru b tb R0 hkd hR hL', hc.mono (fun i _ hi => hR i hi)⟩
end Go.Proofs.Ytiipepiabeccpaa
