/-
  One instance of the list: All, and the iterator that it hands back.
-/
import Derived.Test.YtnlojohjhfpbgaaLsy4
import Derived.LoopIn
import Derived.LoopNIn
import Derived.OwnWalkIn
import Derived.RangeFuncBound
import Derived.RangeFuncBox
import Derived.RangeFuncCalls
import Derived.RangeFuncLeaves
import Derived.RangeFuncNested
import Derived.RangeFuncWrites
import Derived.TacticsInMore
import Derived.Shelf.RegionOpen
import Derived.LaidEqlPtr
import Derived.Lib.BufferRead
import Derived.Deep.RegionLaw
namespace Go.Proofs.Ytnlojohjhfpbgaa
open Go.RowKit Go.Shelf
set_option linter.all false
attribute [local go_sem] Oper.semAt_some

/-- What a round of the iterator must leave as it is. -/
def sy_Kp (R : Nat → Prop) (B : Nat) (W W' : World) : Prop := ∀ k, (R k ∨ k = B) → W'.heap[k]? = W.heap[k]?
noncomputable def sy_enc (L : List ((List UInt8) × (Option Addr × Nat × Nat))) (x : {x // x ∈ L}) : Array Value := #[syT.kv x.1.1, syT.vv x.1.2]
noncomputable def sy_pos (gs : List Nat) : Value → Nat
  | .pointer (some a) => gs.length - gs.idxOf a.block
  | _ => 0


theorem sy_infoE : (Try.prog.info? 151).map (fun i => i.size) = some 4 := by kernel_rfl

theorem sy_neq_same (a : Addr) (w : World) : (binOp .neq 149 (.pointer (some a)) (.pointer (some a))).run Try.prog w = .ok (.bool false) w := by
  obtain ⟨j, hj, _⟩ := Option.map_eq_some_iff.1 sy_infoE
  have h : ∀ d : Nat, (Op.equalIn (d + 1) 149 (.pointer (some a)) (.pointer (some a))).run Try.prog w = .ok true w := fun d => by
    simp [Op.equalIn, run_underlying Try.underlying149, sizeOf, typeInfo, hj, run_sameAddr_same]
  simp only [binOp]
  simp [Op.equal, Op.maxDepth, h 9999]

theorem sy_neq_other {a b : Addr} {ca cb : Array Value} {ta tb : TypeId} {w : World} (hne : a ≠ b) (ha : w.heap[a.block]? = some (.cells ca ta (0, 0))) (hb : w.heap[b.block]? = some (.cells cb tb (0, 0))) :
    (binOp .neq 149 (.pointer (some a)) (.pointer (some b))).run Try.prog w = .ok (.bool true) w := by
  obtain ⟨j, hj, hs⟩ := Option.map_eq_some_iff.1 sy_infoE
  have hsz : j.size ≠ 0 := by omega
  have h : ∀ d : Nat, (Op.equalIn (d + 1) 149 (.pointer (some a)) (.pointer (some b))).run Try.prog w = .ok false w := fun d => by
    simp [Op.equalIn, run_underlying Try.underlying149, sizeOf, typeInfo, hj, hsz, run_sameAddr_other w hne ha hb]
  simp only [binOp]
  simp [Op.equal, Op.maxDepth, h 9999]


theorem sy_all (b : Nat) (w : World) : Calls Try.prog 135 #[.pointer (some ⟨b, 0, none⟩)] w fun e w' => e = .returned (.func (.func 153) #[] #[.pointer (some ⟨w.heap.size, 0, none⟩)]) ∧ w.alloc (.cells #[.pointer (some ⟨b, 0, none⟩)] 144) = w' := by
  have hmf : ∀ (fn : Fn) (first cap : Array Value) (w : World), (Instr.makeFunc fn first cap).run Try.prog w = .ok (.func fn first cap) w := fun _ _ _ _ => rfl
  go_enter Try.func135, Try.ntmps135
  go_wp2
  go_ret
  exact ⟨rfl, rfl⟩

set_option maxRecDepth 100000 in
set_option maxHeartbeats 2000000 in

theorem sy_all1_in (n : Nat) (hn : 1 ≤ n) (l B b m most : Nat) {R : Nat → Prop} {nx pv : Option Nat → Option Nat} {D : DataW Unit} {es : List (Nat × (List UInt8) × (Option Addr × Nat × Nat))} {w : World} (h : LruAt syT w R b m most nx pv D es)
    (J Jx : List {x // x ∈ es.map (·.2)} → World → Prop)
    (hY : ∀ pre x W, J pre W → pre.length < es.length → YieldAt Fence.wide (n - 1) Try.prog l (sy_enc _ x) W fun e W' =>
      (e = .returned (.bool true) ∧ J (pre ++ [x]) W' ∧ sy_Kp R B W W') ∨ (e = .returned (.bool false) ∧ Jx (pre ++ [x]) W'))
    (hJd : ∀ pre W, J pre W → J pre W.drew) (W : World) (hW : ∀ k, R k → W.heap[k]? = w.heap[k]?) (hB : W.cell? ⟨B, 0, none⟩ = some (.pointer (some ⟨b, 0, none⟩))) (h0 : J [] W) :
    CallsIn Fence.wide n Try.prog 153 #[.func (.yield l) #[] #[], .pointer (some ⟨B, 0, none⟩)] W fun e W' => (∃ v, e = .returned v) ∧
      ((∃ ys, ys = (es.map (·.2)).attach ∧ J ys W') ∨ (∃ pre, (∃ k, k ≤ es.length ∧ pre = (es.map (·.2)).attach.take k) ∧ Jx pre W')) := by
  refine callsIn_of_wp Try.func153 rfl trivial ?_ rfl
  simp only [Try.ntmps153, List.size_toArray, List.length_cons, List.length_nil, Nat.reduceAdd, Nat.reduceSub, Array.replicate_succ, Array.replicate_zero, List.push_toArray, List.append_toArray, List.nil_append, List.cons_append]
  have HY := Lib.hid hY
  have HJd := Lib.hid hJd
  have H := Lib.hid h
  have hrow : ∀ W' : World, (∀ k, R k → W'.heap[k]? = w.heap[k]?) → W'.cell? ⟨b, 6, none⟩ = some (pp b (nx none)) := fun W' hW' => ((show Row W' b _ _ from (hW' b h.rb).trans h.mem.top).cell 6).trans rfl
  have c6 := hrow W hW
  have hfirst : nx none = (es.map (·.1))[0]? := by rw [h.ring.first, List.head?_eq_getElem?]
  rw [hfirst] at c6
  obtain ⟨p0, hp0⟩ : ∃ p0 : Value, pp b ((es.map (·.1))[0]?) = p0 := ⟨_, rfl⟩
  have hpp : ∃ a : Addr, p0 = .pointer (some a) := ⟨_, hp0.symm⟩
  rw [hp0] at c6
  obtain ⟨a0, rfl⟩ := hpp
  have HW := Lib.hid hW
  have HP := Lib.hid hp0
  clear hY hJd h hrow hfirst hW hp0
  gi_wp2
  gi_loopw [3] (fun e wr => ∃ i : Nat, i ≤ es.length ∧ e = pp b ((es.map (·.1))[i]?) ∧ J ((es.map (·.2)).attach.take i) wr ∧ (∀ k, R k → wr.heap[k]? = w.heap[k]?) ∧ wr.cell? ⟨B, 0, none⟩ = some (.pointer (some ⟨b, 0, none⟩)))
    (fun e _ => sy_pos (es.map (·.1)) e)
  case atStart => exact ⟨0, Nat.zero_le _, HP.out.symm, h0, HW.out, hB⟩
  case round =>
    obtain ⟨i, hi, rfl, hJs, hRs, b1⟩ := hrel
    clear c6 HP h0
    by_cases hlt : i < es.length
    · obtain ⟨⟨g, k, v⟩, hx⟩ : ∃ x, es[i] = x := ⟨_, rfl⟩
      have hxm : (g, k, v) ∈ es := by rw [← hx]; exact List.getElem_mem hlt
      have hnode : (es.map (·.1))[i]? = some g := by rw [List.getElem?_map, List.getElem?_eq_getElem hlt, hx]; rfl
      have hL : (k, v) ∈ es.map (·.2) := List.mem_map.2 ⟨_, hxm, rfl⟩
      have hatt : (es.map (·.2)).attach.take (i + 1) = (es.map (·.2)).attach.take i ++ [⟨(k, v), hL⟩] := by
        rw [List.take_add_one]
        congr 1
        rw [List.getElem?_eq_getElem (by simpa using hlt)]
        simp [hx]
      have hr : Row wr g 151 _ := (hRs g (H.out.re _ hxm)).trans (H.out.mem.ent _ hxm)
      have hnext : nx (some g) = (es.map (·.1))[i + 1]? := by
        have e : es = es.take i ++ (g, k, v) :: es.drop (i + 1) := by rw [← hx, List.getElem_cons_drop, List.take_append_drop]
        have hl := H.out.ring
        rw [e, List.map_append, List.map_cons] at hl
        rw [Lk.next hl, List.head?_eq_getElem?, List.getElem?_map, List.getElem?_map, List.getElem?_drop]
      have g0 : wr.cell? ⟨g, 0, none⟩ = some (syT.kv k) := (hr.cell 0).trans rfl
      have g1 : wr.cell? ⟨g, 1, none⟩ = some (syT.vv v) := (hr.cell 1).trans rfl
      have hbg : ¬ g = b := fun e => H.out.mem.apart hxm e.symm
      have hcmp : (binOp .neq 149 (.pointer (some ⟨g, 0, none⟩)) (.pointer (some ⟨b, 3, none⟩))).run Try.prog wr = .ok (.bool true) wr :=
        sy_neq_other (fun e => hbg (congrArg Addr.block e)) hr ((hRs b H.out.rb).trans H.out.mem.top)
      obtain ⟨fn, tmps, assign, body, hy, hR⟩ := HY.out _ ⟨(k, v), hL⟩ wr.drew (HJd.out _ _ hJs) (by simp; omega)
      unfold sy_enc at hy
      have HR := Lib.hid hR
      clear hR
      have hR' := fun hh => (HR.out).mono (R' := fun e W' => ∃ bb, e = .returned (.bool bb) ∧ ((bb = true ∧ J ((es.map (·.2)).attach.take i ++ [⟨(k, v), hL⟩]) W' ∧ sy_Kp R B wr.drew W') ∨ (bb = false ∧ Jx ((es.map (·.2)).attach.take i ++ [⟨(k, v), hL⟩]) W'))) hh
      have HR' := Lib.hid (hR' (by
        rintro e W3 (⟨rfl, a, b⟩ | ⟨rfl, a⟩)
        · exact ⟨true, rfl, .inl ⟨rfl, a, b⟩⟩
        · exact ⟨false, rfl, .inr ⟨rfl, a⟩⟩))
      have hmix : Try.prog.follows .mixedOrders = true := by kernel_rfl
      have Hr := Lib.hid hr
      have HRs := Lib.hid hRs
      have Hatt := Lib.hid hatt
      have Hnext := Lib.hid hnext
      have Hnode := Lib.hid hnode
      have HL := Lib.hid hxm
      clear hR' HR hr hRs hatt hnext hJs hx
      rw [hnode]
      clear hnode
      simp only [pp, nb, no]
      gi_wp2
      gi_region_with (refine HR'.out.mono ?_; rintro e W3 ⟨bb, rfl, hpost⟩)
      all_goals
        rcases hpost with ⟨rfl, hJ3, hk3⟩ | ⟨rfl, hJx3⟩
        · have e1 : W3.cell? ⟨B, 0, none⟩ = some (.pointer (some ⟨b, 0, none⟩)) := (World.cell?_of_block (w := wr.drew) (hk3 B (.inr rfl))).trans b1
          have e2 : W3.cell? ⟨g, 3, none⟩ = some (pp b ((es.map (·.1))[i + 1]?)) := (World.cell?_of_block (w := wr.drew) (hk3 g (.inl (H.out.re _ HL.out)))).trans ((Hr.out.cell 3).trans (by rw [← Hnext.out]; rfl))
          have HJ3 := Lib.hid hJ3
          have HR3 : Hid (∀ k, R k → W3.heap[k]? = w.heap[k]?) := Lib.hid (fun k hk => (hk3 k (.inl hk)).trans (HRs.out k hk))
          obtain ⟨p1, hp1⟩ : ∃ p1 : Value, pp b ((es.map (·.1))[i + 1]?) = p1 := ⟨_, rfl⟩
          have hpp : ∃ a : Addr, p1 = .pointer (some a) := ⟨_, hp1.symm⟩
          rw [hp1] at e2
          obtain ⟨a1, rfl⟩ := hpp
          have HP1 := Lib.hid hp1
          clear hJ3 hk3 HR' hp1
          gi_wp2
          go_roundw
          case rel => exact ⟨i + 1, by omega, HP1.out.symm, by rw [Hatt.out]; exact HJ3.out, HR3.out, e1⟩
          case measure =>
            rw [← HP1.out]
            have hnd : (es.map (·.1)).Nodup := H.out.nod
            have hi1 : (es.map (·.1))[i]'(by simpa using hlt) = g := by have := Hnode.out; rw [List.getElem?_eq_getElem (by simpa using hlt)] at this; injection this
            have x1 : (es.map (·.1)).idxOf g = i := by rw [← hi1]; exact hnd.idxOf_getElem i _
            by_cases hlt2 : i + 1 < es.length
            · have x2 : (es.map (·.1))[i + 1]? = some ((es.map (·.1))[i + 1]'(by simpa using hlt2)) := List.getElem?_eq_getElem (by simpa using hlt2)
              have x3 := hnd.idxOf_getElem (i + 1) (by simpa using hlt2)
              rw [x2]
              show (es.map (·.1)).length - (es.map (·.1)).idxOf _ < (es.map (·.1)).length - (es.map (·.1)).idxOf g
              rw [x1]
              simp only [nb]
              rw [x3, List.length_map]
              omega
            · have x2 : (es.map (·.1))[i + 1]? = none := List.getElem?_eq_none (by simp; omega)
              rw [x2]
              show (es.map (·.1)).length - (es.map (·.1)).idxOf b < (es.map (·.1)).length - (es.map (·.1)).idxOf g
              have hbn : b ∉ es.map (·.1) := fun hc => by obtain ⟨y, hy, e⟩ := List.mem_map.1 hc; exact H.out.mem.apart hy e.symm
              rw [x1, List.idxOf_eq_length hbn, List.length_map]
              omega
        · have HJx := Lib.hid hJx3
          clear hJx3 HR'
          gi_wp2
          refine bodyPost_ret (results_none rfl _ _ _) rfl ?_
          exact ⟨⟨_, rfl⟩, .inr ⟨_, ⟨i + 1, by omega, by rw [Hatt.out]⟩, HJx.out⟩⟩
    · obtain rfl : i = es.length := by omega
      have hnode : (es.map (·.1))[es.length]? = none := List.getElem?_eq_none (by simp)
      rw [hnode]
      have hcmp := sy_neq_same ⟨b, 3, none⟩ wr
      have hJe : J (es.map (·.2)).attach wr := by rwa [List.take_of_length_le (by simp)] at hJs
      have HJe := Lib.hid hJe
      clear hJs hJe
      simp only [pp, nb, no]
      gi_wp2
      go_end0
      exact ⟨⟨_, rfl⟩, .inl ⟨_, rfl, HJe.out⟩⟩


theorem sy_stops (n : Nat) (hn : 1 ≤ n) (B b m most : Nat) {R : Nat → Prop} {nx pv : Option Nat → Option Nat} {D : DataW Unit} {es : List (Nat × (List UInt8) × (Option Addr × Nat × Nat))} {w : World} (h : LruAt syT w R b m most nx pv D es) (hBl : B < w.heap.size) (hB : w.cell? ⟨B, 0, none⟩ = some (.pointer (some ⟨b, 0, none⟩))) :
    SeqStopsK Fence.wide n Try.prog 153 #[.pointer (some ⟨B, 0, none⟩)] (sy_enc (es.map (·.2))) (sy_Kp R B) (fun ys => ys = (es.map (·.2)).attach) (fun pre => ∃ k, k ≤ es.length ∧ pre = (es.map (·.2)).attach.take k) es.length w := fun l J Jx W hW hJ _ hY h0 =>
  sy_all1_in n hn l B b m most h J Jx hY (fun pre X hX => hJ pre X X.drew none hX ⟨rfl, rfl, rfl, Nat.le_refl _, fun _ _ _ => rfl⟩ (fun r e => by cases e)) W
    (fun k hk => hW.block k (h.lt k hk)) ((hW.cell (p := ⟨B, 0, none⟩) hBl).trans hB) h0
/-- What of the rounds is a beginning of the row. -/

theorem sy_pre {L : List ((List UInt8) × (Option Addr × Nat × Nat))} {pre : List {x // x ∈ L}} {x : {x // x ∈ L}} {i : Nat} (hp : pre = L.attach.take i) (hi : i < L.length) (hx : L[i]? = some x.1) : pre ++ [x] = L.attach.take (i + 1) := by
  rw [hp, List.take_add_one]
  congr 1
  rw [List.getElem?_eq_getElem (by simpa using hi)]
  simp only [List.getElem_attach, Option.toList_some, List.cons.injEq, and_true]
  rw [List.getElem?_eq_getElem hi] at hx
  injection hx with hx
  exact Subtype.ext hx.symm

theorem sy_not {L : List ((List UInt8) × (Option Addr × Nat × Nat))} {pre : List {x // x ∈ L}} {x : {x // x ∈ L}} {i : Nat} (hp : pre = L.attach.take i) (hi : i < L.length) (hx : L[i]? ≠ some x.1) : ¬ ∃ k, k ≤ L.length ∧ pre ++ [x] = L.attach.take k := by
  rintro ⟨k, hk, e⟩
  have hl := congrArg List.length e
  rw [hp] at hl
  simp at hl
  have hk' : k = i + 1 := by omega
  subst hk'
  apply hx
  have this : (L.attach.take i ++ [x])[i]? = (L.attach.take (i + 1))[i]? := by rw [← hp]; exact congrArg (fun l => l[i]?) e
  rw [List.getElem?_append_right (by simp; omega), List.getElem?_take] at this
  simp at this
  rw [Nat.min_eq_left (by omega), Nat.sub_self] at this
  simp only [List.getElem?_cons_zero] at this
  rw [List.getElem?_eq_getElem hi]
  have h2 : (L.attach.take (i + 1))[i]? = some x := by
    rw [← e, hp, List.getElem?_append_right (by simp; omega)]
    simp
    rw [Nat.min_eq_left (by omega), Nat.sub_self]
    rfl
  rw [List.getElem?_take, if_pos (by omega), List.getElem?_eq_getElem (by simpa using hi)] at h2
  injection h2 with h2
  rw [← h2]
  simp
end Go.Proofs.Ytnlojohjhfpbgaa
