/-
  Tables: New, Len, Map.
-/
import Derived.Test.YtiipepiabeccpaaT4
namespace Go.Proofs.Ytiipepiabeccpaa
open Go.RowKit Go.Deep
open Go.Maps (Keyed)
set_option linter.all false
attribute [local go_sem] Oper.semAt_some

def arrE (vl : Nat) (gs : List Nat) : List Ent := (List.range gs.length).map (fun i => (numK i, gs.getD i 0, List.replicate vl (0 : UInt8)))
theorem arrE_blks (vl : Nat) (gs : List Nat) : blks (arrE vl gs) = gs := by
  unfold blks arrE
  rw [List.map_map]
  apply List.ext_getElem?
  intro i
  rw [List.getElem?_map]
  by_cases h : i < gs.length
  · rw [List.getElem?_range h]
    simp [List.getD, h]
  · rw [List.getElem?_eq_none (by simp; omega), List.getElem?_eq_none (by omega)]
    rfl
theorem arrE_keys (vl : Nat) (gs : List Nat) : keysL (arrE vl gs) = (List.range gs.length).map numK := by simp [keysL, arrE, Function.comp_def]
theorem arrE_kbs (vl : Nat) (gs : List Nat) : (kbs (arrE vl gs)).map (fun x => slv vl x.2) = gs.map (slv vl) := by
  have := arrE_blks vl gs
  unfold kbs mapv
  rw [List.map_map]
  conv => rhs; rw [← this]
  unfold blks
  rw [List.map_map]
  rfl
theorem numK_inj {i j : Nat} (hi : i < 65536) (hj : j < 65536) (h : numK i = numK j) : i = j := by
  unfold numK at h
  simp only [List.cons.injEq] at h
  have h1 := congrArg UInt8.toNat h.1
  have h2 := congrArg UInt8.toNat h.2.1
  simp only [UInt8.toNat_ofNat'] at h1 h2
  omega
theorem numK_nodup {n : Nat} (hn : n ≤ 65536) : ((List.range n).map numK).Nodup := by
  rw [List.Nodup, List.pairwise_map]
  refine List.Pairwise.imp_of_mem ?_ (List.nodup_range (n := n))
  intro a c ha hc hne e
  rw [List.mem_range] at ha hc
  exact hne (numK_inj (by omega) (by omega) e)
theorem numK_len (n : Nat) : (numK n).length = 4 := rfl

/-- The entries of a new table. -/
def NewE (q : MN) (E : List Ent) : Prop := if q.kind = 1 then ∃ gs : List Nat, gs.length = q.max ∧ E = arrE q.val gs else E = []
theorem NewE.keys {q : MN} {E : List Ent} (h : NewE q E) (hq : q.Ok) : (keysL E).Nodup ∧ (∀ x ∈ E, x.1.length = q.key) ∧ E.length ≤ q.max := by
  unfold NewE at h
  split at h
  · rename_i hk
    obtain ⟨gs, hl, rfl⟩ := h
    have := hq.max
    have h4 := hq.kind
    refine ⟨by rw [arrE_keys]; exact numK_nodup (by omega), fun x hx => ?_, by simp [arrE, hl]⟩
    obtain ⟨i, _, rfl⟩ := List.mem_map.1 hx
    show 4 = q.key
    omega
  · subst h
    refine ⟨List.nodup_nil, ?_, Nat.zero_le _⟩
    intro x hx
    cases hx

def NewK (q : MN) (w : World) (ev : Value) (w' : World) : Prop :=
  ∃ (R : Nat → Prop) (E : List Ent), Calm w w' ∧ KindIs w' R q (kbs E) ev ∧ NewE q E ∧ (∀ x ∈ E, DataAt w' q.val x) ∧ (blks E).Nodup ∧ (∀ x ∈ E, ¬ R x.2.1) ∧ (∀ i, R i ∨ i ∈ blks E → w.heap.size ≤ i ∧ i < w'.heap.size)

set_option maxHeartbeats 2000000 in
theorem newKind_c (q : MN) (hq : q.Ok) (w : World) : Calls Try.prog 63 #[q.mp.agg] w fun e w' => ∃ ev : Value, e = .returned ev ∧ NewK q w ev w' := by
  have hv := hq.val
  have hm := hq.max
  have hk := hq.kind
  have hA := fun W => newArray_c q hq W
  have hmm := @run_makeMap Try.prog
  obtain ⟨nm, kd, ky, vl, mx⟩ := q
  simp only at hv hm hk
  have HA := Lib.hid hA
  have HL := Lib.hid (fun W => sy_new (mx : Int) mx (by split <;> omega) hm.1 (by omega) W)
  have HK := Lib.hid (fun q w ev w' => (Iff.refl (NewK q w ev w')))
  clear hA
  show Calls Try.prog 63 #[.agg #[.string (str nm), .int .i64 (kd : Int), .int .i64 (ky : Int), .int .i64 (vl : Int), .int .i64 (mx : Int)]] w _
  have R0 : Calm w (w.alloc (.cells #[.string (str nm), .int .i64 (kd : Int), .int .i64 (ky : Int), .int .i64 (vl : Int), .int .i64 (mx : Int)] 58)) := (Keep.refl (fun _ => False) w).alloc _
  have HR0 := Lib.hid R0
  clear R0
  by_cases h1 : kd = 1
  · subst h1
    go_enter Try.func63, Try.ntmps63
    go_wp2_with fail
    refine (HA.out _).mono ?_
    rintro e w2 ⟨A, gs, rfl, hc, hA0, hr, hl, hn, hAn, hg⟩
    have HX := Lib.hid (And.intro hc (And.intro hA0 (And.intro hr (And.intro hl (And.intro hn (And.intro hAn hg))))))
    clear hc hA0 hr hl hn hAn hg
    go_wp2
    go_ret
    obtain ⟨hc, hA0, hr, hl, hn, hAn, hg⟩ := HX.out
    refine ⟨_, rfl, fun i => i = A, arrE vl gs, HR0.out.trans hc, ?_, ?_, ?_, by rw [arrE_blks]; exact hn, ?_, ?_⟩
    · refine .arr A rfl rfl ?_ ?_
      · rw [arrE_kbs]; exact hr
      · rw [keys_kbs, arrE_keys, hl]
    · exact (if_pos rfl).mpr ⟨gs, hl, rfl⟩
    · intro x hx
      obtain ⟨i, hi, rfl⟩ := List.mem_map.1 hx
      rw [List.mem_range] at hi
      refine ⟨?_, by simp⟩
      have hm : gs.getD i 0 ∈ gs := by rw [List.getD_eq_getElem?_getD, List.getElem?_eq_getElem hi]; exact List.getElem_mem hi
      exact (hg _ hm).2
    · intro x hx e
      have : x.2.1 ∈ blks (arrE vl gs) := List.mem_map.2 ⟨x, hx, rfl⟩
      rw [arrE_blks, e] at this
      exact hAn this
    · intro i hi
      rw [arrE_blks] at hi
      rw [World.size_alloc] at hA0
      rcases hi with rfl | hi
      · exact ⟨by omega, hr.lt⟩
      · obtain ⟨g1, g2⟩ := hg i hi
        rw [World.size_alloc] at g1
        exact ⟨by omega, g2.lt⟩
  · by_cases h2 : kd = 2
    · subst h2
      go_enter Try.func63, Try.ntmps63
      go_wp2
      go_ret
      refine ⟨_, rfl, fun i => i = w.heap.size + 1, [], HR0.out.alloc _, ?_, ?_, ?_, List.nodup_nil, ?_, ?_⟩
      · have := World.ownsMap_made (w.alloc (.cells #[.string (str nm), .int .i64 ((2 : Nat) : Int), .int .i64 (ky : Int), .int .i64 (vl : Int), .int .i64 (mx : Int)] 58)) Try.prog 9 (se vl)
        rw [World.size_alloc] at this
        exact .hash (w.heap.size + 1) (.map []) rfl rfl this ⟨rfl, fun x hx => (by cases hx), fun _ _ => rfl⟩
      · exact (if_neg (show ¬ (2 : Nat) = 1 by decide)).mpr rfl
      · intro x hx; cases hx
      · intro x hx; cases hx
      · rintro i (rfl | hi)
        · simp
        · cases hi
    · obtain rfl : kd = 3 := by omega
      go_enter Try.func63, Try.ntmps63
      go_wp2_with fail
      refine (HL.out _).mono ?_
      rintro e w2 ⟨rfl, hL, hc⟩
      have HX := Lib.hid (And.intro hL hc)
      clear hL hc
      go_wp2
      go_ret
      obtain ⟨hL, hc⟩ := HX.out
      rw [World.size_alloc] at hL
      refine ⟨_, rfl, fun i => i = w.heap.size + 1 ∨ i = w.heap.size + 1 + 1, [], HR0.out.trans hc, ?_, ?_, ?_, List.nodup_nil, ?_, ?_⟩
      · exact .lru (w.heap.size + 1 + 1) 0 _ rfl (fun i hi => hi) hL
      · exact (if_neg (show ¬ (3 : Nat) = 1 by decide)).mpr rfl
      · intro x hx; cases hx
      · intro x hx; cases hx
      · rintro i (hi | hi)
        · exact ⟨by omega, hL.lt i hi⟩
        · cases hi
end Go.Proofs.Ytiipepiabeccpaa
