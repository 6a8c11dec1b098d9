/-
  The document's answer for disk: Crash.
-/
import Derived.Test.YtppehlnfoendgaaRef1
namespace Go.Proofs.Ytppehlnfoendgaa
open Go.RowKit
set_option linter.all false

theorem own_set {w : World} {g n cap x : Nat} {t : TypeId} {xs : List Value} (h : w.ownsRow 0 t 1 (.slice (some ⟨g, 0, none⟩) n cap) n xs) (hx : x < n) (v : Value) : (w.setCell ⟨g, x, none⟩ v).ownsRow 0 t 1 (.slice (some ⟨g, 0, none⟩) n cap) n (xs.set x v) := by
  refine ⟨by rw [List.length_set]; exact h.1, ?_⟩
  rcases h.2 with ⟨h0, _⟩ | ⟨g', cap', cur, h0, h1, h2, h3, h4, h5, h6⟩
  · injection h0 with h0; cases h0
  · injection h0 with e0 _ e1
    injection e0 with e0
    injection e0 with e0
    subst e0; subst e1
    have hr : Row w g t cur := h2
    refine .inr ⟨g, cap, cur.setIfInBounds x v, rfl, h1, hr.store x v, h3, h4, by simpa using h5, ?_⟩
    rw [Array.toList_setIfInBounds, List.take_set, h6]
theorem putTo_stop {α : Type} (ks : List Bool) (s : List α) (ws : List (Nat × α)) (j : Nat) (h : ks.length ≤ j) (m : Nat) : putTo (keptOf ks) s ws (j + m) = putTo (keptOf ks) s ws j := by
  induction m with
  | zero => rfl
  | succ m ih =>
    have hk : keptOf ks (j + m) = false := by simp [keptOf, List.getElem?_eq_none (show ks.length ≤ j + m by omega)]
    show putTo (keptOf ks) s ws (j + m + 1) = _
    simp only [putTo, hk]
    split
    · simpa using ih
    · exact ih

set_option maxHeartbeats 1600000 in
theorem rcrash_c {w : World} {R : Nat → Prop} {r : Nat} {S : DS} (h : IsRef w R r S) (hwm : S.wait.length ≤ 1000000) (kv : Value) (ks : List Bool) (hb : Bools w (Apart w R) kv ks) (hm : ks.length ≤ maxLen) :
    Calls Try.prog 21 #[.pointer (some ⟨r, 0, none⟩), kv] w fun e w' => e = .returned (.tuple #[]) ∧ IsRef w' R r (S.crash ks) ∧ Keep R w w' := by
  obtain ⟨dv, wv, kv0, left, kl, h⟩ := h
  obtain ⟨KA, kc, rfl, hkc⟩ := hb
  obtain ⟨db, dc, dcur, hdv, hdo, hdr, hd1, hd2, _⟩ := own_done h.done h.some_
  obtain ⟨WA, wc, hwv, hwc⟩ := own_waits h.wrow
  have hne : r ≠ db := h.top.ne hdr (by decide)
  have t0 := h.top.cell 0
  have t1 := h.top.cell 1
  simp at t0 t1
  rw [hdv] at t0
  rw [hwv] at t1
  have hrl := h.top.lt
  have hdl := hdr.lt
  have hks : ∀ (i : Nat) b, ks[i]? = some b → ∃ ad, KA = some ad ∧ ad.block ≠ db ∧ ad.block ≠ r ∧ ad.block < w.heap.size ∧ w.cell? (ad.add i) = some (.bool b) := fun i b hi => by
    obtain ⟨ad, e, hap, hl, hc⟩ := hkc i b hi
    refine ⟨ad, e, fun e' => ?_, fun e' => ?_, hl, hc⟩
    · rcases hap with hap | ⟨cur, hap⟩
      · exact hap (by rw [e']; exact h.rD db hdo)
      · exact (hap.ne hdr (by decide)) e'
    · rcases hap with hap | ⟨cur, hap⟩
      · exact hap (by rw [e']; exact h.rd)
      · exact (hap.ne h.top (by decide)) e'
  have hws : ∀ (j : Nat) x, S.wait[j]? = some x → x.1 < S.secs.length ∧ ∃ g, WA = some ⟨g, 0, none⟩ ∧ g ≠ db ∧ g < w.heap.size ∧ w.cell? ⟨g, j * 2, none⟩ = some (.int .i64 x.1) ∧ w.cell? ⟨g, j * 2 + 1, none⟩ = some (.string (str x.2)) := fun j x hj => by
    obtain ⟨g, e, _, ⟨cur, hr⟩, c0, c1⟩ := hwc j x hj
    exact ⟨h.at_ x (List.mem_of_getElem? hj), g, e, hr.ne hdr (by decide), hr.lt, c0, c1⟩
  have H := Lib.hid h
  have HK := Lib.hid hks
  have HW := Lib.hid hws
  have hfew := h.few
  have Hd := Lib.hid hdv
  have Hdo := Lib.hid hdo
  have Hdr := Lib.hid hdr
  have Hd0 : Hid (w.ownsRow 0 9 1 (.slice (some ⟨db, 0, none⟩) S.secs.length dc) S.secs.length (S.secs.map sv)) := Lib.hid (by have := h.done; rw [hdv] at this; exact this)
  have hm' : ks.length ≤ 9223372036854775807 := by unfold maxLen at hm; omega
  clear h hkc hdo hks hws hwc hdr hwv hdv
  go_enter Try.func21, Try.ntmps21
  go_wp2_with fail
  go_loopw [4] (fun i wr => ∃ j : Nat, j ≤ S.wait.length ∧ j ≤ ks.length ∧ i = .int .i64 j ∧ Keep (· = db) w wr ∧ wr.ownsRow 0 9 1 (.slice (some ⟨db, 0, none⟩) S.secs.length dc) S.secs.length ((putTo (keptOf ks) S.secs S.wait j).map sv)) (fun i _ => S.wait.length - (intOf i).toNat)
  case atStart => exact ⟨0, by omega, by omega, rfl, Keep.refl _ _, Hd0.out⟩
  case round =>
    obtain ⟨j, hj, hjk, rfl, hkeep, hown⟩ := hrel
    have Hk := Lib.hid hkeep
    have Ho := Lib.hid hown
    have u0 : wr.cell? ⟨r, 0, none⟩ = some (.slice (some ⟨db, 0, none⟩) S.secs.length dc) := (hkeep.cell (p := ⟨r, 0, none⟩) hrl hne).trans t0
    have u1 : wr.cell? ⟨r, 1, none⟩ = some (.slice WA S.wait.length wc) := (hkeep.cell (p := ⟨r, 1, none⟩) hrl hne).trans t1
    by_cases hlt : j < S.wait.length ∧ j < ks.length
    · obtain ⟨l1, l2⟩ := hlt
      obtain ⟨⟨a, b⟩, hy⟩ : ∃ y, S.wait[j] = y := ⟨_, rfl⟩
      obtain ⟨ha, g, rfl, hg, hgl, c0, c1⟩ := HW.out j (a, b) (by rw [List.getElem?_eq_getElem l1, hy])
      obtain ⟨ad, rfl, ad1, ad2, ad3, c2⟩ := HK.out j ks[j] (List.getElem?_eq_getElem l2)
      have d0 := (hkeep.cell (p := ⟨g, j * 2, none⟩) hgl hg).trans c0
      have d1 := (hkeep.cell (p := ⟨g, j * 2 + 1, none⟩) hgl hg).trans c1
      have d2 := (hkeep.cell (p := ad.add j) (by rw [Addr.add_block]; exact ad3) (by rw [Addr.add_block]; exact ad1)).trans c2
      have Hs : Hid (putTo (keptOf ks) S.secs S.wait (j + 1) = if ks[j] then (putTo (keptOf ks) S.secs S.wait j).set a b else putTo (keptOf ks) S.secs S.wait j) := Lib.hid (by
        rw [putTo_succ _ _ _ _ _ (List.getElem?_eq_getElem l1), hy]; simp [keptOf, List.getElem?_eq_getElem l2])
      have k1 : (j : Int) < (S.wait.length : Int) := by omega
      have k2 : (j : Int) < (ks.length : Int) := by omega
      have k0 : (0 : Int) ≤ (j : Int) := by omega
      have a0 : (0 : Int) ≤ (a : Int) := by omega
      have a1 : (a : Int) < (S.secs.length : Int) := by omega
      have hpl := putTo_len (keptOf ks) S.secs S.wait j
      obtain ⟨v3, d3⟩ : ∃ v3, wr.cell? ⟨db, a, none⟩ = some (.string (str v3)) := ⟨(putTo (keptOf ks) S.secs S.wait j)[a]'(by omega), by
        have := hown.cells (g := db) rfl a (sv ((putTo (keptOf ks) S.secs S.wait j)[a]'(by omega))) (by simp [hpl, ha])
        by_cases e : a = 0
        · subst e; simpa [Addr.add, sv] using this
        · simpa [Addr.add, e, sv] using this⟩
      have d4 : wr.frozen? ⟨db, a, none⟩ = false := by
        rcases hown.2 with ⟨e0, _⟩ | ⟨g', cap', cur, e0, _, e2, _⟩
        · injection e0 with e0; cases e0
        · injection e0 with e0 _ _
          injection e0 with e0
          injection e0 with e0
          subst e0
          exact (show Row wr db 9 cur from e2).soft a
      have hz := hkeep.size
      have z1 : r < wr.heap.size := by omega
      have z2 : db < wr.heap.size := by omega
      have z3 : g < wr.heap.size := by omega
      clear hy hkeep hown t0 t1 c0 c1 c2
      generalize ks[j] = kb at d2 Hs
      cases kb
      · go_wp2_with fail
        go_roundw
        case rel => exact ⟨j + 1, by omega, by omega, by go_num, Hk.out, by rw [Hs.out]; exact Ho.out⟩
        case measure => simp [intOf]; omega
      · go_wp2_with fail
        go_region
        go_wp2_with fail
        go_roundw
        case rel => exact ⟨j + 1, by omega, by omega, by go_num, (Hk.out.store (p := ⟨db, a, none⟩) (fun _ => rfl) _).drew, by
          rw [Hs.out, if_pos trivial, List.map_set]
          exact own_move (own_set Ho.out ha (sv b)) (fun g cur _ hr => hr.drew)⟩
        case measure => simp [intOf]; omega
    · have hr := H.out.top.keep hkeep hne
      have f1 := hr.soft 1
      have f2 := hr.soft 2
      have f4 := hr.soft 4
      have u2 := hr.cell 2
      have u4 := hr.cell 4
      simp at u2 u4
      have Hr := Lib.hid hr
      have hz := hkeep.size
      have z1 : r < wr.heap.size := by omega
      have Hend : Hid (putTo (keptOf ks) S.secs S.wait j = putTo (keptOf ks) S.secs S.wait S.wait.length) := Lib.hid (by
        by_cases e : j = S.wait.length
        · rw [← e]
        · have := putTo_stop ks S.secs S.wait j (by omega) (S.wait.length - j)
          rw [← this]
          congr 1
          omega)
      have Fin : Hid (∀ w', w' = ((wr.setCell ⟨r, 1, none⟩ (.slice none 0 0)).setCell ⟨r, 2, none⟩ (.bool true)).setCell ⟨r, 4, none⟩ (.int .i64 (-1)) → IsRef w' R r (S.crash ks) ∧ Keep R w w') := Lib.hid (fun w' e => by
        subst e
        have k1 : Keep (fun k => k = r ∨ k = db) w wr := Hk.out.mono (fun i _ e => .inr e)
        have k2 := ((k1.store (p := ⟨r, 1, none⟩) (fun _ => .inl rfl) (.slice none 0 0)).store (p := ⟨r, 2, none⟩) (fun _ => .inl rfl) (.bool true)).store (p := ⟨r, 4, none⟩) (fun _ => .inl rfl) (.int .i64 (-1))
        refine ⟨⟨dv, .slice none 0 0, kv0, -1, kl, ?_, ?_, World.ownsRow_nil _ _ _ _, ?_, rfl, H.out.rd, H.out.rD, fun g e => by simp [Value.ownBlock] at e, H.out.rK, ?_, ?_, fun x hx => by simp [DS.crash] at hx⟩, k2.mono (fun i _ e => by rcases e with rfl | rfl; exact H.out.rd; exact H.out.rD _ Hdo.out)⟩
        · simpa [DS.crash] using ((Hr.out.store 1 (.slice none 0 0)).store 2 (.bool true)).store 4 (.int .i64 (-1))
        · have e : (S.crash ks).secs = putTo (keptOf ks) S.secs S.wait j := by rw [Hend.out]; rfl
          rw [e, putTo_len, Hd.out]
          exact own_move Ho.out (fun g cur _ hrow => ((hrow.far (p := ⟨r, 1, none⟩) (hrow.ne Hr.out (by decide)) _).far (p := ⟨r, 2, none⟩) (hrow.ne Hr.out (by decide)) _).far (p := ⟨r, 4, none⟩) (hrow.ne Hr.out (by decide)) _)
        · exact own_move H.out.krow (fun g cur hg hrow => hrow.keep k2 (fun e => by
            rcases e with rfl | rfl
            · exact (hrow.ne H.out.top (by decide)) rfl
            · exact (hrow.ne Hdr.out (by decide)) rfl))
        · simp only [DS.crash]; rw [putTo_len]; exact H.out.few
        · simp only [DS.crash]; rw [putTo_len]; exact H.out.some_)
      clear hr hkeep hown t0 t1
      by_cases i1 : j < S.wait.length
      · have i2 : ¬ j < ks.length := fun e => hlt ⟨i1, e⟩
        clear hlt
        go_wp2_with fail
        go_end0
        exact ⟨rfl, Fin.out _ rfl⟩
      · clear hlt
        go_wp2_with fail
        go_end0
        exact ⟨rfl, Fin.out _ rfl⟩
end Go.Proofs.Ytppehlnfoendgaa
