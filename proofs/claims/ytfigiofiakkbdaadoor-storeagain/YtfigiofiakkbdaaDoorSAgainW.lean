/-
  StoreAgain, walked.
-/
import Derived.Test.YtfigiofiakkbdaaDoorS13
namespace Go.Proofs.YtfigiofiakkbdaaDoor
open Go.RowKit
set_option linter.all false

theorem Sd.base {w0 w1 w : World} {R : Nat → Prop} {d : Nat} {S : DS} (h : Sd w1 w R d S) (hc : Calm w0 w1) : Sd w0 w R d S := ⟨⟨h.st.disk, hc.trans h.st.calm, fun k hk => Nat.le_trans hc.size (h.st.new k hk), h.st.lt⟩, h.cells⟩
section
variable {w1 w w' : World} {d sb g tb : Nat} {R T : Nat → Prop} {S : DS} {σ : SS} {R' T' : Nat → Prop} {S' : DS} {σ' : SS} {c : Nat → List UInt8} {ka : Nat} {oa : Option (List UInt8)} {kb : Nat} {ob : Option (List UInt8)} {i : Nat}
theorem Tw.area1 (h : Tw w1 w d sb g tb R T S σ R' T' S' σ' c ka oa kb ob i) (ho : S.ops ≤ 10000) :
    Calls Tryd.prog 20 #[.pointer (some ⟨d, 0, none⟩)] w fun e w' => ∃ R2, e = .returned (.string (str (areaC c 0 10))) ∧ Tw w1 w' d sb g tb R2 T (S.more 10) σ R' T' S' σ' c ka oa kb ob i := by
  refine (su_area h.s (by omega) (by omega)).mono ?_
  rintro e w' ⟨R2, rfl, hs, hx, hk, -⟩
  refine ⟨R2, rfl, { h with s := hs, t := h.t.apart hk (fun k hk => ⟨fun e => h.dj k (.inl hk) (.inl e), fun e => h.dj k (.inl hk) (.inr e), (h.s.reg k (.inl hk)).1⟩), dj := fun k hk e => ?_ }⟩
  have hl := (h.t.reg k e).2
  rcases hk with hk | hk
  · exact h.dj k (.inl ((hx k hk).resolve_right (by omega))) e
  · exact h.dj k (.inr hk) e
theorem Tw.area2 (h : Tw w1 w d sb g tb R T S σ R' T' S' σ' c ka oa kb ob i) (ho : S'.ops ≤ 10000) :
    Calls Tryd.prog 20 #[.pointer (some ⟨g, 0, none⟩)] w fun e w' => ∃ R2, e = .returned (.string (str (areaC c 0 10))) ∧ Tw w1 w' d sb g tb R T S σ R2 T' (S'.more 10) σ' c ka oa kb ob i := by
  refine (su_area h.t (by omega) (by omega)).mono ?_
  rintro e w' ⟨R2, rfl, hs, hx, hk, -⟩
  refine ⟨R2, rfl, { h with t := hs, s := h.s.apart hk (fun k hk => ⟨fun e => h.dj k (.inl e) (.inl hk), fun e => h.dj k (.inr e) (.inl hk), (h.t.reg k (.inl hk)).1⟩), dj := fun k hk e => ?_ }⟩
  have hl := (h.s.reg k hk).2
  rcases e with e | e
  · exact h.dj k hk (.inl ((hx k e).resolve_right (by omega)))
  · exact h.dj k hk (.inr e)
end
theorem rc_first (f : Nat) (c : Nat → List UInt8) (hf : Hf c f 5 1 none) (hl : ∀ i, f ≤ i → i < f + 5 → (c i).length = 512) (h2 : c (f + 2) = full 0) (h3 : c (f + 3) = full 0) : Rc c f 1 1 := by
  obtain ⟨l, n', u, hr, hn, ho, -⟩ := hf.told (by omega) (by omega) hl
  have := ho rfl
  subst this
  exact ⟨⟨[], u, by rw [hr, hn], rfl⟩, by rw [h2]; exact dud_full, by rw [h3]; exact dud_full, hl⟩

set_option maxRecDepth 100000 in
set_option maxHeartbeats 16000000 in
theorem sagain_w (w : World) (hT : Tab w) (v : Value) (zs : List Int) (hv : Nums .i64 w v zs) (hfi : Fits v) (a1 : Int) :
    Calls Tryd.prog 9 #[v, .int .i64 a1] w fun e w' => e = .returned (.bool true) ∧ Calm w w' := by
  have SH := Lib.hid (shown4_c w hT)
  have HT := Lib.hid hT
  obtain ⟨A, cap, rfl⟩ := hv.form
  have hzl := hfi.len
  have HV := Lib.hid hv
  clear hT hv hfi
  go_enter Tryd.func9, Tryd.ntmps9
  go_wp2_with fail
  refine SH.out.mono ?_
  rintro e w1 ⟨rfl, c1⟩
  have C1 := Lib.hid c1
  have T1 := Lib.hid (HT.out.calm c1)
  have N := Lib.hid (new_up w1 10 (by omega) (by omega))
  clear c1 SH
  go_wp2_with fail
  refine N.out.mono ?_
  rintro e w2 ⟨R2, d, S2, rfl, h2, u2, s2, e2, o2, c2⟩
  have N2 := Lib.hid (new_up w2 10 (by omega) (by omega))
  have H2 := Lib.hid (And.intro h2 (And.intro u2 (And.intro s2 (And.intro e2 (And.intro o2 c2)))))
  clear N h2 u2 s2 e2 o2 c2
  go_wp2_with fail
  refine N2.out.mono ?_
  rintro e w3 ⟨R3, g, S3, rfl, h3, u3, s3, e3, o3, c3⟩
  obtain ⟨h2, u2, s2, e2, o2, c2⟩ := H2.out
  have FM := Lib.hid (su_format T1.out (h2.rest c3) u2 s2 e2 (by omega) (by omega))
  have H3 := Lib.hid (And.intro h3 (And.intro u3 (And.intro s3 (And.intro e3 (And.intro o3 (And.intro c3 (And.intro c2 (And.intro o2 (And.intro h2.st.lt h2.st.new)))))))))
  clear N2 h3 u3 s3 e3 o3 c3 h2 u2 s2 e2 o2 c2 H2
  go_wp2_with fail
  refine FM.out.mono ?_
  rintro e w4 ⟨R4, T4, S4, sb, σ4, rfl, x4, k4, t4, h4, o4, l1, l2, kn4⟩
  obtain ⟨h3, u3, s3, e3, o3, c3, c2, o2, lt2, new2⟩ := H3.out
  have hn3 := h3.st.new
  have hl3 := h3.st.lt
  have h3' : Sd w1 w4 R3 g S3 := (h3.base c2).apart k4 (fun k hk => ⟨fun e => absurd (hn3 k e) (by have := lt2 k hk; omega), new2 k hk⟩)
  have FM2 := Lib.hid (su_format T1.out h3' u3 s3 e3 (by omega) (by omega))
  have H4 := Lib.hid (And.intro h4 (And.intro x4 (And.intro t4 (And.intro o4 (And.intro l1 (And.intro l2 kn4))))))
  have B3 := Lib.hid (And.intro hn3 (And.intro hl3 (And.intro lt2 (And.intro new2 (And.intro c2.size (And.intro o2 o3))))))
  clear FM h4 x4 t4 o4 l1 l2 kn4 h3 u3 s3 e3 o3 c3 c2 o2 lt2 new2 hn3 hl3 h3' k4 H3
  go_wp2_with fail
  refine FM2.out.mono ?_
  rintro e w5 ⟨R5, T5, S5, tb, σ5, rfl, x5, k5, t5, h5, o5, m1, m2, kn5⟩
  have I0 : Hid (Tw w1 w5 d sb g tb R4 T4 S4 σ4 R5 T5 S5 σ5 (upd (upd (fun _ => full 0) 0 (begP 1)) (10 / 2) (begP 1)) 1 none 1 none 0 ∧ S4.ops ≤ 10 ∧ S5.ops ≤ 10) := Lib.hid (by
    obtain ⟨h4, x4, t4, o4, l1, l2, kn4⟩ := H4.out
    obtain ⟨hn3, hl3, lt2, new2, z2, o2, o3⟩ := B3.out
    have sep : ∀ k, R3 k → ¬ R4 k ∧ ¬ T4 k ∧ w1.heap.size ≤ k := fun k hk => by
      have a1 := hn3 k hk
      have a2 := hl3 k hk
      refine ⟨fun e => ?_, fun e => absurd (t4 k e) (by omega), by omega⟩
      rcases x4 k e with e | e
      · have := lt2 k e; omega
      · omega
    refine ⟨⟨h4.apart k5 sep, h5, fun k hk e => ?_, ?_, ?_, by omega, by omega, by omega, by omega, by rw [count0 kn4]; omega⟩, by omega, by omega⟩
    · have hl := (h4.reg k hk).2
      rcases e with e | e
      · rcases x5 k e with e | e
        · exact hk.elim (sep k e).1 (sep k e).2.1
        · omega
      · have := t5 k e; omega
    · rw [l1]; exact rc_first 0 _ h4.a.hf (fun i _ h2 => h4.len i (by omega)) (by simp [upd]) (by simp [upd])
    · rw [l2]; exact rc_first 5 _ h4.b.hf (fun i _ h2 => h4.len i (by omega)) (by simp [upd]) (by simp [upd]))
  clear FM2 x5 k5 t5 h5 o5 m1 m2 kn5 H4 B3
  go_wp2_with fail
  go_loopw [12, 14] (fun v12 v14 wr => ∃ (i tbq : Nat), i ≤ 15 ∧ i ≤ zs.length ∧ v12 = .pointer (some ⟨tbq, 0, none⟩) ∧ v14 = .int .i64 (i : Int) ∧ ∃ R T S σ R' T' S' σ' c ka oa kb ob, Tw w1 wr d sb g tbq R T S σ R' T' S' σ' c ka oa kb ob i ∧ S.ops ≤ 10 + 100 * i ∧ S'.ops ≤ 10 + 100 * i) (fun _ v14 _ => 15 - (intOf v14).toNat)
  case atStart => exact ⟨0, tb, by omega, by omega, rfl, rfl, _, _, _, _, _, _, _, _, _, _, _, _, _, I0.out.1, by have := I0.out; omega, by have := I0.out; omega⟩
  case round =>
    obtain ⟨i, tbq, hi15, hil, rfl, rfl, R, T, S, σ, R', T', S', σ', c, ka, oa, kb, ob, htw, ho1, ho2⟩ := hrel
    have ii : (i : Int) ≤ 15 := by omega
    by_cases hgo : i < zs.length ∧ i < 15
    rotate_left
    · have HC := Lib.hid htw.calm
      have hcase : (¬ i < zs.length) ∨ (i < zs.length ∧ ¬ i < 15) := by omega
      clear htw hgo
      rcases hcase with hge | ⟨hlt, hge⟩
      all_goals
        go_wp2_with fail
        go_ret
        exact ⟨rfl, C1.out.trans HC.out⟩
    obtain ⟨hlt, hlt15⟩ := hgo
    have i0 : (i : Int) < (zs.length : Int) := by omega
    have i1 : (i : Int) < 15 := by omega
    obtain ⟨r9, hr9, er9⟩ := mask_nat (a1 / 2 ^ i) 1 1 (by omega) (by decide)
    have hOB : S.ops ≤ 10 + 100 * i ∧ S'.ops ≤ 10 + 100 * i + 10 := by omega
    rcases (show r9 = 0 ∨ r9 = 1 by omega) with rfl | rfl
    · have TW := Lib.hid htw
      have OB := Lib.hid hOB
      clear htw hOB ho1 ho2
      go_upto_region 18 with fail
      clear er9
      obtain ⟨ad, z, rfl, hz, hcell⟩ := HV.out.at_ (C1.out.trans TW.out.calm) i hlt
      obtain ⟨r, hr1, hr⟩ := mask_nat z 16 65535 (by omega) (by decide)
      obtain ⟨m, hm, hm'⟩ : ∃ m : Nat, m ≤ 499 ∧ (r : Int) % 500 = (m : Int) := ⟨r % 500, by omega, by omega⟩
      obtain ⟨cc, hcc⟩ : ∃ cc : UInt8, (cc.toNat : Int) = (i : Int) := ⟨UInt8.ofNat i, by rw [UInt8.toNat_ofNat']; omega⟩
      have TX := text4_c m cc wr (by omega)
      rw [hcc] at TX
      have HTX := Lib.hid TX
      clear TX hz hcc
      go_wp2_with fail
      try rw [hm']
      clear hr hm' hr1
      refine HTX.out.mono ?_
      rintro e w5 ⟨rfl, c5⟩
      obtain ⟨c6, w6, q6, r6, k6, z6⟩ := conv_bytes w5 (List.replicate m cc) (by simp; unfold maxLen; omega)
      rw [List.length_replicate] at q6 r6
      have h6 := TW.out.rest (c5.trans k6)
      have SV := Lib.hid (h6.save T1.out (by omega) (by have := OB.out; omega) (by have := OB.out; omega) m cc hm w5.heap.size c6 r6 (by omega) (fun e => by
        have := (TW.out.s.reg _ e).2
        have := c5.size
        omega))
      clear HTX r6 k6 z6 h6 c5 hcell
      go_wp2_with fail
      refine SV.out.mono ?_
      rintro e w7 ⟨rfl, R7, T7, S7, o7, sv2⟩
      have SV2 := Lib.hid sv2
      clear SV sv2 q6
      go_wp2_with fail
      refine SV2.out.mono ?_
      rintro e w8 ⟨rfl, R8, T8, S8, c8, ka8, oa8, kb8, ob8, o8, tw8⟩
      have TW8 := Lib.hid tw8
      have OB8 : Hid (S7.ops ≤ 10 + 100 * i + 60 ∧ S8.ops ≤ 10 + 100 * i + 60) := Lib.hid (by have := OB.out; omega)
      have AR := Lib.hid (tw8.area1 (by have := OB8.out; omega))
      clear SV2 tw8 o7 o8
      go_wp2_with fail
      refine AR.out.mono ?_
      rintro e w9 ⟨R9, rfl, tw9⟩
      have AR2 := Lib.hid (tw9.area2 (by have := OB8.out; omega))
      clear AR tw9
      go_wp2_with fail
      refine AR2.out.mono ?_
      rintro e w10 ⟨R10, rfl, tw10⟩
      have TW10 := Lib.hid tw10
      clear AR2 tw10
      have tne := str_bne_no (a := areaC c8 0 10) (b := areaC c8 0 10) rfl
      go_wp2_with fail
      go_roundw
      case rel => exact ⟨i + 1, tbq, by omega, by omega, rfl, by go_num, _, _, _, _, _, _, _, _, _, _, _, _, _, TW10.out, by show S7.ops + 10 ≤ _; have := OB8.out; omega, by show S8.ops + 10 ≤ _; have := OB8.out; omega⟩
      case measure => simp [intOf]; omega
    · have OP := Lib.hid (htw.open_ T1.out (by omega) (by omega))
      clear htw
      go_upto_region 14 with fail
      clear er9
      go_wp2_with fail
      refine OP.out.mono ?_
      rintro e wq ⟨tbq2, R2, T2, S2, σ2, rfl, htw, o2⟩
      have TW := Lib.hid htw
      have OB : Hid (S.ops ≤ 10 + 100 * i ∧ S2.ops ≤ 10 + 100 * i + 10) := Lib.hid (by omega)
      clear htw hOB ho1 ho2 o2 OP
      go_upto_region 18 with fail
      obtain ⟨ad, z, rfl, hz, hcell⟩ := HV.out.at_ (C1.out.trans TW.out.calm) i hlt
      obtain ⟨r, hr1, hr⟩ := mask_nat z 16 65535 (by omega) (by decide)
      obtain ⟨m, hm, hm'⟩ : ∃ m : Nat, m ≤ 499 ∧ (r : Int) % 500 = (m : Int) := ⟨r % 500, by omega, by omega⟩
      obtain ⟨cc, hcc⟩ : ∃ cc : UInt8, (cc.toNat : Int) = (i : Int) := ⟨UInt8.ofNat i, by rw [UInt8.toNat_ofNat']; omega⟩
      have TX := text4_c m cc wq (by omega)
      rw [hcc] at TX
      have HTX := Lib.hid TX
      clear TX hz hcc
      go_wp2_with fail
      try rw [hm']
      clear hr hm' hr1
      refine HTX.out.mono ?_
      rintro e w5 ⟨rfl, c5⟩
      obtain ⟨c6, w6, q6, r6, k6, z6⟩ := conv_bytes w5 (List.replicate m cc) (by simp; unfold maxLen; omega)
      rw [List.length_replicate] at q6 r6
      have h6 := TW.out.rest (c5.trans k6)
      have SV := Lib.hid (h6.save T1.out (by omega) (by have := OB.out; omega) (by have := OB.out; omega) m cc hm w5.heap.size c6 r6 (by omega) (fun e => by
        have := (TW.out.s.reg _ e).2
        have := c5.size
        omega))
      clear HTX r6 k6 z6 h6 c5 hcell
      go_wp2_with fail
      refine SV.out.mono ?_
      rintro e w7 ⟨rfl, R7, T7, S7, o7, sv2⟩
      have SV2 := Lib.hid sv2
      clear SV sv2 q6
      go_wp2_with fail
      refine SV2.out.mono ?_
      rintro e w8 ⟨rfl, R8, T8, S8, c8, ka8, oa8, kb8, ob8, o8, tw8⟩
      have TW8 := Lib.hid tw8
      have OB8 : Hid (S7.ops ≤ 10 + 100 * i + 60 ∧ S8.ops ≤ 10 + 100 * i + 60) := Lib.hid (by have := OB.out; omega)
      have AR := Lib.hid (tw8.area1 (by have := OB8.out; omega))
      clear SV2 tw8 o7 o8
      go_wp2_with fail
      refine AR.out.mono ?_
      rintro e w9 ⟨R9, rfl, tw9⟩
      have AR2 := Lib.hid (tw9.area2 (by have := OB8.out; omega))
      clear AR tw9
      go_wp2_with fail
      refine AR2.out.mono ?_
      rintro e w10 ⟨R10, rfl, tw10⟩
      have TW10 := Lib.hid tw10
      clear AR2 tw10
      have tne := str_bne_no (a := areaC c8 0 10) (b := areaC c8 0 10) rfl
      go_wp2_with fail
      go_roundw
      case rel => exact ⟨i + 1, tbq2, by omega, by omega, rfl, by go_num, _, _, _, _, _, _, _, _, _, _, _, _, _, TW10.out, by show S7.ops + 10 ≤ _; have := OB8.out; omega, by show S8.ops + 10 ≤ _; have := OB8.out; omega⟩
      case measure => simp [intOf]; omega
end Go.Proofs.YtfigiofiakkbdaaDoor
