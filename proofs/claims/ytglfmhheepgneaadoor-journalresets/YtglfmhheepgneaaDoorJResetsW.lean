/-
  JournalResets, walked.
-/
import Derived.Test.YtglfmhheepgneaaDoorJC4
namespace Go.Proofs.YtglfmhheepgneaaDoor
open Go.RowKit
set_option linter.all false

theorem secsOf_one {n : Nat} (h : n ≤ 300) : secsOf n = 1 := by unfold secsOf; omega
theorem secsAll_ones {l : List (List UInt8)} (h : ∀ b ∈ l, b.length ≤ 300) : secsAll l = l.length := by
  induction l with
  | nil => rfl
  | cons b l ih => simp only [secsAll, List.length_cons]; rw [secsOf_one (h b (by simp)), ih (fun x hx => h x (by simp [hx]))]; omega
/-- All numbers that stand behind the beginning are at most m. -/
def Nums8 (c : Nat → List UInt8) (m : Nat) : Prop := ∀ i, 1 ≤ i → (c i).length = 512 ∧ num ((c i).take 8) ≤ m
theorem Nums8.zeros : Nums8 (upd (fun _ => full 0) 0 (begP 1)) 0 := fun i hi => by
  unfold upd
  rw [if_neg (by omega), num_full0]
  exact ⟨by unfold full; rw [List.length_replicate], Nat.le_refl _⟩
theorem Nums8.put {c : Nat → List UInt8} {m f n : Nat} {b : List UInt8} (h : Nums8 c m) (hb : secsOf b.length = 1) (hn : n ≤ 4611686018427387905) : Nums8 (putAt c f (recP n b) (secsOf b.length - 1)) (max m n) := fun i hi => by
  unfold putAt
  have hl := rec_len n b
  rw [hb] at hl ⊢
  split
  · have e : secAt (recP n b) (i - f) = recP n b := by
      rename_i hh
      rw [show i - f = 0 by omega, secAt, Nat.mul_zero, List.drop_zero, List.take_of_length_le (by omega)]
    rw [e]
    have := rec_take8 n b [] hn
    rw [List.append_nil] at this
    exact ⟨by omega, by rw [this]; omega⟩
  · exact ⟨(h i hi).1, Nat.le_trans (h i hi).2 (Nat.le_max_left _ _)⟩
theorem cutAll_snoc {ss : List (List UInt8)} {i : Nat} {s : List UInt8} (h : ss[i]? = some s) (n : Nat) : (ss.take (i + 1)).map (·.take n) = (ss.take i).map (·.take n) ++ [s.take n] := by
  rw [List.take_add_one, h]; simp
theorem cutAll_len {ss : List (List UInt8)} {i : Nat} (h : i ≤ ss.length) (n : Nat) : ((ss.take i).map (·.take n)).length = i := by simp; omega
theorem cutAll_le (ss : List (List UInt8)) (i n : Nat) : ∀ b ∈ (ss.take i).map (·.take n), b.length ≤ n := by
  intro b hb
  obtain ⟨x, _, rfl⟩ := List.mem_map.1 hb
  simp; omega

set_option maxRecDepth 100000 in
set_option maxHeartbeats 8000000 in
theorem resets_c (w : World) (hT : Tab w) (va vb : Value) (sa sb : List (List UInt8)) (hva : Strv w va sa) (hvb : Strv w vb sb) :
    Calls Tryd.prog 8 #[va, vb] w fun e w' => e = .returned (.bool true) ∧ Calm w w' := by
  obtain ⟨Aa, capa, rfl, hma⟩ := hva.form
  obtain ⟨Ab, capb, rfl, hmb⟩ := hvb.form
  unfold maxLen at hma hmb
  have SH := Lib.hid (shown_c w hT)
  have HT := Lib.hid hT
  have HVa := Lib.hid hva
  have HVb := Lib.hid hvb
  clear hT hva hvb
  go_enter Tryd.func8, Tryd.ntmps8
  go_wp2_with fail
  refine SH.out.mono ?_
  rintro e w1 ⟨rfl, c1⟩
  have C1 := Lib.hid c1
  have T1 := Lib.hid (HT.out.calm c1)
  have N := Lib.hid (new_up w1 20 (by omega) (by omega))
  clear c1 SH
  go_wp2_with fail
  refine N.out.mono ?_
  rintro e w2 ⟨R2, d, S2, rfl, s2, u2, sh2, e2, o2, c2⟩
  have FM := Lib.hid (jformat_up (f := 0) (k := 20) T1.out s2 u2 sh2 (by omega) (by omega) (by unfold DS.fine; rw [e2, o2]; simp))
  have HO2 := Lib.hid o2
  clear s2 u2 sh2 e2 o2 N c2
  go_wp2_with fail
  refine FM.out.mono ?_
  rintro e w3 ⟨R3, S3, jb, rfl, -, f3, -, -, e3, -, o3⟩
  have F3 : Hid (Chained w1 w3 R3 d jb S3 0 20 1 [] (fun _ => full 0) 20 (upd (fun _ => full 0) 0 (begP 1))) := Lib.hid ⟨f3, Chain.beg _ 0 20 1 (by omega)⟩
  have HE3 : Hid (S3.wait.length ≤ 0 ∧ S3.ops ≤ 2) := Lib.hid (by rw [e3, o3, HO2.out]; simp)
  clear f3 e3 o3 FM
  go_upto_block 0 with fail
  go_cut [] (fun wc => ∃ (i : Nat) (Rr : Nat → Prop) (Sr : DS) (l : List (List UInt8)) (c : Nat → List UInt8), i ≤ 8 ∧ Chained w1 wc Rr d jb Sr 0 20 1 l (fun _ => full 0) 20 c ∧ l.length = i ∧ Nums8 c (i + 1) ∧ Sr.wait.length ≤ i ∧ Sr.ops ≤ 2 + 2 * i)
  case first =>
   go_wp2_with fail
   go_loopw [10] (fun v10 wr => ∃ (i : Nat) (Rr : Nat → Prop) (Sr : DS) (l : List (List UInt8)) (c : Nat → List UInt8), i ≤ 8 ∧ i ≤ sa.length ∧ v10 = .int .i64 (i : Int) ∧ Chained w1 wr Rr d jb Sr 0 20 1 l (fun _ => full 0) 20 c ∧ l.length = i ∧ (∀ b ∈ l, b.length ≤ 300) ∧ Nums8 c (i + 1) ∧ Sr.wait.length ≤ i ∧ Sr.ops ≤ 2 + 2 * i) (fun v10 _ => 8 - (intOf v10).toNat)
   case atStart => exact ⟨0, R3, S3, [], _, by omega, by omega, rfl, F3.out, rfl, by simp, fun i hi => ⟨(Nums8.zeros i hi).1, Nat.le_trans (Nums8.zeros i hi).2 (by omega)⟩, by have := HE3.out; omega, by have := HE3.out; omega⟩
   case round =>
     obtain ⟨i, Rr, Sr, l, c, hi8, hil, rfl, hfl, hli, hlb, hnu, hwl, hol⟩ := hrel
     have ii8 : (i : Int) ≤ 8 := by omega
     have hsl1 := secsAll_ones hlb
     by_cases hgo : i < sa.length ∧ i < 8
     · obtain ⟨hlt, hlt8⟩ := hgo
       have i0 : (i : Int) < (sa.length : Int) := by omega
       have i1 : (i : Int) < 8 := by omega
       obtain ⟨ad, s, rfl, hsi, hsl, hadb, hcell⟩ := HVa.out.at_ (C1.out.trans hfl.calm) i hlt
       obtain ⟨q, hq, hq1, hq2, hq3⟩ := cut_len s.length 300
       have hq' : (if (300 : Int) < (s.length : Int) then (300 : Int) else (s.length : Int)) = (q : Int) := hq
       have se : (str s).extract 0 q = str (s.take q) := by rw [str_extract]; simp
       have ssz := str_size s
       have htl : (s.take q).length = q := by simp; omega
       have htk : s.take q = s.take 300 := by rw [hq3]; rw [List.take_eq_take_iff]; omega
       unfold maxLen at hsl
       obtain ⟨cc, W4, qc, rd4, cm4, z4⟩ := conv_bytes wr.drew (s.take q) (by rw [htl]; unfold maxLen; omega)
       rw [htl] at qc rd4
       have hcW : W4.cell? (ad.add i) = some (.string (str s)) := (cm4.cell (p := ad.add i) (World.block_lt_of_cell? _ _ hcell) (fun e => e)).trans hcell
       have qi : (q : Int) ≤ 300 := by omega
       have qj : (q : Int) ≤ (s.length : Int) := by omega
       have HTK := Lib.hid htk
       have HSI := Lib.hid hsi
       have HRd := Lib.hid rd4
       have HCM := Lib.hid ((Keep.refl (fun _ => False) wr).drew.trans cm4)
       have HQ := Lib.hid (And.intro htl (And.intro hq1 (And.intro hq2 hsl)))
       clear hq hq3 htl htk hsi rd4 cm4 hadb
       have F4 := hfl.rest HCM.out
       have hq1s : secsOf (s.take q).length = 1 := secsOf_one (by have := HQ.out; omega)
       have AP := chained_append T1.out F4 (by omega) _ (s.take q) HRd.out (by rw [hq1s, hsl1]; omega) (by omega) (by rw [hq1s]; unfold DS.fine; omega)
       have HAP := Lib.hid AP
       have HN : Hid (Nums8 (putAt c (0 + (1 + secsAll l)) (recP (1 + 1 + l.length) (s.take q)) (secsOf (s.take q).length - 1)) (i + 1 + 1)) := Lib.hid (by
         have := hnu.put (f := 0 + (1 + secsAll l)) (n := 1 + 1 + l.length) hq1s (by omega)
         intro k hk
         exact ⟨(this k hk).1, Nat.le_trans (this k hk).2 (by omega)⟩)
       have HL := Lib.hid (And.intro hli (And.intro hlb (And.intro hwl (And.intro hol hq1s))))
       clear hfl F4 AP hnu hli hlb hwl hol hq1s hsl1
       go_upto_region 11 with fail
       refine wp_region_noPanic ?_
       refine wp_region_held_drew (S := fun wx => wx.cell? (ad.add i) = some (.string (str s))) (by kernel_rfl) hcell (fun hHeld => ?_)
       refine take_at 0 46 (.pointer (some ⟨jb, 0, none⟩)) rfl rfl (by kernel_rfl) (by kernel_rfl) (by kernel_rfl) (fun _ _ _ h => h) (Or.inl ⟨by rfl, ?_⟩) hHeld ?_
       · intro w hSw; go_simp
       simp only [List.setIfInBounds_toArray, List.set_cons_zero, List.set_cons_succ]
       refine take_at 1 47 (.slice (some ad) sa.length capa) rfl rfl (by kernel_rfl) (by kernel_rfl) (by kernel_rfl) (fun _ _ _ h => h) (Or.inl ⟨by rfl, ?_⟩) hHeld ?_
       · intro w hSw; go_simp
       simp only [List.setIfInBounds_toArray, List.set_cons_zero, List.set_cons_succ]
       refine take_at 2 48 (.int .i64 (i : Int)) rfl rfl (by kernel_rfl) (by kernel_rfl) (by kernel_rfl) (fun _ _ _ h => h) (Or.inl ⟨by rfl, ?_⟩) hHeld ?_
       · intro w hSw; go_simp
       simp only [List.setIfInBounds_toArray, List.set_cons_zero, List.set_cons_succ]
       refine take_at 3 49 (.pointer (some (ad.add i))) rfl rfl (by kernel_rfl) (by kernel_rfl) (by kernel_rfl) (fun _ _ _ h => h) (Or.inl ⟨by rfl, ?_⟩) hHeld ?_
       · intro w hSw; go_simp
       simp only [List.setIfInBounds_toArray, List.set_cons_zero, List.set_cons_succ]
       refine take_at 4 50 (.string (str s)) rfl rfl (by kernel_rfl) (by kernel_rfl) (by kernel_rfl) (fun _ _ _ h => h) (Or.inl ⟨by rfl, ?_⟩) hHeld ?_
       · intro w hSw; go_simp
       simp only [List.setIfInBounds_toArray, List.set_cons_zero, List.set_cons_succ]
       refine take_at 5 51 (.slice (some ad) sa.length capa) rfl rfl (by kernel_rfl) (by kernel_rfl) (by kernel_rfl) (fun _ _ _ h => h) (Or.inl ⟨by rfl, ?_⟩) hHeld ?_
       · intro w hSw; go_simp
       simp only [List.setIfInBounds_toArray, List.set_cons_zero, List.set_cons_succ]
       refine take_at 6 52 (.int .i64 (i : Int)) rfl rfl (by kernel_rfl) (by kernel_rfl) (by kernel_rfl) (fun _ _ _ h => h) (Or.inl ⟨by rfl, ?_⟩) hHeld ?_
       · intro w hSw; go_simp
       simp only [List.setIfInBounds_toArray, List.set_cons_zero, List.set_cons_succ]
       refine take_at 7 53 (.pointer (some (ad.add i))) rfl rfl (by kernel_rfl) (by kernel_rfl) (by kernel_rfl) (fun _ _ _ h => h) (Or.inl ⟨by rfl, ?_⟩) hHeld ?_
       · intro w hSw; go_simp
       simp only [List.setIfInBounds_toArray, List.set_cons_zero, List.set_cons_succ]
       refine take_at 8 54 (.string (str s)) rfl rfl (by kernel_rfl) (by kernel_rfl) (by kernel_rfl) (fun _ _ _ h => h) (Or.inl ⟨by rfl, ?_⟩) hHeld ?_
       · intro w hSw; go_simp
       simp only [List.setIfInBounds_toArray, List.set_cons_zero, List.set_cons_succ]
       refine take_at 9 55 (.int .i64 (s.length : Int)) rfl rfl (by kernel_rfl) (by kernel_rfl) (by kernel_rfl) (fun _ _ _ h => h) (Or.inl ⟨by rfl, ?_⟩) hHeld ?_
       · intro w hSw; go_simp
       simp only [List.setIfInBounds_toArray, List.set_cons_zero, List.set_cons_succ]
       refine take_at 10 56 (.int .i64 (q : Int)) rfl rfl (by kernel_rfl) (by kernel_rfl) (by kernel_rfl) (fun _ _ _ h => h) (Or.inl ⟨by rfl, ?_⟩) hHeld ?_
       · intro w hSw; go_simp
       simp only [List.setIfInBounds_toArray, List.set_cons_zero, List.set_cons_succ]
       refine take_at 11 57 (.string (str (s.take q))) rfl rfl (by kernel_rfl) (by kernel_rfl) (by kernel_rfl) (fun _ _ _ h => h) (Or.inl ⟨by rfl, ?_⟩) hHeld ?_
       · intro w hSw; go_simp
       simp only [List.setIfInBounds_toArray, List.set_cons_zero, List.set_cons_succ]
       refine wpAnyH_ready (rs := [12]) (by kernel_rfl) (by simp) ?_
       refine AllReadyH.cons rfl (fun K hK => ?_) AllReadyH.nil
       go_simp
       refine hK.out _ _ hcW (fun hHeld => ?_)
       clear hK K
       try simp only [List.setIfInBounds_toArray, List.set_cons_zero, List.set_cons_succ]
       refine wpAnyH_ready (rs := [13]) (by kernel_rfl) (by simp) ?_
       refine AllReadyH.cons rfl (fun K hK => ?_) AllReadyH.nil
       go_simp
       refine HAP.out.mono ?_
       rintro e w9 ⟨R9, S9, rfl, f9, -, -, x9, y9, -⟩
       have F9 := Lib.hid f9
       have X9 := Lib.hid (And.intro x9 y9)
       have hc9 : w9.cell? (ad.add i) = some (.string (str s)) := by
         obtain ⟨ad', s', e1, e2, -, -, e4⟩ := HVa.out.at_ (C1.out.trans f9.calm) i hlt
         cases e1
         rw [HSI.out] at e2
         cases e2
         exact e4
       clear f9 x9 y9
       refine hK.out _ _ hc9 (fun hHeld => ?_)
       clear hK K
       try simp only [List.setIfInBounds_toArray, List.set_cons_zero, List.set_cons_succ]
       refine wpAnyH_done (by kernel_rfl) (NoPanic.normal ?_) _
       clear hHeld HAP qc hcell se hq' ssz hcW
       go_wp2_with fail
       go_roundw
       case rel =>
         have L := HL.out
         have X := X9.out
         rw [L.2.2.2.2] at X
         refine ⟨i + 1, R9, S9, l ++ [s.take q], _, by omega, by omega, by go_num, F9.out, by simp; omega, fun b hb => ?_, HN.out, by omega, by omega⟩
         rcases List.mem_append.1 hb with hb | hb
         · exact L.2.1 b hb
         · simp only [List.mem_singleton] at hb; subst hb; have := HQ.out; omega
       case measure => simp [intOf]; omega
     · have HE := Lib.hid (And.intro hfl (And.intro hli (And.intro hnu (And.intro hwl hol))))
       have hcase : (¬ i < sa.length) ∨ (i < sa.length ∧ ¬ i < 8) := by omega
       clear hfl hli hnu hwl hol hlb hsl1 hgo
       rcases hcase with hge | ⟨hlt, hge⟩
       all_goals
         go_wp2_with fail
         go_meet
         case rel => exact ⟨i, Rr, Sr, l, c, hi8, HE.out.1, HE.out.2.1, HE.out.2.2.1, HE.out.2.2.2.1, HE.out.2.2.2.2⟩
  case rest =>
    obtain ⟨i, Rr, Sr, l, c, hi8, hfl, hli, hnu, hwl, hol⟩ := hcut
    have CM := Lib.hid (jcommit_up hfl.ju rfl (by unfold DS.fine; omega))
    have HL := Lib.hid (And.intro hli (And.intro hnu (And.intro hol hfl.ch)))
    obtain ⟨k, hk⟩ : ∃ k, k = 1 + l.length + 1 := ⟨_, rfl⟩
    have hkb : k ≤ 10 := by omega
    have hk1 : 1 ≤ k := by omega
    have hk2 : k = i + 2 := by omega
    have Hk := Lib.hid hk
    have Hk2 := Lib.hid hk2
    clear hfl hli hnu hwl hol hk hk2
    go_wp2_with fail
    refine CM.out.mono ?_
    rintro e w4 ⟨R4, S4, rfl, J4, -, -, e4, -, o4⟩
    have NX := jnext_c J4.jn.row (by simp only; have := HL.out.1; omega)
    simp only at NX
    rw [← Hk.out] at NX
    have RS := jreset_up T1.out J4 rfl (by simp only; have := HL.out.1; omega) (by simp only; omega) (by unfold DS.fine; rw [e4, o4]; have := HL.out; simp; omega)
    simp only at RS
    rw [← Hk.out] at RS
    have HNX := Lib.hid NX
    have HRS := Lib.hid RS
    have HE4 : Hid (S4.wait.length ≤ 0 ∧ S4.ops ≤ 30) := Lib.hid (by rw [e4, o4]; have := HL.out.2.2.1; simp; omega)
    clear CM J4 e4 o4 NX RS
    have ki : (k : Int) ≤ 10 := by omega
    go_wp2_with (go_at_call 24; refine HNX.out.mono ?_; rintro e w5 ⟨rfl, rfl⟩)
    refine HRS.out.mono ?_
    rintro e w5 ⟨R5, S5, rfl, J5, -, -, o5, l5, -, -⟩
    have NX5 := jnext_c J5.jn.row (by simp only; omega)
    simp only at NX5
    rw [show ((k + 1 : Nat) : Int) = (k : Int) + 1 by omega] at NX5
    have HNX5 := Lib.hid NX5
    have F5 : Hid (Chained w1 w5 R5 d jb S5 0 20 k [] c 20 (upd c 0 (begP k))) := Lib.hid ⟨J5, Chain.beg _ 0 20 k (by omega)⟩
    have HE5 : Hid (S5.wait.length ≤ 1 ∧ S5.ops ≤ 31) := Lib.hid (by have := HE4.out; omega)
    clear HRS J5 o5 l5 NX5 HNX
    go_upto_block 2 with (go_at_call 24; refine HNX5.out.mono ?_; rintro e w6 ⟨rfl, rfl⟩)
    go_cut [12] (fun s12 wc => ∃ (i : Nat) (Rr : Nat → Prop) (Sr : DS) (c2 : Nat → List UInt8), i ≤ 8 ∧ i ≤ sb.length ∧ s12 = .int .i64 (i : Int) ∧ Chained w1 wc Rr d jb Sr 0 20 k ((sb.take i).map (·.take 300)) c 20 c2 ∧ Sr.wait.length ≤ 1 + i ∧ Sr.ops ≤ 31 + 2 * i)
    case first =>
     go_wp2_with fail
     go_loopw [12, 13] (fun v12 v13 wr => ∃ (i : Nat) (Rr : Nat → Prop) (Sr : DS) (c2 : Nat → List UInt8), i ≤ 8 ∧ i ≤ sb.length ∧ v13 = .int .i64 (i : Int) ∧ v12 = .int .i64 (i : Int) ∧ Chained w1 wr Rr d jb Sr 0 20 k ((sb.take i).map (·.take 300)) c 20 c2 ∧ Sr.wait.length ≤ 1 + i ∧ Sr.ops ≤ 31 + 2 * i) (fun _ v13 _ => 8 - (intOf v13).toNat)
     case atStart => exact ⟨0, R5, S5, _, by omega, by omega, rfl, rfl, F5.out, by have := HE5.out; omega, by have := HE5.out; omega⟩
     case round =>
       obtain ⟨i, Rr, Sr, c2, hi8, hil, rfl, rfl, hfl, hwl, hol⟩ := hrel
       have ii8 : (i : Int) ≤ 8 := by omega
       have hlen := cutAll_len hil 300
       have hsl1 := secsAll_ones (cutAll_le sb i 300)
       rw [hlen] at hsl1
       by_cases hgo : i < sb.length ∧ i < 8
       · obtain ⟨hlt, hlt8⟩ := hgo
         have i0 : (i : Int) < (sb.length : Int) := by omega
         have i1 : (i : Int) < 8 := by omega
         obtain ⟨ad, s, rfl, hsi, hsl, hadb, hcell⟩ := HVb.out.at_ (C1.out.trans hfl.calm) i hlt
         obtain ⟨q, hq, hq1, hq2, hq3⟩ := cut_len s.length 300
         have hq' : (if (300 : Int) < (s.length : Int) then (300 : Int) else (s.length : Int)) = (q : Int) := hq
         have se : (str s).extract 0 q = str (s.take q) := by rw [str_extract]; simp
         have ssz := str_size s
         have htl : (s.take q).length = q := by simp; omega
         have htk : s.take q = s.take 300 := by rw [hq3]; rw [List.take_eq_take_iff]; omega
         unfold maxLen at hsl
         obtain ⟨cc, W4, qc, rd4, cm4, z4⟩ := conv_bytes wr.drew (s.take q) (by rw [htl]; unfold maxLen; omega)
         rw [htl] at qc rd4
         have hcW : W4.cell? (ad.add i) = some (.string (str s)) := (cm4.cell (p := ad.add i) (World.block_lt_of_cell? _ _ hcell) (fun e => e)).trans hcell
         have qi : (q : Int) ≤ 300 := by omega
         have qj : (q : Int) ≤ (s.length : Int) := by omega
         have HTK := Lib.hid htk
         have HSI := Lib.hid hsi
         have HRd := Lib.hid rd4
         have HCM := Lib.hid ((Keep.refl (fun _ => False) wr).drew.trans cm4)
         have HQ := Lib.hid (And.intro htl (And.intro hq1 (And.intro hq2 hsl)))
         clear hq hq3 htl htk hsi rd4 cm4 hadb
         have F4 := hfl.rest HCM.out
         have hq1s : secsOf (s.take q).length = 1 := secsOf_one (by have := HQ.out; omega)
         have AP := chained_append T1.out F4 (by omega) _ (s.take q) HRd.out (by rw [hq1s, hsl1]; omega) (by rw [hlen]; omega) (by rw [hq1s]; unfold DS.fine; omega)
         have HSN := Lib.hid (cutAll_snoc HSI.out 300)
         rw [hq1s, HTK.out, ← HSN.out] at AP
         have HAP := Lib.hid AP
         have HL := Lib.hid (And.intro hwl hol)
         clear hfl F4 AP hwl hol hq1s hsl1 hlen
         go_upto_region 20 with fail
         refine wp_region_noPanic ?_
         refine wp_region_held_drew (S := fun wx => wx.cell? (ad.add i) = some (.string (str s))) (by kernel_rfl) hcell (fun hHeld => ?_)
         refine take_at 0 84 (.pointer (some ⟨jb, 0, none⟩)) rfl rfl (by kernel_rfl) (by kernel_rfl) (by kernel_rfl) (fun _ _ _ h => h) (Or.inl ⟨by rfl, ?_⟩) hHeld ?_
         · intro w hSw; go_simp
         simp only [List.setIfInBounds_toArray, List.set_cons_zero, List.set_cons_succ]
         refine take_at 1 85 (.slice (some ad) sb.length capb) rfl rfl (by kernel_rfl) (by kernel_rfl) (by kernel_rfl) (fun _ _ _ h => h) (Or.inl ⟨by rfl, ?_⟩) hHeld ?_
         · intro w hSw; go_simp
         simp only [List.setIfInBounds_toArray, List.set_cons_zero, List.set_cons_succ]
         refine take_at 2 86 (.int .i64 (i : Int)) rfl rfl (by kernel_rfl) (by kernel_rfl) (by kernel_rfl) (fun _ _ _ h => h) (Or.inl ⟨by rfl, ?_⟩) hHeld ?_
         · intro w hSw; go_simp
         simp only [List.setIfInBounds_toArray, List.set_cons_zero, List.set_cons_succ]
         refine take_at 3 87 (.pointer (some (ad.add i))) rfl rfl (by kernel_rfl) (by kernel_rfl) (by kernel_rfl) (fun _ _ _ h => h) (Or.inl ⟨by rfl, ?_⟩) hHeld ?_
         · intro w hSw; go_simp
         simp only [List.setIfInBounds_toArray, List.set_cons_zero, List.set_cons_succ]
         refine take_at 4 88 (.string (str s)) rfl rfl (by kernel_rfl) (by kernel_rfl) (by kernel_rfl) (fun _ _ _ h => h) (Or.inl ⟨by rfl, ?_⟩) hHeld ?_
         · intro w hSw; go_simp
         simp only [List.setIfInBounds_toArray, List.set_cons_zero, List.set_cons_succ]
         refine take_at 5 89 (.slice (some ad) sb.length capb) rfl rfl (by kernel_rfl) (by kernel_rfl) (by kernel_rfl) (fun _ _ _ h => h) (Or.inl ⟨by rfl, ?_⟩) hHeld ?_
         · intro w hSw; go_simp
         simp only [List.setIfInBounds_toArray, List.set_cons_zero, List.set_cons_succ]
         refine take_at 6 90 (.int .i64 (i : Int)) rfl rfl (by kernel_rfl) (by kernel_rfl) (by kernel_rfl) (fun _ _ _ h => h) (Or.inl ⟨by rfl, ?_⟩) hHeld ?_
         · intro w hSw; go_simp
         simp only [List.setIfInBounds_toArray, List.set_cons_zero, List.set_cons_succ]
         refine take_at 7 91 (.pointer (some (ad.add i))) rfl rfl (by kernel_rfl) (by kernel_rfl) (by kernel_rfl) (fun _ _ _ h => h) (Or.inl ⟨by rfl, ?_⟩) hHeld ?_
         · intro w hSw; go_simp
         simp only [List.setIfInBounds_toArray, List.set_cons_zero, List.set_cons_succ]
         refine take_at 8 92 (.string (str s)) rfl rfl (by kernel_rfl) (by kernel_rfl) (by kernel_rfl) (fun _ _ _ h => h) (Or.inl ⟨by rfl, ?_⟩) hHeld ?_
         · intro w hSw; go_simp
         simp only [List.setIfInBounds_toArray, List.set_cons_zero, List.set_cons_succ]
         refine take_at 9 93 (.int .i64 (s.length : Int)) rfl rfl (by kernel_rfl) (by kernel_rfl) (by kernel_rfl) (fun _ _ _ h => h) (Or.inl ⟨by rfl, ?_⟩) hHeld ?_
         · intro w hSw; go_simp
         simp only [List.setIfInBounds_toArray, List.set_cons_zero, List.set_cons_succ]
         refine take_at 10 94 (.int .i64 (q : Int)) rfl rfl (by kernel_rfl) (by kernel_rfl) (by kernel_rfl) (fun _ _ _ h => h) (Or.inl ⟨by rfl, ?_⟩) hHeld ?_
         · intro w hSw; go_simp
         simp only [List.setIfInBounds_toArray, List.set_cons_zero, List.set_cons_succ]
         refine take_at 11 95 (.string (str (s.take q))) rfl rfl (by kernel_rfl) (by kernel_rfl) (by kernel_rfl) (fun _ _ _ h => h) (Or.inl ⟨by rfl, ?_⟩) hHeld ?_
         · intro w hSw; go_simp
         simp only [List.setIfInBounds_toArray, List.set_cons_zero, List.set_cons_succ]
         refine wpAnyH_ready (rs := [12]) (by kernel_rfl) (by simp) ?_
         refine AllReadyH.cons rfl (fun K hK => ?_) AllReadyH.nil
         go_simp
         refine hK.out _ _ hcW (fun hHeld => ?_)
         clear hK K
         try simp only [List.setIfInBounds_toArray, List.set_cons_zero, List.set_cons_succ]
         refine wpAnyH_ready (rs := [13]) (by kernel_rfl) (by simp) ?_
         refine AllReadyH.cons rfl (fun K hK => ?_) AllReadyH.nil
         go_simp
         refine HAP.out.mono ?_
         rintro e w9 ⟨R9, S9, rfl, f9, -, -, x9, y9, -⟩
         have F9 := Lib.hid f9
         have X9 := Lib.hid (And.intro x9 y9)
         have hc9 : w9.cell? (ad.add i) = some (.string (str s)) := by
           obtain ⟨ad', s', e1, e2, -, -, e4⟩ := HVb.out.at_ (C1.out.trans f9.calm) i hlt
           cases e1
           rw [HSI.out] at e2
           cases e2
           exact e4
         clear f9 x9 y9
         refine hK.out _ _ hc9 (fun hHeld => ?_)
         clear hK K
         try simp only [List.setIfInBounds_toArray, List.set_cons_zero, List.set_cons_succ]
         refine take_at 14 98 (.bool false) rfl rfl (by kernel_rfl) (by kernel_rfl) (by kernel_rfl) (fun _ _ _ h => h) (Or.inl ⟨by rfl, ?_⟩) hHeld ?_
         · intro w hSw; go_simp
         simp only [List.setIfInBounds_toArray, List.set_cons_zero, List.set_cons_succ]
         refine wpAnyH_done (by kernel_rfl) (NoPanic.normal ?_) _
         clear hHeld HAP qc hcell se hq' ssz hcW
         go_wp2_with fail
         go_roundw
         case rel =>
           have L := HL.out
           have X := X9.out
           exact ⟨i + 1, R9, S9, _, by omega, by omega, by go_num, by go_num, F9.out, by omega, by omega⟩
         case measure => simp [intOf]; omega
       · have HE := Lib.hid (And.intro hfl (And.intro hwl hol))
         have hcase : (¬ i < sb.length) ∨ (i < sb.length ∧ ¬ i < 8) := by omega
         clear hfl hwl hol hgo hlen hsl1
         rcases hcase with hge | ⟨hlt, hge⟩
         all_goals
           go_wp2_with fail
           go_meet
           case rel => exact ⟨i, Rr, Sr, c2, hi8, hil, rfl, HE.out.1, HE.out.2.1, HE.out.2.2⟩
    case rest =>
      obtain ⟨i, Rr, Sr, c2, hi8, hil, rfl, hfl, hwl, hol⟩ := hcut
      have ii8 : (i : Int) ≤ 8 := by omega
      have hlen := cutAll_len hil 300
      have hsl1 := secsAll_ones (cutAll_le sb i 300)
      rw [hlen] at hsl1
      have CM := Lib.hid (jcommit_up hfl.ju rfl (by unfold DS.fine; omega))
      have hrep := hfl.ch.told (by omega) (by rw [hlen]; omega) (fun b hb => by have := cutAll_le sb i 300 b hb; omega) (fun _ => by
        have := (HL.out.2.1 (0 + (1 + secsAll ((sb.take i).map (·.take 300)))) (by omega)).2
        have := Hk2.out
        rw [hlen]
        omega) (HL.out.2.1 _ (by omega)).1
      rw [hlen, hsl1] at hrep
      have HRep := Lib.hid hrep
      have HL2 := Lib.hid (And.intro hol hlen)
      obtain ⟨L, hLd⟩ : ∃ L, L = (sb.take i).map (·.take 300) := ⟨_, rfl⟩
      rw [← hLd] at HRep HL2
      have HLd := Lib.hid hLd
      clear hfl hwl hol hrep hlen hsl1 hLd
      go_wp2_with fail
      refine CM.out.mono ?_
      rintro e w7 ⟨R7, S7, rfl, J7, -, -, e7, b7, o7⟩
      have CR := Lib.hid (sd_crash0 J7.jn.sd (by rw [e7]; simp))
      have HB7 := Lib.hid (And.intro b7 (And.intro J7.shows.1 (And.intro e7 o7)))
      clear CM J7 b7 e7 o7
      go_wp2_with fail
      refine CR.out.mono ?_
      rintro e w8 ⟨R8, rfl, h8, -, -⟩
      have ST := Lib.hid (sd_start h8 rfl)
      clear h8 CR
      go_wp2_with fail
      refine ST.out.mono ?_
      rintro e w9 ⟨R9, rfl, h9, -, -⟩
      have SHW := DS.Shows.lost HB7.out.1 HB7.out.2.1
      have OP := Lib.hid (jopen_up (f := 0) (k := 20) T1.out h9 ⟨rfl, rfl⟩ SHW (by omega) (by omega) (by unfold DS.fine; simp only [DS.crash]; rw [HB7.out.2.2.2]; have := HL2.out.1; simp; omega))
      clear h9 ST SHW
      go_wp2_with fail
      refine OP.out.mono ?_
      rintro e w11 ⟨R11, q11, hq11, x11, k11, s11, ⟨hno, -⟩ | ⟨out, n', used, A', cc', jb9, hs, rfl, hrc, -, J11, -, -, -, -, -⟩⟩
      · rw [HRep.out] at hno; cases hno
      rw [HRep.out] at hs
      injection hs with hs
      injection hs with hs1 hs2
      injection hs2 with hs2 hs3
      subst hs1; subst hs2; subst hs3
      rw [HL2.out.2] at hrc ⊢
      have NX := jnext_c J11.jn.row (by simp only; omega)
      simp only at NX
      rw [show ((k + 1 + i - 1 + 1 : Nat) : Int) = (k : Int) + 1 + (i : Int) by omega] at NX
      have HNX := Lib.hid NX
      have HRc := Lib.hid hrc
      have C11 := Lib.hid s11.st.calm
      clear NX hrc J11 s11 x11 k11 OP
      go_wp2_with (go_at_call 24; refine HNX.out.mono ?_; rintro e w12 ⟨rfl, rfl⟩)
      go_loopw [17] (fun v17 wr => ∃ a : Nat, a ≤ i ∧ v17 = .int .i64 (a : Int) ∧ Calm w11 wr) (fun v17 _ => i - (intOf v17).toNat)
      case atStart => exact ⟨0, by omega, rfl, Keep.refl _ _⟩
      case round =>
        obtain ⟨a, hai, rfl, hca⟩ := hrel
        have ia8 : (a : Int) ≤ 8 := by omega
        by_cases hla : a < i
        · have hlt : a < sb.length := by omega
          have ia : (a : Int) < (i : Int) := by omega
          have ja : (a : Int) < (sb.length : Int) := by omega
          obtain ⟨ad, s, rfl, hsi, hsl, hadb, hcell⟩ := HVb.out.at_ (C1.out.trans (C11.out.trans hca)) a hlt
          obtain ⟨q, hq, hq1, hq2, hq3⟩ := cut_len s.length 300
          have hq' : (if (300 : Int) < (s.length : Int) then (300 : Int) else (s.length : Int)) = (q : Int) := hq
          have se : (str s).extract 0 q = str (s.take q) := by rw [str_extract]; simp
          have ssz := str_size s
          have htl : (s.take q).length = q := by simp; omega
          have htk : s.take q = s.take 300 := by rw [hq3]; rw [List.take_eq_take_iff]; omega
          unfold maxLen at hsl
          have qi : (q : Int) ≤ 300 := by omega
          have qj : (q : Int) ≤ (s.length : Int) := by omega
          have hLa : L[a]? = some (s.take q) := by rw [HLd.out, htk, List.getElem?_map, List.getElem?_take, if_pos hla, hsi]; rfl
          obtain ⟨g, x, rfl, hgc, hx⟩ := (HRc.out.calm hca).at_ a _ hLa
          obtain ⟨xg, xo, xc, xcur, rfl, -⟩ := id hx
          have hxr := hx.rd
          rw [htl] at hgc hxr
          have HX := Lib.hid hxr
          have HCA := Lib.hid hca
          have tne := str_bne_no (a := s.take q) (b := s.take q) rfl
          clear hq hq1 hq2 hq3 hadb hsi htk hLa hx hca hxr htl
          go_wp2_with fail
          refine wp_region_noPanic ?_
          refine wp_region_held_drew (S := fun wx => wx.cell? (ad.add a) = some (.string (str s)) ∧ wx.cell? ⟨g, a, none⟩ = some (.slice (some ⟨xg, xo, none⟩) q xc) ∧ Rd wx (.slice (some ⟨xg, xo, none⟩) q xc) (s.take q)) (by kernel_rfl) ⟨hcell, hgc, HX.out⟩ (fun hHeld => ?_)
          refine take_at 0 140 (.slice (some ⟨g, 0, none⟩) i cc') rfl rfl (by kernel_rfl) (by kernel_rfl) (by kernel_rfl) (fun _ _ _ h => h) (Or.inl ⟨by rfl, ?_⟩) hHeld ?_
          · intro w hSw; go_simp
          simp only [List.setIfInBounds_toArray, List.set_cons_zero, List.set_cons_succ]
          refine take_at 1 141 (.int .i64 (a : Int)) rfl rfl (by kernel_rfl) (by kernel_rfl) (by kernel_rfl) (fun _ _ _ h => h) (Or.inl ⟨by rfl, ?_⟩) hHeld ?_
          · intro w hSw; go_simp
          simp only [List.setIfInBounds_toArray, List.set_cons_zero, List.set_cons_succ]
          refine take_at 2 142 (.pointer (some ⟨g, a, none⟩)) rfl rfl (by kernel_rfl) (by kernel_rfl) (by kernel_rfl) (fun _ _ _ h => h) (Or.inl ⟨by rfl, ?_⟩) hHeld ?_
          · intro w hSw; go_simp
          simp only [List.setIfInBounds_toArray, List.set_cons_zero, List.set_cons_succ]
          refine take_at 3 143 (.slice (some ⟨xg, xo, none⟩) q xc) rfl rfl (by kernel_rfl) (by kernel_rfl) (by kernel_rfl) (fun _ _ _ h => h) (Or.inl ⟨by rfl, ?_⟩) hHeld ?_
          · intro w hSw; obtain ⟨s1, s2, s3⟩ := hSw; go_simp
          simp only [List.setIfInBounds_toArray, List.set_cons_zero, List.set_cons_succ]
          refine take_at 4 144 (.string (str (s.take q))) rfl rfl (by kernel_rfl) (by kernel_rfl) (by kernel_rfl) (fun _ _ _ h => h) (Or.inl ⟨by rfl, ?_⟩) hHeld ?_
          · intro w hSw; obtain ⟨s1, s2, s3⟩ := hSw; have qx := conv_rd s3; go_simp
          simp only [List.setIfInBounds_toArray, List.set_cons_zero, List.set_cons_succ]
          refine take_at 5 145 (.slice (some ad) sb.length capb) rfl rfl (by kernel_rfl) (by kernel_rfl) (by kernel_rfl) (fun _ _ _ h => h) (Or.inl ⟨by rfl, ?_⟩) hHeld ?_
          · intro w hSw; go_simp
          simp only [List.setIfInBounds_toArray, List.set_cons_zero, List.set_cons_succ]
          refine take_at 6 146 (.int .i64 (a : Int)) rfl rfl (by kernel_rfl) (by kernel_rfl) (by kernel_rfl) (fun _ _ _ h => h) (Or.inl ⟨by rfl, ?_⟩) hHeld ?_
          · intro w hSw; go_simp
          simp only [List.setIfInBounds_toArray, List.set_cons_zero, List.set_cons_succ]
          refine take_at 7 147 (.pointer (some (ad.add a))) rfl rfl (by kernel_rfl) (by kernel_rfl) (by kernel_rfl) (fun _ _ _ h => h) (Or.inl ⟨by rfl, ?_⟩) hHeld ?_
          · intro w hSw; go_simp
          simp only [List.setIfInBounds_toArray, List.set_cons_zero, List.set_cons_succ]
          refine take_at 8 148 (.string (str s)) rfl rfl (by kernel_rfl) (by kernel_rfl) (by kernel_rfl) (fun _ _ _ h => h) (Or.inl ⟨by rfl, ?_⟩) hHeld ?_
          · intro w hSw; obtain ⟨s1, s2, s3⟩ := hSw; go_simp
          simp only [List.setIfInBounds_toArray, List.set_cons_zero, List.set_cons_succ]
          refine take_at 9 149 (.slice (some ad) sb.length capb) rfl rfl (by kernel_rfl) (by kernel_rfl) (by kernel_rfl) (fun _ _ _ h => h) (Or.inl ⟨by rfl, ?_⟩) hHeld ?_
          · intro w hSw; go_simp
          simp only [List.setIfInBounds_toArray, List.set_cons_zero, List.set_cons_succ]
          refine take_at 10 150 (.int .i64 (a : Int)) rfl rfl (by kernel_rfl) (by kernel_rfl) (by kernel_rfl) (fun _ _ _ h => h) (Or.inl ⟨by rfl, ?_⟩) hHeld ?_
          · intro w hSw; go_simp
          simp only [List.setIfInBounds_toArray, List.set_cons_zero, List.set_cons_succ]
          refine take_at 11 151 (.pointer (some (ad.add a))) rfl rfl (by kernel_rfl) (by kernel_rfl) (by kernel_rfl) (fun _ _ _ h => h) (Or.inl ⟨by rfl, ?_⟩) hHeld ?_
          · intro w hSw; go_simp
          simp only [List.setIfInBounds_toArray, List.set_cons_zero, List.set_cons_succ]
          refine take_at 12 152 (.string (str s)) rfl rfl (by kernel_rfl) (by kernel_rfl) (by kernel_rfl) (fun _ _ _ h => h) (Or.inl ⟨by rfl, ?_⟩) hHeld ?_
          · intro w hSw; obtain ⟨s1, s2, s3⟩ := hSw; go_simp
          simp only [List.setIfInBounds_toArray, List.set_cons_zero, List.set_cons_succ]
          refine take_at 13 153 (.int .i64 (s.length : Int)) rfl rfl (by kernel_rfl) (by kernel_rfl) (by kernel_rfl) (fun _ _ _ h => h) (Or.inl ⟨by rfl, ?_⟩) hHeld ?_
          · intro w hSw; go_simp
          simp only [List.setIfInBounds_toArray, List.set_cons_zero, List.set_cons_succ]
          refine take_at 14 154 (.int .i64 (q : Int)) rfl rfl (by kernel_rfl) (by kernel_rfl) (by kernel_rfl) (fun _ _ _ h => h) (Or.inl ⟨by rfl, ?_⟩) hHeld ?_
          · intro w hSw; go_simp
          simp only [List.setIfInBounds_toArray, List.set_cons_zero, List.set_cons_succ]
          refine take_at 15 155 (.string (str (s.take q))) rfl rfl (by kernel_rfl) (by kernel_rfl) (by kernel_rfl) (fun _ _ _ h => h) (Or.inl ⟨by rfl, ?_⟩) hHeld ?_
          · intro w hSw; go_simp
          simp only [List.setIfInBounds_toArray, List.set_cons_zero, List.set_cons_succ]
          refine take_at 16 156 (.bool false) rfl rfl (by kernel_rfl) (by kernel_rfl) (by kernel_rfl) (fun _ _ _ h => h) (Or.inl ⟨by rfl, ?_⟩) hHeld ?_
          · intro w hSw; go_simp
          simp only [List.setIfInBounds_toArray, List.set_cons_zero, List.set_cons_succ]
          refine wpAnyH_done (by kernel_rfl) (NoPanic.normal ?_) _
          clear hHeld hcell se hq' ssz hgc HX tne
          go_wp2_with fail
          go_roundw
          case rel => exact ⟨a + 1, by omega, by go_num, HCA.out.drew⟩
          case measure => simp [intOf]; omega
        · obtain rfl : a = i := by omega
          have HCA := Lib.hid hca
          clear hca
          go_wp2_with fail
          go_ret
          exact ⟨rfl, C1.out.trans (C11.out.trans HCA.out)⟩
end Go.Proofs.YtglfmhheepgneaaDoor
