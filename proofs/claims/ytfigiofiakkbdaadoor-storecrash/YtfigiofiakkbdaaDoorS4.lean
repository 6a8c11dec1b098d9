/-
  Package store: write.
-/
import Derived.Test.YtfigiofiakkbdaaDoorS3
import Derived.Test.YtfigiofiakkbdaaDoorJB4
namespace Go.Proofs.YtfigiofiakkbdaaDoor
open Go.RowKit
set_option linter.all false

/-- What write does to a disk. -/
def DS.sv (S : DS) (J : JS) (b : List UInt8) : Bool × DS := match S.wr J.from_ (begP (J.last + 1)) with
  | (false, S1) => (false, S1)
  | (true, S1) => match S1.bar with
    | (false, S2) => (false, S2)
    | (true, S2) => match S2.put (J.from_ + 1) (recP (J.last + 2) b) (secsOf b.length - 1) with
      | (false, S3) => (false, S3)
      | (true, S3) => S3.bar

set_option maxRecDepth 100000 in
set_option maxHeartbeats 4000000 in
theorem swrite1_c {w0 w : World} {R : Nat → Prop} {d jb : Nat} {S : DS} {J : JS} (hT : Tab w0) (h : Jn w0 w R d jb S J) (hfa : J.failed = false) (hle : J.free ≤ J.end_) (hen : J.end_ ≤ S.secs.length) {tb y n : Nat} {dv : Value} {bs : List UInt8} (hr : Row w tb 79 #[.int .i64 (y : Int), .int .u64 (n : Int), dv]) (hd : Rd w dv bs) (hn : n < 18446744073709551616)
    (hroom : (8 + bs.length : Int) ≤ J.room) (hl : J.last < 4611686018427387904) (hf : S.fine (secsOf (8 + bs.length) + 1)) (p q : Nat) (hp : w.cell? ⟨p, 0, none⟩ = some (.pointer (some ⟨jb, 0, none⟩))) (hq : w.cell? ⟨q, 0, none⟩ = some (.pointer (some ⟨tb, 0, none⟩))) (hpR : ¬ RJ R jb p) (hqR : ¬ RJ R jb q) :
    Calls Tryd.prog 53 #[.pointer (some ⟨p, 0, none⟩), .pointer (some ⟨q, 0, none⟩)] w (AppRes w0 w R d jb (le 8 n ++ bs) S J) := by
  have hlb : bs.length ≤ 10000000 := by
    have := h.sd.few
    unfold JS.room at hroom
    split at hroom <;> omega
  have RC := Lib.hid (srecord_c (w := w.drew) hr hd hlb hn)
  have H := Lib.hid h
  have HF := Lib.hid (And.intro hfa (And.intro hle (And.intro hen (And.intro hroom (And.intro hl hf)))))
  have HT := Lib.hid hT
  have hpl := World.block_lt_of_cell? _ _ hp
  have hql := World.block_lt_of_cell? _ _ hq
  simp only at hpl hql
  unfold AppRes
  clear h hr hd hfa hle hen hroom hl hf hT
  go_enter Tryd.func53, Tryd.ntmps53
  go_wp2_with fail
  refine wp_region_noPanic ?_
  refine wp_region_held_drew (S := fun wx => wx.cell? ⟨p, 0, none⟩ = some (.pointer (some ⟨jb, 0, none⟩)) ∧ wx.cell? ⟨q, 0, none⟩ = some (.pointer (some ⟨tb, 0, none⟩))) (by kernel_rfl) ⟨hp, hq⟩ (fun hHeld => ?_)
  refine take_at 0 3 (.pointer (some ⟨jb, 0, none⟩)) rfl rfl (by kernel_rfl) (by kernel_rfl) (by kernel_rfl) (fun _ _ _ h => h) (Or.inl ⟨by rfl, ?_⟩) hHeld ?_
  · intro w hSw; obtain ⟨s1, s2⟩ := hSw; go_simp
  simp only [List.setIfInBounds_toArray, List.set_cons_zero, List.set_cons_succ]
  refine take_at 1 4 (.pointer (some ⟨tb, 0, none⟩)) rfl rfl (by kernel_rfl) (by kernel_rfl) (by kernel_rfl) (fun _ _ _ h => h) (Or.inl ⟨by rfl, ?_⟩) hHeld ?_
  · intro w hSw; obtain ⟨s1, s2⟩ := hSw; go_simp
  simp only [List.setIfInBounds_toArray, List.set_cons_zero, List.set_cons_succ]
  refine wpAnyH_ready (rs := [2]) (by kernel_rfl) (by simp) ?_
  refine AllReadyH.cons rfl (fun K hK => ?_) AllReadyH.nil
  go_simp
  refine RC.out.mono ?_
  rintro e w2 ⟨g, rfl, hg, hb2, hc2⟩
  have C2 := Lib.hid ((Keep.refl _ w).drew.trans hc2)
  have H2 := H.out.rest C2.out
  have e0 : w2.cell? ⟨p, 0, none⟩ = some (.pointer (some ⟨jb, 0, none⟩)) := (hc2.cell (p := ⟨p, 0, none⟩) hpl (fun e => e)).trans hp
  have e1 : w2.cell? ⟨q, 0, none⟩ = some (.pointer (some ⟨tb, 0, none⟩)) := (hc2.cell (p := ⟨q, 0, none⟩) hql (fun e => e)).trans hq
  have hlen : (le 8 n ++ bs).length = 8 + bs.length := by simp [le_len]
  have AP := jappend_c HT.out H2 HF.out.1 HF.out.2.1 HF.out.2.2.1 (.slice (some ⟨g, 0, none⟩) (8 + bs.length) (8 + bs.length)) (le 8 n ++ bs) (hb2.rd hlen.symm hlen.symm (by omega)) (by rw [hlen]; have := HF.out.2.2.2.1; omega) HF.out.2.2.2.2.1 (by rw [hlen]; exact HF.out.2.2.2.2.2)
  have HAP := Lib.hid AP
  have HJ2 := Lib.hid H2
  clear AP H2 hb2 hc2 hlen RC
  refine hK.out _ _ ⟨e0, e1⟩ (fun hHeld => ?_)
  clear hK K
  try simp only [List.setIfInBounds_toArray, List.set_cons_zero, List.set_cons_succ]
  refine wpAnyH_ready (rs := [3]) (by kernel_rfl) (by simp) ?_
  refine AllReadyH.cons rfl (fun K hK => ?_) AllReadyH.nil
  go_simp
  refine HAP.out.mono ?_
  rintro e w3 ⟨R3, S3, J3, hcase, hj3, hx3, hk3⟩
  have f0 : w3.cell? ⟨p, 0, none⟩ = some (.pointer (some ⟨jb, 0, none⟩)) := (hk3.cell (p := ⟨p, 0, none⟩) (Nat.lt_of_lt_of_le hpl C2.out.size) hpR).trans e0
  have f1 : w3.cell? ⟨q, 0, none⟩ = some (.pointer (some ⟨tb, 0, none⟩)) := (hk3.cell (p := ⟨q, 0, none⟩) (Nat.lt_of_lt_of_le hql C2.out.size) hqR).trans e1
  have HR3 : Hid (Jn w0 w3 R3 d jb S3 J3 ∧ Ext R R3 w ∧ Keep (RJ R jb) w w3) := Lib.hid ⟨hj3, hx3.calm C2.out.size, (Calm.keep C2.out _).trans hk3⟩
  obtain ⟨c9, rfl, h9⟩ : ∃ c : Int, e = .returned (.int .i64 c) ∧ ((S.put J.free (recP (J.last + 1) (le 8 n ++ bs)) (secsOf (le 8 n ++ bs).length - 1) = (true, S3) ∧ c = 0 ∧ J3 = { J with free := J.free + secsOf (le 8 n ++ bs).length, last := J.last + 1 }) ∨ (S.put J.free (recP (J.last + 1) (le 8 n ++ bs)) (secsOf (le 8 n ++ bs).length - 1) = (false, S3) ∧ c = 11 ∧ J3 = { J with failed := true })) := by
    rcases hcase with ⟨a1, rfl, a2⟩ | ⟨a1, rfl, a2⟩
    · exact ⟨0, rfl, .inl ⟨a1, rfl, a2⟩⟩
    · exact ⟨11, rfl, .inr ⟨a1, rfl, a2⟩⟩
  have H9 := Lib.hid h9
  clear hcase hj3 hx3 hk3 h9 HAP
  refine hK.out _ _ ⟨f0, f1⟩ (fun hHeld => ?_)
  clear hK K
  try simp only [List.setIfInBounds_toArray, List.set_cons_zero, List.set_cons_succ]
  refine take_at 4 2 (.int .i64 c9) rfl rfl (by kernel_rfl) (by kernel_rfl) (by kernel_rfl) (fun _ _ _ h => h) (Or.inl ⟨by rfl, ?_⟩) hHeld ?_
  · intro w hSw; go_simp
  simp only [List.setIfInBounds_toArray, List.set_cons_zero, List.set_cons_succ]
  refine wpAnyH_done (by kernel_rfl) (NoPanic.normal ?_) _
  clear hHeld
  go_wp2_with fail
  go_ret
  rcases H9.out with ⟨a1, rfl, a2⟩ | ⟨a1, rfl, a2⟩
  · exact ⟨R3, S3, J3, .inl ⟨a1, rfl, a2⟩, HR3.out⟩
  · exact ⟨R3, S3, J3, .inr ⟨a1, rfl, a2⟩, HR3.out⟩
end Go.Proofs.YtfigiofiakkbdaaDoor
