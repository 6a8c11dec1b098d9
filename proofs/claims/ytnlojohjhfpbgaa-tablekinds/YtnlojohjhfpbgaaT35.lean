import Derived.Test.YtnlojohjhfpbgaaT34
import Derived.Test.YtnlojohjhfpbgaaT32
import Derived.Deep.Grids
/-
  Tables: all the entries of a Hash.
-/
namespace Go.Proofs.Ytnlojohjhfpbgaa
open Go.RowKit Go.Deep
open Go.Maps (Keyed)
set_option linter.all false
attribute [local go_sem] Oper.semAt_some

/-- What slices.SortFunc is asked: the rows permuted, their keys in order, nothing else turned. -/
def SortsE (vl : Nat) : Prop := ∀ (W : World) (base : Nat) (v : Value) (L : KB), L.length ≤ 1100 → base ≤ W.heap.size → OwnE W base v (kes vl L) →
  Calls Try.prog 113 #[v, .func (.func 114) #[] #[]] W fun e w' => e = .returned (.tuple #[]) ∧ ∃ L', L'.Perm L ∧ (keysL L').Pairwise (fun a b => Op.bytesLess b a = false) ∧ OwnE w' base v (kes vl L') ∧ Keep (fun i => v.ownBlock = some i) W w'

set_option maxRecDepth 20000 in
set_option maxHeartbeats 2000000 in
theorem all_hash {w : World} {b vl : Nat} {D : DataW Unit} {kb : KB} (mx : Int) (hm : w.ownsMap Try.prog 9 (se vl) b (Maps.size D) D) (hD : HashD D kb) (hn : (keysL kb).Nodup) (hl : kb.length ≤ 1100) (hS : SortsE vl) :
    Calls Try.prog 107 #[.agg #[.int .i64 mx, .map (some b)]] w (fun e w' => ∃ kb', kb'.Perm kb ∧ (keysL kb').Pairwise (fun a b => Op.bytesLess b a = false) ∧ AllIs w vl kb' e w') := by
  have HS := Lib.hid hS
  clear hS
  have HM := Lib.hid hm
  have HK := Lib.hid (And.intro hD (And.intro hn hl))
  obtain ⟨w0, hr0, hrg0, hg0, hs0⟩ := (hm.alloc (.cells #[.int .i64 mx, .map (some b)] 143)).range (Go.Maps.string_keyed Try.underlying9) Try.underlying141
  have hc0 : Calm w w0 := by
    have k1 : Calm w (w.alloc (.cells #[.int .i64 mx, .map (some b)] 143)) := (Keep.refl _ w).alloc _
    exact calm_ownT k1 (Nat.le_refl _) hg0 (fun r e => by cases e)
  rw [World.size_alloc] at hr0 hrg0 hs0
  have HRG := Lib.hid hrg0
  have HC0 := Lib.hid (And.intro hc0 hs0)
  have HO : Hid (OwnE w0 w.heap.size (.slice none 0 0) (kes vl [])) := Lib.hid (OwnE.nil _ _)
  have HG0 := Lib.hid (Got.start hD)
  clear hm hD hn hl hrg0 hg0 hs0 hc0
  go_enter Try.func107, Try.ntmps107
  go_wp2_with fail
  clear hr0
  go_loopw [3] (fun v wr => ∃ left cnt L, wr.ranges Try.prog 9 (se vl) b (w.heap.size + 1) (Maps.size D) D left cnt ∧ Got D kb L left ∧ L.length + cnt ≤ kb.length ∧ OwnE wr w.heap.size v (kes vl L) ∧ Calm w wr)
    (fun _ wr => wr.rangeLeft b (w.heap.size + 1))
  case atStart => exact ⟨_, _, [], HRG.out, HG0.out, by rw [HK.out.1.sz]; simp, HO.out, HC0.out.1⟩
  case round =>
    obtain ⟨left, cnt, L, hrg, hG, hlc, ho, hc⟩ := hrel
    rcases hash_next hrg HK.out.1 HK.out.2.1 hG 0 with ⟨h0, h1⟩ | ⟨k, g, w1, cnt', left', hx, h1, hrg1, hG1, hlt, hg1, hs1, hen⟩
    · have HP := Lib.hid (hG.perm HK.out.2.1 h0)
      have HO1 := Lib.hid ho
      have HC1 := Lib.hid hc
      clear hrg hG hlc ho hc h0 HO HG0 HRG HM
      go_wp2_with fail
      refine (HS.out _ w.heap.size _ L (by rw [HP.out.length_eq]; exact HK.out.2.2) HC1.out.size HO1.out).mono ?_
      rintro e w2 ⟨rfl, L', hp, hs, ho2, hk2⟩
      have HO2 := Lib.hid ho2
      have HC2 := Lib.hid (HC1.out.then_ hk2 (fun i hi e => by have := (HO1.out.block e).1; omega))
      have HS2 := Lib.hid hs
      have HP2 := Lib.hid (hp.trans HP.out)
      clear ho2 hk2 hs hp
      go_wp2
      go_ret
      exact ⟨L', HP2.out, HS2.out, _, rfl, HO2.out, HC2.out⟩
    · have hc1 : Calm w w1 := calm_ownT hc (Nat.le_refl _) hg1 (fun r e => by cases e; omega)
      have ho1 : OwnE w1 w.heap.size u3 (kes vl L) := ho.move (fun g' hv hl' => hg1.block g' hl' (fun e => by
        injection e with e
        obtain ⟨_, _, _, _, _, _, _, _, _, hit, _⟩ := hrg
        subst e
        have := ho.isRow hv hit
        cases this))
      obtain ⟨A1, c1, rfl⟩ := ho1.form
      obtain ⟨N, hN⟩ : ∃ N, N = (kes vl L).length := ⟨_, rfl⟩
      rw [← hN] at ho1
      have hkA : Calm w1 (w1.alloc (.cells #[.string (str k), .slice (some ⟨g, 0, none⟩) vl vl] 72)) := (Keep.refl _ w1).alloc _
      have HO2 := Lib.hid (ho1.calm hkA)
      have hnew := Row.made w1 72 #[.string (str k), .slice (some ⟨g, 0, none⟩) vl vl]
      have HN : Hid (∀ i u, (flatE [(k, lv vl g)])[i]? = some u → (w1.alloc (.cells #[.string (str k), .slice (some ⟨g, 0, none⟩) vl vl] 72)).cell? ((⟨w1.heap.size, 0, none⟩ : Addr).add i) = some u) := Lib.hid (fun i u hi => by
        rw [addr_mid, Nat.zero_add, hnew.cell]
        simpa [flatE, lv] using hi)
      have HKA := Lib.hid hkA
      have HX := Lib.hid (And.intro hN (And.intro hlc (And.intro hlt hc1)))
      have HR1 := Lib.hid (And.intro hrg1 (And.intro hG1 hrg))
      have HO1 := Lib.hid ho1
      rw [← hN]
      clear hc1 hN ho1 hkA hnew hlc hlt hrg1 hG1 hrg hG ho hc hg1 hs1 hx HO HG0 HRG HM
      unfold slv at h1 hen
      go_wp2_with (at_builtin; go_loud (refine list_append_ents rfl (.tmp 14) (.tmp 18) rfl w.heap.size (.slice A1 N c1) (kes vl L) rfl HO2.out ⟨w1.heap.size, 0, none⟩ 1 1 [(k, lv vl g)] rfl rfl HN.out (by rw [← HX.out.1]; have := HK.out.2.2; have := HX.out; rw [kes_len] at this; omega) (Nat.le_trans HX.out.2.2.2.size HKA.out.size) (N + 1) (by have := HX.out.1; simp at this ⊢; omega) ?_); intro A2 c2 w2 ho2 hg2 hb2; have HO3 := Lib.hid ho2; have HG3 := Lib.hid hg2; clear ho2 hg2 hb2)
      have hw := (HR1.out.1.alloc (.cells #[.string (str k), .slice (some ⟨g, 0, none⟩) vl vl] 72))
      have hrg2 := hw.kept HG3.out (fun e => by
        obtain ⟨_, _, _, _, _, hb, _⟩ := hw
        have := HO2.out.isRow e.symm hb
        cases this) (fun e => by
        obtain ⟨_, _, _, _, _, _, _, _, _, hit, _⟩ := hw
        have := HO2.out.isRow e.symm hit
        cases this)
      refine ⟨⟨left', cnt', L ++ [(k, g)], hrg2, HR1.out.2.1, by have := HX.out; simp; omega, ?_, ?_⟩, ?_⟩
      · have e : kes vl (L ++ [(k, g)]) = kes vl L ++ [(k, lv vl g)] := by simp [kes, mapv]
        rw [e]
        exact HO3.out
      · exact (HX.out.2.2.2.trans HKA.out).then_ (keep_grownT HG3.out) (fun i hi e => by have := (HO2.out.block e).1; omega)
      · rw [hrg2.left_eq, HR1.out.2.2.left_eq]
        exact HX.out.2.2.1
end Go.Proofs.Ytnlojohjhfpbgaa

