/-
  Tables: all the entries of an Array.
-/
import Derived.Test.YtiipepiabeccpaaTEnt
namespace Go.Proofs.Ytiipepiabeccpaa
open Go.RowKit Go.Deep
set_option linter.all false
attribute [local go_sem] Oper.semAt_some

def kes (vl : Nat) (kb : KB) : List KE := mapv (lv vl) kb
theorem kes_len (vl : Nat) (kb : KB) : (kes vl kb).length = kb.length := by simp [kes, mapv]
theorem kes_take (vl : Nat) (kb : KB) (j : Nat) (x : List UInt8 × Nat) (h : kb[j]? = some x) : (kes vl kb).take (j + 1) = (kes vl kb).take j ++ [(x.1, lv vl x.2)] := by
  rw [List.take_add_one]
  simp [kes, mapv, h]
theorem keep_grownT {w w' : World} {row : Option Nat} (h : w.grownBy w' row) : Keep (fun k => row = some k) w w' := ⟨h.os, h.tape, h.output, h.size, fun k hk hn => h.block k hk (fun e => hn e.symm)⟩
/-- All the entries, as a row that the call made. -/
def AllIs (w : World) (vl : Nat) (kb : KB) (e : Ending) (w' : World) : Prop := ∃ v, e = .returned v ∧ OwnE w' w.heap.size v (kes vl kb) ∧ Calm w w'
set_option maxRecDepth 20000 in
set_option maxHeartbeats 2000000 in
theorem all_arr {w : World} {A n vl : Nat} {kb : KB} (hn : n ≤ 1024) (hr : Row w A 22 (kb.map (fun x => slv vl x.2)).toArray) (hkeys : keysL kb = (List.range n).map numK) :
    Calls Try.prog 107 #[.agg #[.slice (some ⟨A, 0, none⟩) n n]] w (AllIs w vl kb) := by
  have hl : kb.length = n := by
    have := congrArg List.length hkeys
    simpa [keysL] using this
  have HR := Lib.hid hr
  have HK := Lib.hid (And.intro hkeys (And.intro hl hn))
  clear hr hkeys hl hn
  go_enter Try.func107, Try.ntmps107
  go_wp2_with fail
  have hc0 : Calm w (w.alloc (.cells #[.slice (some ⟨A, 0, none⟩) n n] 144)) := (Keep.refl _ w).alloc _
  have HC0 := Lib.hid hc0
  have HO : Hid (OwnE (w.alloc (.cells #[.slice (some ⟨A, 0, none⟩) n n] 144)) w.heap.size (.slice none 0 0) ((kes vl kb).take 0)) := Lib.hid (OwnE.nil _ _)
  generalize w.alloc (.cells #[.slice (some ⟨A, 0, none⟩) n n] 144) = W0 at *
  clear hc0
  go_loopw [3, 10] (fun v i wr => ∃ j : Nat, j ≤ n ∧ i = .int .i64 (j : Int) ∧ OwnE wr w.heap.size v ((kes vl kb).take j) ∧ Calm w wr) (fun _ i _ => n - (intOf i).toNat)
  case atStart => exact ⟨0, Nat.zero_le _, rfl, HO.out, HC0.out⟩
  case round =>
    obtain ⟨j, hj, rfl, ho, hc⟩ := hrel
    by_cases hl : j < n
    · have hj' : j < 1024 := Nat.lt_of_lt_of_le hl HK.out.2.2
      obtain ⟨x, hx⟩ : ∃ x, kb[j]? = some x := ⟨_, List.getElem?_eq_getElem (by have := HK.out.2.1; omega)⟩
      have hcell : wr.cell? ⟨A, j, none⟩ = some (.slice (some ⟨x.2, 0, none⟩) vl vl) := by
        rw [(HR.out.keep hc (fun e => e)).cell j]
        simp [hx, slv]
      have hjn : (j : Int) < (n : Int) := by omega
      have hcv : Sem.run Try.prog (convert 22 9 (.slice (some ⟨wr.heap.size, 0, none⟩) 4 4)) (wr.alloc (.cells #[.int .u8 ((j : Int) % 256), .int .u8 ((j : Int) / 256 % 256), .int .u8 ((j : Int) / 65536 % 256), .int .u8 ((j : Int) / 16777216 % 256)] 5)) = .ok (.string (str (numK j))) (wr.alloc (.cells #[.int .u8 ((j : Int) % 256), .int .u8 ((j : Int) / 256 % 256), .int .u8 ((j : Int) / 65536 % 256), .int .u8 ((j : Int) / 16777216 % 256)] 5)) := by
        have hl : (#[.int .u8 ((j : Int) % 256), .int .u8 ((j : Int) / 256 % 256), .int .u8 ((j : Int) / 65536 % 256), .int .u8 ((j : Int) / 16777216 % 256)] : Array Value).toList = (numK j).map bv := by
          unfold numK
          show _ = [bv (UInt8.ofNat (j % 256)), bv (UInt8.ofNat (j / 256 % 256)), bv (UInt8.ofNat (j / 65536 % 256)), bv (UInt8.ofNat (j / 16777216 % 256))]
          rw [bv_nat _ (by omega), bv_nat _ (by omega), bv_nat _ (by omega), bv_nat _ (by omega)]
          simp
        exact conv_rd (Rd.made wr (numK j) 4 _ rfl hl (by omega))
      have HJ := Lib.hid (And.intro hj' (And.intro hl hx))
      have ho1 := ho.calm ((Keep.refl _ wr).alloc (.cells #[.int .u8 ((j : Int) % 256), .int .u8 ((j : Int) / 256 % 256), .int .u8 ((j : Int) / 65536 % 256), .int .u8 ((j : Int) / 16777216 % 256)] 5))
      have hc1 : Calm w (wr.alloc (.cells #[.int .u8 ((j : Int) % 256), .int .u8 ((j : Int) / 256 % 256), .int .u8 ((j : Int) / 65536 % 256), .int .u8 ((j : Int) / 16777216 % 256)] 5)) := hc.alloc _
      have HO1 := Lib.hid ho1
      have HC1 := Lib.hid hc1
      clear hj hl hj' ho hc hx ho1 hc1
      go_upto_region 6 with fail
      clear hcell hcv
      generalize wr.alloc (.cells #[.int .u8 ((j : Int) % 256), .int .u8 ((j : Int) / 256 % 256), .int .u8 ((j : Int) / 65536 % 256), .int .u8 ((j : Int) / 16777216 % 256)] 5) = w1 at *
      have hkA : Calm w1 (w1.alloc (.cells #[.string (str (numK j)), .slice (some ⟨x.2, 0, none⟩) vl vl] 78)) := (Keep.refl _ w1).alloc _
      have HO2 := Lib.hid (HO1.out.calm hkA)
      have hnew := Row.made w1 78 #[.string (str (numK j)), .slice (some ⟨x.2, 0, none⟩) vl vl]
      have HN : Hid (∀ i u, (flatE [(numK j, lv vl x.2)])[i]? = some u → (w1.alloc (.cells #[.string (str (numK j)), .slice (some ⟨x.2, 0, none⟩) vl vl] 78)).cell? ((⟨w1.heap.size, 0, none⟩ : Addr).add i) = some u) := Lib.hid (fun i u hi => by
        rw [addr_mid, Nat.zero_add, hnew.cell]
        simpa [flatE, lv] using hi)
      have HKA := Lib.hid hkA
      have hjl : ((kes vl kb).take j).length = j := by
        rw [List.length_take, kes_len]
        have := HK.out.2.1
        have := HJ.out.2.1
        omega
      have HJL := Lib.hid hjl
      clear hkA hnew
      obtain ⟨A1, c1, e1⟩ : ∃ A c, u3 = .slice A j c := by
        obtain ⟨A, c, e⟩ := HO1.out.form
        exact ⟨A, c, by rw [e, HJL.out]⟩
      subst e1
      clear hjl
      go_wp2_with (at_builtin; go_loud (refine list_append_ents rfl (.tmp 28) (.tmp 32) rfl w.heap.size (.slice A1 j c1) ((kes vl kb).take j) rfl HO2.out ⟨w1.heap.size, 0, none⟩ 1 1 [(numK j, lv vl x.2)] rfl rfl HN.out (by rw [HJL.out]; have := HJ.out.1; omega) (Nat.le_trans HC1.out.size HKA.out.size) (j + 1) (by simp [HJL.out]) ?_); intro A2 c2 w2 ho2 hg2 hb2; have HO3 := Lib.hid ho2; have HG3 := Lib.hid hg2; clear ho2 hg2 hb2)
      have hcw : Calm w w2 := by
        refine (HC1.out.trans HKA.out).then_ (keep_grownT HG3.out) (fun i hi hr => ?_)
        have := (HO2.out.block hr).1
        omega
      have hkey : x.1 = numK j := by
        have h1 : (keysL kb)[j]? = some x.1 := by simp [keysL, HJ.out.2.2]
        rw [HK.out.1] at h1
        have h2 := HJ.out.2.1
        simp [h2] at h1
        exact h1.symm
      have hjs := HJ.out.2.1
      have e1 : wrap64 ((j : Int) + 1) = ((j + 1 : Nat) : Int) := by
        have := HJ.out.1
        unfold wrap64
        omega
      refine ⟨⟨j + 1, by omega, by rw [e1], ?_, hcw⟩, ?_⟩
      · rw [kes_take vl kb j x HJ.out.2.2, hkey]
        exact HO3.out
      · rw [e1]
        simp only [intOf]
        omega
    · have ej : j = n := by omega
      subst ej
      have hjn : ¬ (j : Int) < (j : Int) := by omega
      have HO' := Lib.hid ho
      have HC := Lib.hid hc
      have HL := HK.out.2.1
      clear hj hl ho hc
      go_wp2
      go_ret
      have e : (kes vl kb).take j = kes vl kb := List.take_of_length_le (by rw [kes_len, HL]; exact Nat.le_refl _)
      refine ⟨_, rfl, ?_, HC.out⟩
      rw [← e]
      exact HO'.out
end Go.Proofs.Ytiipepiabeccpaa
