/-
  The reference of layer 8: do and Do.
-/
import Derived.Test.YtboiakahhkihiaaNS1
import Derived.Test.YtboiakahhkihiaaNS2
import Derived.Test.YtboiakahhkihiaaNS3
import Derived.Test.YtboiakahhkihiaaNS4
import Derived.Test.YtboiakahhkihiaaNT1
import Derived.Test.YtboiakahhkihiaaNT2
import Derived.Test.YtboiakahhkihiaaNT3
import Derived.Test.YtboiakahhkihiaaNT4
import Derived.Test.YtboiakahhkihiaaNQ
namespace Go.Proofs.Ytboiakahhkihiaa
open Go.RowKit
set_option linter.all false

def doR (wide : Bool) (op : Nat) (s t : Sp) : Sp :=
  if isO op = true ∧ s.lo = s.hi ∧ t.lo = t.hi then ⟨D (bW wide) op s.lo t.lo, D (bW wide) op s.lo t.lo⟩ else madeS (bW wide) op s t
theorem doS_doR (wide : Bool) (op : Nat) (s t : Sp) : doS wide op s t = cutS wide (doR wide op (cutS wide s) (cutS wide t)) := by
  unfold doS doR
  by_cases c : isO op = true ∧ (cutS wide s).lo = (cutS wide s).hi ∧ (cutS wide t).lo = (cutS wide t).hi
  · rw [if_pos c, if_pos c]
    cases wide
    · exact (low_id (D_lt 32 op _ _)).symm
    · rfl
  · rw [if_neg c, if_neg c]
theorem made_none {n op : Nat} (s t : Sp) (h : isO op = false) : madeS n op s t = allS := by
  have hm : ¬ op ∈ [0, 16, 32, 48, 64, 80, 96, 112, 128, 144, 160, 176, 192] := of_decide_eq_false h
  simp only [List.mem_cons, List.not_mem_nil, or_false, not_or] at hm
  obtain ⟨h0, h1, h2, h3, h4, h5, h6, h7, h8, h9, h10, h11, h12⟩ := hm
  unfold madeS
  rw [if_neg h0, if_neg h1, if_neg h2, if_neg h3, if_neg h4, if_neg h5, if_neg h6, if_neg h7, if_neg h9, if_neg h10, if_neg h11, if_neg h12]

section
variable {s t : Sp} (w : World)
set_option maxHeartbeats 3200000 in
set_option maxRecDepth 20000 in
theorem rdo64_one {op : Nat} (hs : s.Ok) (ht : t.Ok) (ho' : isO op = true) (h1 : s.lo = s.hi) (h2 : t.lo = t.hi) : Calls Try.prog 34 #[.int .u8 (op : Int), .bool true, .int .u64 64, .agg #[.int .u64 (s.lo : Int), .int .u64 (s.hi : Int)], .agg #[.int .u64 (t.lo : Int), .int .u64 (t.hi : Int)]] w fun x w' => x = .returned (.agg #[.int .u64 ((D (bW true) op s.lo t.lo : Nat) : Int), .int .u64 ((D (bW true) op s.lo t.lo : Nat) : Int)]) ∧ Calm w w' := by
  obtain ⟨d, ed⟩ : ∃ d, d = D (bW true) op s.lo t.lo := ⟨_, rfl⟩
  have KD : Hid (∀ w, Calls Try.prog 48 #[.int .u8 (op : Int), .bool true, .int .u64 (s.lo : Int), .int .u64 (t.lo : Int)] w fun x w' => x = .returned (.tuple #[.int .u64 (d : Int), .bool true]) ∧ Calm w w') := Lib.hid fun w => by
    have k := rdo_c (op := op) true w hs.l ht.l
    rw [ho', ← ed] at k
    exact k
  rw [← ed]
  have i1 : ((s.lo : Int) == (s.hi : Int)) = true := by rw [h1]; simp
  have i2 : ((t.lo : Int) == (t.hi : Int)) = true := by rw [h2]; simp
  clear h1 h2
  clear hs ht ho' ed
  go_enter Try.func34, Try.ntmps34
  go_upto_region 1 with fail
  have F := Lib.hid (Fr.made w s t (.int .u64 0) (.int .u64 0))
  obtain ⟨w1, hw1⟩ : ∃ w1, w1 = ((w.alloc (.cells #[.int .u64 (s.lo : Int), .int .u64 (s.hi : Int)] 30)).alloc (.cells #[.int .u64 (t.lo : Int), .int .u64 (t.hi : Int)] 30)).alloc (.cells #[.int .u64 0, .int .u64 0] 30) := ⟨_, rfl⟩
  rw [← hw1] at F ⊢
  clear hw1
  obtain ⟨g0, h0⟩ : ∃ g, g = w.heap.size := ⟨_, rfl⟩
  rw [← h0] at F ⊢
  obtain ⟨g1, h1⟩ : ∃ g, g = g0 + 1 := ⟨_, rfl⟩
  rw [← h1] at F ⊢
  obtain ⟨g2, h2⟩ : ∃ g, g = g1 + 1 := ⟨_, rfl⟩
  rw [← h2] at F ⊢
  clear h0 h1 h2
  obtain ⟨a1, a2, a3, a4⟩ := F.out.s.two
  obtain ⟨b1, b2, b3, b4⟩ := F.out.t.two
  obtain ⟨x, y, ho⟩ := F.out.o
  obtain ⟨c1, c2, c3, c4⟩ := ho.two
  go_wp2_with fail
  refine (KD.out _).mono ?_
  rintro ze w2 ⟨rfl, hc⟩
  replace F := Lib.hid (F.out.calm hc)
  clear hc
  clear a1 a2 a3 a4 b1 b2 b3 b4 c1 c2 c3 c4 ho
  obtain ⟨a1, a2, a3, a4⟩ := F.out.s.two
  obtain ⟨b1, b2, b3, b4⟩ := F.out.t.two
  obtain ⟨x, y, ho⟩ := F.out.o
  obtain ⟨c1, c2, c3, c4⟩ := ho.two
  go_wp2_with fail
  have hR := ho.bothr (x := .int .u64 (d : Int)) (y := .int .u64 (d : Int))
  have FP := Lib.hid (F.out.put (.int .u64 (d : Int)) (.int .u64 (d : Int)))
  have z := hR.two
  refine bodyPost_ret (by simp [results, Try.results34, go_sem, z.1, z.2.1]; try rfl) rfl ?_
  exact ⟨rfl, FP.out.cal⟩
set_option maxHeartbeats 3200000 in
set_option maxRecDepth 20000 in
theorem rdo64_none {op : Nat} (hs : s.Ok) (ht : t.Ok) (ho' : isO op = false) : Calls Try.prog 34 #[.int .u8 (op : Int), .bool true, .int .u64 64, .agg #[.int .u64 (s.lo : Int), .int .u64 (s.hi : Int)], .agg #[.int .u64 (t.lo : Int), .int .u64 (t.hi : Int)]] w fun x w' => x = .returned (.agg #[.int .u64 0, .int .u64 18446744073709551615]) ∧ Calm w w' := by
  obtain ⟨d, ed⟩ : ∃ d, d = D (bW true) op s.lo t.lo := ⟨_, rfl⟩
  have KD : Hid (∀ w, Calls Try.prog 48 #[.int .u8 (op : Int), .bool true, .int .u64 (s.lo : Int), .int .u64 (t.lo : Int)] w fun x w' => x = .returned (.tuple #[.int .u64 (d : Int), .bool false]) ∧ Calm w w') := Lib.hid fun w => by
    have k := rdo_c (op := op) true w hs.l ht.l
    rw [ho', ← ed] at k
    exact k
  clear hs ht ho' ed
  go_enter Try.func34, Try.ntmps34
  go_upto_region 1 with fail
  have F := Lib.hid (Fr.made w s t (.int .u64 0) (.int .u64 0))
  obtain ⟨w1, hw1⟩ : ∃ w1, w1 = ((w.alloc (.cells #[.int .u64 (s.lo : Int), .int .u64 (s.hi : Int)] 30)).alloc (.cells #[.int .u64 (t.lo : Int), .int .u64 (t.hi : Int)] 30)).alloc (.cells #[.int .u64 0, .int .u64 0] 30) := ⟨_, rfl⟩
  rw [← hw1] at F ⊢
  clear hw1
  obtain ⟨g0, h0⟩ : ∃ g, g = w.heap.size := ⟨_, rfl⟩
  rw [← h0] at F ⊢
  obtain ⟨g1, h1⟩ : ∃ g, g = g0 + 1 := ⟨_, rfl⟩
  rw [← h1] at F ⊢
  obtain ⟨g2, h2⟩ : ∃ g, g = g1 + 1 := ⟨_, rfl⟩
  rw [← h2] at F ⊢
  clear h0 h1 h2
  obtain ⟨a1, a2, a3, a4⟩ := F.out.s.two
  obtain ⟨b1, b2, b3, b4⟩ := F.out.t.two
  obtain ⟨x, y, ho⟩ := F.out.o
  obtain ⟨c1, c2, c3, c4⟩ := ho.two
  go_wp2_with fail
  refine (KD.out _).mono ?_
  rintro ze w2 ⟨rfl, hc⟩
  replace F := Lib.hid (F.out.calm hc)
  clear hc
  clear a1 a2 a3 a4 b1 b2 b3 b4 c1 c2 c3 c4 ho
  obtain ⟨a1, a2, a3, a4⟩ := F.out.s.two
  obtain ⟨b1, b2, b3, b4⟩ := F.out.t.two
  obtain ⟨x, y, ho⟩ := F.out.o
  obtain ⟨c1, c2, c3, c4⟩ := ho.two
  go_wp2_with fail
  refine (rall_c _).mono ?_
  rintro ze w3 ⟨rfl, hc⟩
  replace F := Lib.hid (F.out.calm (hc ▸ (Keep.refl _ _).alloc _))
  clear hc
  clear a1 a2 a3 a4 b1 b2 b3 b4 c1 c2 c3 c4 ho
  obtain ⟨a1, a2, a3, a4⟩ := F.out.s.two
  obtain ⟨b1, b2, b3, b4⟩ := F.out.t.two
  obtain ⟨x, y, ho⟩ := F.out.o
  obtain ⟨c1, c2, c3, c4⟩ := ho.two
  go_wp2_with fail
  have hR := ho.bothr (x := .int .u64 0) (y := .int .u64 18446744073709551615)
  have FP := Lib.hid (F.out.put (.int .u64 0) (.int .u64 18446744073709551615))
  have z := hR.two
  refine bodyPost_ret (by simp [results, Try.results34, go_sem, z.1, z.2.1]; try rfl) rfl ?_
  exact ⟨rfl, FP.out.cal⟩
theorem rdo64_c {op : Nat} (hs : s.Ok) (ht : t.Ok) : Calls Try.prog 34 #[.int .u8 (op : Int), .bool true, .int .u64 64, .agg #[.int .u64 (s.lo : Int), .int .u64 (s.hi : Int)], .agg #[.int .u64 (t.lo : Int), .int .u64 (t.hi : Int)]] w fun x w' => x = .returned (.agg #[.int .u64 ((doR true op s t).lo : Int), .int .u64 ((doR true op s t).hi : Int)]) ∧ Calm w w' := by
  by_cases ho : isO op = true
  · by_cases h12 : s.lo = s.hi ∧ t.lo = t.hi
    · rw [show doR true op s t = ⟨D (bW true) op s.lo t.lo, D (bW true) op s.lo t.lo⟩ from if_pos ⟨ho, h12⟩]
      exact rdo64_one w hs ht ho h12.1 h12.2
    · rw [show doR true op s t = madeS 64 op s t from if_neg (fun h => h12 h.2)]
      have hm : op ∈ [0, 16, 32, 48, 64, 80, 96, 112, 128, 144, 160, 176, 192] := of_decide_eq_true ho
      simp only [List.mem_cons, List.not_mem_nil, or_false] at hm
      clear ho
      rcases hm with rfl | rfl | rfl | rfl | rfl | rfl | rfl | rfl | rfl | rfl | rfl | rfl | rfl
      · by_cases h : s.hi + t.hi < 18446744073709551616
        · rw [show madeS 64 0 s t = ⟨s.lo + t.lo, s.hi + t.hi⟩ from show sumS s t = _ from if_pos h]
          exact rdo64_0y w hs ht h12 h rfl rfl
        · rw [show madeS 64 0 s t = allS from show sumS s t = _ from if_neg h]
          exact rdo64_0n w hs ht h12 h
      · by_cases h : t.hi ≤ s.lo
        · rw [show madeS 64 16 s t = ⟨s.lo - t.hi, s.hi - t.lo⟩ from show diffS s t = _ from if_pos h]
          exact rdo64_16y w hs ht h12 h rfl rfl
        · rw [show madeS 64 16 s t = allS from show diffS s t = _ from if_neg h]
          exact rdo64_16n w hs ht h12 h
      · by_cases h : s.hi * t.hi < 18446744073709551616
        · rw [show madeS 64 32 s t = ⟨s.lo * t.lo, s.hi * t.hi⟩ from show prodS s t = _ from if_pos h]
          exact rdo64_32y w hs ht h12 h rfl rfl
        · rw [show madeS 64 32 s t = allS from show prodS s t = _ from if_neg h]
          exact rdo64_32n w hs ht h12 h
      · by_cases h : t.lo = 0
        · rw [show madeS 64 48 s t = ⟨0, s.hi⟩ from show quoS s t = _ from if_pos h]
          exact rdo64_48y w hs ht h12 h
        · rw [show madeS 64 48 s t = ⟨s.lo / t.hi, s.hi / t.lo⟩ from show quoS s t = _ from if_neg h]
          exact rdo64_48n w hs ht h12 h rfl rfl
      · exact rdo64_64 w hs ht h12 rfl rfl
      · exact rdo64_80 w hs ht h12 rfl
      · by_cases h1 : t.lo = t.hi
        · by_cases h2 : s.hi * 2 ^ (t.lo % 64) < 18446744073709551616
          · rw [show madeS 64 96 s t = ⟨s.lo * 2 ^ (t.lo % 64), s.hi * 2 ^ (t.lo % 64)⟩ from show upS 64 s t = _ from if_pos ⟨h1, h2⟩]
            exact rdo64_96y w hs ht h12 h1 h2 rfl rfl
          · rw [show madeS 64 96 s t = allS from show upS 64 s t = _ from if_neg (fun h => h2 h.2)]
            exact rdo64_96b w hs ht h12 h1 h2
        · rw [show madeS 64 96 s t = allS from show upS 64 s t = _ from if_neg (fun h => h1 h.1)]
          exact rdo64_96a w hs ht h12 h1
      · exact rdo64_112 w hs ht h12
      · rw [show madeS 64 128 s t = allS from rfl]
        exact rdo64_128 w hs ht h12
      · by_cases h : s.hi < t.lo
        · rw [show madeS 64 144 s t = s from show remS s t = _ from if_pos h]
          exact rdo64_144a w hs ht h12 h
        · by_cases h0 : t.lo = 0
          · rw [show madeS 64 144 s t = ⟨0, s.hi⟩ from show remS s t = _ from by unfold remS; rw [if_neg h, if_pos h0]]
            exact rdo64_144b w hs ht h12 h h0
          · rw [show madeS 64 144 s t = ⟨0, min s.hi (t.hi - 1)⟩ from show remS s t = _ from by unfold remS; rw [if_neg h, if_neg h0]]
            exact rdo64_144c w hs ht h12 h h0 rfl
      · exact rdo64_160 w hs ht h12 rfl
      · exact rdo64_176 w hs ht h12
      · by_cases h : s.hi < 9223372036854775808
        · rw [show madeS 64 192 s t = downS 64 s t from if_pos (show s.hi < 2 ^ (64 - 1) from h)]
          exact rdo64_192y w hs ht h12 h
        · rw [show madeS 64 192 s t = allS from if_neg (show ¬ s.hi < 2 ^ (64 - 1) from h)]
          exact rdo64_192n w hs ht h12 h
  · rw [show doR true op s t = madeS 64 op s t from if_neg (fun h => ho h.1), made_none s t (by simpa using ho)]
    exact rdo64_none w hs ht (by simpa using ho)
end

section
variable {s t : Sp} (w : World)
set_option maxHeartbeats 3200000 in
set_option maxRecDepth 20000 in
theorem rdo32_one {op : Nat} (hs : s.Ok) (ht : t.Ok) (ho' : isO op = true) (h1 : s.lo = s.hi) (h2 : t.lo = t.hi) : Calls Try.prog 34 #[.int .u8 (op : Int), .bool false, .int .u64 32, .agg #[.int .u64 (s.lo : Int), .int .u64 (s.hi : Int)], .agg #[.int .u64 (t.lo : Int), .int .u64 (t.hi : Int)]] w fun x w' => x = .returned (.agg #[.int .u64 ((D (bW false) op s.lo t.lo : Nat) : Int), .int .u64 ((D (bW false) op s.lo t.lo : Nat) : Int)]) ∧ Calm w w' := by
  obtain ⟨d, ed⟩ : ∃ d, d = D (bW false) op s.lo t.lo := ⟨_, rfl⟩
  have KD : Hid (∀ w, Calls Try.prog 48 #[.int .u8 (op : Int), .bool false, .int .u64 (s.lo : Int), .int .u64 (t.lo : Int)] w fun x w' => x = .returned (.tuple #[.int .u64 (d : Int), .bool true]) ∧ Calm w w') := Lib.hid fun w => by
    have k := rdo_c (op := op) false w hs.l ht.l
    rw [ho', ← ed] at k
    exact k
  rw [← ed]
  have i1 : ((s.lo : Int) == (s.hi : Int)) = true := by rw [h1]; simp
  have i2 : ((t.lo : Int) == (t.hi : Int)) = true := by rw [h2]; simp
  clear h1 h2
  clear hs ht ho' ed
  go_enter Try.func34, Try.ntmps34
  go_upto_region 1 with fail
  have F := Lib.hid (Fr.made w s t (.int .u64 0) (.int .u64 0))
  obtain ⟨w1, hw1⟩ : ∃ w1, w1 = ((w.alloc (.cells #[.int .u64 (s.lo : Int), .int .u64 (s.hi : Int)] 30)).alloc (.cells #[.int .u64 (t.lo : Int), .int .u64 (t.hi : Int)] 30)).alloc (.cells #[.int .u64 0, .int .u64 0] 30) := ⟨_, rfl⟩
  rw [← hw1] at F ⊢
  clear hw1
  obtain ⟨g0, h0⟩ : ∃ g, g = w.heap.size := ⟨_, rfl⟩
  rw [← h0] at F ⊢
  obtain ⟨g1, h1⟩ : ∃ g, g = g0 + 1 := ⟨_, rfl⟩
  rw [← h1] at F ⊢
  obtain ⟨g2, h2⟩ : ∃ g, g = g1 + 1 := ⟨_, rfl⟩
  rw [← h2] at F ⊢
  clear h0 h1 h2
  obtain ⟨a1, a2, a3, a4⟩ := F.out.s.two
  obtain ⟨b1, b2, b3, b4⟩ := F.out.t.two
  obtain ⟨x, y, ho⟩ := F.out.o
  obtain ⟨c1, c2, c3, c4⟩ := ho.two
  go_wp2_with fail
  refine (KD.out _).mono ?_
  rintro ze w2 ⟨rfl, hc⟩
  replace F := Lib.hid (F.out.calm hc)
  clear hc
  clear a1 a2 a3 a4 b1 b2 b3 b4 c1 c2 c3 c4 ho
  obtain ⟨a1, a2, a3, a4⟩ := F.out.s.two
  obtain ⟨b1, b2, b3, b4⟩ := F.out.t.two
  obtain ⟨x, y, ho⟩ := F.out.o
  obtain ⟨c1, c2, c3, c4⟩ := ho.two
  go_wp2_with fail
  have hR := ho.bothr (x := .int .u64 (d : Int)) (y := .int .u64 (d : Int))
  have FP := Lib.hid (F.out.put (.int .u64 (d : Int)) (.int .u64 (d : Int)))
  have z := hR.two
  refine bodyPost_ret (by simp [results, Try.results34, go_sem, z.1, z.2.1]; try rfl) rfl ?_
  exact ⟨rfl, FP.out.cal⟩
set_option maxHeartbeats 3200000 in
set_option maxRecDepth 20000 in
theorem rdo32_none {op : Nat} (hs : s.Ok) (ht : t.Ok) (ho' : isO op = false) : Calls Try.prog 34 #[.int .u8 (op : Int), .bool false, .int .u64 32, .agg #[.int .u64 (s.lo : Int), .int .u64 (s.hi : Int)], .agg #[.int .u64 (t.lo : Int), .int .u64 (t.hi : Int)]] w fun x w' => x = .returned (.agg #[.int .u64 0, .int .u64 18446744073709551615]) ∧ Calm w w' := by
  obtain ⟨d, ed⟩ : ∃ d, d = D (bW false) op s.lo t.lo := ⟨_, rfl⟩
  have KD : Hid (∀ w, Calls Try.prog 48 #[.int .u8 (op : Int), .bool false, .int .u64 (s.lo : Int), .int .u64 (t.lo : Int)] w fun x w' => x = .returned (.tuple #[.int .u64 (d : Int), .bool false]) ∧ Calm w w') := Lib.hid fun w => by
    have k := rdo_c (op := op) false w hs.l ht.l
    rw [ho', ← ed] at k
    exact k
  clear hs ht ho' ed
  go_enter Try.func34, Try.ntmps34
  go_upto_region 1 with fail
  have F := Lib.hid (Fr.made w s t (.int .u64 0) (.int .u64 0))
  obtain ⟨w1, hw1⟩ : ∃ w1, w1 = ((w.alloc (.cells #[.int .u64 (s.lo : Int), .int .u64 (s.hi : Int)] 30)).alloc (.cells #[.int .u64 (t.lo : Int), .int .u64 (t.hi : Int)] 30)).alloc (.cells #[.int .u64 0, .int .u64 0] 30) := ⟨_, rfl⟩
  rw [← hw1] at F ⊢
  clear hw1
  obtain ⟨g0, h0⟩ : ∃ g, g = w.heap.size := ⟨_, rfl⟩
  rw [← h0] at F ⊢
  obtain ⟨g1, h1⟩ : ∃ g, g = g0 + 1 := ⟨_, rfl⟩
  rw [← h1] at F ⊢
  obtain ⟨g2, h2⟩ : ∃ g, g = g1 + 1 := ⟨_, rfl⟩
  rw [← h2] at F ⊢
  clear h0 h1 h2
  obtain ⟨a1, a2, a3, a4⟩ := F.out.s.two
  obtain ⟨b1, b2, b3, b4⟩ := F.out.t.two
  obtain ⟨x, y, ho⟩ := F.out.o
  obtain ⟨c1, c2, c3, c4⟩ := ho.two
  go_wp2_with fail
  refine (KD.out _).mono ?_
  rintro ze w2 ⟨rfl, hc⟩
  replace F := Lib.hid (F.out.calm hc)
  clear hc
  clear a1 a2 a3 a4 b1 b2 b3 b4 c1 c2 c3 c4 ho
  obtain ⟨a1, a2, a3, a4⟩ := F.out.s.two
  obtain ⟨b1, b2, b3, b4⟩ := F.out.t.two
  obtain ⟨x, y, ho⟩ := F.out.o
  obtain ⟨c1, c2, c3, c4⟩ := ho.two
  go_wp2_with fail
  refine (rall_c _).mono ?_
  rintro ze w3 ⟨rfl, hc⟩
  replace F := Lib.hid (F.out.calm (hc ▸ (Keep.refl _ _).alloc _))
  clear hc
  clear a1 a2 a3 a4 b1 b2 b3 b4 c1 c2 c3 c4 ho
  obtain ⟨a1, a2, a3, a4⟩ := F.out.s.two
  obtain ⟨b1, b2, b3, b4⟩ := F.out.t.two
  obtain ⟨x, y, ho⟩ := F.out.o
  obtain ⟨c1, c2, c3, c4⟩ := ho.two
  go_wp2_with fail
  have hR := ho.bothr (x := .int .u64 0) (y := .int .u64 18446744073709551615)
  have FP := Lib.hid (F.out.put (.int .u64 0) (.int .u64 18446744073709551615))
  have z := hR.two
  refine bodyPost_ret (by simp [results, Try.results34, go_sem, z.1, z.2.1]; try rfl) rfl ?_
  exact ⟨rfl, FP.out.cal⟩
theorem rdo32_c {op : Nat} (hs : s.Ok) (ht : t.Ok) : Calls Try.prog 34 #[.int .u8 (op : Int), .bool false, .int .u64 32, .agg #[.int .u64 (s.lo : Int), .int .u64 (s.hi : Int)], .agg #[.int .u64 (t.lo : Int), .int .u64 (t.hi : Int)]] w fun x w' => x = .returned (.agg #[.int .u64 ((doR false op s t).lo : Int), .int .u64 ((doR false op s t).hi : Int)]) ∧ Calm w w' := by
  by_cases ho : isO op = true
  · by_cases h12 : s.lo = s.hi ∧ t.lo = t.hi
    · rw [show doR false op s t = ⟨D (bW false) op s.lo t.lo, D (bW false) op s.lo t.lo⟩ from if_pos ⟨ho, h12⟩]
      exact rdo32_one w hs ht ho h12.1 h12.2
    · rw [show doR false op s t = madeS 32 op s t from if_neg (fun h => h12 h.2)]
      have hm : op ∈ [0, 16, 32, 48, 64, 80, 96, 112, 128, 144, 160, 176, 192] := of_decide_eq_true ho
      simp only [List.mem_cons, List.not_mem_nil, or_false] at hm
      clear ho
      rcases hm with rfl | rfl | rfl | rfl | rfl | rfl | rfl | rfl | rfl | rfl | rfl | rfl | rfl
      · by_cases h : s.hi + t.hi < 18446744073709551616
        · rw [show madeS 32 0 s t = ⟨s.lo + t.lo, s.hi + t.hi⟩ from show sumS s t = _ from if_pos h]
          exact rdo32_0y w hs ht h12 h rfl rfl
        · rw [show madeS 32 0 s t = allS from show sumS s t = _ from if_neg h]
          exact rdo32_0n w hs ht h12 h
      · by_cases h : t.hi ≤ s.lo
        · rw [show madeS 32 16 s t = ⟨s.lo - t.hi, s.hi - t.lo⟩ from show diffS s t = _ from if_pos h]
          exact rdo32_16y w hs ht h12 h rfl rfl
        · rw [show madeS 32 16 s t = allS from show diffS s t = _ from if_neg h]
          exact rdo32_16n w hs ht h12 h
      · by_cases h : s.hi * t.hi < 18446744073709551616
        · rw [show madeS 32 32 s t = ⟨s.lo * t.lo, s.hi * t.hi⟩ from show prodS s t = _ from if_pos h]
          exact rdo32_32y w hs ht h12 h rfl rfl
        · rw [show madeS 32 32 s t = allS from show prodS s t = _ from if_neg h]
          exact rdo32_32n w hs ht h12 h
      · by_cases h : t.lo = 0
        · rw [show madeS 32 48 s t = ⟨0, s.hi⟩ from show quoS s t = _ from if_pos h]
          exact rdo32_48y w hs ht h12 h
        · rw [show madeS 32 48 s t = ⟨s.lo / t.hi, s.hi / t.lo⟩ from show quoS s t = _ from if_neg h]
          exact rdo32_48n w hs ht h12 h rfl rfl
      · exact rdo32_64 w hs ht h12 rfl rfl
      · exact rdo32_80 w hs ht h12 rfl
      · by_cases h1 : t.lo = t.hi
        · by_cases h2 : s.hi * 2 ^ (t.lo % 32) < 18446744073709551616
          · rw [show madeS 32 96 s t = ⟨s.lo * 2 ^ (t.lo % 32), s.hi * 2 ^ (t.lo % 32)⟩ from show upS 32 s t = _ from if_pos ⟨h1, h2⟩]
            exact rdo32_96y w hs ht h12 h1 h2 rfl rfl
          · rw [show madeS 32 96 s t = allS from show upS 32 s t = _ from if_neg (fun h => h2 h.2)]
            exact rdo32_96b w hs ht h12 h1 h2
        · rw [show madeS 32 96 s t = allS from show upS 32 s t = _ from if_neg (fun h => h1 h.1)]
          exact rdo32_96a w hs ht h12 h1
      · exact rdo32_112 w hs ht h12
      · rw [show madeS 32 128 s t = allS from rfl]
        exact rdo32_128 w hs ht h12
      · by_cases h : s.hi < t.lo
        · rw [show madeS 32 144 s t = s from show remS s t = _ from if_pos h]
          exact rdo32_144a w hs ht h12 h
        · by_cases h0 : t.lo = 0
          · rw [show madeS 32 144 s t = ⟨0, s.hi⟩ from show remS s t = _ from by unfold remS; rw [if_neg h, if_pos h0]]
            exact rdo32_144b w hs ht h12 h h0
          · rw [show madeS 32 144 s t = ⟨0, min s.hi (t.hi - 1)⟩ from show remS s t = _ from by unfold remS; rw [if_neg h, if_neg h0]]
            exact rdo32_144c w hs ht h12 h h0 rfl
      · exact rdo32_160 w hs ht h12 rfl
      · exact rdo32_176 w hs ht h12
      · by_cases h : s.hi < 2147483648
        · rw [show madeS 32 192 s t = downS 32 s t from if_pos (show s.hi < 2 ^ (32 - 1) from h)]
          exact rdo32_192y w hs ht h12 h
        · rw [show madeS 32 192 s t = allS from if_neg (show ¬ s.hi < 2 ^ (32 - 1) from h)]
          exact rdo32_192n w hs ht h12 h
  · rw [show doR false op s t = madeS 32 op s t from if_neg (fun h => ho h.1), made_none s t (by simpa using ho)]
    exact rdo32_none w hs ht (by simpa using ho)
end

set_option maxHeartbeats 3200000 in
set_option maxRecDepth 20000 in
theorem rDo64_c {s t : Sp} {op : Nat} (hs : s.Ok) (ht : t.Ok) (w : World) : Calls Try.prog 15 #[.int .u8 (op : Int), .bool true, .agg #[.int .u64 (s.lo : Int), .int .u64 (s.hi : Int)], .agg #[.int .u64 (t.lo : Int), .int .u64 (t.hi : Int)]] w fun x w' => x = .returned (.agg #[.int .u64 ((doS true op s t).lo : Int), .int .u64 ((doS true op s t).hi : Int)]) ∧ Calm w w' := by
  rw [doS_doR]
  obtain ⟨s', es⟩ : ∃ s', s' = cutS true s := ⟨_, rfl⟩
  obtain ⟨t', et⟩ : ∃ t', t' = cutS true t := ⟨_, rfl⟩
  have os : s'.Ok := by rw [es]; exact cut_ok true hs
  have ot : t'.Ok := by rw [et]; exact cut_ok true ht
  rw [← es, ← et]
  obtain ⟨r, er⟩ : ∃ r, r = doR true op s' t' := ⟨_, rfl⟩
  rw [← er]
  have KR : Hid (∀ w, Calls Try.prog 34 #[.int .u8 (op : Int), .bool true, .int .u64 64, .agg #[.int .u64 ((s').lo : Int), .int .u64 ((s').hi : Int)], .agg #[.int .u64 ((t').lo : Int), .int .u64 ((t').hi : Int)]] w fun x w' => x = .returned (.agg #[.int .u64 (r.lo : Int), .int .u64 (r.hi : Int)]) ∧ Calm w w') := Lib.hid (by rw [er]; exact fun w => rdo64_c w os ot)
  rw [show cutS true r = r from rfl]
  have es' : s' = s := es
  have et' : t' = t := et
  clear hs ht es et os ot er
  rw [es', et'] at KR
  clear es' et'
  go_enter Try.func15, Try.ntmps15
  go_upto_region 1 with fail
  have F := Lib.hid (Fr.made w s t (.int .u64 0) (.int .u64 0))
  obtain ⟨w1, hw1⟩ : ∃ w1, w1 = ((w.alloc (.cells #[.int .u64 (s.lo : Int), .int .u64 (s.hi : Int)] 30)).alloc (.cells #[.int .u64 (t.lo : Int), .int .u64 (t.hi : Int)] 30)).alloc (.cells #[.int .u64 0, .int .u64 0] 30) := ⟨_, rfl⟩
  rw [← hw1] at F ⊢
  clear hw1
  obtain ⟨g0, h0⟩ : ∃ g, g = w.heap.size := ⟨_, rfl⟩
  rw [← h0] at F ⊢
  obtain ⟨g1, h1⟩ : ∃ g, g = g0 + 1 := ⟨_, rfl⟩
  rw [← h1] at F ⊢
  obtain ⟨g2, h2⟩ : ∃ g, g = g1 + 1 := ⟨_, rfl⟩
  rw [← h2] at F ⊢
  clear h0 h1 h2
  obtain ⟨a1, a2, a3, a4⟩ := F.out.s.two
  obtain ⟨b1, b2, b3, b4⟩ := F.out.t.two
  obtain ⟨x, y, ho⟩ := F.out.o
  obtain ⟨c1, c2, c3, c4⟩ := ho.two
  go_wp2_with fail
  refine (KR.out _).mono ?_
  rintro ze w6 ⟨rfl, hc⟩
  replace F := Lib.hid (F.out.calm hc)
  clear hc
  clear a1 a2 a3 a4 b1 b2 b3 b4 c1 c2 c3 c4 ho
  obtain ⟨a1, a2, a3, a4⟩ := F.out.s.two
  obtain ⟨b1, b2, b3, b4⟩ := F.out.t.two
  obtain ⟨x, y, ho⟩ := F.out.o
  obtain ⟨c1, c2, c3, c4⟩ := ho.two
  go_upto_region 7 with fail
  clear a1 a2 a3 a4 b1 b2 b3 b4 c1 c2 c3 c4 ho
  have hA : Row (w6.alloc (.cells #[.int .u64 (r.lo : Int), .int .u64 (r.hi : Int)] 30)) w6.heap.size 30 #[.int .u64 (r.lo : Int), .int .u64 (r.hi : Int)] := Row.made _ _ _
  replace F := Lib.hid (F.out.calm ((Keep.refl _ w6).alloc (.cells #[.int .u64 (r.lo : Int), .int .u64 (r.hi : Int)] 30)))
  obtain ⟨g3, hg3⟩ : ∃ zg, zg = w6.heap.size := ⟨_, rfl⟩
  obtain ⟨w7, hw7⟩ : ∃ zz, zz = w6.alloc (.cells #[.int .u64 (r.lo : Int), .int .u64 (r.hi : Int)] 30) := ⟨_, rfl⟩
  rw [← hg3] at hA ⊢
  rw [← hw7] at hA F ⊢
  clear hg3 hw7
  obtain ⟨a1, a2, a3, a4⟩ := F.out.s.two
  obtain ⟨b1, b2, b3, b4⟩ := F.out.t.two
  obtain ⟨x, y, ho⟩ := F.out.o
  obtain ⟨c1, c2, c3, c4⟩ := ho.two
  obtain ⟨d1, d2, d3, d4⟩ := hA.two
  clear hA
  go_wp2_with fail
  have hR := ho.bothr (x := .int .u64 (r.lo : Int)) (y := .int .u64 (r.hi : Int))
  have FP := Lib.hid (F.out.put (.int .u64 (r.lo : Int)) (.int .u64 (r.hi : Int)))
  have z := hR.two
  refine bodyPost_ret (by simp [results, Try.results15, go_sem, z.1, z.2.1]; try rfl) rfl ?_
  exact ⟨rfl, FP.out.cal⟩

set_option maxHeartbeats 3200000 in
set_option maxRecDepth 20000 in
theorem rDo32_c {s t : Sp} {op : Nat} (hs : s.Ok) (ht : t.Ok) (w : World) : Calls Try.prog 15 #[.int .u8 (op : Int), .bool false, .agg #[.int .u64 (s.lo : Int), .int .u64 (s.hi : Int)], .agg #[.int .u64 (t.lo : Int), .int .u64 (t.hi : Int)]] w fun x w' => x = .returned (.agg #[.int .u64 ((doS false op s t).lo : Int), .int .u64 ((doS false op s t).hi : Int)]) ∧ Calm w w' := by
  rw [doS_doR]
  obtain ⟨s', es⟩ : ∃ s', s' = cutS false s := ⟨_, rfl⟩
  obtain ⟨t', et⟩ : ∃ t', t' = cutS false t := ⟨_, rfl⟩
  have os : s'.Ok := by rw [es]; exact cut_ok false hs
  have ot : t'.Ok := by rw [et]; exact cut_ok false ht
  rw [← es, ← et]
  obtain ⟨r, er⟩ : ∃ r, r = doR false op s' t' := ⟨_, rfl⟩
  rw [← er]
  have KR : Hid (∀ w, Calls Try.prog 34 #[.int .u8 (op : Int), .bool false, .int .u64 32, .agg #[.int .u64 ((s').lo : Int), .int .u64 ((s').hi : Int)], .agg #[.int .u64 ((t').lo : Int), .int .u64 ((t').hi : Int)]] w fun x w' => x = .returned (.agg #[.int .u64 (r.lo : Int), .int .u64 (r.hi : Int)]) ∧ Calm w w') := Lib.hid (by rw [er]; exact fun w => rdo32_c w os ot)
  have KS : Hid (∀ w, Calls Try.prog 24 #[.agg #[.int .u64 (s.lo : Int), .int .u64 (s.hi : Int)]] w fun x w' => x = .returned (.agg #[.int .u64 ((s').lo : Int), .int .u64 ((s').hi : Int)]) ∧ Calm w w') := Lib.hid (by rw [es]; exact fun w => rlow8_c s w)
  have KT : Hid (∀ w, Calls Try.prog 24 #[.agg #[.int .u64 (t.lo : Int), .int .u64 (t.hi : Int)]] w fun x w' => x = .returned (.agg #[.int .u64 ((t').lo : Int), .int .u64 ((t').hi : Int)]) ∧ Calm w w') := Lib.hid (by rw [et]; exact fun w => rlow8_c t w)
  obtain ⟨v, ev⟩ : ∃ v, v = cutS false r := ⟨_, rfl⟩
  rw [← ev]
  have KV : Hid (∀ w, Calls Try.prog 24 #[.agg #[.int .u64 (r.lo : Int), .int .u64 (r.hi : Int)]] w fun x w' => x = .returned (.agg #[.int .u64 (v.lo : Int), .int .u64 (v.hi : Int)]) ∧ Calm w w') := Lib.hid (by rw [ev]; exact fun w => rlow8_c r w)
  clear ev
  clear hs ht es et os ot er
  go_enter Try.func15, Try.ntmps15
  go_upto_region 1 with fail
  have F := Lib.hid (Fr.made w s t (.int .u64 0) (.int .u64 0))
  obtain ⟨w1, hw1⟩ : ∃ w1, w1 = ((w.alloc (.cells #[.int .u64 (s.lo : Int), .int .u64 (s.hi : Int)] 30)).alloc (.cells #[.int .u64 (t.lo : Int), .int .u64 (t.hi : Int)] 30)).alloc (.cells #[.int .u64 0, .int .u64 0] 30) := ⟨_, rfl⟩
  rw [← hw1] at F ⊢
  clear hw1
  obtain ⟨g0, h0⟩ : ∃ g, g = w.heap.size := ⟨_, rfl⟩
  rw [← h0] at F ⊢
  obtain ⟨g1, h1⟩ : ∃ g, g = g0 + 1 := ⟨_, rfl⟩
  rw [← h1] at F ⊢
  obtain ⟨g2, h2⟩ : ∃ g, g = g1 + 1 := ⟨_, rfl⟩
  rw [← h2] at F ⊢
  clear h0 h1 h2
  obtain ⟨a1, a2, a3, a4⟩ := F.out.s.two
  obtain ⟨b1, b2, b3, b4⟩ := F.out.t.two
  obtain ⟨x, y, ho⟩ := F.out.o
  obtain ⟨c1, c2, c3, c4⟩ := ho.two
  go_wp2_with fail
  refine (KS.out _).mono ?_
  rintro ze w2 ⟨rfl, hc⟩
  replace F := Lib.hid (F.out.calm hc)
  clear hc
  clear a1 a2 a3 a4 b1 b2 b3 b4 c1 c2 c3 c4 ho
  obtain ⟨a1, a2, a3, a4⟩ := F.out.s.two
  obtain ⟨b1, b2, b3, b4⟩ := F.out.t.two
  obtain ⟨x, y, ho⟩ := F.out.o
  obtain ⟨c1, c2, c3, c4⟩ := ho.two
  go_upto_region 4 with fail
  clear a1 a2 a3 a4 b1 b2 b3 b4 c1 c2 c3 c4 ho
  replace F := Lib.hid (F.out.set0 s')
  obtain ⟨w3, hw3⟩ : ∃ zz, zz = (w2.setCell ⟨g0, 0, none⟩ (.int .u64 (s'.lo : Int))).setCell ⟨g0, 1, none⟩ (.int .u64 (s'.hi : Int)) := ⟨_, rfl⟩
  rw [← hw3] at F ⊢
  clear hw3
  obtain ⟨a1, a2, a3, a4⟩ := F.out.s.two
  obtain ⟨b1, b2, b3, b4⟩ := F.out.t.two
  obtain ⟨x, y, ho⟩ := F.out.o
  obtain ⟨c1, c2, c3, c4⟩ := ho.two
  go_wp2_with fail
  refine (KT.out _).mono ?_
  rintro ze w4 ⟨rfl, hc⟩
  replace F := Lib.hid (F.out.calm hc)
  clear hc
  clear a1 a2 a3 a4 b1 b2 b3 b4 c1 c2 c3 c4 ho
  obtain ⟨a1, a2, a3, a4⟩ := F.out.s.two
  obtain ⟨b1, b2, b3, b4⟩ := F.out.t.two
  obtain ⟨x, y, ho⟩ := F.out.o
  obtain ⟨c1, c2, c3, c4⟩ := ho.two
  go_upto_region 5 with fail
  clear a1 a2 a3 a4 b1 b2 b3 b4 c1 c2 c3 c4 ho
  replace F := Lib.hid (F.out.set1 t')
  obtain ⟨w5, hw5⟩ : ∃ zz, zz = (w4.setCell ⟨g1, 0, none⟩ (.int .u64 (t'.lo : Int))).setCell ⟨g1, 1, none⟩ (.int .u64 (t'.hi : Int)) := ⟨_, rfl⟩
  rw [← hw5] at F ⊢
  clear hw5
  obtain ⟨a1, a2, a3, a4⟩ := F.out.s.two
  obtain ⟨b1, b2, b3, b4⟩ := F.out.t.two
  obtain ⟨x, y, ho⟩ := F.out.o
  obtain ⟨c1, c2, c3, c4⟩ := ho.two
  go_wp2_with fail
  refine (KR.out _).mono ?_
  rintro ze w6 ⟨rfl, hc⟩
  replace F := Lib.hid (F.out.calm hc)
  clear hc
  clear a1 a2 a3 a4 b1 b2 b3 b4 c1 c2 c3 c4 ho
  obtain ⟨a1, a2, a3, a4⟩ := F.out.s.two
  obtain ⟨b1, b2, b3, b4⟩ := F.out.t.two
  obtain ⟨x, y, ho⟩ := F.out.o
  obtain ⟨c1, c2, c3, c4⟩ := ho.two
  go_upto_region 7 with fail
  clear a1 a2 a3 a4 b1 b2 b3 b4 c1 c2 c3 c4 ho
  have hA : Row (w6.alloc (.cells #[.int .u64 (r.lo : Int), .int .u64 (r.hi : Int)] 30)) w6.heap.size 30 #[.int .u64 (r.lo : Int), .int .u64 (r.hi : Int)] := Row.made _ _ _
  replace F := Lib.hid (F.out.calm ((Keep.refl _ w6).alloc (.cells #[.int .u64 (r.lo : Int), .int .u64 (r.hi : Int)] 30)))
  obtain ⟨g3, hg3⟩ : ∃ zg, zg = w6.heap.size := ⟨_, rfl⟩
  obtain ⟨w7, hw7⟩ : ∃ zz, zz = w6.alloc (.cells #[.int .u64 (r.lo : Int), .int .u64 (r.hi : Int)] 30) := ⟨_, rfl⟩
  rw [← hg3] at hA ⊢
  rw [← hw7] at hA F ⊢
  clear hg3 hw7
  obtain ⟨a1, a2, a3, a4⟩ := F.out.s.two
  obtain ⟨b1, b2, b3, b4⟩ := F.out.t.two
  obtain ⟨x, y, ho⟩ := F.out.o
  obtain ⟨c1, c2, c3, c4⟩ := ho.two
  obtain ⟨d1, d2, d3, d4⟩ := hA.two
  clear hA
  go_wp2_with fail
  refine (KV.out _).mono ?_
  rintro ze w8 ⟨rfl, hc⟩
  replace F := Lib.hid (F.out.calm hc)
  clear hc
  clear d1 d2 d3 d4
  clear a1 a2 a3 a4 b1 b2 b3 b4 c1 c2 c3 c4 ho
  obtain ⟨a1, a2, a3, a4⟩ := F.out.s.two
  obtain ⟨b1, b2, b3, b4⟩ := F.out.t.two
  obtain ⟨x, y, ho⟩ := F.out.o
  obtain ⟨c1, c2, c3, c4⟩ := ho.two
  go_wp2_with fail
  have hR := ho.bothr (x := .int .u64 (v.lo : Int)) (y := .int .u64 (v.hi : Int))
  have FP := Lib.hid (F.out.put (.int .u64 (v.lo : Int)) (.int .u64 (v.hi : Int)))
  have z := hR.two
  refine bodyPost_ret (by simp [results, Try.results15, go_sem, z.1, z.2.1]; try rfl) rfl ?_
  exact ⟨rfl, FP.out.cal⟩

theorem rDo_c {s t : Sp} {op : Nat} (wide : Bool) (hs : s.Ok) (ht : t.Ok) (w : World) : Calls Try.prog 15 #[.int .u8 (op : Int), .bool wide, .agg #[.int .u64 (s.lo : Int), .int .u64 (s.hi : Int)], .agg #[.int .u64 (t.lo : Int), .int .u64 (t.hi : Int)]] w fun x w' => x = .returned (.agg #[.int .u64 ((doS wide op s t).lo : Int), .int .u64 ((doS wide op s t).hi : Int)]) ∧ Calm w w' := by
  cases wide
  · exact rDo32_c hs ht w
  · exact rDo64_c hs ht w

end Go.Proofs.Ytboiakahhkihiaa
