/-
  Contracts of the reference of layer 5: bytes, Write, Encode.
-/
import Derived.Test.YthmiiddojccafaaR5R
import Derived.Test.YthmiiddojccafaaMasks
import Derived.Test.YthmiiddojccafaaI8
namespace Go.Proofs.Ythmiiddojccafaa
open Go.RowKit
set_option linter.all false

/-- A number, shifted by so many bytes; its lowest bytes. -/
def shI (n : Int) : Nat → Int
  | 0 => n
  | k + 1 => shI n k / 256
def lbI (n : Int) : Nat → List UInt8
  | 0 => []
  | k + 1 => lbI n k ++ [byt0 (shI n k)]
theorem lbI_len (n : Int) (k : Nat) : (lbI n k).length = k := by
  induction k with
  | zero => rfl
  | succ k ih => simp [lbI, ih]
theorem byt01 (n : Int) : byt0 (n / 256) = byt1 n := rfl
theorem byt02 (n : Int) : byt0 (n / 256 / 256) = byt2 n := by unfold byt0 byt2; rw [show n / 256 / 256 = n / 65536 by omega]
theorem byt03 (n : Int) : byt0 (n / 256 / 256 / 256) = byt3 n := by unfold byt0 byt3; rw [show n / 256 / 256 / 256 = n / 16777216 by omega]
theorem lbI_1 (n : Int) : lbI n 1 = [byt0 n] := rfl
theorem lbI_2 (n : Int) : lbI n 2 = [byt0 n, byt1 n] := rfl
theorem lbI_4 (n : Int) : lbI n 4 = [byt0 n, byt1 n, byt2 n, byt3 n] := by
  show [byt0 n, byt0 (n / 256), byt0 (n / 256 / 256), byt0 (n / 256 / 256 / 256)] = _
  rw [byt01, byt02, byt03]
theorem shI_bound (n : Int) (h : -2147483648 ≤ n ∧ n < 4294967296) (k : Nat) : -2147483648 ≤ shI n k ∧ shI n k < 4294967296 := by
  induction k with
  | zero => exact h
  | succ k ih => simp only [shI]; omega
theorem conv_one5 {w : World} {g : Nat} {x : UInt8} (h : w.cell? ⟨g, 0, none⟩ = some (.int .u8 (x.toNat : Int))) : Sem.run Try.prog (convert 36 9 (.slice (some ⟨g, 0, none⟩) 1 1)) w = .ok (.string (str [x])) w :=
  run_convert_bytes_back (P := Try.prog) w 36 9 5 ⟨g, 0, none⟩ 1 [x] Try.underlying36 Try.underlying5 Try.underlying9 (fun j hj => by
    have : j = 0 := by simpa using hj
    subst this
    rw [addr_mid]
    exact h)
theorem conv_made5 (w : World) (x : UInt8) (z : Int) (h : (x.toNat : Int) = z) : Sem.run Try.prog (convert 36 9 (.slice (some ⟨w.heap.size, 0, none⟩) 1 1)) (w.alloc (.cells #[.int .u8 z] 5)) = .ok (.string (str [x])) (w.alloc (.cells #[.int .u8 z] 5)) := by
  subst h
  exact conv_one5 (by rw [(Row.made w 5 _).cell 0]; rfl)

set_option maxHeartbeats 1600000 in
theorem rbytes_c (n : Int) (k : Nat) (hk : k ≤ 4) (hn : -2147483648 ≤ n ∧ n < 4294967296) (w : World) : Calls Try.prog 53 #[.int .i64 n, .int .i64 (k : Int)] w fun e w' => e = .returned (.string (str (lbI n k))) ∧ Calm w w' := by
  have i0 : (k : Int) ≤ 4 := by omega
  go_enter Try.func53, Try.ntmps53
  go_wp2_with fail
  go_loopw [0, 5, 6] (fun z s i wr => ∃ j : Nat, j ≤ k ∧ i = .int .i64 j ∧ z = .int .i64 (shI n j) ∧ s = .string (str (lbI n j)) ∧ Calm w wr) (fun _ _ i _ => k - (intOf i).toNat)
  case atStart => exact ⟨0, by omega, rfl, rfl, rfl, Keep.refl _ w⟩
  case round =>
    obtain ⟨j, hj, rfl, rfl, rfl, hcal⟩ := hrel
    have HC := Lib.hid hcal
    clear hcal
    by_cases hlt : j < k
    · have i1 : (j : Int) < (k : Int) := by omega
      have hb := shI_bound n hn j
      have hm : bits .and .i64 (shI n j) 255 = shI n j % 256 := by
        have := i64_mask (shI n j) 8 255 (by decide) rfl
        rw [this]
        rfl
      have hx := byt0_n (shI n j)
      have q1 := conv_made5 wr (byt0 (shI n j)) _ hx
      have sa := str_app (lbI n j) [byt0 (shI n j)]
      have HL : Hid (lbI n (j + 1) = lbI n j ++ [byt0 (shI n j)] ∧ shI n (j + 1) = shI n j / 256) := Lib.hid ⟨rfl, rfl⟩
      have e5 : (str (lbI n j)).size + (str [byt0 (shI n j)]).size ≤ 9223372036854775807 := by rw [str_size, str_size, lbI_len]; simp; omega
      have e6 : IntKind.u8.wrap (shI n j % 256) = shI n j % 256 := by rw [IntKind.wrap_u8]; omega
      generalize byt0 (shI n j) = x at hx q1 sa HL e5
      generalize shI n j = z at hm hx q1 HL e6 hb ⊢
      generalize lbI n j = L at sa HL e5 ⊢
      obtain ⟨z0, z1⟩ := hb
      clear hx
      go_wp2_with fail
      go_roundw
      case rel => exact ⟨j + 1, by omega, by go_num, by rw [HL.out.2], by rw [HL.out.1], HC.out.alloc _⟩
      case measure => simp [intOf]; omega
    · obtain rfl : j = k := by omega
      go_wp2_with fail
      go_ret
      exact ⟨rfl, HC.out⟩

set_option maxRecDepth 100000 in
set_option maxHeartbeats 6400000 in
theorem rwrite_c {w : World} {v : Value} {l : List In} (h : Ins w v l) (hw : ∀ i ∈ l, i.Wf ∧ i.dst < 16 ∧ i.src < 16) (hlen : l.length ≤ 600) : Calls Try.prog 46 #[v] w fun x w' => x = .returned (.string (str (encL l))) ∧ Calm w w' := by
  obtain ⟨A, cap, rfl, hcap, hmax⟩ := h.form
  have H := Lib.hid h
  have HW := Lib.hid hw
  obtain ⟨n, hn⟩ : ∃ n, n = l.length := ⟨_, rfl⟩
  have HN := Lib.hid hn
  have i9 : (n : Int) ≤ 600 := by omega
  rw [← hn] at H ⊢
  clear h hw hn hcap hmax hlen
  go_enter Try.func46, Try.ntmps46
  go_wp2_with fail
  go_loopw [3, 4] (fun s i wr => ∃ k : Nat, k ≤ n ∧ i = .int .i64 k ∧ Calm w wr ∧ s = .string (str (encL (l.take k)))) (fun _ i _ => n - (intOf i).toNat)
  case atStart => exact ⟨0, by omega, rfl, Keep.refl _ w, rfl⟩
  case round =>
    obtain ⟨k, hk, rfl, hcal, rfl⟩ := hrel
    have HC := Lib.hid hcal
    clear hcal
    by_cases hlt : k < n
    · have i1 : (k : Int) < (n : Int) := by omega
      obtain ⟨ad, x, rfl, hx, hat⟩ := H.out.at_ HC.out k (by rw [← HN.out]; exact hlt)
      have e0 := hat.c0
      have e1 := hat.c1
      have e2 := hat.c2
      have e3 := hat.c3
      have e4 := hat.c4
      have HX := Lib.hid hx
      obtain ⟨hxw, hx1, hx2⟩ := HW.out x (List.mem_of_getElem? hx)
      have B1 := Lib.hid (fun w => rbytes_c (x.op : Int) 1 (by decide) (by have := hxw.op; omega) w)
      have B2 := Lib.hid (fun w => rbytes_c ((x.dst : Int) + (x.src : Int) * 16) 1 (by decide) (by omega) w)
      have B3 := Lib.hid (fun w => rbytes_c x.off 2 (by decide) (by have := hxw.off; omega) w)
      have B4 := Lib.hid (fun w => rbytes_c x.imm 4 (by decide) (by have := hxw.imm; omega) w)
      rw [lbI_1] at B1 B2
      rw [lbI_2] at B3
      rw [lbI_4] at B4
      have hb0 : byt0 (x.op : Int) = UInt8.ofNat x.op := by apply byt_of; rw [byt0_n, UInt8.toNat_ofNat']; omega
      have hb1 : byt0 ((x.dst : Int) + (x.src : Int) * 16) = UInt8.ofNat (x.dst + 16 * x.src) := by apply byt_of; rw [byt0_n, UInt8.toNat_ofNat']; omega
      rw [hb0] at B1
      rw [hb1] at B2
      have m1 := (op_bits ⟨x.dst, by omega⟩).2.2.2.2
      have m2 := (op_bits ⟨x.src, by omega⟩).2.2.2.2
      simp only at m1 m2
      rw [Nat.mod_eq_of_lt hx1] at m1
      rw [Nat.mod_eq_of_lt hx2] at m2
      have HEN : Hid (encL (l.take (k + 1)) = ((((encL (l.take k) ++ [UInt8.ofNat x.op]) ++ [UInt8.ofNat (x.dst + 16 * x.src)]) ++ [byt0 x.off, byt1 x.off]) ++ [byt0 x.imm, byt1 x.imm, byt2 x.imm, byt3 x.imm])) := Lib.hid (by
        have hst : l.take (k + 1) = l.take k ++ [x] := by rw [List.take_add_one, HX.out]; rfl
        rw [hst, encL_app]
        simp [encL, enc1])
      have hlE : (encL (l.take k)).length ≤ 4800 := by rw [encL_len, List.length_take]; omega
      generalize encL (l.take k) = E at HEN hlE ⊢
      have s1 := str_app E [UInt8.ofNat x.op]
      have s2 := str_app (E ++ [UInt8.ofNat x.op]) [UInt8.ofNat (x.dst + 16 * x.src)]
      have s3 := str_app ((E ++ [UInt8.ofNat x.op]) ++ [UInt8.ofNat (x.dst + 16 * x.src)]) [byt0 x.off, byt1 x.off]
      have s4 := str_app (((E ++ [UInt8.ofNat x.op]) ++ [UInt8.ofNat (x.dst + 16 * x.src)]) ++ [byt0 x.off, byt1 x.off]) [byt0 x.imm, byt1 x.imm, byt2 x.imm, byt3 x.imm]
      generalize hP1 : [UInt8.ofNat x.op] = P1 at B1 s1 s2 s3 s4 HEN
      generalize hP2 : [UInt8.ofNat (x.dst + 16 * x.src)] = P2 at B2 s2 s3 s4 HEN
      generalize hP3 : [byt0 x.off, byt1 x.off] = P3 at B3 s3 s4 HEN
      generalize hP4 : [byt0 x.imm, byt1 x.imm, byt2 x.imm, byt3 x.imm] = P4 at B4 s4 HEN
      have v1 : P1.length = 1 := by rw [← hP1]; rfl
      have v2 : P2.length = 1 := by rw [← hP2]; rfl
      have v3 : P3.length = 2 := by rw [← hP3]; rfl
      have v4 : P4.length = 4 := by rw [← hP4]; rfl
      obtain ⟨Q1, hQ1⟩ : ∃ Q, Q = E ++ P1 := ⟨_, rfl⟩
      rw [← hQ1] at s1 s2 s3 s4 HEN
      obtain ⟨Q2, hQ2⟩ : ∃ Q, Q = Q1 ++ P2 := ⟨_, rfl⟩
      rw [← hQ2] at s2 s3 s4 HEN
      obtain ⟨Q3, hQ3⟩ : ∃ Q, Q = Q2 ++ P3 := ⟨_, rfl⟩
      rw [← hQ3] at s3 s4 HEN
      obtain ⟨Q4, hQ4⟩ : ∃ Q, Q = Q3 ++ P4 := ⟨_, rfl⟩
      rw [← hQ4] at s4 HEN
      have z1 : (str E).size + (str P1).size ≤ 9223372036854775807 := by rw [str_size, str_size]; omega
      have z2 : (str Q1).size + (str P2).size ≤ 9223372036854775807 := by rw [str_size, str_size, hQ1, List.length_append]; omega
      have z3 : (str Q2).size + (str P3).size ≤ 9223372036854775807 := by rw [str_size, str_size, hQ2, hQ1, List.length_append, List.length_append]; omega
      have z4 : (str Q3).size + (str P4).size ≤ 9223372036854775807 := by rw [str_size, str_size, hQ3, hQ2, hQ1, List.length_append, List.length_append, List.length_append]; omega
      clear hQ1 hQ2 hQ3 hQ4 v1 v2 v3 v4
      have HB : Hid (Box (wr.alloc (.cells #[.int .u8 (x.op : Int), .int .u8 (x.dst : Int), .int .u8 (x.src : Int), .int .i16 x.off, .int .i32 x.imm] 34)) wr.heap.size x.op x.dst x.src x.off x.imm) := Lib.hid (Box.made wr _ _ _ _ _)
      have HC1 : Hid (Calm w (wr.alloc (.cells #[.int .u8 (x.op : Int), .int .u8 (x.dst : Int), .int .u8 (x.src : Int), .int .i16 x.off, .int .i32 x.imm] 34))) := Lib.hid (HC.out.alloc _)
      have u1 : (x.dst : Int) < 16 := by omega
      have u2 : (x.src : Int) < 16 := by omega
      have u3 : (x.op : Int) < 256 := by have := hxw.op; omega
      have u4 : -32768 ≤ x.off ∧ x.off < 32768 := hxw.off
      have u5 : -2147483648 ≤ x.imm ∧ x.imm < 2147483648 := hxw.imm
      obtain ⟨u4a, u4b⟩ := u4
      obtain ⟨u5a, u5b⟩ := u5
      have y1 : IntKind.i64.wrap (x.op : Int) = (x.op : Int) := by rw [IntKind.wrap_i64]; omega
      have y2 : IntKind.i64.wrap (x.dst : Int) = (x.dst : Int) := by rw [IntKind.wrap_i64]; omega
      have y3 : IntKind.i64.wrap (x.src : Int) = (x.src : Int) := by rw [IntKind.wrap_i64]; omega
      have y4 : IntKind.i64.wrap ((x.src : Int) * 16) = (x.src : Int) * 16 := by rw [IntKind.wrap_i64]; omega
      have y5 : IntKind.i64.wrap ((x.dst : Int) + (x.src : Int) * 16) = (x.dst : Int) + (x.src : Int) * 16 := by rw [IntKind.wrap_i64]; omega
      have y6 : IntKind.i64.wrap x.off = x.off := by rw [IntKind.wrap_i64]; omega
      have y7 : IntKind.i64.wrap x.imm = x.imm := by rw [IntKind.wrap_i64]; omega
      clear hat hx hxw hx1 hx2 hb0 hb1 hP1 hP2 hP3 hP4 hlE
      go_upto_region 6 with fail
      obtain ⟨w5, hw5⟩ : ∃ w5, w5 = wr.alloc (.cells #[.int .u8 (x.op : Int), .int .u8 (x.dst : Int), .int .u8 (x.src : Int), .int .i16 x.off, .int .i32 x.imm] 34) := ⟨_, rfl⟩
      rw [← hw5] at HB HC1 ⊢
      obtain ⟨g, hg⟩ : ∃ g, g = wr.heap.size := ⟨_, rfl⟩
      rw [← hg] at HB ⊢
      clear hw5 hg e0 e1 e2 e3 e4
      refine wp_region_noPanic ?_
      refine wp_region_held_drew (S := fun w' => Calm w w' ∧ Box w' g x.op x.dst x.src x.off x.imm) (by kernel_rfl) ⟨HC1.out.drew, HB.out.drew⟩ (fun hHeld => ?_)
      refine take_at 0 16 (.string (str E)) rfl rfl (by kernel_rfl) (by kernel_rfl) (by kernel_rfl) (fun _ _ _ h => h) (Or.inl ⟨by rfl, ?_⟩) hHeld ?_
      · intro w hSw; go_simp
      simp only [List.setIfInBounds_toArray, List.set_cons_zero, List.set_cons_succ]
      refine take_at 1 17 (.pointer (some ⟨g, 0, none⟩)) rfl rfl (by kernel_rfl) (by kernel_rfl) (by kernel_rfl) (fun _ _ _ h => h) (Or.inl ⟨by rfl, ?_⟩) hHeld ?_
      · intro w hSw; go_simp
      simp only [List.setIfInBounds_toArray, List.set_cons_zero, List.set_cons_succ]
      refine take_at 2 18 (.int .u8 (x.op : Int)) rfl rfl (by kernel_rfl) (by kernel_rfl) (by kernel_rfl) (fun _ _ _ h => h) (Or.inl ⟨by rfl, ?_⟩) hHeld ?_
      · intro w hSw; obtain ⟨-, c0, c1, c2, c3, c4⟩ := hSw; go_simp
      simp only [List.setIfInBounds_toArray, List.set_cons_zero, List.set_cons_succ]
      refine take_at 3 19 (.int .i64 (x.op : Int)) rfl rfl (by kernel_rfl) (by kernel_rfl) (by kernel_rfl) (fun _ _ _ h => h) (Or.inl ⟨by rfl, ?_⟩) hHeld ?_
      · intro w hSw; go_simp
      simp only [List.setIfInBounds_toArray, List.set_cons_zero, List.set_cons_succ]
      refine take_at 6 22 (.pointer (some ⟨g, 1, none⟩)) rfl rfl (by kernel_rfl) (by kernel_rfl) (by kernel_rfl) (fun _ _ _ h => h) (Or.inl ⟨by rfl, ?_⟩) hHeld ?_
      · intro w hSw; go_simp
      simp only [List.setIfInBounds_toArray, List.set_cons_zero, List.set_cons_succ]
      refine take_at 7 23 (.int .u8 (x.dst : Int)) rfl rfl (by kernel_rfl) (by kernel_rfl) (by kernel_rfl) (fun _ _ _ h => h) (Or.inl ⟨by rfl, ?_⟩) hHeld ?_
      · intro w hSw; obtain ⟨-, c0, c1, c2, c3, c4⟩ := hSw; go_simp
      simp only [List.setIfInBounds_toArray, List.set_cons_zero, List.set_cons_succ]
      refine take_at 8 24 (.int .u8 (x.dst : Int)) rfl rfl (by kernel_rfl) (by kernel_rfl) (by kernel_rfl) (fun _ _ _ h => h) (Or.inl ⟨by rfl, ?_⟩) hHeld ?_
      · intro w hSw; go_simp
      simp only [List.setIfInBounds_toArray, List.set_cons_zero, List.set_cons_succ]
      refine take_at 9 25 (.int .i64 (x.dst : Int)) rfl rfl (by kernel_rfl) (by kernel_rfl) (by kernel_rfl) (fun _ _ _ h => h) (Or.inl ⟨by rfl, ?_⟩) hHeld ?_
      · intro w hSw; go_simp
      simp only [List.setIfInBounds_toArray, List.set_cons_zero, List.set_cons_succ]
      refine take_at 10 26 (.pointer (some ⟨g, 2, none⟩)) rfl rfl (by kernel_rfl) (by kernel_rfl) (by kernel_rfl) (fun _ _ _ h => h) (Or.inl ⟨by rfl, ?_⟩) hHeld ?_
      · intro w hSw; go_simp
      simp only [List.setIfInBounds_toArray, List.set_cons_zero, List.set_cons_succ]
      refine take_at 11 27 (.int .u8 (x.src : Int)) rfl rfl (by kernel_rfl) (by kernel_rfl) (by kernel_rfl) (fun _ _ _ h => h) (Or.inl ⟨by rfl, ?_⟩) hHeld ?_
      · intro w hSw; obtain ⟨-, c0, c1, c2, c3, c4⟩ := hSw; go_simp
      simp only [List.setIfInBounds_toArray, List.set_cons_zero, List.set_cons_succ]
      refine take_at 12 28 (.int .u8 (x.src : Int)) rfl rfl (by kernel_rfl) (by kernel_rfl) (by kernel_rfl) (fun _ _ _ h => h) (Or.inl ⟨by rfl, ?_⟩) hHeld ?_
      · intro w hSw; go_simp
      simp only [List.setIfInBounds_toArray, List.set_cons_zero, List.set_cons_succ]
      refine take_at 13 29 (.int .i64 (x.src : Int)) rfl rfl (by kernel_rfl) (by kernel_rfl) (by kernel_rfl) (fun _ _ _ h => h) (Or.inl ⟨by rfl, ?_⟩) hHeld ?_
      · intro w hSw; go_simp
      simp only [List.setIfInBounds_toArray, List.set_cons_zero, List.set_cons_succ]
      refine take_at 14 30 (.int .i64 ((x.src : Int) * 16)) rfl rfl (by kernel_rfl) (by kernel_rfl) (by kernel_rfl) (fun _ _ _ h => h) (Or.inl ⟨by rfl, ?_⟩) hHeld ?_
      · intro w hSw; go_simp
      simp only [List.setIfInBounds_toArray, List.set_cons_zero, List.set_cons_succ]
      refine take_at 15 31 (.int .i64 ((x.dst : Int) + (x.src : Int) * 16)) rfl rfl (by kernel_rfl) (by kernel_rfl) (by kernel_rfl) (fun _ _ _ h => h) (Or.inl ⟨by rfl, ?_⟩) hHeld ?_
      · intro w hSw; go_simp
      simp only [List.setIfInBounds_toArray, List.set_cons_zero, List.set_cons_succ]
      refine take_at 18 34 (.pointer (some ⟨g, 3, none⟩)) rfl rfl (by kernel_rfl) (by kernel_rfl) (by kernel_rfl) (fun _ _ _ h => h) (Or.inl ⟨by rfl, ?_⟩) hHeld ?_
      · intro w hSw; go_simp
      simp only [List.setIfInBounds_toArray, List.set_cons_zero, List.set_cons_succ]
      refine take_at 19 35 (.int .i16 x.off) rfl rfl (by kernel_rfl) (by kernel_rfl) (by kernel_rfl) (fun _ _ _ h => h) (Or.inl ⟨by rfl, ?_⟩) hHeld ?_
      · intro w hSw; obtain ⟨-, c0, c1, c2, c3, c4⟩ := hSw; go_simp
      simp only [List.setIfInBounds_toArray, List.set_cons_zero, List.set_cons_succ]
      refine take_at 20 36 (.int .i64 x.off) rfl rfl (by kernel_rfl) (by kernel_rfl) (by kernel_rfl) (fun _ _ _ h => h) (Or.inl ⟨by rfl, ?_⟩) hHeld ?_
      · intro w hSw; go_simp
      simp only [List.setIfInBounds_toArray, List.set_cons_zero, List.set_cons_succ]
      refine take_at 23 39 (.pointer (some ⟨g, 4, none⟩)) rfl rfl (by kernel_rfl) (by kernel_rfl) (by kernel_rfl) (fun _ _ _ h => h) (Or.inl ⟨by rfl, ?_⟩) hHeld ?_
      · intro w hSw; go_simp
      simp only [List.setIfInBounds_toArray, List.set_cons_zero, List.set_cons_succ]
      refine take_at 24 40 (.int .i32 x.imm) rfl rfl (by kernel_rfl) (by kernel_rfl) (by kernel_rfl) (fun _ _ _ h => h) (Or.inl ⟨by rfl, ?_⟩) hHeld ?_
      · intro w hSw; obtain ⟨-, c0, c1, c2, c3, c4⟩ := hSw; go_simp
      simp only [List.setIfInBounds_toArray, List.set_cons_zero, List.set_cons_succ]
      refine take_at 25 41 (.int .i64 x.imm) rfl rfl (by kernel_rfl) (by kernel_rfl) (by kernel_rfl) (fun _ _ _ h => h) (Or.inl ⟨by rfl, ?_⟩) hHeld ?_
      · intro w hSw; go_simp
      simp only [List.setIfInBounds_toArray, List.set_cons_zero, List.set_cons_succ]
      refine wpAnyH_ready (rs := [4]) (by kernel_rfl) (by simp) ?_
      refine AllReadyH.cons rfl (fun K hK => ?_) AllReadyH.nil
      go_simp
      refine (B1.out _).mono ?_
      rintro e' wa ⟨rfl, hc⟩
      refine hK.out _ _ ⟨hHeld.1.trans hc, hHeld.2.calm hc⟩ (fun hHeld => ?_)
      clear hK K
      try simp only [List.setIfInBounds_toArray, List.set_cons_zero, List.set_cons_succ]
      refine take_at 5 21 (.string (str Q1)) rfl rfl (by kernel_rfl) (by kernel_rfl) (by kernel_rfl) (fun _ _ _ h => h) (Or.inl ⟨by rfl, ?_⟩) hHeld ?_
      · intro w hSw; go_simp
      simp only [List.setIfInBounds_toArray, List.set_cons_zero, List.set_cons_succ]
      refine wpAnyH_ready (rs := [16]) (by kernel_rfl) (by simp) ?_
      refine AllReadyH.cons rfl (fun K hK => ?_) AllReadyH.nil
      go_simp
      refine (B2.out _).mono ?_
      rintro e' wb ⟨rfl, hc⟩
      refine hK.out _ _ ⟨hHeld.1.trans hc, hHeld.2.calm hc⟩ (fun hHeld => ?_)
      clear hK K
      try simp only [List.setIfInBounds_toArray, List.set_cons_zero, List.set_cons_succ]
      refine take_at 17 33 (.string (str Q2)) rfl rfl (by kernel_rfl) (by kernel_rfl) (by kernel_rfl) (fun _ _ _ h => h) (Or.inl ⟨by rfl, ?_⟩) hHeld ?_
      · intro w hSw; go_simp
      simp only [List.setIfInBounds_toArray, List.set_cons_zero, List.set_cons_succ]
      refine wpAnyH_ready (rs := [21]) (by kernel_rfl) (by simp) ?_
      refine AllReadyH.cons rfl (fun K hK => ?_) AllReadyH.nil
      go_simp
      refine (B3.out _).mono ?_
      rintro e' wc ⟨rfl, hc⟩
      refine hK.out _ _ ⟨hHeld.1.trans hc, hHeld.2.calm hc⟩ (fun hHeld => ?_)
      clear hK K
      try simp only [List.setIfInBounds_toArray, List.set_cons_zero, List.set_cons_succ]
      refine take_at 22 38 (.string (str Q3)) rfl rfl (by kernel_rfl) (by kernel_rfl) (by kernel_rfl) (fun _ _ _ h => h) (Or.inl ⟨by rfl, ?_⟩) hHeld ?_
      · intro w hSw; go_simp
      simp only [List.setIfInBounds_toArray, List.set_cons_zero, List.set_cons_succ]
      refine wpAnyH_ready (rs := [26]) (by kernel_rfl) (by simp) ?_
      refine AllReadyH.cons rfl (fun K hK => ?_) AllReadyH.nil
      go_simp
      refine (B4.out _).mono ?_
      rintro e' wd ⟨rfl, hc⟩
      refine hK.out _ _ ⟨hHeld.1.trans hc, hHeld.2.calm hc⟩ (fun hHeld => ?_)
      clear hK K
      try simp only [List.setIfInBounds_toArray, List.set_cons_zero, List.set_cons_succ]
      refine take_at 27 43 (.string (str Q4)) rfl rfl (by kernel_rfl) (by kernel_rfl) (by kernel_rfl) (fun _ _ _ h => h) (Or.inl ⟨by rfl, ?_⟩) hHeld ?_
      · intro w hSw; go_simp
      simp only [List.setIfInBounds_toArray, List.set_cons_zero, List.set_cons_succ]
      refine wpAnyH_ready (rs := [28]) (by kernel_rfl) (by simp) ?_
      refine AllReadyH.cons rfl (fun K hK => ?_) AllReadyH.nil
      go_simp
      refine hK.out _ _ hHeld (fun hHeld => ?_)
      clear hK K
      try simp only [List.setIfInBounds_toArray, List.set_cons_zero, List.set_cons_succ]
      refine wpAnyH_done (by kernel_rfl) (NoPanic.normal ?_) _
      have C6 := Lib.hid hHeld.1
      clear hHeld B1 B2 B3 B4
      go_wp2_with fail
      go_roundw
      case rel => exact ⟨k + 1, by omega, by go_num, C6.out, by rw [HEN.out]⟩
      case measure => simp [intOf]; omega
    · obtain rfl : k = n := by omega
      have HF : Hid (l.take k = l) := Lib.hid (by rw [HN.out, List.take_length])
      go_wp2_with fail
      go_ret
      exact ⟨by rw [HF.out]; rfl, HC.out⟩

set_option maxRecDepth 100000 in
set_option maxHeartbeats 3200000 in
theorem rencode_c {w : World} {v : Value} {l : List In} (h : Ins w v l) (hw : ∀ i ∈ l, i.Wf) : Calls Try.prog 33 #[v] w fun x w' => Calm w w' ∧ ((encO l = true ∧ x = .returned (.tuple #[.string (str (encL l)), .int .i64 0])) ∨ (encO l = false ∧ x = .returned (.tuple #[.string (str []), .int .i64 1]))) := by
  obtain ⟨A, cap, rfl, hcap, hmax⟩ := h.form
  unfold maxLen at hmax
  have H := Lib.hid h
  have HW := Lib.hid hw
  have RC := Lib.hid (rright_c h (fun i hi => (hw i hi).op))
  obtain ⟨n, hn⟩ : ∃ n, n = l.length := ⟨_, rfl⟩
  have HN := Lib.hid hn
  have i9 : (n : Int) ≤ 9223372036854775807 := by omega
  rw [← hn] at H RC ⊢
  clear h hw hn hcap hmax
  go_enter Try.func33, Try.ntmps33
  go_wp2_with fail
  refine RC.out.mono ?_
  rintro e w2 ⟨rfl, hc2⟩
  have C2 := Lib.hid hc2
  clear hc2 RC
  generalize hB : rightO l = B
  have HB := Lib.hid hB
  clear hB
  cases B
  · have HE : Hid (encO l = false) := Lib.hid (by unfold encO; rw [HB.out, Bool.and_false])
    go_wp2_with fail
    go_ret2
    exact ⟨C2.out, .inr ⟨HE.out, rfl⟩⟩
  by_cases h1 : n = 0
  · have g1 : ((n : Int) == 0) = true := by rw [beq_iff_eq]; omega
    have HE : Hid (encO l = false) := Lib.hid (by unfold encO; rw [← HN.out, decide_eq_false (by omega)]; rfl)
    clear h1
    go_wp2_with fail
    go_ret2
    exact ⟨C2.out, .inr ⟨HE.out, rfl⟩⟩
  have g1 : ((n : Int) == 0) = false := by rw [beq_eq_false_iff_ne]; omega
  by_cases h2 : 512 < n
  · have g2 : (512 : Int) < (n : Int) := by omega
    have HE : Hid (encO l = false) := Lib.hid (by unfold encO; rw [← HN.out, decide_eq_false (by omega)]; rfl)
    clear h1 h2
    go_wp2_with fail
    go_ret2
    exact ⟨C2.out, .inr ⟨HE.out, rfl⟩⟩
  have g2 : decide ((512 : Int) < (n : Int)) = false := decide_eq_false (by omega)
  have HE : Hid (encO l = true) := Lib.hid (by unfold encO; rw [← HN.out, decide_eq_true (by omega), HB.out]; rfl)
  have WC := Lib.hid (rwrite_c (H.out.calm C2.out) (fun i hi => ⟨HW.out i hi, right_small l HB.out i hi⟩) (by rw [← HN.out]; omega))
  clear h1 h2
  go_wp2_with fail
  refine WC.out.mono ?_
  rintro e w3 ⟨rfl, hc3⟩
  have C3 := Lib.hid (C2.out.trans hc3)
  clear hc3
  go_wp2_with fail
  go_ret2
  exact ⟨C3.out, .inl ⟨HE.out, rfl⟩⟩
end Go.Proofs.Ythmiiddojccafaa
