/-
  DiskPlays: a step of the kind 1.
-/
import Derived.Test.YtppehlnfoendgaaPlays2
import Derived.Lib.BufferRead
namespace Go.Proofs.Ytppehlnfoendgaa
open Go.RowKit
set_option linter.all false

set_option maxHeartbeats 1600000 in
set_option maxRecDepth 100000 in
theorem do_1 {w0 w : World} {R Q : Nat → Prop} {d r : Nat} {S : DS} (h : Half w0 w R Q d r S S) (hwm : S.wait.length ≤ 1000) (hops : S.ops ≤ 1000) (at_ n : Int) (fill : UInt8) (short : Bool) (A : Option Addr) (ks : List Bool) (c : Nat) (hl : ks.length ≤ c) (hc : c ≤ maxLen) (hb : Bools w0 (fun _ => True) (.slice A ks.length c) ks) :
    Calls Try.prog 7 #[.pointer (some ⟨d, 0, none⟩), .pointer (some ⟨r, 0, none⟩), stepV 1 at_ n fill short (.slice A ks.length c)] w fun e w' => e = .returned (.bool true) ∧ Left w0 w' d r S := by
  have H := Lib.hid h
  have HB := Lib.hid hb
  unfold stepV
  unfold maxLen at hc
  clear h hb
  have h1 := Lib.hid (H.out.rest ((Keep.refl _ w).alloc (.cells #[.int .i64 1, .int .i64 at_, .int .i64 n, .int .u8 (fill.toNat : Int), .bool short, .slice A ks.length c] 34)))
  have QN := Lib.hid (fun w : World => Lib.run_convert_nil_bytes (P := Try.prog) w 42 9 5 0 Try.underlying42 Try.underlying5 Try.underlying9)
  by_cases hin : 0 ≤ at_ ∧ at_ < S.secs.length
  · obtain ⟨x, rfl⟩ : ∃ x : Nat, at_ = x := ⟨at_.toNat, by omega⟩
    have hx : x < S.secs.length := by omega
    clear hin
    obtain ⟨⟨b, S1⟩, hop⟩ : ∃ x, S.op = x := ⟨_, rfl⟩
    obtain ⟨hw, ho, hs⟩ := DS.op_wait hop
    have Hop := Lib.hid hop
    clear hop
    cases b
    · by_cases h60 : ks.length ≤ 60
      · go_enter Try.func7, Try.ntmps7
        go_wp2_with fail
        refine (st_read_no h1.out.st (by omega) (by omega) Hop.out x hx).mono ?_
        rintro e w1 ⟨rfl, hs1, k1⟩
        have h2 := Lib.hid (h1.out.disk hs1 k1 (fun _ _ x => x))
        have sc : ∀ p : Addr, p.block = w.heap.size → w1.cell? p = (w.alloc (.cells #[.int .i64 1, .int .i64 x, .int .i64 n, .int .u8 (fill.toNat : Int), .bool short, .slice A ks.length c] 34)).cell? p := fun p hp => k1.cell (by rw [hp]; simp) (fun e => absurd (H.out.st.lt _ e) (by omega))
        have s1 : w1.cell? ⟨w.heap.size, 1, none⟩ = some (.int .i64 x) := (sc _ rfl).trans (by simp)
        clear hs1 k1 sc
        go_wp2_with fail
        refine (rread_no h2.out.rf (by omega) (by omega) Hop.out x hx).mono ?_
        rintro e w2 ⟨rfl, hq, k2⟩
        have h3 := Lib.hid (h2.out.ref hq k2 (fun _ x => .inl x))
        have q := QN.out w2
        clear hq k2
        go_wp2_with fail
        go_ret
        exact ⟨rfl, _, _, S1, h3.out, by omega, by omega, hs⟩
      · go_enter Try.func7, Try.ntmps7
        go_wp2_with fail
        refine (st_read_no h1.out.st (by omega) (by omega) Hop.out x hx).mono ?_
        rintro e w1 ⟨rfl, hs1, k1⟩
        have h2 := Lib.hid (h1.out.disk hs1 k1 (fun _ _ x => x))
        have sc : ∀ p : Addr, p.block = w.heap.size → w1.cell? p = (w.alloc (.cells #[.int .i64 1, .int .i64 x, .int .i64 n, .int .u8 (fill.toNat : Int), .bool short, .slice A ks.length c] 34)).cell? p := fun p hp => k1.cell (by rw [hp]; simp) (fun e => absurd (H.out.st.lt _ e) (by omega))
        have s1 : w1.cell? ⟨w.heap.size, 1, none⟩ = some (.int .i64 x) := (sc _ rfl).trans (by simp)
        clear hs1 k1 sc
        go_wp2_with fail
        refine (rread_no h2.out.rf (by omega) (by omega) Hop.out x hx).mono ?_
        rintro e w2 ⟨rfl, hq, k2⟩
        have h3 := Lib.hid (h2.out.ref hq k2 (fun _ x => .inl x))
        have q := QN.out w2
        clear hq k2
        go_wp2_with fail
        go_ret
        exact ⟨rfl, _, _, S1, h3.out, by omega, by omega, hs⟩
    · by_cases h60 : ks.length ≤ 60
      · go_enter Try.func7, Try.ntmps7
        go_wp2_with fail
        refine (st_read h1.out.st (by omega) (by omega) Hop.out x hx).mono ?_
        rintro e w1 ⟨g, p, rfl, hd, hs1, k1⟩
        have h2 := Lib.hid (h1.out.disk hs1 k1 (fun _ _ x => x))
        have D1 := Lib.hid hd
        have sc : ∀ p : Addr, p.block = w.heap.size → w1.cell? p = (w.alloc (.cells #[.int .i64 1, .int .i64 x, .int .i64 n, .int .u8 (fill.toNat : Int), .bool short, .slice A ks.length c] 34)).cell? p := fun p hp => k1.cell (by rw [hp]; simp) (fun e => absurd (H.out.st.lt _ e) (by omega))
        have s1 : w1.cell? ⟨w.heap.size, 1, none⟩ = some (.int .i64 x) := (sc _ rfl).trans (by simp)
        clear hs1 k1 sc hd
        go_wp2_with fail
        refine (rread_ok h2.out.rf (by omega) (by omega) Hop.out x hx).mono ?_
        rintro e w2 ⟨rfl, hq, k2⟩
        have h3 := Lib.hid (h2.out.ref hq k2 (fun _ x => .inl x))
        have q := conv_data (Data.keep D1.out k2 (fun k e e2 => absurd (h1.out.lt k e2) (by omega)))
        clear hq k2
        go_wp2_with fail
        go_ret
        exact ⟨rfl, _, _, S1, h3.out, by omega, by omega, hs⟩
      · go_enter Try.func7, Try.ntmps7
        go_wp2_with fail
        refine (st_read h1.out.st (by omega) (by omega) Hop.out x hx).mono ?_
        rintro e w1 ⟨g, p, rfl, hd, hs1, k1⟩
        have h2 := Lib.hid (h1.out.disk hs1 k1 (fun _ _ x => x))
        have D1 := Lib.hid hd
        have sc : ∀ p : Addr, p.block = w.heap.size → w1.cell? p = (w.alloc (.cells #[.int .i64 1, .int .i64 x, .int .i64 n, .int .u8 (fill.toNat : Int), .bool short, .slice A ks.length c] 34)).cell? p := fun p hp => k1.cell (by rw [hp]; simp) (fun e => absurd (H.out.st.lt _ e) (by omega))
        have s1 : w1.cell? ⟨w.heap.size, 1, none⟩ = some (.int .i64 x) := (sc _ rfl).trans (by simp)
        clear hs1 k1 sc hd
        go_wp2_with fail
        refine (rread_ok h2.out.rf (by omega) (by omega) Hop.out x hx).mono ?_
        rintro e w2 ⟨rfl, hq, k2⟩
        have h3 := Lib.hid (h2.out.ref hq k2 (fun _ x => .inl x))
        have q := conv_data (Data.keep D1.out k2 (fun k e e2 => absurd (h1.out.lt k e2) (by omega)))
        clear hq k2
        go_wp2_with fail
        go_ret
        exact ⟨rfl, _, _, S1, h3.out, by omega, by omega, hs⟩
  · by_cases h60 : ks.length ≤ 60
    · go_enter Try.func7, Try.ntmps7
      go_wp2_with fail
      refine (read_arg h1.out.st.disk at_ hin).mono ?_
      rintro e w1 ⟨rfl, rfl⟩
      go_wp2_with fail
      refine (rread_arg h1.out.rf at_ hin).mono ?_
      rintro e w2 ⟨rfl, rfl⟩
      have q := QN.out
      go_wp2_with fail
      go_ret
      exact ⟨rfl, _, _, S, h1.out, by omega, by omega, rfl⟩
    · go_enter Try.func7, Try.ntmps7
      go_wp2_with fail
      refine (read_arg h1.out.st.disk at_ hin).mono ?_
      rintro e w1 ⟨rfl, rfl⟩
      go_wp2_with fail
      refine (rread_arg h1.out.rf at_ hin).mono ?_
      rintro e w2 ⟨rfl, rfl⟩
      have q := QN.out
      go_wp2_with fail
      go_ret
      exact ⟨rfl, _, _, S, h1.out, by omega, by omega, rfl⟩
end Go.Proofs.Ytppehlnfoendgaa
