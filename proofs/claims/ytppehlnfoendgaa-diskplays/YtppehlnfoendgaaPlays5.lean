/-
  DiskPlays: a step of the kind 2.
-/
import Derived.Test.YtppehlnfoendgaaPlays4
namespace Go.Proofs.Ytppehlnfoendgaa
open Go.RowKit
set_option linter.all false

theorem cut_len (l n : Nat) : ∃ q : Nat, (if (n : Int) < (l : Int) then (n : Int) else (l : Int)) = (q : Int) ∧ q ≤ n ∧ q ≤ l := by
  by_cases h : n < l
  · exact ⟨n, by rw [if_pos (by omega)], Nat.le_refl _, by omega⟩
  · exact ⟨l, by rw [if_neg (by omega)], by omega, Nat.le_refl _⟩
theorem Data.row {w : World} {R : Nat → Prop} {g cap : Nat} {bs : List UInt8} (h : Data w R (.slice (some ⟨g, 0, none⟩) 512 cap) bs) : R g ∧ 512 ≤ cap ∧ cap ≤ maxLen ∧ ∃ cur, Row w g 5 cur ∧ cur.size = cap := by
  obtain ⟨g', cap', cur, e, h1, h2, h3, h4, h5, h6⟩ := h
  injection e with e _ e2
  injection e with e
  injection e with e
  subst e; subst e2
  exact ⟨h6, h2, h3, cur, h1, h4⟩
theorem addr_mid (b o j : Nat) : (⟨b, o, none⟩ : Addr).add j = ⟨b, o + j, none⟩ := by unfold Addr.add; split <;> simp_all
/-- string(b[1:]). -/
theorem conv_short {w : World} {R : Nat → Prop} {g cap : Nat} {c : UInt8} (h : Data w R (.slice (some ⟨g, 0, none⟩) 512 cap) (full c)) (n : Nat) :
    Sem.run Try.prog (convert 42 9 (.slice (some ⟨g, 1, none⟩) 511 n)) w = .ok (.string (str (List.replicate 511 c))) w := by
  have := run_convert_bytes_back (P := Try.prog) w 42 9 5 ⟨g, 1, none⟩ n (List.replicate 511 c) Try.underlying42 Try.underlying5 Try.underlying9 (fun j hj => by
    rw [List.length_replicate] at hj
    have hc := h.cell (j + 1) (by omega)
    rw [addr_mid, Nat.add_comm 1 j, hc, full_at, List.getElem_replicate]
    rfl)
  rw [List.length_replicate] at this
  exact this

set_option maxHeartbeats 1600000 in
set_option maxRecDepth 100000 in
theorem do_2 {w0 w : World} {R Q : Nat → Prop} {d r : Nat} {S : DS} (h : Half w0 w R Q d r S S) (hwm : S.wait.length ≤ 1000) (hops : S.ops ≤ 1000) (at_ n : Int) (fill : UInt8) (short : Bool) (A : Option Addr) (ks : List Bool) (c : Nat) (hl : ks.length ≤ c) (hc : c ≤ maxLen) (hb : Bools w0 (fun _ => True) (.slice A ks.length c) ks) :
    Calls Try.prog 7 #[.pointer (some ⟨d, 0, none⟩), .pointer (some ⟨r, 0, none⟩), stepV 2 at_ n fill short (.slice A ks.length c)] w fun e w' => e = .returned (.bool true) ∧ Left w0 w' d r S := by
  have H := Lib.hid h
  have HB := Lib.hid hb
  unfold stepV
  unfold maxLen at hc
  clear h hb
  have h1 := Lib.hid (H.out.rest ((Keep.refl _ w).alloc (.cells #[.int .i64 2, .int .i64 at_, .int .i64 n, .int .u8 (fill.toNat : Int), .bool short, .slice A ks.length c] 34)))
  obtain ⟨q, hq0, hq1, hq2⟩ := cut_len ks.length 60
  have hq : (if 60 < (ks.length : Int) then 60 else (ks.length : Int)) = (q : Int) := hq0
  clear hq0
  have s1 : (w.alloc (.cells #[.int .i64 2, .int .i64 at_, .int .i64 n, .int .u8 (fill.toNat : Int), .bool short, .slice A ks.length c] 34)).cell? ⟨w.heap.size, 1, none⟩ = some (.int .i64 at_) := by simp
  have s4 : (w.alloc (.cells #[.int .i64 2, .int .i64 at_, .int .i64 n, .int .u8 (fill.toNat : Int), .bool short, .slice A ks.length c] 34)).cell? ⟨w.heap.size, 4, none⟩ = some (.bool short) := by simp
  have sz : w.heap.size < (w.alloc (.cells #[.int .i64 2, .int .i64 at_, .int .i64 n, .int .u8 (fill.toNat : Int), .bool short, .slice A ks.length c] 34)).heap.size := by simp
  have S1' := Lib.hid s1
  have S4' := Lib.hid s4
  have SZ := Lib.hid sz
  clear s1 s4 sz
  go_enter Try.func7, Try.ntmps7
  go_wp2_with fail
  clear hq
  generalize World.alloc w _ = wa at h1 S1' S4' SZ ⊢
  refine (sector_c fill wa).mono ?_
  rintro e w1 ⟨g, cap, rfl, hd, hc1⟩
  have h2 := Lib.hid (h1.out.rest hc1)
  have s1 := (hc1.cell (p := ⟨w.heap.size, 1, none⟩) SZ.out (fun e => e)).trans S1'.out
  have s4 := (hc1.cell (p := ⟨w.heap.size, 4, none⟩) SZ.out (fun e => e)).trans S4'.out
  obtain ⟨⟨-, hga⟩, hcap, hmax, cur0, hrow0, hcur0⟩ := hd.row
  unfold maxLen at hmax
  have hnew : ¬ R g ∧ ¬ Q g ∧ w0.heap.size ≤ g := ⟨fun x => absurd (h1.out.st.lt g x) (by omega), fun x => absurd (h1.out.lt g x) (by omega), by have := h1.out.calm.size; omega⟩
  have hgw : g < w1.heap.size := hrow0.lt
  have D := Lib.hid hd
  have HN := Lib.hid hnew
  have HR0 : Hid (∃ cur, Row w1 g 5 cur ∧ cur.size = cap) := Lib.hid ⟨cur0, hrow0, hcur0⟩
  have SZ1 : Hid (w.heap.size < w1.heap.size) := Lib.hid (Nat.lt_of_lt_of_le SZ.out hc1.size)
  have HG := Lib.hid hgw
  clear hd hnew hrow0 hcur0 cur0 hc1 S1' S4' SZ hgw hga
  cases short
  · by_cases hin : 0 ≤ at_ ∧ at_ < S.secs.length
    · obtain ⟨x, rfl⟩ : ∃ x : Nat, at_ = x := ⟨at_.toNat, by omega⟩
      have hx : x < S.secs.length := by omega
      clear hin
      obtain ⟨⟨b, S1⟩, hop⟩ : ∃ x, S.op = x := ⟨_, rfl⟩
      obtain ⟨hw, ho, hs⟩ := DS.op_wait hop
      have Hop := Lib.hid hop
      clear hop
      have HW := Lib.hid (And.intro hw (And.intro ho hs))
      clear hw ho hs
      cases b
      · go_wp2_with fail
        refine (st_write_no h2.out.st (by omega) (by omega) Hop.out x hx _ _).mono ?_
        rintro e w2 ⟨rfl, hs1, k1⟩
        have h3 := Lib.hid (h2.out.disk hs1 k1 (fun _ _ x => x))
        have s1' := (k1.cell (p := ⟨w.heap.size, 1, none⟩) SZ1.out (fun e => absurd (H.out.st.lt _ e) (Nat.lt_irrefl _))).trans s1
        have D2 := Lib.hid (Data.keep D.out k1 (fun k e e2 => by have := H.out.st.lt k e2; have := SZ1.out; have := h1.out.st.lt k e2; omega))
        have HR2 : Hid (∃ cur, Row w2 g 5 cur ∧ cur.size = cap) := Lib.hid (by obtain ⟨cur, e1, e2⟩ := HR0.out; exact ⟨cur, e1.keep k1 HN.out.1, e2⟩)
        have qc := conv_data D2.out
        have SZ2 : Hid (g < w2.heap.size) := Lib.hid (Nat.lt_of_lt_of_le HG.out k1.size)
        clear hs1 k1 s1 s4
        go_wp2_with fail
        refine (rwrite_no h3.out.rf (by omega) (by omega) Hop.out x hx (full fill) D2.out.len).mono ?_
        rintro e w3 ⟨rfl, hq, k2⟩
        have H9 := Lib.hid (h3.out.ref hq k2 (fun _ x => .inl x))
        have HR9 : Hid (∃ cur, Row w3 g 5 cur ∧ cur.size = cap) := Lib.hid (by obtain ⟨cur, e1, e2⟩ := HR2.out; exact ⟨cur, e1.keep k2 HN.out.2.1, e2⟩)
        have N9 := HN
        have L9 : Hid (S1.wait.length ≤ S.wait.length + 1 ∧ S1.ops ≤ S.ops + 1 ∧ S1.secs.length = S.secs.length) := Lib.hid ⟨by have := HW.out.1; omega, by have := HW.out.2.1; omega, HW.out.2.2⟩
        clear hq k2 qc s1'
        go_wp2_with fail
        go_loopw [15] (fun i wr => ∃ (j : Nat) (cur : Array Value), j ≤ 512 ∧ i = .int .i64 j ∧ Half w0 wr R Q d r S1 S1 ∧ Row wr g 5 cur ∧ cur.size = cap) (fun i _ => 512 - (intOf i).toNat)
        case atStart => obtain ⟨cur, e1, e2⟩ := HR9.out; exact ⟨0, cur, by omega, rfl, H9.out, e1, e2⟩
        case round =>
          obtain ⟨j, cur, hj, rfl, hh, hrow, hcs⟩ := hrel
          have HH := Lib.hid hh
          have HRw := Lib.hid hrow
          by_cases hlt : j < 512
          · have f0 := hrow.soft (j)
            have c0 := hrow.cell (j)
            rw [Array.getElem?_eq_getElem (show j < cur.size by omega)] at c0
            generalize cur[j]'(by omega) = x0 at c0
            have j1 : (j : Int) < 512 := by omega
            clear hh hrow
            go_wp2_with fail
            go_roundw
            case rel => exact ⟨j + 1, cur.setIfInBounds (j) (.int .u8 63), by omega, by go_num, HH.out.touch N9.out.1 N9.out.2.1 N9.out.2.2 (j) _, HRw.out.store (j) _, by simpa using hcs⟩
            case measure => simp [intOf]; omega
          · obtain rfl : j = 512 := by omega
            clear hh hrow
            go_wp2_with fail
            go_ret
            exact ⟨rfl, _, _, S1, HH.out, L9.out.1, L9.out.2.1, by first | exact L9.out.2.2 | rfl⟩
      · go_wp2_with fail
        refine (st_write h2.out.st (by omega) (by omega) Hop.out x hx g cap (full fill) D.out (fun k e e2 => by have := h1.out.st.lt k e2; omega)).mono ?_
        rintro e w2 ⟨rfl, hs1, k1⟩
        have h3 := Lib.hid (h2.out.disk hs1 k1 (fun i hi e => e.elim (fun x => x) (fun x => by omega)))
        have s1' := (k1.cell (p := ⟨w.heap.size, 1, none⟩) SZ1.out (fun e => absurd (H.out.st.lt _ e) (Nat.lt_irrefl _))).trans s1
        have D2 := Lib.hid (Data.keep D.out k1 (fun k e e2 => by have := h1.out.st.lt k e2; omega))
        have HR2 : Hid (∃ cur, Row w2 g 5 cur ∧ cur.size = cap) := Lib.hid (by obtain ⟨cur, e1, e2⟩ := HR0.out; exact ⟨cur, e1.keep k1 HN.out.1, e2⟩)
        have qc := conv_data D2.out
        have HN2 : Hid (¬ Grow R w1 w2 g) := Lib.hid (fun e => e.elim HN.out.1 (fun x => by have := HG.out; omega))
        have SZ2 : Hid (g < w2.heap.size) := Lib.hid (Nat.lt_of_lt_of_le HG.out k1.size)
        clear hs1 k1 s1 s4
        generalize Grow R w1 w2 = R9 at h3 HN2
        go_wp2_with fail
        refine (rwrite_ok h3.out.rf (by omega) (by omega) Hop.out x hx (full fill) D2.out.len).mono ?_
        rintro e w3 ⟨rfl, hq, k2⟩
        have H9 := Lib.hid (h3.out.ref hq k2 (fun i e => e))
        have HR9 : Hid (∃ cur, Row w3 g 5 cur ∧ cur.size = cap) := Lib.hid (by obtain ⟨cur, e1, e2⟩ := HR2.out; exact ⟨cur, e1.keep k2 HN.out.2.1, e2⟩)
        have N9 : Hid (¬ R9 g ∧ ¬ Grow Q w2 w3 g ∧ w0.heap.size ≤ g) := Lib.hid ⟨HN2.out, fun e => e.elim HN.out.2.1 (fun x => by have := SZ2.out; omega), HN.out.2.2⟩
        generalize Grow Q w2 w3 = Q9 at H9 N9
        have L9 : Hid ({ S1 with wait := S1.wait ++ [(x, full fill)] }.wait.length ≤ S.wait.length + 1 ∧ { S1 with wait := S1.wait ++ [(x, full fill)] }.ops ≤ S.ops + 1 ∧ { S1 with wait := S1.wait ++ [(x, full fill)] }.secs.length = S.secs.length) := Lib.hid ⟨by have := HW.out.1; simp; omega, by have := HW.out.2.1; simpa using this, HW.out.2.2⟩
        generalize ({ S1 with wait := S1.wait ++ [(x, full fill)] } : DS) = S9 at H9 L9
        clear hq k2 qc s1'
        go_wp2_with fail
        go_loopw [15] (fun i wr => ∃ (j : Nat) (cur : Array Value), j ≤ 512 ∧ i = .int .i64 j ∧ Half w0 wr R9 Q9 d r S9 S9 ∧ Row wr g 5 cur ∧ cur.size = cap) (fun i _ => 512 - (intOf i).toNat)
        case atStart => obtain ⟨cur, e1, e2⟩ := HR9.out; exact ⟨0, cur, by omega, rfl, H9.out, e1, e2⟩
        case round =>
          obtain ⟨j, cur, hj, rfl, hh, hrow, hcs⟩ := hrel
          have HH := Lib.hid hh
          have HRw := Lib.hid hrow
          by_cases hlt : j < 512
          · have f0 := hrow.soft (j)
            have c0 := hrow.cell (j)
            rw [Array.getElem?_eq_getElem (show j < cur.size by omega)] at c0
            generalize cur[j]'(by omega) = x0 at c0
            have j1 : (j : Int) < 512 := by omega
            clear hh hrow
            go_wp2_with fail
            go_roundw
            case rel => exact ⟨j + 1, cur.setIfInBounds (j) (.int .u8 63), by omega, by go_num, HH.out.touch N9.out.1 N9.out.2.1 N9.out.2.2 (j) _, HRw.out.store (j) _, by simpa using hcs⟩
            case measure => simp [intOf]; omega
          · obtain rfl : j = 512 := by omega
            clear hh hrow
            go_wp2_with fail
            go_ret
            exact ⟨rfl, _, _, S9, HH.out, L9.out.1, L9.out.2.1, by first | exact L9.out.2.2 | rfl⟩
    · go_wp2_with fail
      refine (write_arg h2.out.st.disk at_ _ 512 _ (.inl hin)).mono ?_
      rintro e w2 ⟨rfl, rfl⟩
      have qc := conv_data D.out
      go_wp2_with fail
      refine (rwrite_arg h2.out.rf at_ (full fill) (.inl hin)).mono ?_
      rintro e w3 ⟨rfl, rfl⟩
      have H9 := h2
      have HR9 := HR0
      have N9 := HN
      have L9 : Hid (S.wait.length ≤ S.wait.length + 1 ∧ S.ops ≤ S.ops + 1 ∧ S.secs.length = S.secs.length) := Lib.hid ⟨by omega, by omega, rfl⟩
      clear qc s1 s4
      go_wp2_with fail
      go_loopw [15] (fun i wr => ∃ (j : Nat) (cur : Array Value), j ≤ 512 ∧ i = .int .i64 j ∧ Half w0 wr R Q d r S S ∧ Row wr g 5 cur ∧ cur.size = cap) (fun i _ => 512 - (intOf i).toNat)
      case atStart => obtain ⟨cur, e1, e2⟩ := HR9.out; exact ⟨0, cur, by omega, rfl, H9.out, e1, e2⟩
      case round =>
        obtain ⟨j, cur, hj, rfl, hh, hrow, hcs⟩ := hrel
        have HH := Lib.hid hh
        have HRw := Lib.hid hrow
        by_cases hlt : j < 512
        · have f0 := hrow.soft (j)
          have c0 := hrow.cell (j)
          rw [Array.getElem?_eq_getElem (show j < cur.size by omega)] at c0
          generalize cur[j]'(by omega) = x0 at c0
          have j1 : (j : Int) < 512 := by omega
          clear hh hrow
          go_wp2_with fail
          go_roundw
          case rel => exact ⟨j + 1, cur.setIfInBounds (j) (.int .u8 63), by omega, by go_num, HH.out.touch N9.out.1 N9.out.2.1 N9.out.2.2 (j) _, HRw.out.store (j) _, by simpa using hcs⟩
          case measure => simp [intOf]; omega
        · obtain rfl : j = 512 := by omega
          clear hh hrow
          go_wp2_with fail
          go_ret
          exact ⟨rfl, _, _, S, HH.out, L9.out.1, L9.out.2.1, by first | exact L9.out.2.2 | rfl⟩
  · go_wp2_with fail
    refine (write_arg h2.out.st.disk at_ _ 511 _ (.inr (by decide))).mono ?_
    rintro e w2 ⟨rfl, rfl⟩
    have qc := conv_short D.out (cap - 1)
    go_wp2_with fail
    refine (rwrite_arg h2.out.rf at_ (List.replicate 511 fill) (.inr (by rw [List.length_replicate]; decide))).mono ?_
    rintro e w3 ⟨rfl, rfl⟩
    have H9 := h2
    have HR9 := HR0
    have N9 := HN
    have L9 : Hid (S.wait.length ≤ S.wait.length + 1 ∧ S.ops ≤ S.ops + 1 ∧ S.secs.length = S.secs.length) := Lib.hid ⟨by omega, by omega, rfl⟩
    clear qc s1 s4
    go_wp2_with fail
    go_loopw [15] (fun i wr => ∃ (j : Nat) (cur : Array Value), j ≤ 511 ∧ i = .int .i64 j ∧ Half w0 wr R Q d r S S ∧ Row wr g 5 cur ∧ cur.size = cap) (fun i _ => 511 - (intOf i).toNat)
    case atStart => obtain ⟨cur, e1, e2⟩ := HR9.out; exact ⟨0, cur, by omega, rfl, H9.out, e1, e2⟩
    case round =>
      obtain ⟨j, cur, hj, rfl, hh, hrow, hcs⟩ := hrel
      have HH := Lib.hid hh
      have HRw := Lib.hid hrow
      by_cases hlt : j < 511
      · have f0 := hrow.soft (1 + j)
        have c0 := hrow.cell (1 + j)
        rw [Array.getElem?_eq_getElem (show 1 + j < cur.size by omega)] at c0
        generalize cur[1 + j]'(by omega) = x0 at c0
        have j1 : (j : Int) < 511 := by omega
        clear hh hrow
        go_wp2_with fail
        go_roundw
        case rel => exact ⟨j + 1, cur.setIfInBounds (1 + j) (.int .u8 63), by omega, by go_num, HH.out.touch N9.out.1 N9.out.2.1 N9.out.2.2 (1 + j) _, HRw.out.store (1 + j) _, by simpa using hcs⟩
        case measure => simp [intOf]; omega
      · obtain rfl : j = 511 := by omega
        clear hh hrow
        go_wp2_with fail
        go_ret
        exact ⟨rfl, _, _, S, HH.out, L9.out.1, L9.out.2.1, by first | exact L9.out.2.2 | rfl⟩
end Go.Proofs.Ytppehlnfoendgaa
