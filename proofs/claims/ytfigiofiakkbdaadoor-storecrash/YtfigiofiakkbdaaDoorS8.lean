/-
  Package store: Open, Format.
-/
import Derived.Test.YtfigiofiakkbdaaDoorS7
namespace Go.Proofs.YtfigiofiakkbdaaDoor
open Go.RowKit
set_option linter.all false

theorem enterO (args : Array Value) (wx : World) : Sem.run Tryd.prog (callFunc 36 args) wx = .ok (.enter 36 args) wx := by
  simp [callFunc, Tryd.func36, Tryd.f36]
theorem enterF (args : Array Value) (wx : World) : Sem.run Tryd.prog (callFunc 29 args) wx = .ok (.enter 29 args) wx := by
  simp [callFunc, Tryd.func29, Tryd.f29]

theorem yh_le {y h n : Nat} (hy : y ≤ 1) (hh : h = n / 2) : y * h + h ≤ n := by
  have : y = 0 ∨ y = 1 := by omega
  rcases this with rfl | rfl <;> omega
theorem yh_fine {y : Nat} (h : Nat) (hy : y ≤ 1) : h ≤ (2 - y) * h := by
  have : y = 0 ∨ y = 1 := by omega
  rcases this with rfl | rfl <;> omega
def OpOk (h y : Nat) (S S1 : DS) (J : JS) (out : List (List UInt8)) : Prop :=
  ∃ k n' used, k ≤ h ∧ DS.rds k S = (true, S1) ∧ replay (areaB S (y * h) h) = some (out, n', used) ∧ J = ⟨y * h, y * h + h, y * h + used, n' - 1, false⟩ ∧ 2 ≤ n' ∧ n' ≤ 4611686018427387905 ∧ 1 ≤ used ∧ used ≤ h ∧ out.length ≤ used
def OpBad (h y : Nat) (S S1 : DS) (c : Int) : Prop :=
  ∃ k, k ≤ h ∧ ((DS.rds k S = (false, S1) ∧ c = 11) ∨ (DS.rds k S = (true, S1) ∧ replay (areaB S (y * h) h) = none ∧ c = 2))

set_option maxHeartbeats 1600000 in
theorem sopen1_c {w0 w : World} {R : Nat → Prop} {d h db y : Nat} {S : DS} (hT : Tab w0) (hsd : Sd w0 w R d S) (hh : 2 ≤ h) (hl : y * h + h ≤ S.secs.length) (hf : S.fine h) (hdb : w.cell? ⟨db, 0, none⟩ = some (.pointer (some ⟨d, 0, none⟩))) :
    Calls Tryd.prog 36 #[.int .i64 ((y * h : Nat) : Int), .int .i64 (h : Int), .pointer (some ⟨db, 0, none⟩)] w (LayRes w0 d (OpOk h) (OpBad h) y w R S) := by
  have JO := Lib.hid (jopen_c hT hsd hh hl hf)
  unfold LayRes
  obtain ⟨f, hfd⟩ : ∃ f, f = y * h := ⟨_, rfl⟩
  rw [← hfd] at JO ⊢
  have HF := Lib.hid hfd
  clear hsd hf hT hl hfd
  go_enter Tryd.func36, Tryd.ntmps36
  go_wp2_with fail
  refine JO.out.mono ?_
  rintro e w1 ⟨R1, S1, k, hk, hx, hkp, hs, hcase⟩
  have H1 := Lib.hid (And.intro hk (And.intro hx (And.intro hkp hs)))
  clear hk hx hkp hs JO
  rw [HF.out] at hcase
  rcases hcase with ⟨hr, rfl⟩ | ⟨hr, ⟨hno, rfl⟩ | ⟨out, n', used, A, c, jb, hrep, rfl, hrc, hjb, hjn, a1, a2, a3, a4, a5⟩⟩
  · have HR := Lib.hid hr
    clear hr
    go_wp2_with fail
    go_ret3
    exact ⟨R1, S1, fun i hi => .inl (H1.out.2.1 i hi), H1.out.2.2.1, H1.out.2.2.2, .inl ⟨11, ⟨k, H1.out.1, .inl ⟨HR.out, rfl⟩⟩, by decide, rfl⟩⟩
  · have HR := Lib.hid (And.intro hr hno)
    clear hr hno
    go_wp2_with fail
    go_ret3
    exact ⟨R1, S1, fun i hi => .inl (H1.out.2.1 i hi), H1.out.2.2.1, H1.out.2.2.2, .inl ⟨2, ⟨k, H1.out.1, .inr ⟨HR.out.1, HR.out.2, rfl⟩⟩, by decide, rfl⟩⟩
  · have HR := Lib.hid (And.intro hr (And.intro hrep (And.intro hrc (And.intro hjb (And.intro hjn (And.intro a1 (And.intro a2 (And.intro a3 (And.intro a4 a5)))))))))
    clear hr hrep hrc hjb hjn a1 a2 a3 a4 a5
    go_wp2_with fail
    go_ret3
    obtain ⟨b1, b2, b3, b4, b5, b6⟩ := HR.out
    exact ⟨R1, S1, fun i hi => .inl (H1.out.2.1 i hi), H1.out.2.2.1, H1.out.2.2.2, .inr ⟨jb, _, out, _, ⟨k, n', used, H1.out.1, b1, b2, rfl, b6⟩, rfl, b3, b4, b5, .inr H1.out.2.1⟩⟩

/-- What Open answers. -/
theorem sopen_c {w0 w : World} {R : Nat → Prop} {d h n : Nat} {S : DS} (hT : Tab w0) (hsd : Sd w0 w R d S) (hn : S.secs.length = n) (hn4 : 4 ≤ n) (hh : h = n / 2) (hf : S.fine (2 * h)) :
    Calls Tryd.prog 19 #[.pointer (some ⟨d, 0, none⟩)] w (BuRes w0 d h (OpOk h) (OpBad h) w R S) := by
  have hc : Calm w (w.alloc (.cells #[.pointer (some ⟨d, 0, none⟩)] 24)) := (Keep.refl _ w).alloc _
  have hcell : (w.alloc (.cells #[.pointer (some ⟨d, 0, none⟩)] 24)).cell? ⟨w.heap.size, 0, none⟩ = some (.pointer (some ⟨d, 0, none⟩)) := by rw [(Row.made w 24 _).cell]; rfl
  have B := sbuild_c (Ok := OpOk h) (Bad := OpBad h) (Good := fun y Sx => Sx.secs.length = n ∧ Sx.fine ((2 - y) * h)) (hsd.rest hc) hn hn4 hh hcell (hsd.st.fresh (Nat.le_refl _)) ⟨hn, hf.mono (by omega)⟩ (by
      rintro S1 J out ⟨k, n', used, hk, hr, -⟩
      have := DS.rds_fine (n := h) hr (hf.mono (by omega))
      exact ⟨this.2.trans hn, this.1.mono (by omega)⟩) enterO (fun y wx Rx Sx hy hs hcl _ hg => sopen1_c hT hs (by omega) (by rw [hg.1]; exact yh_le hy hh) (hg.2.mono (yh_fine h hy)) hcl)
  have HB := Lib.hid B
  have HC := Lib.hid hc
  unfold BuRes at HB ⊢
  clear B hcell hsd hT hf hn hn4 hh hc
  go_enter Tryd.func19, Tryd.ntmps19
  go_wp2_with fail
  refine HB.out.mono ?_
  rintro e w1 ⟨R1, S1, hx, hk, hs, hcase⟩
  have X : Hid (Ext R R1 w ∧ Keep R w w1 ∧ Sd w0 w1 R1 d S1) := Lib.hid ⟨hx.calm HC.out.size, (Calm.keep HC.out R).trans hk, hs⟩
  clear hx hk hs HB
  rcases hcase with ⟨c, hb, rfl⟩ | ⟨Sa, J, out, c, hb1, hb2, rfl⟩ | ⟨Sa, J0, out0, J1, out1, sb, ja, jb, T, hb1, hb2, rfl, ht, hst⟩
  · have HB := Lib.hid hb
    clear hb
    go_wp2_with fail
    go_ret2
    exact ⟨R1, S1, X.out.1, X.out.2.1, X.out.2.2, .inl ⟨c, HB.out, rfl⟩⟩
  · have HB := Lib.hid (And.intro hb1 hb2)
    clear hb1 hb2
    go_wp2_with fail
    go_ret2
    exact ⟨R1, S1, X.out.1, X.out.2.1, X.out.2.2, .inr (.inl ⟨Sa, J, out, c, HB.out.1, HB.out.2, rfl⟩)⟩
  · have HB := Lib.hid (And.intro hb1 (And.intro hb2 (And.intro ht hst)))
    clear hb1 hb2 ht hst
    go_wp2_with fail
    go_ret2
    exact ⟨R1, S1, X.out.1, X.out.2.1, X.out.2.2, .inr (.inr ⟨Sa, J0, out0, J1, out1, sb, ja, jb, T, HB.out.1, HB.out.2.1, rfl, fun k hk => Nat.le_trans HC.out.size (HB.out.2.2.1 k hk), HB.out.2.2.2⟩)⟩

def FmOk (h n : Nat) (c : Nat → List UInt8) (y : Nat) (S S1 : DS) (J : JS) (out : List (List UInt8)) : Prop :=
  out = [] ∧ J = ⟨y * h, y * h + h, y * h + 1, 1, false⟩ ∧ S1.Up ∧ S1.Shows n (upd (if y = 0 then c else upd c 0 (begP 1)) (y * h) (begP 1)) ∧ S1.wait = [] ∧ (∀ i, i < n → S1.secs.getD i [] = upd (if y = 0 then c else upd c 0 (begP 1)) (y * h) (begP 1) i) ∧ S1.ops = S.ops + 2
set_option maxHeartbeats 1600000 in
theorem sformat1_c {w0 w : World} {R : Nat → Prop} {d h db y n : Nat} {S : DS} {c : Nat → List UInt8} (hT : Tab w0) (hsd : Sd w0 w R d S) (hu : S.Up) (hs : S.Shows n (if y = 0 then c else upd c 0 (begP 1))) (hh : 2 ≤ h) (hl : y * h + h ≤ n) (hf : S.fine 2) (hdb : w.cell? ⟨db, 0, none⟩ = some (.pointer (some ⟨d, 0, none⟩))) :
    Calls Tryd.prog 29 #[.int .i64 ((y * h : Nat) : Int), .int .i64 (h : Int), .pointer (some ⟨db, 0, none⟩)] w (LayRes w0 d (FmOk h n c) (fun _ _ _ _ => False) y w R S) := by
  have JO := Lib.hid (jformat_up hT hsd hu hs hh hl hf)
  unfold LayRes
  obtain ⟨f, hfd⟩ : ∃ f, f = y * h := ⟨_, rfl⟩
  rw [← hfd] at JO ⊢
  have HF := Lib.hid hfd
  clear hsd hf hT hl hfd hu hs
  go_enter Tryd.func29, Tryd.ntmps29
  go_wp2_with fail
  refine JO.out.mono ?_
  rintro e w1 ⟨R1, S1, jb, rfl, hjb, hju, hx, hk, e1, e2, e3⟩
  have H1 := Lib.hid (And.intro hjb (And.intro hju (And.intro hx (And.intro hk (And.intro e1 (And.intro e2 e3))))))
  clear hjb hju hx hk e1 e2 e3 JO
  go_wp2_with fail
  go_ret3
  obtain ⟨hjb, hju, hx, hk, e1, e2, e3⟩ := H1.out
  exact ⟨R1, S1, hx, hk, hju.jn.sd, .inr ⟨jb, _, [], _, ⟨rfl, by rw [← HF.out], hju.up, by rw [← HF.out]; exact hju.shows, e1, by rw [← HF.out]; exact e2, e3⟩, rfl, Recs.nil _ _, hjb, hju.jn, .inl rfl⟩⟩
theorem sformat_up {w0 w : World} {R : Nat → Prop} {d h n : Nat} {S : DS} {c : Nat → List UInt8} (hT : Tab w0) (hsd : Sd w0 w R d S) (hu : S.Up) (hs : S.Shows n c) (hn4 : 4 ≤ n) (hh : h = n / 2) (hf : S.fine 4) :
    Calls Tryd.prog 12 #[.pointer (some ⟨d, 0, none⟩)] w fun e w' => ∃ R' S1 sb ja jb T, e = .returned (.tuple #[.pointer (some ⟨sb, 0, none⟩), .int .i64 0]) ∧ Ext R R' w ∧ Keep R w w' ∧ (∀ k, T k → w.heap.size ≤ k) ∧ Sto w0 w' R' T d sb S1 ⟨h, ja, jb, ⟨0, h, 1, 1, false⟩, ⟨h, h + h, h + 1, 1, false⟩, none⟩ ∧
      S1.Up ∧ S1.Shows n (upd (upd c 0 (begP 1)) h (begP 1)) ∧ S1.wait = [] ∧ (∀ i, i < n → S1.secs.getD i [] = upd (upd c 0 (begP 1)) h (begP 1) i) ∧ S1.ops = S.ops + 4 := by
  have hc : Calm w (w.alloc (.cells #[.pointer (some ⟨d, 0, none⟩)] 24)) := (Keep.refl _ w).alloc _
  have hcell : (w.alloc (.cells #[.pointer (some ⟨d, 0, none⟩)] 24)).cell? ⟨w.heap.size, 0, none⟩ = some (.pointer (some ⟨d, 0, none⟩)) := by rw [(Row.made w 24 _).cell]; rfl
  have B := sbuild_c (Ok := FmOk h n c) (Bad := fun _ _ _ _ => False) (Good := fun y Sx => Sx.Up ∧ Sx.Shows n (if y = 0 then c else upd c 0 (begP 1)) ∧ Sx.fine (4 - 2 * y)) (hsd.rest hc) hs.1 hn4 hh hcell (hsd.st.fresh (Nat.le_refl _)) ⟨hu, hs, hf⟩ (by
      rintro S1 J out ⟨-, -, a1, a2, a3, a4, a5⟩
      refine ⟨a1, by simpa using a2, ?_⟩
      unfold DS.fine at hf ⊢
      rw [a3, a5]
      simp
      omega) enterF (fun y wx Rx Sx hy hs' hcl _ hg => sformat1_c hT hs' hg.1 hg.2.1 (by omega) (yh_le hy hh) (hg.2.2.mono (by omega)) hcl)
  have HB := Lib.hid B
  have HC := Lib.hid hc
  unfold BuRes at HB
  clear B hcell hsd hT hf hn4 hh hc hu hs
  go_enter Tryd.func12, Tryd.ntmps12
  go_wp2_with fail
  refine HB.out.mono ?_
  rintro e w1 ⟨R1, S1, hx, hk, hs, hcase⟩
  have X : Hid (Ext R R1 w ∧ Keep R w w1) := Lib.hid ⟨hx.calm HC.out.size, (Calm.keep HC.out R).trans hk⟩
  clear hx hk hs HB
  rcases hcase with ⟨c, hb, rfl⟩ | ⟨Sa, J, out, c, hb1, hb2, rfl⟩ | ⟨Sa, J0, out0, J1, out1, sb, ja, jb, T, hb1, hb2, rfl, ht, hst⟩
  · exact hb.elim
  · exact hb2.elim
  · have HB := Lib.hid (And.intro hb1 (And.intro hb2 (And.intro ht hst)))
    clear hb1 hb2 ht hst
    go_wp2_with fail
    go_ret2
    obtain ⟨⟨rfl, rfl, a1, a2, a3, a4, a5⟩, ⟨rfl, rfl, b1, b2, b3, b4, b5⟩, ht, hst⟩ := HB.out
    refine ⟨R1, S1, sb, ja, jb, T, rfl, X.out.1, X.out.2, fun k hk => Nat.le_trans HC.out.size (ht k hk), ?_, b1, by simpa using b2, b3, by simpa using b4, by omega⟩
    simpa [chooseO, thingO] using hst
/-- A disk of fewer than four sectors. -/
theorem ssmall_c {w0 w : World} {R : Nat → Prop} {d n : Nat} {S : DS} (hsd : Sd w0 w R d S) (hn : S.secs.length = n) (hn4 : n < 4) (fk : Value) :
    Calls Tryd.prog 28 #[.pointer (some ⟨d, 0, none⟩), fk] w fun e w' => e = .returned (.tuple #[.pointer none, .int .i64 1]) ∧ w = w' := by
  have Q := issectors_c hsd.st.disk
  rw [hn] at Q
  have HQ := Lib.hid Q
  have i4 : decide ((n : Int) < 4) = true := decide_eq_true (by omega)
  clear Q hsd hn
  go_enter Tryd.func28, Tryd.ntmps28
  go_wp2_with (go_at_call 38; refine HQ.out.mono ?_; rintro e w1 ⟨rfl, rfl⟩)
  go_ret2
  exact ⟨rfl, rfl⟩
theorem sopen_small {w0 w : World} {R : Nat → Prop} {d n : Nat} {S : DS} (hsd : Sd w0 w R d S) (hn : S.secs.length = n) (hn4 : n < 4) :
    Calls Tryd.prog 19 #[.pointer (some ⟨d, 0, none⟩)] w fun e w' => e = .returned (.tuple #[.pointer none, .int .i64 1]) ∧ Calm w w' := by
  have hc : Calm w (w.alloc (.cells #[.pointer (some ⟨d, 0, none⟩)] 24)) := (Keep.refl _ w).alloc _
  have HB := Lib.hid (ssmall_c (hsd.rest hc) hn hn4 (.func (.func 36) #[] #[.pointer (some ⟨w.heap.size, 0, none⟩)]))
  have HC := Lib.hid hc
  clear hsd hn hn4 hc
  go_enter Tryd.func19, Tryd.ntmps19
  go_wp2_with fail
  refine HB.out.mono ?_
  rintro e w1 ⟨rfl, rfl⟩
  go_wp2_with fail
  go_ret2
  exact ⟨rfl, HC.out⟩
theorem sformat_small {w0 w : World} {R : Nat → Prop} {d n : Nat} {S : DS} (hsd : Sd w0 w R d S) (hn : S.secs.length = n) (hn4 : n < 4) :
    Calls Tryd.prog 12 #[.pointer (some ⟨d, 0, none⟩)] w fun e w' => e = .returned (.tuple #[.pointer none, .int .i64 1]) ∧ Calm w w' := by
  have hc : Calm w (w.alloc (.cells #[.pointer (some ⟨d, 0, none⟩)] 24)) := (Keep.refl _ w).alloc _
  have HB := Lib.hid (ssmall_c (hsd.rest hc) hn hn4 (.func (.func 29) #[] #[.pointer (some ⟨w.heap.size, 0, none⟩)]))
  have HC := Lib.hid hc
  clear hsd hn hn4 hc
  go_enter Tryd.func12, Tryd.ntmps12
  go_wp2_with fail
  refine HB.out.mono ?_
  rintro e w1 ⟨rfl, rfl⟩
  go_wp2_with fail
  go_ret2
  exact ⟨rfl, HC.out⟩
end Go.Proofs.YtfigiofiakkbdaaDoor
