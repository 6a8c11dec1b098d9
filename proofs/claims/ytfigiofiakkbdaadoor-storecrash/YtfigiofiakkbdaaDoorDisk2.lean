/-
  Package disk: Crash, Barrier, operate.
-/
import Derived.Test.YtfigiofiakkbdaaDoorDisk1
namespace Go.Proofs.YtfigiofiakkbdaaDoor
open Go.RowKit
set_option linter.all false

theorem Lay.others {w w' : World} {R : Nat → Prop} {d : Nat} {S : DS} {sb : Nat} {svs : List Value} {wv : Value} {wvs : List (Nat × Value)} {av : Value} (h : Lay w R d S sb svs wv wvs av)
    (hk : Keep (fun k => k = d ∨ k = sb) w w') {g : Nat} {t : TypeId} {cur : Array Value} (h1 : t ≠ 65) (h2 : t ≠ 31) (hr : Row w g t cur) : Row w' g t cur :=
  hr.keep hk (fun e => by
    rcases e with rfl | rfl
    · exact (hr.ne h.top h1) rfl
    · exact (hr.ne h.rows h2) rfl)
theorem Lay.wcells {w : World} {R : Nat → Prop} {d : Nat} {S : DS} {sb : Nat} {svs : List Value} {wv : Value} {wvs : List (Nat × Value)} {av : Value} (h : Lay w R d S sb svs wv wvs av) :
    ∃ A wc, wv = .slice A wvs.length wc ∧ ∀ (j : Nat) x, wvs[j]? = some x → x.1 < svs.length ∧ ∃ g gg cc, A = some ⟨g, 0, none⟩ ∧ R g ∧ g ≠ sb ∧ g ≠ d ∧ w.cell? ⟨g, j * 2, none⟩ = some (.int .i64 x.1) ∧ w.cell? ⟨g, j * 2 + 1, none⟩ = some x.2 ∧ x.2 = .slice (some ⟨gg, 0, none⟩) 512 cc := by
  have hlw : wvs.length = S.wait.length := by have := congrArg List.length h.waits.1; simpa using this
  rcases h.wrow.2 with ⟨h0, h1⟩ | ⟨g, cap, cur, h0, _, h2, h3, h4, h5, h6⟩
  · exact ⟨none, 0, by rw [h0, h1], fun j x hj => by have := List.eq_nil_of_length_eq_zero h1; subst this; simp at hj⟩
  · refine ⟨_, cap, h0, fun j x hj => ⟨?_, ?_⟩⟩
    · have hl : j < wvs.length := (List.getElem?_eq_some_iff.1 hj).1
      have e := congrArg (fun l => l[j]?) h.waits.1
      simp [hj, List.getElem?_eq_getElem (show j < S.wait.length by omega)] at e
      have := h.at_ (S.wait[j]'(by omega)) (List.getElem_mem _)
      rw [h.secs.1, e]
      exact this
    · have hl : j < wvs.length := (List.getElem?_eq_some_iff.1 hj).1
      obtain ⟨f0, f1⟩ := flat_at wvs j x hj
      obtain ⟨gg, cc, cur', hv, _⟩ := h.waits.2.2 j x.2 (S.wait[j]'(by omega)).2 (by simp [hj]) (by simp [List.getElem?_eq_getElem (show j < S.wait.length by omega)])
      have hrow : Row w g 89 cur := h2
      exact ⟨g, gg, cc, rfl, h.wR g (by rw [h0]; rfl), hrow.ne h.rows (by decide), hrow.ne h.top (by decide), by
        have := h.wrow.cells (g := g) (by rw [h0]; rfl) _ _ f0
        by_cases e : j * 2 = 0 <;> simpa [Addr.add, e] using this, by
        have := h.wrow.cells (g := g) (by rw [h0]; rfl) _ _ f1
        simpa [Addr.add] using this, hv⟩

theorem Lay.cleared {w w' : World} {R : Nat → Prop} {d : Nat} {S : DS} {sb : Nat} {svs : List Value} {wv : Value} {wvs : List (Nat × Value)} {av : Value} (h : Lay w R d S sb svs wv wvs av)
    (hk : Keep (fun k => k = d ∨ k = sb) w w') (kept : Nat → Bool) (n : Nat) {av' : Value} (S' : DS) (hsecs : S'.secs = putTo kept S.secs S.wait n) (hwait : S'.wait = [])
    (top : Row w' d 65 #[.slice (some ⟨sb, 0, none⟩) svs.length svs.length, .slice none 0 0, av', .bool S'.down, .int .i64 S'.ops]) (rows : Row w' sb 31 (putTo kept svs wvs n).toArray) (arm : ArmIs w' R av' S'.arm) :
    Lay w' R d S' sb (putTo kept svs wvs n) (.slice none 0 0) [] av' := by
  have hd : ∀ g cur, R g → Row w g 5 cur → Row w' g 5 cur ∧ R g := fun g cur a b => ⟨h.others hk (by decide) (by decide) b, a⟩
  refine ⟨by rw [putTo_len]; exact top, rows, ?_, World.ownsRow_nil _ _ _ _, fun g e => by simp [Value.ownBlock] at e, ?_, arm, h.rd, h.rs, ?_, ?_, ?_⟩
  · rw [hsecs]
    exact (h.secs.move hd).putTo ⟨h.waits.1, h.waits.2.move hd⟩ kept n
  · rw [hwait]; exact ⟨rfl, Datas.nil _ _⟩
  · rw [hsecs, putTo_len]; exact h.few
  · rw [hsecs, putTo_len]; exact h.some_
  · rw [hwait]; intro x hx; simp at hx

/-- Where bools may lie that a crash is handed. -/
def Apart (w : World) (R : Nat → Prop) (k : Nat) : Prop := ¬ R k ∨ ∃ cur, Row w k 4 cur

set_option maxHeartbeats 800000 in
theorem crash_lay {w : World} {R : Nat → Prop} {d : Nat} {S : DS} {sb : Nat} {svs : List Value} {wv : Value} {wvs : List (Nat × Value)} {av : Value} (h : Lay w R d S sb svs wv wvs av) (hwm : wvs.length ≤ 1000000)
    (kv : Value) (ks : List Bool) (hb : Bools w (fun k => k ≠ sb) kv ks) (hm : ks.length ≤ maxLen) :
    Calls Tryd.prog 25 #[.pointer (some ⟨d, 0, none⟩), kv] w fun e w' => e = .returned (.tuple #[]) ∧ Lay w' R d (S.crash ks) sb (putTo (keptOf ks) svs wvs wvs.length) (.slice none 0 0) [] (.pointer none) ∧ Keep (fun k => k = d ∨ k = sb) w w' := by
  obtain ⟨A, cap, rfl, hcells⟩ := hb
  obtain ⟨WA, wc, hwv, hwc⟩ := h.wcells
  have hlw : wvs.length = S.wait.length := by have := congrArg List.length h.waits.1; simpa using this
  have d0 := h.top.cell 0
  have d1 := h.top.cell 1
  have d2 := h.top.cell 2
  have d3 := h.top.cell 3
  have f1 := h.top.soft 1
  have f2 := h.top.soft 2
  have f3 := h.top.soft 3
  simp at d0 d1 d2 d3
  rw [hwv] at d1
  have hdl := h.top.lt
  have hsl := h.rows.lt
  have hne : d ≠ sb := h.top.ne h.rows (by decide)
  have hfew : svs.length ≤ 4096 := by rw [h.secs.1]; exact h.few
  have H := Lib.hid h
  have Hc := Lib.hid hcells
  have Hwc := Lib.hid hwc
  have Hlw := Lib.hid hlw
  have Hwv := Lib.hid hwv
  clear h hcells hwc hlw hwv
  go_enter Tryd.func25, Tryd.ntmps25
  go_wp2_with fail
  have hc1 : Calm w (w.alloc (.cells #[.slice A ks.length cap] 46)) := (Keep.refl _ _).alloc _
  refine (settle_c d sb 42 #[.pointer (some ⟨w.heap.size, 0, none⟩)] (keptOf ks) svs WA wc wvs _ ?_ ?_ hne ?_ (H.out.rows.alloc _) hfew hwm ?_ enter36 ?_).mono ?_
  · rw [World.cell?_alloc_lt _ _ _ hdl]; exact d0
  · rw [World.cell?_alloc_lt _ _ _ hdl]; exact d1
  · rw [World.frozen?_alloc_old _ _ _ (by simp; omega)]; exact f1
  · intro j x hj
    obtain ⟨hx, g, gg, cc, hA, _, hg, _, c0, c1, hv⟩ := Hwc.out j x hj
    have hgl : g < w.heap.size := World.block_lt_of_cell? _ _ c0
    exact ⟨hx, g, gg, cc, hA, hg, (World.cell?_alloc_lt _ _ _ hgl).trans c0, (World.cell?_alloc_lt _ _ _ hgl).trans c1, hv⟩
  · intro j wx hj hkx
    refine kept_of w.heap.size j A cap ks wx ?_ hm (fun i b hi => ?_)
    · refine (hkx.cell (p := ⟨w.heap.size, 0, none⟩) (by simp) (by simp; omega)).trans ?_
      simp
    · obtain ⟨ad, e1, e2, e3, e4⟩ := Hc.out i b hi
      refine ⟨ad, e1, (hkx.cell (by rw [Addr.add_block]; simp; omega) (by rw [Addr.add_block]; exact e2)).trans ((World.cell?_alloc_lt _ _ _ (by rw [Addr.add_block]; exact e3)).trans e4)⟩
  · rintro e w1 ⟨rfl, wx, hkx, hrx, rfl⟩
    have tx : Row wx d 65 #[.slice (some ⟨sb, 0, none⟩) svs.length svs.length, wv, av, .bool S.down, .int .i64 S.ops] := (H.out.top.alloc _).keep hkx hne
    have x2 := tx.cell 2
    have x3 := tx.cell 3
    have g2 := tx.soft 2
    have g3 := tx.soft 3
    simp at x2 x3
    have Tx := Lib.hid tx
    have Hkx := Lib.hid hkx
    have Hrx := Lib.hid hrx
    clear tx hkx hrx
    go_wp2_with fail
    go_end0
    have k1 : Keep (fun k => k = d ∨ k = sb) w wx := ((Keep.refl _ w).alloc _).then_ Hkx.out (fun i _ e => .inr e)
    have k2 := ((k1.store (p := ⟨d, 1, none⟩) (fun _ => .inl rfl) (.slice none 0 0)).store (p := ⟨d, 3, none⟩) (fun _ => .inl rfl) (.bool true)).store (p := ⟨d, 2, none⟩) (fun _ => .inl rfl) (.pointer none)
    refine ⟨rfl, ?_, k2⟩
    refine H.out.cleared k2 (keptOf ks) wvs.length (S.crash ks) (by rw [Hlw.out]; rfl) rfl ?_ ?_ rfl
    · simpa [DS.crash] using ((Tx.out.store 1 (.slice none 0 0)).store 3 (.bool true)).store 2 (.pointer none)
    · exact ((Hrx.out.far (p := ⟨d, 1, none⟩) hne.symm _).far (p := ⟨d, 3, none⟩) hne.symm _).far (p := ⟨d, 2, none⟩) hne.symm _

def DS.op (S : DS) : Bool × DS :=
  if S.down then (false, S) else
  match S.arm with
  | none => (true, { S with ops := S.ops + 1 })
  | some (0, ks) => (false, S.crash ks)
  | some (a + 1, ks) => (true, { S with ops := S.ops + 1, arm := some (a, ks) })

theorem crash_c {w : World} {R : Nat → Prop} {d : Nat} {S : DS} (h : IsDisk w R d S) (hwm : S.wait.length ≤ 1000000) (kv : Value) (ks : List Bool) (hb : Bools w (Apart w R) kv ks) (hm : ks.length ≤ maxLen) :
    Calls Tryd.prog 25 #[.pointer (some ⟨d, 0, none⟩), kv] w fun e w' => e = .returned (.tuple #[]) ∧ IsDisk w' R d (S.crash ks) ∧ Keep R w w' := by
  obtain ⟨sb, svs, wv, wvs, av, h⟩ := h
  have hlw : wvs.length = S.wait.length := by have := congrArg List.length h.waits.1; simpa using this
  refine (crash_lay h (by omega) kv ks (hb.move (Nat.le_refl _) (fun _ _ _ => rfl) (fun k hk e => ?_)) hm).mono ?_
  · subst e
    rcases hk with hk | ⟨cur, hk⟩
    · exact hk h.rs
    · exact (hk.ne h.rows (by decide)) rfl
  · rintro e w' ⟨rfl, h1, h2⟩
    exact ⟨rfl, ⟨_, _, _, _, _, h1⟩, h2.mono fun i _ e => by rcases e with rfl | rfl; exact h.rd; exact h.rs⟩

set_option maxHeartbeats 800000 in
theorem operate_down (d : Nat) (w : World) (h : w.cell? ⟨d, 3, none⟩ = some (.bool true)) :
    Calls Tryd.prog 44 #[.pointer (some ⟨d, 0, none⟩)] w fun e w' => e = .returned (.int .i64 11) ∧ w = w' := by
  go_enter Tryd.func44, Tryd.ntmps44
  go_wp2_with fail
  go_ret
  exact ⟨rfl, rfl⟩

set_option maxHeartbeats 800000 in
theorem operate_free (d n : Nat) (w : World) (h3 : w.cell? ⟨d, 3, none⟩ = some (.bool false)) (h2 : w.cell? ⟨d, 2, none⟩ = some (.pointer none)) (h4 : w.cell? ⟨d, 4, none⟩ = some (.int .i64 n)) (hn : n ≤ 1000000000) (hf : w.frozen? ⟨d, 4, none⟩ = false) :
    Calls Tryd.prog 44 #[.pointer (some ⟨d, 0, none⟩)] w fun e w' => e = .returned (.int .i64 0) ∧ w.setCell ⟨d, 4, none⟩ (.int .i64 ((n + 1 : Nat) : Int)) = w' := by
  go_enter Tryd.func44, Tryd.ntmps44
  go_wp2_with fail
  go_ret
  exact ⟨rfl, by simp⟩

set_option maxHeartbeats 800000 in
theorem operate_count (d n ab a : Nat) (w : World) (h3 : w.cell? ⟨d, 3, none⟩ = some (.bool false)) (h2 : w.cell? ⟨d, 2, none⟩ = some (.pointer (some ⟨ab, 0, none⟩))) (h4 : w.cell? ⟨d, 4, none⟩ = some (.int .i64 n)) (hn : n ≤ 1000000000) (hf : w.frozen? ⟨d, 4, none⟩ = false)
    (ha : w.cell? ⟨ab, 0, none⟩ = some (.int .i64 (a : Int))) (h0 : ((a : Int) == 0) = false) (hw : IntKind.i64.wrap ((a : Int) - 1) = (a : Int) - 1) (hfa : w.frozen? ⟨ab, 0, none⟩ = false) (hne : ab ≠ d) :
    Calls Tryd.prog 44 #[.pointer (some ⟨d, 0, none⟩)] w fun e w' => e = .returned (.int .i64 0) ∧ (w.setCell ⟨d, 4, none⟩ (.int .i64 ((n + 1 : Nat) : Int))).setCell ⟨ab, 0, none⟩ (.int .i64 ((a : Int) - 1)) = w' := by
  have hne' : d ≠ ab := hne.symm
  go_enter Tryd.func44, Tryd.ntmps44
  go_wp2_with fail
  go_ret
  exact ⟨rfl, by simp⟩

theorem wrap_pred (a : Nat) (h : a ≤ big) : IntKind.i64.wrap ((a : Int) - 1) = (a : Int) - 1 := by
  unfold big at h
  rw [IntKind.wrap_i64]
  omega

set_option maxHeartbeats 800000 in
theorem operate_crash {w : World} {R : Nat → Prop} {d : Nat} {S : DS} {ks : List Bool} (h : IsDisk w R d S) (hwm : S.wait.length ≤ 1000000) (hdn : S.down = false) (harm : S.arm = some (0, ks)) :
    Calls Tryd.prog 44 #[.pointer (some ⟨d, 0, none⟩)] w fun e w' => e = .returned (.int .i64 11) ∧ IsDisk w' R d (S.crash ks) ∧ Keep R w w' := by
  have H := Lib.hid h
  obtain ⟨sb, svs, wv, wvs, av, h⟩ := h
  have ha := h.arm
  rw [harm] at ha
  obtain ⟨ab, kv, rfl, hab, hRab, hkv, hkR, _⟩ := ha
  have d2 := h.top.cell 2
  have d3 := h.top.cell 3
  have a0 := hab.cell 0
  have a1 := hab.cell 1
  rw [hdn] at d3
  simp at d2 d3 a0 a1
  have hks : ks.length ≤ maxLen := by
    rcases hkv.2 with ⟨_, h1⟩ | ⟨g, cap, cur, _, _, _, h1, h2, _⟩ <;> omega
  have Hb := Lib.hid ((own_bools hkv).move (Nat.le_refl _) (fun _ _ _ => rfl) (fun k (hk : _ ∧ _) => (Or.inr hk.2 : Apart w R k)))
  have hform : ∃ A cap, kv = .slice A ks.length cap := by obtain ⟨A, cap, e, _⟩ := own_bools hkv; exact ⟨A, cap, e⟩
  obtain ⟨A, cap, rfl⟩ := hform
  clear h hdn harm hab hkv hkR
  go_enter Tryd.func44, Tryd.ntmps44
  go_wp2_with fail
  refine (crash_c H.out hwm _ ks Hb.out hks).mono ?_
  rintro e w' ⟨rfl, h1, h2⟩
  have x3 : w'.cell? ⟨d, 3, none⟩ = some (.bool true) := by
    obtain ⟨sb', svs', wv', wvs', av', h'⟩ := h1
    have := h'.top.cell 3
    simpa [DS.crash] using this
  have H1 := Lib.hid h1
  have H2 := Lib.hid h2
  clear h1 h2
  go_wp2_with fail
  go_ret
  exact ⟨rfl, H1.out, H2.out⟩

theorem operate_c {w : World} {R : Nat → Prop} {d : Nat} {S : DS} (h : IsDisk w R d S) (hwm : S.wait.length ≤ 1000000) (hops : S.ops ≤ 1000000000) :
    Calls Tryd.prog 44 #[.pointer (some ⟨d, 0, none⟩)] w fun e w' => e = .returned (.int .i64 (if S.op.1 then 0 else 11)) ∧ IsDisk w' R d S.op.2 ∧ Keep R w w' := by
  have H := h
  obtain ⟨sb, svs, wv, wvs, av, h⟩ := h
  have d2 := h.top.cell 2
  have d3 := h.top.cell 3
  have d4 := h.top.cell 4
  have f4 := h.top.soft 4
  simp at d2 d3 d4
  have hdn : S.down = true ∨ S.down = false := by cases S.down <;> simp
  rcases hdn with hdn | hdn
  · rw [hdn] at d3
    refine (operate_down d w d3).mono ?_
    rintro e w' ⟨rfl, rfl⟩
    simp only [DS.op, hdn, if_true]
    exact ⟨rfl, H, Keep.refl _ _⟩
  · rw [hdn] at d3
    cases hS : S.arm with
    | none =>
      have ha := h.arm
      rw [hS] at ha
      have hav : av = .pointer none := ha
      subst hav
      refine (operate_free d S.ops w d3 d2 d4 hops f4).mono ?_
      rintro e w' ⟨rfl, rfl⟩
      have k : Keep (fun k => k = d ∨ k = sb) w (w.setCell ⟨d, 4, none⟩ (.int .i64 ((S.ops + 1 : Nat) : Int))) := (Keep.refl _ _).store (p := ⟨d, 4, none⟩) (fun _ => .inl rfl) _
      have e : S.op = (true, { S with ops := S.ops + 1 }) := by simp [DS.op, hdn, hS]
      rw [e]
      refine ⟨rfl, ⟨sb, svs, wv, wvs, .pointer none, ?_⟩, (Keep.refl _ _).store (p := ⟨d, 4, none⟩) (fun _ => h.rd) _⟩
      have hd : ∀ g cur, R g → Row w g 5 cur → Row (w.setCell ⟨d, 4, none⟩ (.int .i64 ((S.ops + 1 : Nat) : Int))) g 5 cur ∧ R g := fun g cur a b => ⟨h.others k (by decide) (by decide) b, a⟩
      exact ⟨by simpa using h.top.store 4 (.int .i64 ((S.ops + 1 : Nat) : Int)), h.rows.far (p := ⟨d, 4, none⟩) (h.rows.ne h.top (by decide)) _, h.secs.move hd, own_move h.wrow (fun g cur _ b => h.others k (by decide) (by decide) b), h.wR, ⟨h.waits.1, h.waits.2.move hd⟩, (by show ArmIs _ R _ S.arm; rw [hS]; rfl), h.rd, h.rs, h.few, h.some_, h.at_⟩
    | some x =>
      obtain ⟨a, ks⟩ := x
      cases a with
      | zero =>
        refine (operate_crash H hwm hdn hS).mono ?_
        rintro e w' ⟨rfl, h1, h2⟩
        have e : S.op = (false, S.crash ks) := by simp [DS.op, hdn, hS]
        rw [e]
        exact ⟨rfl, h1, h2⟩
      | succ a =>
        have ha := h.arm
        rw [hS] at ha
        obtain ⟨ab, kv, rfl, hab, hRab, hkv, hkR, hbig⟩ := ha
        have a0 := hab.cell 0
        have fa := hab.soft 0
        simp only [List.getElem?_toArray, List.getElem?_cons_zero] at a0
        have hne : ab ≠ d := hab.ne h.top (by decide)
        have hne2 : ab ≠ sb := hab.ne h.rows (by decide)
        refine (operate_count d S.ops ab (a + 1) w d3 d2 d4 hops f4 a0 (by simp; omega) (wrap_pred _ hbig) fa hne).mono ?_
        rintro e w' ⟨rfl, rfl⟩
        rw [show (((a + 1 : Nat) : Int) - 1) = (a : Int) from by omega]
        have e : S.op = (true, { S with ops := S.ops + 1, arm := some (a, ks) }) := by simp [DS.op, hdn, hS]
        rw [e]
        generalize hW : (w.setCell ⟨d, 4, none⟩ (.int .i64 ((S.ops + 1 : Nat) : Int))).setCell ⟨ab, 0, none⟩ (.int .i64 (a : Int)) = W
        have k : Keep (fun k => k = d ∨ k = ab) w W := by
          rw [← hW]
          exact ((Keep.refl _ _).store (p := ⟨d, 4, none⟩) (fun _ => .inl rfl) _).store (p := ⟨ab, 0, none⟩) (fun _ => .inr rfl) _
        have hm : ∀ {g t cur}, t ≠ 65 → t ≠ 86 → Row w g t cur → Row W g t cur := fun h1 h2 hr => hr.keep k (fun e => by
          rcases e with rfl | rfl
          · exact (hr.ne h.top h1) rfl
          · exact (hr.ne hab h2) rfl)
        have hd : ∀ g cur, R g → Row w g 5 cur → Row W g 5 cur ∧ R g := fun g cur a b => ⟨hm (by decide) (by decide) b, a⟩
        refine ⟨rfl, ⟨sb, svs, wv, wvs, .pointer (some ⟨ab, 0, none⟩), ?_⟩, k.mono fun i _ e => by rcases e with rfl | rfl; exact h.rd; exact hRab⟩
        refine ⟨?_, hm (by decide) (by decide) h.rows, h.secs.move hd, own_move h.wrow (fun g cur _ b => hm (by decide) (by decide) b), h.wR, ⟨h.waits.1, h.waits.2.move hd⟩, ?_, h.rd, h.rs, h.few, h.some_, h.at_⟩
        · rw [← hW]
          simpa using (h.top.store 4 (.int .i64 ((S.ops + 1 : Nat) : Int))).far (p := ⟨ab, 0, none⟩) hne.symm (.int .i64 (a : Int))
        · refine ⟨ab, kv, rfl, ?_, hRab, own_move hkv (fun g cur _ b => hm (by decide) (by decide) b), hkR, by omega⟩
          rw [← hW]
          simpa using (hab.far (p := ⟨d, 4, none⟩) hne (.int .i64 ((S.ops + 1 : Nat) : Int))).store 0 (.int .i64 (a : Int))
end Go.Proofs.YtfigiofiakkbdaaDoor
