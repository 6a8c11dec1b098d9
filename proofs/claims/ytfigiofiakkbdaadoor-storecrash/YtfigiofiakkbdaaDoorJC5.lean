/-
  Disks on which a crash is armed. Nothing of a statement is walked here.
-/
import Derived.Test.YtfigiofiakkbdaaDoorJC4
namespace Go.Proofs.YtfigiofiakkbdaaDoor
open Go.RowKit
set_option linter.all false

def DS.Live (S : DS) : Prop := S.down = false ∧ ∃ a ks, S.arm = some (a, ks)
def DS.Dead (S : DS) : Prop := S.down = true ∧ S.arm = none ∧ S.wait = []
/-- Sector x is P, in whatever version. -/
def DS.AtS (S : DS) (x : Nat) (P : List UInt8 → Prop) : Prop := P (S.secs.getD x []) ∧ ∀ y ∈ S.wait, y.1 = x → P y.2
theorem putTo_at {α : Type} (P : α → Prop) (x : Nat) (dflt : α) (kept : Nat → Bool) (s : List α) (ws : List (Nat × α)) (h : P (s.getD x dflt)) (hw : ∀ y ∈ ws, y.1 = x → P y.2) (j : Nat) : P ((putTo kept s ws j).getD x dflt) := by
  induction j with
  | zero => exact h
  | succ j ih =>
    simp only [putTo]
    split
    · rename_i y hy
      split
      · have hm : y ∈ ws := List.mem_of_getElem? hy
        rw [List.getD_eq_getElem?_getD, List.getElem?_set]
        by_cases e : y.1 = x
        · rw [if_pos e]
          split
          · exact hw y hm e
          · rename_i hl
            have : (putTo kept s ws j).getD x dflt = dflt := by rw [List.getD_eq_getElem?_getD, List.getElem?_eq_none (by omega)]; rfl
            rw [this] at ih
            exact ih
        · rw [if_neg e, ← List.getD_eq_getElem?_getD]; exact ih
      · exact ih
    · exact ih
section
variable {S S1 : DS} {x : Nat} {P : List UInt8 → Prop} {ok : Bool}
theorem DS.AtS.crash (h : S.AtS x P) (ks : List Bool) : (S.crash ks).AtS x P := ⟨putTo_at P x [] _ _ _ h.1 h.2 _, fun y hy => by simp [DS.crash] at hy⟩
theorem DS.AtS.settled (h : S.AtS x P) : S.settled.AtS x P := ⟨putTo_at P x [] _ _ _ h.1 h.2 _, fun y hy => by simp [DS.settled] at hy⟩
theorem DS.AtS.op (h : S.AtS x P) (e : S.op = (ok, S1)) : S1.AtS x P := by
  unfold DS.op at e
  repeat' split at e
  all_goals (injection e with _ e; subst e)
  · exact h
  · exact h
  · exact h.crash _
  · exact h
theorem DS.AtS.wr {f : Nat} {b : List UInt8} (h : S.AtS x P) (hb : f = x → P b) (e : S.wr f b = (ok, S1)) : S1.AtS x P := by
  unfold DS.wr at e
  rcases hop : S.op with ⟨ok2, S2⟩
  have h2 := h.op hop
  rw [hop] at e
  cases ok2
  · simp at e; obtain ⟨_, rfl⟩ := e; exact h2
  · simp at e; obtain ⟨_, rfl⟩ := e
    refine ⟨h2.1, fun y hy hx => ?_⟩
    simp at hy
    rcases hy with hy | rfl
    · exact h2.2 y hy hx
    · exact hb hx
theorem DS.AtS.bar (h : S.AtS x P) (e : S.bar = (ok, S1)) : S1.AtS x P := by
  unfold DS.bar at e
  rcases hop : S.op with ⟨ok2, S2⟩
  have h2 := h.op hop
  rw [hop] at e
  cases ok2
  · simp at e; obtain ⟨_, rfl⟩ := e; exact h2
  · simp at e; obtain ⟨_, rfl⟩ := e; exact h2.settled
theorem DS.AtS.wrs {l : List (Nat × List UInt8)} (hl : ∀ y ∈ l, y.1 = x → P y.2) : ∀ {S S1 : DS} {ok : Bool}, S.AtS x P → S.wrs l = (ok, S1) → S1.AtS x P := by
  induction l with
  | nil => intro S S1 ok h e; simp only [DS.wrs, Prod.mk.injEq] at e; obtain ⟨_, rfl⟩ := e; exact h
  | cons y l ih =>
    intro S S1 ok h e
    simp only [DS.wrs] at e
    rcases hw : S.wr y.1 y.2 with ⟨ok2, S2⟩
    rw [hw] at e
    have h2 := h.wr (hl y (by simp)) hw
    cases ok2
    · simp only [Prod.mk.injEq] at e; obtain ⟨_, rfl⟩ := e; exact h2
    · exact ih (fun z hz => hl z (by simp [hz])) h2 e
theorem DS.AtS.put {f m : Nat} {p : List UInt8} (h : S.AtS x P) (hx : x < f ∨ f + m < x) (e : S.put f p m = (ok, S1)) : S1.AtS x P := by
  unfold DS.put at e
  rcases hw : S.wrs (others f m p) with ⟨ok2, S2⟩
  have h2 := h.wrs (l := others f m p) (fun y hy hyx => by
    unfold others at hy
    obtain ⟨i, hi, rfl⟩ := List.mem_map.1 hy
    have := List.mem_range.1 hi
    simp only at hyx
    omega) hw
  rw [hw] at e
  cases ok2
  · simp only [Prod.mk.injEq] at e; obtain ⟨_, rfl⟩ := e; exact h2
  · simp only at e
    split at e
    · exact h2.wr (fun e => by omega) e
    · rcases hb : S2.bar with ⟨ok3, S3⟩
      rw [hb] at e
      have h3 := h2.bar hb
      cases ok3
      · simp only [Prod.mk.injEq] at e; obtain ⟨_, rfl⟩ := e; exact h3
      · exact h3.wr (fun e => by omega) e

theorem DS.Live.op (h : S.Live) (e : S.op = (ok, S1)) : (ok = true ∧ S1.Live) ∨ (ok = false ∧ S1.Dead) := by
  obtain ⟨hd, a, ks, ha⟩ := h
  unfold DS.op at e
  rw [hd, ha] at e
  cases a with
  | zero => simp at e; obtain ⟨rfl, rfl⟩ := e; exact .inr ⟨rfl, rfl, rfl, rfl⟩
  | succ a => simp at e; obtain ⟨rfl, rfl⟩ := e; exact .inl ⟨rfl, (by first | exact hd | rfl), a, ks, rfl⟩
theorem DS.Live.wr {f : Nat} {b : List UInt8} (h : S.Live) (e : S.wr f b = (ok, S1)) : (ok = true ∧ S1.Live) ∨ (ok = false ∧ S1.Dead) := by
  unfold DS.wr at e
  rcases hop : S.op with ⟨ok2, S2⟩
  rw [hop] at e
  rcases h.op hop with ⟨rfl, h2⟩ | ⟨rfl, h2⟩
  · simp at e; obtain ⟨rfl, rfl⟩ := e; exact .inl ⟨rfl, h2⟩
  · simp at e; obtain ⟨rfl, rfl⟩ := e; exact .inr ⟨rfl, h2⟩
theorem DS.Live.bar (h : S.Live) (e : S.bar = (ok, S1)) : (ok = true ∧ S1.Live) ∨ (ok = false ∧ S1.Dead) := by
  unfold DS.bar at e
  rcases hop : S.op with ⟨ok2, S2⟩
  rw [hop] at e
  rcases h.op hop with ⟨rfl, h2⟩ | ⟨rfl, h2⟩
  · simp at e; obtain ⟨rfl, rfl⟩ := e; exact .inl ⟨rfl, h2⟩
  · simp at e; obtain ⟨rfl, rfl⟩ := e; exact .inr ⟨rfl, h2⟩
theorem DS.Live.wrs {l : List (Nat × List UInt8)} : ∀ {S S1 : DS} {ok : Bool}, S.Live → S.wrs l = (ok, S1) → (ok = true ∧ S1.Live) ∨ (ok = false ∧ S1.Dead) := by
  induction l with
  | nil => intro S S1 ok h e; simp only [DS.wrs, Prod.mk.injEq] at e; obtain ⟨rfl, rfl⟩ := e; exact .inl ⟨rfl, h⟩
  | cons y l ih =>
    intro S S1 ok h e
    simp only [DS.wrs] at e
    rcases hw : S.wr y.1 y.2 with ⟨ok2, S2⟩
    rw [hw] at e
    rcases h.wr hw with ⟨rfl, h2⟩ | ⟨rfl, h2⟩
    · exact ih h2 e
    · simp only [Prod.mk.injEq] at e; obtain ⟨rfl, rfl⟩ := e; exact .inr ⟨rfl, h2⟩
theorem DS.Live.put {f m : Nat} {p : List UInt8} (h : S.Live) (e : S.put f p m = (ok, S1)) : (ok = true ∧ S1.Live) ∨ (ok = false ∧ S1.Dead) := by
  unfold DS.put at e
  rcases hw : S.wrs (others f m p) with ⟨ok2, S2⟩
  rw [hw] at e
  rcases h.wrs hw with ⟨rfl, h2⟩ | ⟨rfl, h2⟩
  · simp only at e
    split at e
    · exact h2.wr e
    · rcases hb : S2.bar with ⟨ok3, S3⟩
      rw [hb] at e
      rcases h2.bar hb with ⟨rfl, h3⟩ | ⟨rfl, h3⟩
      · exact h3.wr e
      · simp only [Prod.mk.injEq] at e; obtain ⟨rfl, rfl⟩ := e; exact .inr ⟨rfl, h3⟩
  · simp only [Prod.mk.injEq] at e; obtain ⟨rfl, rfl⟩ := e; exact .inr ⟨rfl, h2⟩
theorem DS.put_fine {f m n : Nat} {p : List UInt8} (e : S.put f p m = (ok, S1)) (hf : S.fine (n + m + 2)) : S1.fine n ∧ S1.secs.length = S.secs.length := by
  unfold DS.put at e
  rcases hw : S.wrs (others f m p) with ⟨ok2, S2⟩
  rw [hw] at e
  have h2 := DS.wrs_fine (n := n + 2) hw (by rw [others_len]; exact hf.mono (by omega))
  cases ok2
  · simp only [Prod.mk.injEq] at e; obtain ⟨_, rfl⟩ := e; exact ⟨h2.1.mono (by omega), h2.2⟩
  · simp only at e
    split at e
    · have h3 := DS.wr_fine (n := n + 1) e h2.1
      exact ⟨h3.1.mono (by omega), h3.2.trans h2.2⟩
    · rcases hb : S2.bar with ⟨ok3, S3⟩
      rw [hb] at e
      have h3 := DS.bar_fine (n := n + 1) hb h2.1
      cases ok3
      · simp only [Prod.mk.injEq] at e; obtain ⟨_, rfl⟩ := e; exact ⟨h3.1.mono (by omega), h3.2.trans h2.2⟩
      · have h4 := DS.wr_fine (n := n) e h3.1
        exact ⟨h4.1, h4.2.trans (h3.2.trans h2.2)⟩
end
theorem sd_arm {w0 w : World} {R : Nat → Prop} {d : Nat} {S : DS} (h : Sd w0 w R d S) (n : Nat) (hb : n ≤ big) :
    Calls Tryd.prog 22 #[.pointer (some ⟨d, 0, none⟩), .int .i64 (n : Int), .slice none 0 0] w fun e w' => ∃ R', e = .returned (.tuple #[]) ∧ Sd w0 w' R' d { S with arm := some (n, []) } ∧ Ext R R' w ∧ Keep R w w' := by
  refine (st_arm h.st (n : Int) (by omega) (by simpa using hb) (.slice none 0 0) [] (Bools.none_ _ _) (Nat.zero_le _)).mono ?_
  rintro e w' ⟨rfl, h1, k1⟩
  obtain ⟨R', h2, hr⟩ := h1.sd
  rw [Int.toNat_natCast] at h2
  exact ⟨R', rfl, h2, fun k hk => (hr k hk).imp id (fun e => e.1), k1⟩
/-- The numbers go on with the records. -/
theorem replayFrom_num (f : Nat) : ∀ (s : List UInt8) (n u : Nat) (out out' : List (List UInt8)) (n' u' : Nat), replayFrom f s n u out = (out', n', u') → n' + out.length = n + out'.length := by
  induction f with
  | zero => intro s n u out out' n' u' h; simp only [replayFrom, Prod.mk.injEq] at h; obtain ⟨rfl, rfl, rfl⟩ := h; rfl
  | succ f ih =>
    intro s n u out out' n' u' h
    simp only [replayFrom] at h
    split at h
    · simp only [Prod.mk.injEq] at h; obtain ⟨rfl, rfl, rfl⟩ := h; rfl
    · have := ih _ _ _ _ _ _ _ h
      simp at this
      omega
theorem replay_num {s : List UInt8} {out : List (List UInt8)} {n u : Nat} (h : replay s = some (out, n, u)) : n = num (s.take 8) + 1 + out.length := by
  unfold replay at h
  simp only at h
  split at h
  · cases h
  · injection h with h
    have := replayFrom_num _ _ _ _ _ _ _ _ h
    simp at this
    exact this
theorem replay_beg {s : List UInt8} {k : Nat} (h1 : 1 ≤ k) (h2 : k ≤ 4611686018427387904) (h8 : s.take 512 = begP k) : ∃ out n u, replay s = some (out, n, u) ∧ n = k + 1 + out.length := by
  have e8 : num (s.take 8) = k := by
    have := beg_take8 k [] (by omega)
    rw [List.append_nil, ← h8, List.take_take] at this
    exact this
  have e16 : s.take 16 = head16 k 4294967295 [] := by
    have := beg_take16 k []
    rw [List.append_nil, ← h8, List.take_take] at this
    exact this
  have hr : replay s = some (replayFrom s.length s (k + 1) 1 []) := by
    unfold replay
    simp only
    rw [e8, if_neg (by rw [e16]; simp; omega)]
  rcases hh : replayFrom s.length s (k + 1) 1 [] with ⟨out, n, u⟩
  rw [hh] at hr
  exact ⟨out, n, u, hr, by have := replay_num hr; rw [e8] at this; exact this⟩
end Go.Proofs.YtfigiofiakkbdaaDoor
