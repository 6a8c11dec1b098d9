/-
  StoreCrash's argument in memory.
-/
import Derived.Test.YtfigiofiakkbdaaDoorS20
import Derived.Test.YtfigiofiakkbdaaDoorLStrs2
namespace Go.Proofs.YtfigiofiakkbdaaDoor
open Go.RowKit
set_option linter.all false

def TryAt4 (w : World) (a : Addr) : Prop := ∃ (n t : Int) (A : Option Addr) (ks : List Bool) (c : Nat),
  w.cell? a = some (.int .i64 n) ∧ w.cell? (a.add 1) = some (.int .i64 t) ∧ w.cell? (a.add 2) = some (.slice A ks.length c) ∧ ks.length ≤ c ∧ c ≤ maxLen ∧ (A = none → c = 0) ∧ Bools w (fun _ => True) (.slice A ks.length c) ks
def TrysAt4 (w : World) (v : Value) (n : Nat) : Prop := ∃ (A : Option Addr) (cap : Nat), v = .slice A n cap ∧ n ≤ cap ∧ cap ≤ maxLen ∧ ∀ i, i < n → ∃ ad, A = some ad ∧ TryAt4 w (ad.add (i * 3))
theorem TryAt4.calm {w w' : World} {a : Addr} (h : TryAt4 w a) (hc : Calm w w') : ∃ (n t : Int) (A : Option Addr) (ks : List Bool) (c : Nat),
    w'.cell? a = some (.int .i64 n) ∧ w'.cell? ⟨a.block, a.off + 1, none⟩ = some (.int .i64 t) ∧ w'.cell? ⟨a.block, a.off + 2, none⟩ = some (.slice A ks.length c) ∧ ks.length ≤ c ∧ c ≤ maxLen ∧ (A = none → c = 0) ∧ Bools w (fun _ => True) (.slice A ks.length c) ks := by
  obtain ⟨n, t, A, ks, c, h1, h2, h3, h4⟩ := h
  exact ⟨n, t, A, ks, c, (hc.cell (p := a) (World.block_lt_of_cell? _ _ h1) (fun e => e)).trans h1, (hc.cell (p := a.add 1) (World.block_lt_of_cell? _ _ h2) (fun e => e)).trans h2, (hc.cell (p := a.add 2) (World.block_lt_of_cell? _ _ h3) (fun e => e)).trans h3, h4⟩
/-- The row of what may be kept. -/
def My (w1 w : World) (R T : Nat → Prop) (mb cap : Nat) (ms : List (List UInt8)) : Prop := Strs w w1.heap.size (.slice (some ⟨mb, 0, none⟩) ms.length cap) ms ∧ mb < w.heap.size ∧ ¬ R mb ∧ ¬ T mb
section
variable {w1 w w' : World} {R R' T T' Q : Nat → Prop} {mb cap : Nat} {ms : List (List UInt8)}
theorem My.step (h : My w1 w R T mb cap ms) (k : Keep Q w w') (hQ : ∀ i, Q i → R i ∨ T i) (hx : Ext R R' w) (ht : Ext T T' w) : My w1 w' R' T' mb cap ms :=
  ⟨h.1.keep k (fun g hg e => by
    have : mb = g := by simpa [Value.ownBlock] using hg
    subst this
    exact (hQ _ e).elim h.2.2.1 h.2.2.2), Nat.lt_of_lt_of_le h.2.1 k.size, hx.not h.2.2.1 h.2.1, ht.not h.2.2.2 h.2.1⟩
theorem My.rest (h : My w1 w R T mb cap ms) (k : Calm w w') : My w1 w' R T mb cap ms := h.step k (fun _ e => e.elim) (Ext.refl _ _) (Ext.refl _ _)
theorem My.made (w1 w : World) (x : List UInt8) (hs : w1.heap.size ≤ w.heap.size) (hR : ∀ k, R k → k < w.heap.size) (hT : ∀ k, T k → k < w.heap.size) : My w1 (w.alloc (.cells #[sv x] 9)) R T w.heap.size 1 [x] :=
  ⟨⟨by simp, .inr ⟨w.heap.size, 1, #[sv x], by simp, hs, Row.made w _ _, by simp, by unfold maxLen; omega, by simp, by simp⟩⟩, Row.lt (Row.made w 9 #[sv x]), fun e => absurd (hR _ e) (Nat.lt_irrefl _), fun e => absurd (hT _ e) (Nat.lt_irrefl _)⟩
theorem Md.lt {P : DS → Prop} {w0 : World} {d sb n B F : Nat} {cur : List UInt8} (h : Md P w0 w R T d sb n B F cur) : (∀ k, R k → k < w.heap.size) ∧ (∀ k, T k → k < w.heap.size) := by
  obtain ⟨S, σ, c, ka, oa, kb, ob, h1, h2⟩ := h
  exact ⟨h1.sd.st.lt, h1.sm.lt⟩
theorem Rw.lt {P : DS → Prop} {w0 : World} {d n B F : Nat} {cur : List UInt8} (h : Rw P w0 w R d n B F cur) : (∀ k, R k → k < w.heap.size) ∧ (∀ k, R k → w0.heap.size ≤ k) := by
  obtain ⟨S, c, κ, h1, h2⟩ := h
  exact ⟨h1.st.lt, h1.st.new⟩
end
/-- Behind Save: it said 0, or 11. -/
def Sv (P : DS → Prop) (w0 w : World) (R T : Nat → Prop) (d sb n B F : Nat) (cur bs : List UInt8) (er : Int) : Prop :=
  (er = 0 ∧ Md P w0 w R T d sb n B F bs) ∨ (er = 11 ∧ ∃ cur', (cur' = cur ∨ cur' = bs) ∧ Rw DS.Dead w0 w R d n B F cur')
section
variable {w0 w w' : World} {R T : Nat → Prop} {d sb n B F : Nat} {cur bs : List UInt8} {er : Int}
theorem sv_save (hT : Tab w0) (h : Md DS.Alive w0 w R T d sb n B (F + 10) cur) (n6 : 6 ≤ n) (hn : n ≤ 4096) (hB : B ≤ 900000) (v : Value) (hv : Rd w v bs) (hne : bs ≠ []) (hl : bs.length ≤ 600) :
    Calls Tryd.prog 15 #[.pointer (some ⟨sb, 0, none⟩), v] w fun e w' => ∃ R' T', ∃ er : Int, e = .returned (.int .i64 er) ∧ Sv DS.Alive w0 w' R' T' d sb n (B + 2) F cur bs er ∧ Ext R R' w ∧ Ext T T' w ∧ Keep (fun k => R k ∨ T k) w w' := by
  refine (md_save hT h n6 hn hB v hv hne hl).mono ?_
  rintro e w' ⟨R', T', hx, ht, hk, ⟨rfl, h1⟩ | ⟨rfl, h1⟩⟩
  · exact ⟨R', T', 0, rfl, .inl ⟨rfl, h1⟩, hx, ht, hk⟩
  · exact ⟨R', T', 11, rfl, .inr ⟨rfl, h1⟩, hx, ht, hk⟩
theorem sv_off (h : Sv DS.Alive w0 w R T d sb n B F cur bs er) (kv : Value) :
    Calls Tryd.prog 22 #[.pointer (some ⟨d, 0, none⟩), .int .i64 (-1), kv] w fun e w' => ∃ R', e = .returned (.tuple #[]) ∧ Sv DS.Up w0 w' R' T d sb n B F cur bs er ∧ Ext R R' w ∧ Keep R w w' := by
  rcases h with ⟨rfl, h⟩ | ⟨rfl, cur', hc, h⟩
  · refine (md_off h kv).mono ?_
    rintro e w' ⟨R', rfl, h1, hx, hk⟩
    exact ⟨R', rfl, .inl ⟨rfl, h1⟩, hx, hk⟩
  · refine (rw_off h kv).mono ?_
    rintro e w' ⟨R', rfl, h1, hx, hk⟩
    exact ⟨R', rfl, .inr ⟨rfl, cur', hc, h1⟩, hx, hk⟩
end
end Go.Proofs.YtfigiofiakkbdaaDoor
