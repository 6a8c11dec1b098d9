/-
  What DiskApart, DiskKeeps and DiskPlays share: what a sector is behind writes and barriers; memory of the law's own.
-/
import Derived.Test.YtppehlnfoendgaaLaw1b
import Derived.Test.YtppehlnfoendgaaFrames
namespace Go.Proofs.Ytppehlnfoendgaa
open Go.RowKit
set_option linter.all false

/-- A store of the law's own, outside of the disk. -/
theorem St.touch {w0 w : World} {R : Nat → Prop} {d : Nat} {S : DS} (h : St w0 w R d S) {p : Addr} (hR : ¬ R p.block) (hn : w0.heap.size ≤ p.block) (u : Value) : St w0 (w.setCell p u) R d S :=
  ⟨h.disk.move (fun k hk _ => Below.heap_setCell _ _ _ _ (fun e => hR (by rw [← e]; exact hk))) (fun _ x => x), h.calm.store (fun e => absurd e (by omega)) u, h.new, fun k hk => by rw [World.size_setCell]; exact h.lt k hk⟩
theorem nowOf_append {α : Type} (ws vs : List (Nat × α)) (i : Nat) (s : α) : nowOf (ws ++ vs) i s = nowOf vs i (nowOf ws i s) := by simp [nowOf]
theorem putTo_now {α : Type} (s : List α) (ws : List (Nat × α)) (i : Nat) (d : α) (hi : i < s.length) (m : Nat) (hm : m ≤ ws.length) : (putTo (fun _ => true) s ws m).getD i d = nowOf (ws.take m) i (s.getD i d) := by
  induction m with
  | zero => rfl
  | succ m ih =>
    have hl : m < ws.length := by omega
    rw [putTo_succ _ _ _ _ _ (List.getElem?_eq_getElem hl), List.take_succ_eq_append_getElem hl, nowOf_append, ← ih (by omega), if_pos rfl]
    have hlen := putTo_len (fun _ => true) s ws m
    simp only [nowOf, List.foldl_cons, List.foldl_nil]
    by_cases e : ws[m].1 = i
    · rw [if_pos e]
      subst e
      simp [List.getD, List.getElem?_set, hlen, hi]
    · rw [if_neg e]
      simp [List.getD, List.getElem?_set, e]
theorem settled_now (S : DS) (i : Nat) (hi : i < S.secs.length) : S.settled.now i = S.now i := by
  show (putTo (fun _ => true) S.secs S.wait S.wait.length).getD i [] = _
  rw [putTo_now S.secs S.wait i [] hi S.wait.length (Nat.le_refl _), List.take_length]
  rfl
theorem write_now (S : DS) (x : Nat) (b : List UInt8) (i : Nat) : (DS.now { S with wait := S.wait ++ [(x, b)] } i) = if x = i then b else S.now i := by
  simp only [DS.now, nowOf_append]
  simp only [nowOf, List.foldl_cons, List.foldl_nil]

theorem u16_and (x m k : Nat) (hx : x < 65536) (hk : k ≤ 16) (hm : m = 2 ^ k - 1) : bits .and .u16 (x : Int) (m : Int) = ((x % 2 ^ k : Nat) : Int) := by
  subst hm
  have h16 : ∀ n : Int, 0 ≤ n → n < 2 ^ 16 → IntKind.u16.wrap n = n := fun n h0 h1 => by simp [IntKind.wrap, IntKind.bits, IntKind.signed]; omega
  have hp : 0 < 2 ^ k := Nat.two_pow_pos k
  have := bits_mask .u16 16 (by decide) h16 k hk (x : Int) (by omega) (by omega)
  rw [show ((2 ^ k - 1 : Nat) : Int) = (2 : Int) ^ k - 1 from by rw [Int.natCast_sub hp]; simp, this]
  simp
theorem Nums.u16 {w : World} {v : Value} {zs : List Int} (h : Nums .u16 w v zs) (i : Nat) (hi : i < zs.length) : ∃ x : Nat, x < 65536 ∧ zs[i] = (x : Int) := by
  have := bounds_u16 (h.2 zs[i] (List.getElem_mem hi))
  exact ⟨zs[i].toNat, by omega, by omega⟩
theorem Nums.form {k : IntKind} {w : World} {v : Value} {zs : List Int} (h : Nums k w v zs) : ∃ A cap, v = .slice A zs.length cap := by obtain ⟨⟨A, cap, e, _⟩, _⟩ := h; exact ⟨A, cap, e⟩
theorem Nums.at_ {k : IntKind} {w w' : World} {A : Option Addr} {cap : Nat} {zs : List Int} (h : Nums k w (.slice A zs.length cap) zs) (hc : Calm w w') (i : Nat) (hi : i < zs.length) : ∃ ad, A = some ad ∧ w'.cell? (ad.add i) = some (.int k zs[i]) := by
  obtain ⟨⟨A', cap', e, h1⟩, _⟩ := h
  injection e with e1 _ e2
  subst e1; subst e2
  obtain ⟨ad, e1, e2, e3⟩ := h1 i zs[i] (List.getElem?_eq_getElem hi)
  exact ⟨ad, e1, (hc.cell (p := ad.add i) (by rw [Addr.add_block]; exact e2) (fun e => e)).trans e3⟩
end Go.Proofs.Ytppehlnfoendgaa
