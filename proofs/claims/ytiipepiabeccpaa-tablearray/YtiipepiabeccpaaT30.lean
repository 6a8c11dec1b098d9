/-
  Tables: what a law's last regions lean on.
-/
import Derived.Test.YtiipepiabeccpaaT29
namespace Go.Proofs.Ytiipepiabeccpaa
open Go.RowKit Go.Deep
set_option linter.all false

/-- Behind the range: the table, what it leaves alone, the law's own variables. -/
def SS (w W : World) (S : Nat → Prop) (tb b mb : Nat) (q : MN) (E : List Ent) (nv vv : Value) (cs : Array Value) (w' : World) : Prop :=
  ∃ B, Tab B w' S tb q E ∧ Held S W w' ∧ Row B b 3 #[nv] ∧ Row B (b + 1) 9 #[vv] ∧ Row B mb 58 cs ∧ (∃ rv, Row B (b + 1 + 1) 4 #[rv]) ∧ Calm w B
section
variable {w W w' : World} {S : Nat → Prop} {tb b mb : Nat} {q : MN} {E : List Ent} {nv vv : Value} {cs : Array Value}
theorem SS.cn (h : SS w W S tb b mb q E nv vv cs w') : w'.cell? ⟨b, 0, none⟩ = some nv := by
  obtain ⟨B, h1, h2, h3, h4, h5, h6, h7⟩ := h
  exact ((h3.keep h1.calm_ (fun e => e)).cell 0).trans rfl
theorem SS.cv (h : SS w W S tb b mb q E nv vv cs w') : w'.cell? ⟨b + 1, 0, none⟩ = some vv := by
  obtain ⟨B, h1, h2, h3, h4, h5, h6, h7⟩ := h
  exact ((h4.keep h1.calm_ (fun e => e)).cell 0).trans rfl
theorem SS.cm (h : SS w W S tb b mb q E nv vv cs w') (i : Nat) : w'.cell? ⟨mb, i, none⟩ = cs[i]? := by
  obtain ⟨B, h1, h2, h3, h4, h5, h6, h7⟩ := h
  exact (h5.keep h1.calm_ (fun e => e)).cell i
theorem SS.rb (h : SS w W S tb b mb q E nv vv cs w') : ∃ rv, w'.cell? ⟨b + 1 + 1, 0, none⟩ = some rv ∧ w'.frozen? ⟨b + 1 + 1, 0, none⟩ = false := by
  obtain ⟨B, h1, h2, h3, h4, h5, ⟨rv, h6⟩, h7⟩ := h
  have r := h6.keep h1.calm_ (fun e => e)
  exact ⟨rv, (r.cell 0).trans rfl, r.soft 0⟩
theorem SS.held (h : SS w W S tb b mb q E nv vv cs w') : Held S W w' := by obtain ⟨B, h1, h2, _⟩ := h; exact h2
theorem SS.at_ (h : SS w W S tb b mb q E nv vv cs w') {g i : Nat} (hg : S g) {u : Value} (hc : W.cell? ⟨g, i, none⟩ = some u) : w'.cell? ⟨g, i, none⟩ = some u := (World.cell?_of_block (h.held g hg)).trans hc
theorem SS.drew (h : SS w W S tb b mb q E nv vv cs w') : SS w W S tb b mb q E nv vv cs w'.drew := by
  obtain ⟨B, h1, h2, h3, h4, h5, h6, h7⟩ := h
  exact ⟨B, h1.rest (Keep.refl _ w').drew, fun i hi => h2 i hi, h3, h4, h5, h6, h7⟩
theorem SS.conv (h : SS w W S tb b mb q E nv vv cs w') {k bs : List UInt8} {g : Nat} (hg : getL k E = some (g, bs)) (hl : q.val ≤ 1000) :
    Sem.run Try.prog (convert 22 9 (.slice (some ⟨g, 0, none⟩) q.val q.val)) w' = .ok (.string (str bs)) w' := by
  obtain ⟨B, h1, h2, h3, h4, h5, h6, h7⟩ := h
  obtain ⟨r, l⟩ := h1.has hg
  exact conv_rd (row_rd r l (by omega))
theorem SS.del (h : SS w W S tb b mb q E nv vv cs w') (hk1 : q.kind = 1) {kb n c : Nat} {k : List UInt8} (hS : S kb) (hk : Rd W (.slice (some ⟨kb, 0, none⟩) n c) k) (hl : k.length = q.key) :
    Calls Try.prog 41 #[.pointer (some ⟨tb, 0, none⟩), .slice (some ⟨kb, 0, none⟩) n c] w' fun e w'' => e = .returned (.int .i64 6) ∧ SS w W S tb b mb q E nv vv cs w'' := by
  obtain ⟨B, h1, h2, h3, h4, h5, h6, h7⟩ := h
  exact delete_c h1 (hk.held h2 hS) hl 6 _ (.inl ⟨.inl ⟨hk1, rfl⟩, fun w'' a => ⟨B, a.1, h2.trans a.2, h3, h4, h5, h6, h7⟩⟩)
theorem SS.len (h : SS w W S tb b mb q E nv vv cs w') {m : Nat} (hm : E.length = m) : Calls Try.prog 45 #[.pointer (some ⟨tb, 0, none⟩)] w' fun e w'' => e = .returned (.int .i64 (m : Int)) ∧ SS w W S tb b mb q E nv vv cs w'' := by
  subst hm
  obtain ⟨B, h1, h2, h3, h4, h5, h6, h7⟩ := h
  refine (len_c h1).mono ?_
  rintro e w'' ⟨rfl, a⟩
  exact ⟨rfl, B, a.1, h2.trans a.2, h3, h4, h5, h6, h7⟩
theorem SS.store (h : SS w W S tb b mb q E nv vv cs w') (hb : w.heap.size ≤ b) (hm : b + 3 ≤ mb) (hS : ¬ S (b + 1 + 1)) (u : Value) : SS w W S tb b mb q E nv vv cs (w'.setCell ⟨b + 1 + 1, 0, none⟩ u) := by
  obtain ⟨B, h1, h2, h3, h4, h5, ⟨rv, h6⟩, h7⟩ := h
  have k : Keep (fun i => i = b + 1 + 1) B (B.setCell ⟨b + 1 + 1, 0, none⟩ u) := (Keep.refl (fun i => i = b + 1 + 1) B).store (p := ⟨b + 1 + 1, 0, none⟩) (fun _ => rfl) u
  exact ⟨_, tab_box h1 ⟨b + 1 + 1, 0, none⟩ u h6.lt, h2.trans (held_box S w' _ u hS), h3.keep k (fun e => by omega), h4.keep k (fun e => by omega), h5.keep k (fun e => by omega), ⟨u, by simpa using h6.store 0 u⟩,
    h7.store (p := ⟨b + 1 + 1, 0, none⟩) (fun h => by have h' : b + 1 + 1 < w.heap.size := h; omega) u⟩
theorem SS.calm (h : SS w W S tb b mb q E nv vv cs w') : Calm w w' := by
  obtain ⟨B, h1, h2, h3, h4, h5, h6, h7⟩ := h
  exact h7.trans h1.calm_
end
end Go.Proofs.Ytiipepiabeccpaa
