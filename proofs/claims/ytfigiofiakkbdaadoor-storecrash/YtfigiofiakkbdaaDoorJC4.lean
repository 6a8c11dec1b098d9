/-
  The statements of layer 3: journals that are filled one behind the other; arguments that are strings.
-/
import Derived.Test.YtfigiofiakkbdaaDoorJC3
import Derived.Test.YtfigiofiakkbdaaDoorJF
namespace Go.Proofs.YtfigiofiakkbdaaDoor
open Go.RowKit
set_option linter.all false

/-- A journal of an empty disk, with records put one behind the other. -/
structure Filled (w0 w : World) (R : Nat → Prop) (d jb : Nat) (S : DS) (f k : Nat) (l : List (List UInt8)) (n : Nat) : Prop where
  ju : ∃ c, Ju w0 w R d jb S ⟨f, f + k, f + (1 + secsAll l), 1 + l.length, false⟩ n c ∧ Chain c f k 1 l (fun _ => full 0)
theorem Filled.jn {w0 w : World} {R : Nat → Prop} {d jb : Nat} {S : DS} {f k : Nat} {l : List (List UInt8)} {n : Nat} (h : Filled w0 w R d jb S f k l n) : Jn w0 w R d jb S ⟨f, f + k, f + (1 + secsAll l), 1 + l.length, false⟩ := by obtain ⟨c, h, _⟩ := h.ju; exact h.jn
theorem Filled.fits {w0 w : World} {R : Nat → Prop} {d jb : Nat} {S : DS} {f k : Nat} {l : List (List UInt8)} {n : Nat} (h : Filled w0 w R d jb S f k l n) : 1 + secsAll l ≤ k := by obtain ⟨c, _, h⟩ := h.ju; exact h.fits
theorem Filled.rest {w0 w w' : World} {R : Nat → Prop} {d jb : Nat} {S : DS} {f k : Nat} {l : List (List UInt8)} {n : Nat} (h : Filled w0 w R d jb S f k l n) (hc : Calm w w') : Filled w0 w' R d jb S f k l n := by obtain ⟨c, h, h2⟩ := h.ju; exact ⟨c, h.rest hc, h2⟩
theorem room_fits {f k u q : Nat} (hq : f + u ≤ f + k) : (JS.mk f (f + k) (f + u) 0 false).room = if u = k then -1 else ((k - u : Nat) : Int) * 512 - 16 := by
  unfold JS.room
  simp only
  by_cases h : u = k
  · rw [if_pos (by omega), if_pos h]
  · rw [if_neg (by omega), if_neg h]; omega
theorem room_secs {k u b : Nat} (hu : u ≤ k) (h : (b : Int) ≤ if u = k then -1 else ((k - u : Nat) : Int) * 512 - 16) : u + secsOf b ≤ k := by
  split at h
  · omega
  · unfold secsOf; omega
theorem filled_append {w0 w : World} {R : Nat → Prop} {d jb : Nat} {S : DS} {f k n : Nat} {l : List (List UInt8)} (hT : Tab w0) (h : Filled w0 w R d jb S f k l n) (hfk : f + k ≤ n) (v : Value) (b : List UInt8) (hv : Rd w v b)
    (hroom : (b.length : Int) ≤ if 1 + secsAll l = k then -1 else ((k - (1 + secsAll l) : Nat) : Int) * 512 - 16) (hl : l.length ≤ 1000000) (hf : S.fine (secsOf b.length + 1)) :
    Calls Tryd.prog 54 #[.pointer (some ⟨jb, 0, none⟩), v] w fun e w' => ∃ R' S1, e = .returned (.int .i64 0) ∧ Filled w0 w' R' d jb S1 f k (l ++ [b]) n ∧ Ext R R' w ∧ Keep (RJ R jb) w w' ∧
      S1.ops ≤ S.ops + secsOf b.length + 1 ∧ S1.wait.length ≤ S.wait.length + secsOf b.length ∧ (secsOf b.length = 1 → S1.secs = S.secs) := by
  obtain ⟨c, hj, hc⟩ := h.ju
  have hfi := hc.fits
  have hs := room_secs hfi hroom
  refine (jappend_up hT hj rfl (by simp only; omega) (by simp only; omega) v b hv (by
    have := room_fits (f := f) (k := k) (u := 1 + secsAll l) (q := 0) (by omega)
    show _ ≤ (JS.mk f (f + k) (f + (1 + secsAll l)) (1 + l.length) false).room
    rw [show (JS.mk f (f + k) (f + (1 + secsAll l)) (1 + l.length) false).room = (JS.mk f (f + k) (f + (1 + secsAll l)) 0 false).room from rfl, this]
    exact hroom) (by simp only; omega) hf).mono ?_
  rintro e w' ⟨R', S1, rfl, h1, h2⟩
  refine ⟨R', S1, rfl, ⟨_, ?_, hc.append b hs⟩, h2⟩
  have e1 : f + (1 + secsAll l) + secsOf b.length = f + (1 + secsAll (l ++ [b])) := by rw [secsAll_snoc]; omega
  have e2 : 1 + l.length + 1 = 1 + (l ++ [b]).length := by simp; omega
  simp only at h1
  rw [e1, e2] at h1
  rw [show 1 + 1 + l.length = 1 + (l ++ [b]).length by simp; omega]
  exact h1
theorem filled_full {w0 w : World} {R : Nat → Prop} {d jb : Nat} {S : DS} {f k n : Nat} {l : List (List UInt8)} (h : Filled w0 w R d jb S f k l n) (hfk : f + k ≤ 4096) (A : Option Addr) (m c : Nat) (hl : l.length ≤ 1000000)
    (hroom : (if 1 + secsAll l = k then -1 else ((k - (1 + secsAll l) : Nat) : Int) * 512 - 16) < (m : Int)) :
    Calls Tryd.prog 54 #[.pointer (some ⟨jb, 0, none⟩), .slice A m c] w fun e w' => e = .returned (.int .i64 5) ∧ Calm w w' := by
  have hfi := h.fits
  refine jappend_full h.jn.row rfl (by simp only; omega) hfk (by simp only; omega) A m c (.inl ?_)
  have := room_fits (f := f) (k := k) (u := 1 + secsAll l) (q := 0) (by omega)
  rw [show (JS.mk f (f + k) (f + (1 + secsAll l)) (1 + l.length) false).room = (JS.mk f (f + k) (f + (1 + secsAll l)) 0 false).room from rfl, this]
  exact hroom
theorem filled_room {w0 w : World} {R : Nat → Prop} {d jb : Nat} {S : DS} {f k n : Nat} {l : List (List UInt8)} (h : Filled w0 w R d jb S f k l n) (hfk : f + k ≤ 4096) :
    Calls Tryd.prog 67 #[.pointer (some ⟨jb, 0, none⟩)] w fun e w' => e = .returned (.int .i64 (if 1 + secsAll l = k then -1 else ((k - (1 + secsAll l) : Nat) : Int) * 512 - 16)) ∧ Calm w w' := by
  have hfi := h.fits
  have := jroom_c h.jn.row (by simp only; omega) hfk
  rw [show (JS.mk f (f + k) (f + (1 + secsAll l)) (1 + l.length) false).room = (JS.mk f (f + k) (f + (1 + secsAll l)) 0 false).room from rfl, room_fits (q := 0) (by omega)] at this
  exact this
theorem filled_next {w0 w : World} {R : Nat → Prop} {d jb : Nat} {S : DS} {f k n : Nat} {l : List (List UInt8)} (h : Filled w0 w R d jb S f k l n) (hl : l.length ≤ 1000000) :
    Calls Tryd.prog 68 #[.pointer (some ⟨jb, 0, none⟩)] w fun e w' => e = .returned (.int .u64 ((1 + l.length + 1 : Nat) : Int)) ∧ w = w' := jnext_c h.jn.row (by simp only; omega)
/-- Formatted, on a disk that was never written. -/
theorem filled_format {w0 w : World} {R : Nat → Prop} {d : Nat} {S : DS} {n f k : Nat} (hT : Tab w0) (h : Sd w0 w R d S) (hu : S.Up) (hs : S.Shows n (fun _ => full 0)) (hk : 2 ≤ k) (hfk : f + k ≤ n) (hf : S.fine 2) :
    Calls Tryd.prog 30 #[.pointer (some ⟨d, 0, none⟩), .int .i64 (f : Int), .int .i64 (k : Int)] w fun e w' => ∃ R' S1 jb, e = .returned (.tuple #[.pointer (some ⟨jb, 0, none⟩), .int .i64 0]) ∧ w.heap.size ≤ jb ∧ Filled w0 w' R' d jb S1 f k [] n ∧ Ext R R' w ∧ Keep R w w' ∧ S1.wait = [] ∧ S1.ops = S.ops + 2 := by
  refine (jformat_up hT h hu hs hk hfk hf).mono ?_
  rintro e w' ⟨R', S1, jb, rfl, h1, h2, h3, h4, h5, h6, h7⟩
  exact ⟨R', S1, jb, rfl, h1, ⟨_, h2, Chain.beg _ f k 1 (by omega)⟩, h3, h4, h5, h7⟩
/-- Opened: its records are told. -/
theorem filled_told {c : Nat → List UInt8} {f k : Nat} {l : List (List UInt8)} (h : Chain c f k 1 l (fun _ => full 0)) (hl : l.length ≤ 1000000) (hb : ∀ b ∈ l, b.length < 4294967296) : replay (areaC c f k) = some (l, l.length + 2, 1 + secsAll l) := by
  have := h.told (by omega) (by omega) hb (fun _ => by rw [num_full0]; omega) (by unfold full; rw [List.length_replicate])
  rw [this, show 1 + 1 + l.length = l.length + 2 by omega]
theorem Strv.form {w : World} {v : Value} {ss : List (List UInt8)} (h : Strv w v ss) : ∃ A cap, v = .slice A ss.length cap ∧ ss.length ≤ maxLen := by obtain ⟨A, cap, e, hl, _⟩ := h; exact ⟨A, cap, e, hl⟩
theorem Strv.at_ {w w' : World} {A : Option Addr} {cap : Nat} {ss : List (List UInt8)} (h : Strv w (.slice A ss.length cap) ss) (hc : Calm w w') (i : Nat) (hi : i < ss.length) : ∃ ad s, A = some ad ∧ ss[i]? = some s ∧ s.length ≤ maxLen ∧ ad.block < w.heap.size ∧ w'.cell? (ad.add i) = some (.string (str s)) := by
  obtain ⟨A', cap', e, hl, h1⟩ := h
  injection e with e1 _ e2
  subst e1; subst e2
  obtain ⟨h2, ad, e1, h3, h4⟩ := h1 i ss[i] (List.getElem?_eq_getElem hi)
  exact ⟨ad, ss[i], e1, List.getElem?_eq_getElem hi, h2, h3, (hc.cell (p := ad.add i) (by rw [Addr.add_block]; exact h3) (fun e => e)).trans h4⟩


/-- A journal from a beginning m on, over sectors that were c0; its sectors are named. -/
structure Chained (w0 w : World) (R : Nat → Prop) (d jb : Nat) (S : DS) (f k m : Nat) (l : List (List UInt8)) (c0 : Nat → List UInt8) (n : Nat) (c : Nat → List UInt8) : Prop where
  ju : Ju w0 w R d jb S ⟨f, f + k, f + (1 + secsAll l), m + l.length, false⟩ n c
  ch : Chain c f k m l c0
theorem Chained.rest {w0 w w' : World} {R : Nat → Prop} {d jb : Nat} {S : DS} {f k m : Nat} {l : List (List UInt8)} {c0 : Nat → List UInt8} {n : Nat} {c : Nat → List UInt8} (h : Chained w0 w R d jb S f k m l c0 n c) (hc : Calm w w') : Chained w0 w' R d jb S f k m l c0 n c := ⟨h.ju.rest hc, h.ch⟩
theorem Chained.calm {w0 w : World} {R : Nat → Prop} {d jb : Nat} {S : DS} {f k m : Nat} {l : List (List UInt8)} {c0 : Nat → List UInt8} {n : Nat} {c : Nat → List UInt8} (h : Chained w0 w R d jb S f k m l c0 n c) : Calm w0 w := h.ju.jn.calm
theorem chained_append {w0 w : World} {R : Nat → Prop} {d jb : Nat} {S : DS} {f k m n : Nat} {l : List (List UInt8)} {c0 c : Nat → List UInt8} (hT : Tab w0) (h : Chained w0 w R d jb S f k m l c0 n c) (hfk : f + k ≤ n) (v : Value) (b : List UInt8) (hv : Rd w v b)
    (hroom : 1 + secsAll l + secsOf b.length ≤ k) (hm : m + l.length ≤ 1000000) (hf : S.fine (secsOf b.length + 1)) :
    Calls Tryd.prog 54 #[.pointer (some ⟨jb, 0, none⟩), v] w fun e w' => ∃ R' S1, e = .returned (.int .i64 0) ∧ Chained w0 w' R' d jb S1 f k m (l ++ [b]) c0 n (putAt c (f + (1 + secsAll l)) (recP (m + 1 + l.length) b) (secsOf b.length - 1)) ∧ Ext R R' w ∧ Keep (RJ R jb) w w' ∧
      S1.ops ≤ S.ops + secsOf b.length + 1 ∧ S1.wait.length ≤ S.wait.length + secsOf b.length ∧ (secsOf b.length = 1 → S1.secs = S.secs) := by
  have hfi := h.ch.fits
  have hb16 : (b.length : Int) + 16 ≤ (secsOf b.length : Int) * 512 := by unfold secsOf; omega
  have hp := secsOf_pos b.length
  refine (jappend_up hT h.ju rfl (by simp only; omega) (by simp only; omega) v b hv (by
    unfold JS.room
    simp only
    rw [if_neg (by omega)]
    omega) (by simp only; omega) hf).mono ?_
  rintro e w' ⟨R', S1, rfl, h1, h2⟩
  refine ⟨R', S1, rfl, ⟨?_, h.ch.append b hroom⟩, h2⟩
  have e1 : f + (1 + secsAll l) + secsOf b.length = f + (1 + secsAll (l ++ [b])) := by rw [secsAll_snoc]; omega
  have e2 : m + l.length + 1 = m + (l ++ [b]).length := by simp; omega
  simp only at h1
  rw [e1, e2] at h1
  rw [show m + 1 + l.length = m + (l ++ [b]).length by simp; omega]
  exact h1
end Go.Proofs.YtfigiofiakkbdaaDoor
