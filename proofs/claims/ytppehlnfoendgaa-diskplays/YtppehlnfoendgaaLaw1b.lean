/-
  What the statements of layer 1 share: strings out of sectors, arguments that are slices.
-/
import Derived.Test.YtppehlnfoendgaaLaw1
import Derived.Test.YtppehlnfoendgaaMasks
import Derived.Laws.IdiomStrings
namespace Go.Proofs.Ytppehlnfoendgaa
open Go.RowKit
set_option linter.all false

/-- Bytes as a string. -/
def str (bs : List UInt8) : ByteArray := ⟨bs.toArray⟩
theorem conv_data {w : World} {R : Nat → Prop} {g cap : Nat} {bs : List UInt8} (h : Data w R (.slice (some ⟨g, 0, none⟩) 512 cap) bs) :
    Sem.run Try.prog (convert 42 9 (.slice (some ⟨g, 0, none⟩) 512 cap)) w = .ok (.string (str bs)) w := by
  have hl := h.len
  have := run_convert_bytes_back (P := Try.prog) w 42 9 5 ⟨g, 0, none⟩ cap bs Try.underlying42 Try.underlying5 Try.underlying9 (fun j hj => by
    have := h.cell j (by omega)
    by_cases e : j = 0
    · subst e; simpa [Addr.add, bv] using this
    · simpa [Addr.add, bv, e] using this)
  rw [hl] at this
  exact this
/-- string(b) behind a letter that the walk does not open. -/
theorem conv_letter : ∃ cv : Nat → Nat → World → Result Value, (∀ g cap w, Sem.run Try.prog (convert 42 9 (.slice (some ⟨g, 0, none⟩) 512 cap)) w = cv g cap w) ∧
    ∀ (w : World) (R : Nat → Prop) (g cap : Nat) (bs : List UInt8), Data w R (.slice (some ⟨g, 0, none⟩) 512 cap) bs → cv g cap w = .ok (.string (str bs)) w :=
  ⟨fun g cap w => Sem.run Try.prog (convert 42 9 (.slice (some ⟨g, 0, none⟩) 512 cap)) w, fun _ _ _ => rfl, fun _ _ _ _ _ h => conv_data h⟩
theorem str_inj {a b : List UInt8} : str a = str b ↔ a = b := by
  constructor
  · intro h
    have := congrArg (fun x => x.data.toList) h
    simpa [str] using this
  · intro h; rw [h]
theorem Data.keep {w w' : World} {Q R : Nat → Prop} {v : Value} {bs : List UInt8} (h : Data w Q v bs) (k : Keep R w w') (hq : ∀ g, Q g → ¬ R g) : Data w' Q v bs := h.move fun g _ a b => ⟨b.keep k (hq g a), a⟩

theorem st_up {w0 w : World} {R : Nat → Prop} {d : Nat} {secs : List (List UInt8)} {ws : List (Nat × List UInt8)} {arm : Option (Nat × List Bool)} {n : Nat} (h : St w0 w R d ⟨secs, ws, arm, true, n⟩) :
    Calls Try.prog 15 #[.pointer (some ⟨d, 0, none⟩)] w fun e w' => e = .returned (.int .i64 0) ∧ St w0 w' R d ⟨secs, ws, arm, false, n⟩ ∧ Keep R w w' := st_start h
theorem st_not {w0 w : World} {R : Nat → Prop} {d : Nat} {secs : List (List UInt8)} {ws : List (Nat × List UInt8)} {arm : Option (Nat × List Bool)} {n : Nat} (h : St w0 w R d ⟨secs, ws, arm, false, n⟩) :
    Calls Try.prog 15 #[.pointer (some ⟨d, 0, none⟩)] w fun e w' => e = .returned (.int .i64 10) ∧ St w0 w' R d ⟨secs, ws, arm, false, n⟩ ∧ Keep R w w' := st_start h

/-- The first 60 of bools, cut off as the statements do. -/
theorem Bools.cut {w : World} {R : Nat → Prop} {A : Option Addr} {cap : Nat} {ks : List Bool} (n : Nat) (h : Bools w R (.slice A ks.length cap) ks) : Bools w R (.slice A (min ks.length n) cap) (ks.take n) := by
  obtain ⟨A', cap', e, h1⟩ := h
  injection e with e1 _ e2
  subst e1; subst e2
  refine ⟨A, cap, by rw [List.length_take, Nat.min_comm], fun i b hi => ?_⟩
  rw [List.getElem?_take] at hi
  split at hi
  · exact h1 i b hi
  · simp at hi
theorem Bools.calm {w w' : World} {v : Value} {ks : List Bool} (h : Bools w (fun _ => True) v ks) (hc : Calm w w') {R : Nat → Prop} (hR : ∀ k, k < w.heap.size → ¬ R k) : Bools w' (fun k => ¬ R k) v ks := by
  obtain ⟨A, cap, e, h1⟩ := h
  refine ⟨A, cap, e, fun i b hi => ?_⟩
  obtain ⟨ad, e1, _, e2, e3⟩ := h1 i b hi
  exact ⟨ad, e1, hR _ e2, Nat.lt_of_lt_of_le e2 hc.size, (hc.cell (p := ad.add i) (by rw [Addr.add_block]; exact e2) (fun e => e)).trans e3⟩
theorem Bytes.form {w : World} {R : Nat → Prop} {v : Value} {bs : List UInt8} (h : Bytes w R v bs) : ∃ A cap, v = .slice A bs.length cap := by obtain ⟨A, cap, e, _⟩ := h; exact ⟨A, cap, e⟩
theorem Bools.form {w : World} {R : Nat → Prop} {v : Value} {bs : List Bool} (h : Bools w R v bs) : ∃ A cap, v = .slice A bs.length cap := by obtain ⟨A, cap, e, _⟩ := h; exact ⟨A, cap, e⟩
theorem Bytes.at_ {w w' : World} {R : Nat → Prop} {A : Option Addr} {cap : Nat} {bs : List UInt8} (h : Bytes w R (.slice A bs.length cap) bs) (hc : Calm w w') (i : Nat) (hi : i < bs.length) : ∃ ad, A = some ad ∧ w'.cell? (ad.add i) = some (.int .u8 (bs[i].toNat : Int)) := by
  obtain ⟨A', cap', e, h1⟩ := h
  injection e with e1 _ e2
  subst e1; subst e2
  obtain ⟨ad, e1, _, e2, e3⟩ := h1 i bs[i] (List.getElem?_eq_getElem hi)
  exact ⟨ad, e1, (hc.cell (p := ad.add i) (by rw [Addr.add_block]; exact e2) (fun e => e)).trans e3⟩
theorem Bools.at_ {w w' : World} {R : Nat → Prop} {A : Option Addr} {cap : Nat} {bs : List Bool} (h : Bools w R (.slice A bs.length cap) bs) (hc : Calm w w') (i : Nat) (hi : i < bs.length) : ∃ ad, A = some ad ∧ w'.cell? (ad.add i) = some (.bool bs[i]) := by
  obtain ⟨A', cap', e, h1⟩ := h
  injection e with e1 _ e2
  subst e1; subst e2
  obtain ⟨ad, e1, _, e2, e3⟩ := h1 i bs[i] (List.getElem?_eq_getElem hi)
  exact ⟨ad, e1, (hc.cell (p := ad.add i) (by rw [Addr.add_block]; exact e2) (fun e => e)).trans e3⟩
end Go.Proofs.Ytppehlnfoendgaa
