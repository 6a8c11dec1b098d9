/-
  DiskPlays: the disk and the document's answer side by side.
-/
import Derived.Test.YtppehlnfoendgaaRef8
namespace Go.Proofs.Ytppehlnfoendgaa
open Go.RowKit
set_option linter.all false

/-- A disk and the document's answer, made since w0, apart from one another. -/
structure Half (w0 w : World) (R Q : Nat → Prop) (d r : Nat) (S T : DS) : Prop where
  st : St w0 w R d S
  rf : IsRef w Q r T
  new : ∀ k, Q k → w0.heap.size ≤ k
  lt : ∀ k, Q k → k < w.heap.size
  apart : ∀ k, R k → ¬ Q k
section
variable {w0 w w' : World} {R Q R' Q' : Nat → Prop} {d r : Nat} {S T S' T' : DS}
theorem Half.disk (h : Half w0 w R Q d r S T) (hs : St w0 w' R' d S') (k : Keep R w w') (hr : ∀ i, i < w.heap.size → R' i → R i) : Half w0 w' R' Q d r S' T :=
  ⟨hs, h.rf.move (fun i hi hl => k.block i hl (fun e => h.apart i e hi)) (fun _ x => x), h.new, fun i hi => Nat.lt_of_lt_of_le (h.lt i hi) k.size, fun i hi hq => h.apart i (hr i (h.lt i hq) hi) hq⟩
theorem Half.ref (h : Half w0 w R Q d r S T) (hq : IsRef w' Q' r T') (k : Keep Q w w') (hr : ∀ i, Q' i → Q i ∨ (w.heap.size ≤ i ∧ i < w'.heap.size)) : Half w0 w' R Q' d r S T' :=
  ⟨⟨h.st.disk.move (fun i hi hl => k.block i hl (fun e => h.apart i hi e)) (fun _ x => x), h.st.calm.then_ k (fun i hi e => absurd (h.new i e) (by omega)), h.st.new, fun i hi => Nat.lt_of_lt_of_le (h.st.lt i hi) k.size⟩, hq,
    fun i hi => (hr i hi).elim (h.new i) (fun e => by have := h.st.calm.size; omega), fun i hi => (hr i hi).elim (fun e => Nat.lt_of_lt_of_le (h.lt i e) k.size) (fun e => e.2), fun i hi hq => (hr i hq).elim (h.apart i hi) (fun e => by have := h.st.lt i hi; omega)⟩
theorem Half.rest (h : Half w0 w R Q d r S T) (hc : Calm w w') : Half w0 w' R Q d r S T := h.disk (h.st.rest hc) (hc.keep R) (fun _ _ x => x)
theorem Half.calm (h : Half w0 w R Q d r S T) : Calm w0 w := h.st.calm
end
/-- A step as a value. -/
def stepV (kind at_ n : Int) (fill : UInt8) (short : Bool) (kv : Value) : Value := .agg #[.int .i64 kind, .int .i64 at_, .int .i64 n, .int .u8 (fill.toNat : Int), .bool short, kv]
/-- What a step leaves. -/
def Left (w0 w' : World) (d r : Nat) (S : DS) : Prop := ∃ R Q S', Half w0 w' R Q d r S' S' ∧ S'.wait.length ≤ S.wait.length + 1 ∧ S'.ops ≤ S.ops + 1 ∧ S'.secs.length = S.secs.length

end Go.Proofs.Ytppehlnfoendgaa
