/-
  JournalPlays: steps in memory, sectors as they are put together.
-/
import Derived.Test.YtglfmhheepgneaaDoorJP1
import Derived.Test.YtglfmhheepgneaaDoorJRef5
import Derived.Test.YtglfmhheepgneaaDoorLConv
namespace Go.Proofs.YtglfmhheepgneaaDoor
open Go.RowKit
set_option linter.all false

theorem Strs.at_ {w : World} {base : Nat} {A : Option Addr} {n c : Nat} {out : List (List UInt8)} (h : Strs w base (.slice A n c) out) (i : Nat) (b : List UInt8) (hi : out[i]? = some b) : ∃ g, A = some ⟨g, 0, none⟩ ∧ w.cell? ⟨g, i, none⟩ = some (.string (str b)) := by
  have hlt : i < out.length := (List.getElem?_eq_some_iff.1 hi).1
  rcases h.2 with ⟨e, h0⟩ | ⟨g, cap, cur, e, _⟩
  · omega
  · injection e with e1 _ _
    refine ⟨g, e1, ?_⟩
    have := World.ownsRow.cells h (g := g) (by rw [e1]; rfl) i (sv b) (by simp [hi])
    rwa [addr_mid, Nat.zero_add] at this
/-- The cells of a step. -/
def stepC3 (kind n : Int) (fill : UInt8) (kv : Value) : List Value := [.int .i64 kind, .int .i64 n, .int .u8 (fill.toNat : Int), kv]
def stepV3 (kind n : Int) (fill : UInt8) (kv : Value) : Value := .agg #[.int .i64 kind, .int .i64 n, .int .u8 (fill.toNat : Int), kv]
def LieAt (w : World) (a : Addr) (cs : List Value) : Prop := ∀ (j : Nat) v, cs[j]? = some v → w.cell? (a.add j) = some v
def StepAt3 (w : World) (a : Addr) : Prop := ∃ (kind n : Int) (fill : UInt8) (A : Option Addr) (ks : List Bool) (c : Nat),
  LieAt w a (stepC3 kind n fill (.slice A ks.length c)) ∧ ks.length ≤ c ∧ c ≤ maxLen ∧ (A = none → c = 0) ∧ Bools w (fun _ => True) (.slice A ks.length c) ks
def StepsAt3 (w : World) (v : Value) (n : Nat) : Prop := ∃ (A : Option Addr) (cap : Nat), v = .slice A n cap ∧ n ≤ cap ∧ cap ≤ maxLen ∧ ∀ i, i < n → ∃ ad, A = some ad ∧ StepAt3 w (ad.add (i * 4))
theorem LieAt.calm {w w' : World} {a : Addr} {cs : List Value} (h : LieAt w a cs) (hc : Calm w w') : LieAt w' a cs := fun j v hj => (hc.cell (p := a.add j) (World.block_lt_of_cell? _ _ (h j v hj)) (fun e => e)).trans (h j v hj)
theorem infoStep3 : (Tryd.prog.info? 36).map (·.size) = some 4 := by kernel_rfl
theorem run_step3 {w : World} {a : Addr} {kind n : Int} {fill : UInt8} {kv : Value} (h : LieAt w a (stepC3 kind n fill kv)) : (Instr.loadAt 36 (.pointer (some a))).run Tryd.prog w = .ok (stepV3 kind n fill kv) w := by
  have hl : (loadCells a 4).run Tryd.prog w = .ok (stepC3 kind n fill kv).toArray w := run_loadCells_list (P := Tryd.prog) w a (stepC3 kind n fill kv) h
  obtain ⟨i, hi, hs⟩ := Option.map_eq_some_iff.1 infoStep3
  have hagg : (isAgg 36).run Tryd.prog w = .ok true w := by
    unfold isAgg
    rw [Sem.run_bind, run_underlying Tryd.underlying36 w]
    rfl
  simp only [Instr.loadAt, Instr.sureAddr, Sem.run_bind, Sem.run_pure, Result.andThen_ok]
  simp [loadVar, Sem.run_bind, hagg, sizeOf, typeInfo, hi, hs, hl]
  rfl
theorem zeros_rd (w : World) (n : Nat) (hn : n ≤ 1000000) : Rd (w.alloc (.cells (zeros8 n) 5)) (.slice (some ⟨w.heap.size, 0, none⟩) n n) (List.replicate n 0) := by
  have := (Own.zeros w n (by omega)).rd ⟨_, _, _, rfl⟩
  exact this
theorem conv_zeros (w : World) (n : Nat) (hn : n ≤ 1000000) : Sem.run Tryd.prog (convert 33 9 (.slice (some ⟨w.heap.size, 0, none⟩) n n)) (w.alloc (.cells (zeros8 n) 5)) = .ok (.string (str (List.replicate n 0))) (w.alloc (.cells (zeros8 n) 5)) := conv_rd (zeros_rd w n hn)
theorem Pl.idle {w1 w : World} {R : Nat → Prop} {d jb : Nat} {S : DS} {f k us nx : Nat} {c : Nat → List UInt8} {i : Nat} (h : Pl w1 w R d jb S f k us nx c i) : Pl w1 w R d jb S f k us nx c (i + 1) := by
  have n2 := h.nx2; have o1 := h.ops; have o2 := h.wait
  exact ⟨h.ju, h.at_.mono Beg.more, h.us1, h.us2, h.nx1, by omega, by omega, by omega⟩
theorem area_reset (c : Nat → List UInt8) (f k nx : Nat) (hk : 2 ≤ k) (hf : (c f).length = 512) : areaC (upd c f (begP nx)) f k = begP nx ++ (areaC c f k).drop 512 := by
  rw [areaC_first _ _ _ _ (by omega)]
  congr 1
  rw [show k = 1 + (k - 1) by omega, areaC_add, show 1 + (k - 1) - 1 = k - 1 by omega]
  have : (areaC c f 1).length = 512 := by simp [areaC, hf]
  rw [List.drop_left' this]
theorem area_app (c : Nat → List UInt8) (f k us sq : Nat) (P : List UInt8) (hP : P.length = 512 * sq) (h1 : 1 ≤ sq) (hu : us + sq ≤ k) (hl : ∀ x, x < f + k → (c x).length = 512) : areaC (putAt c (f + us) P (sq - 1)) f k = ((areaC c f k).take (512 * us) ++ P) ++ (areaC c f k).drop (512 * us + P.length) := by
  rw [areaC_put c f k us (sq - 1) P (by rw [hP]; congr 1; omega) (by omega), List.append_assoc]
  have e : areaC c f k = areaC c f us ++ (areaC c (f + us) sq ++ areaC c (f + us + sq) (k - us - sq)) := by
    rw [← areaC_add, ← areaC_add]
    congr 1; omega
  have l1 : (areaC c f us).length = 512 * us := areaC_len (fun x _ h => hl x (by omega))
  have l2 : (areaC c (f + us) sq).length = 512 * sq := areaC_len (fun x _ h => hl x (by omega))
  have t1 : (areaC c f k).take (512 * us) = areaC c f us := by rw [e, List.take_left' l1]
  have t2 : (areaC c f k).drop (512 * us + P.length) = areaC c (f + us + sq) (k - us - sq) := by rw [e, ← List.append_assoc, List.drop_left' (by rw [List.length_append, l1, l2, hP])]
  rw [t1, t2, show f + us + (sq - 1 + 1) = f + us + sq by omega, show k - us - (sq - 1 + 1) = k - us - sq by omega]
theorem area0 (f k : Nat) (hk : 2 ≤ k) : areaC (upd (fun _ => full 0) f (begP 1)) f k = begP 1 ++ List.replicate (512 * (k - 1)) 0 := by
  rw [areaC_first _ _ _ _ (by omega), areaC_zeros]
end Go.Proofs.YtglfmhheepgneaaDoor
