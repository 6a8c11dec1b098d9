/-
  Two journals on one disk, and two rows of strings beside them. Nothing of a statement is walked here.
-/
import Derived.Test.YtglfmhheepgneaaDoorJC4
import Derived.Test.YtglfmhheepgneaaDoorLStrs
namespace Go.Proofs.YtglfmhheepgneaaDoor
open Go.RowKit
set_option linter.all false

theorem secsOf_one {n : Nat} (h : n ≤ 300) : secsOf n = 1 := by unfold secsOf; omega
theorem secsAll_ones {l : List (List UInt8)} (h : ∀ b ∈ l, b.length ≤ 300) : secsAll l = l.length := by
  induction l with
  | nil => rfl
  | cons b l ih => simp only [secsAll, List.length_cons]; rw [secsOf_one (h b (by simp)), ih (fun x hx => h x (by simp [hx]))]; omega
/-- Sectors elsewhere may turn. -/
theorem Chain.away {c c' : Nat → List UInt8} {f n k : Nat} {l : List (List UInt8)} {c0 : Nat → List UInt8} (h : Chain c f n k l c0) (e : ∀ i, f ≤ i → i < f + n → c' i = c i) : Chain c' f n k l c0 := by
  have hf := h.fits
  exact ⟨by rw [areaC_congr (c := c') (c' := c) (fun i h1 h2 => e i h1 (by omega))]; exact h.head, fun i h1 h2 => (e i (by omega) h2).trans (h.rest i h1 h2), h.fits⟩

/-- own[k] = append(own[k], b): nil let in. -/
theorem append_strs0 {w : World} {ops : Array Oper} {rest : List Oper} {o : Oper} {a : Act} {Q : Exit → Act → World → Prop} (hgd : o.guard = none) (s x : Operand)
    (ho : o.op = .call { callee := .builtin .append, args := #[s, x], argTypes := #[46, 46] })
    (base : Nat) (A : Option Addr) (c0 : Nat) (out : List (List UInt8)) (b : List UInt8) (hs : a.eval s = .slice A out.length c0) (hown : Strs w base (.slice A out.length c0) out)
    (hx : a.eval x = .slice (some ⟨w.heap.size, 0, none⟩) 1 1) (hlen : out.length ≤ 1000000) (hbase : base ≤ w.heap.size)
    (h : ∀ g cap w', Strs w' base (.slice (some ⟨g, 0, none⟩) (out.length + 1) cap) (out ++ [b]) → Keep (fun k => (Value.slice A out.length c0).ownBlock = some k) w w' → ((Value.slice A out.length c0).ownBlock = some g ∨ w.heap.size ≤ g) → wpList Tryd.prog ops Q rest (a.put o.dst (.slice (some ⟨g, 0, none⟩) (out.length + 1) cap)) w') :
    wpList Tryd.prog ops Q (o :: rest) a (w.alloc (.cells #[sv b] 9)) := by
  obtain ⟨i0, hi0, hz0, hz1, hz2⟩ := info_partsS
  have hc : Calm w (w.alloc (.cells #[sv b] 9)) := (Keep.refl _ w).alloc _
  refine wpList_append_lies _ hgd s x 46 ho base 9 i0 _ 1 16 Tryd.underlying46 hi0 hz0 hz1 hz2 rfl (by decide) _ _ _ hs (hown.calm hc) ⟨w.heap.size, 0, none⟩ 1 1 [sv b] hx rfl (fun j u hj => ?_) (fun u hu => by simp only [List.mem_singleton] at hu; subst hu; rfl) (by decide) (by unfold maxLen; omega) (by omega) (by simp; omega) _ rfl ?_
  · have hj0 : j = 0 := by have := (List.getElem?_eq_some_iff.1 hj).1; simpa using this
    subst hj0
    rw [addr_mid, (Row.made w 9 #[sv b]).cell]
    simpa using hj
  · intro g cap w' a1 a2 a3 a4
    refine h g cap w' (by simpa [Strs] using a1) ((Calm.keep hc _).trans (grown_keep a2)) ?_
    rcases a3 with a3 | a3
    · exact .inl a3
    · exact .inr (by rw [a3]; simp)
theorem Strs.row {w : World} {base : Nat} {v : Value} {out : List (List UInt8)} (h : Strs w base v out) {g : Nat} (hg : v.ownBlock = some g) : base ≤ g ∧ ∃ cur, Row w g 9 cur := by
  rcases h.2 with ⟨e, _⟩ | ⟨g', cap, cur, e, b0, h1, _⟩
  · rw [e] at hg; simp [Value.ownBlock] at hg
  · rw [e] at hg
    have : g' = g := by simpa [Value.ownBlock] using hg
    subst this
    exact ⟨b0, cur, h1⟩
theorem Strs.keep {w w' : World} {base : Nat} {v : Value} {out : List (List UInt8)} {Q : Nat → Prop} (h : Strs w base v out) (k : Keep Q w w') (hQ : ∀ g, v.ownBlock = some g → ¬ Q g) : Strs w' base v out := by
  refine ⟨h.1, ?_⟩
  rcases h.2 with h0 | ⟨g, cap, cur, e, b0, h1, h2⟩
  · exact .inl h0
  · exact .inr ⟨g, cap, cur, e, b0, Row.keep (t := 9) (cs := cur) h1 k (hQ g (by rw [e]; rfl)), h2⟩
theorem Strs.form {w : World} {base : Nat} {v : Value} {out : List (List UInt8)} (h : Strs w base v out) : ∃ A c, v = .slice A out.length c := by
  rcases h.2 with ⟨e, h0⟩ | ⟨g, cap, cur, e, _⟩
  · exact ⟨none, 0, by rw [e, h0]⟩
  · exact ⟨_, cap, e⟩
theorem Strs.at_ {w : World} {base : Nat} {A : Option Addr} {n c : Nat} {out : List (List UInt8)} (h : Strs w base (.slice A n c) out) (i : Nat) (b : List UInt8) (hi : out[i]? = some b) : ∃ g, A = some ⟨g, 0, none⟩ ∧ w.cell? ⟨g, i, none⟩ = some (.string (str b)) := by
  have hlt : i < out.length := (List.getElem?_eq_some_iff.1 hi).1
  rcases h.2 with ⟨e, h0⟩ | ⟨g, cap, cur, e, _⟩
  · omega
  · injection e with e1 _ _
    refine ⟨g, e1, ?_⟩
    have := World.ownsRow.cells h (g := g) (by rw [e1]; rfl) i (sv b) (by simp [hi])
    rwa [addr_mid, Nat.zero_add] at this
theorem Strs.nil0 (w : World) (base : Nat) : Strs w base (.slice none 0 0) [] := World.ownsRow_nil _ _ _ _

/-- The two. -/
structure Two (w0 w : World) (R : Nat → Prop) (d ja jb ob : Nat) (S : DS) (c cf : Nat → List UInt8) (la lb : List (List UInt8)) (va vb : Value) (ma mb : List (List UInt8)) : Prop where
  sd : Sd w0 w R d S
  up : S.Up
  sh : S.Shows 24 c
  ra : JRow w ja d ⟨0, 0 + 12, 0 + (1 + secsAll la), 1 + la.length, false⟩
  rb : JRow w jb d ⟨12, 12 + 12, 12 + (1 + secsAll lb), 1 + lb.length, false⟩
  xja : ¬ R ja
  xjb : ¬ R jb
  xob : ¬ R ob
  nja : w0.heap.size ≤ ja
  njb : w0.heap.size ≤ jb
  nob : w0.heap.size ≤ ob
  ne : ja ≠ jb
  row : Row w ob 60 #[va, vb]
  sa : Strs w w0.heap.size va ma
  sb : Strs w w0.heap.size vb mb
  xa : ∀ g, va.ownBlock = some g → ¬ R g
  xb : ∀ g, vb.ownBlock = some g → ¬ R g
  dis : ∀ g, va.ownBlock = some g → vb.ownBlock ≠ some g
  ca : Chain c 0 12 1 la (fun _ => full 0)
  cb : Chain c 12 12 1 lb (fun _ => full 0)
  secs : ∀ i, i < 24 → S.secs.getD i [] = cf i
  ba : ∀ b ∈ la, b.length ≤ 300
  bb : ∀ b ∈ lb, b.length ≤ 300
section
variable {w0 w w' : World} {R R' : Nat → Prop} {d ja jb ob : Nat} {S S1 : DS} {c cf : Nat → List UInt8} {la lb : List (List UInt8)} {va vb : Value} {ma mb : List (List UInt8)}
theorem Two.rest (h : Two w0 w R d ja jb ob S c cf la lb va vb ma mb) (k : Calm w w') : Two w0 w' R d ja jb ob S c cf la lb va vb ma mb :=
  ⟨h.sd.rest k, h.up, h.sh, h.ra.calm k, h.rb.calm k, h.xja, h.xjb, h.xob, h.nja, h.njb, h.nob, h.ne, h.row.keep k (fun e => e), h.sa.keep k (fun _ _ e => e), h.sb.keep k (fun _ _ e => e), h.xa, h.xb, h.dis, h.ca, h.cb, h.secs, h.ba, h.bb⟩
theorem Two.lt (h : Two w0 w R d ja jb ob S c cf la lb va vb ma mb) : ja < w.heap.size ∧ jb < w.heap.size ∧ ob < w.heap.size := ⟨Row.lt h.ra, Row.lt h.rb, Row.lt h.row⟩
theorem Two.app_a (hT : Tab w0) (h : Two w0 w R d ja jb ob S c cf la lb va vb ma mb) (v : Value) (b : List UInt8) (hv : Rd w v b) (hb : b.length ≤ 300) (hl : la.length ≤ 10) (hf : S.fine 2) :
    Calls Tryd.prog 16 #[.pointer (some ⟨ja, 0, none⟩), v] w fun e w' => ∃ R' S1 c1, e = .returned (.int .i64 0) ∧ Two w0 w' R' d ja jb ob S1 c1 cf (la ++ [b]) lb va vb ma mb ∧ S1.ops ≤ S.ops + 2 ∧ S1.wait.length ≤ S.wait.length + 1 := by
  have h1 := secsOf_one hb
  have hs := secsAll_ones h.ba
  have hlt := h.lt
  have hfb := h.cb.fits
  refine (chained_append (f := 0) (k := 12) (m := 1) (n := 24) hT ⟨⟨⟨h.sd, h.ra, h.xja, h.nja⟩, h.up, h.sh⟩, h.ca⟩ (by omega) v b hv (by rw [h1, hs]; omega) (by omega) (by rw [h1]; exact hf)).mono ?_
  rintro e w' ⟨R', S1, rfl, hc, hx, hk, o1, l1, s1⟩
  have nR : ∀ k, k < w.heap.size → ¬ R k → ¬ R' k := fun k hk hr => hx.not hr hk
  have nRJ : ∀ k, ¬ R k → k ≠ ja → ¬ RJ R ja k := fun k h1 h2 e => e.elim h1 h2
  have jo : ob ≠ ja := h.row.ne h.ra (by decide)
  refine ⟨R', S1, _, rfl, ⟨hc.ju.jn.sd, hc.ju.up, hc.ju.shows, hc.ju.jn.row, h.rb.keep hk (nRJ _ h.xjb h.ne.symm), hc.ju.jn.out, nR _ hlt.2.1 h.xjb, nR _ hlt.2.2 h.xob, h.nja, h.njb, h.nob, h.ne, h.row.keep hk (nRJ _ h.xob jo), ?_, ?_, ?_, ?_, h.dis, hc.ch, h.cb.away ?_, ?_, ?_, h.bb⟩, by omega, by omega⟩
  · exact h.sa.keep hk (fun g hg => nRJ _ (h.xa g hg) (by obtain ⟨_, cur, hr⟩ := h.sa.row hg; exact hr.ne h.ra (by decide)))
  · exact h.sb.keep hk (fun g hg => nRJ _ (h.xb g hg) (by obtain ⟨_, cur, hr⟩ := h.sb.row hg; exact hr.ne h.ra (by decide)))
  · exact fun g hg => nR g (by obtain ⟨_, cur, hr⟩ := h.sa.row hg; exact hr.lt) (h.xa g hg)
  · exact fun g hg => nR g (by obtain ⟨_, cur, hr⟩ := h.sb.row hg; exact hr.lt) (h.xb g hg)
  · intro i h2 h3
    unfold putAt
    rw [h1, if_neg (by omega)]
  · rw [s1 h1]; exact h.secs
  · intro x hx
    rcases List.mem_append.1 hx with hx | hx
    · exact h.ba x hx
    · simp only [List.mem_singleton] at hx; subst hx; exact hb
theorem Two.app_b (hT : Tab w0) (h : Two w0 w R d ja jb ob S c cf la lb va vb ma mb) (v : Value) (b : List UInt8) (hv : Rd w v b) (hb : b.length ≤ 300) (hl : lb.length ≤ 10) (hf : S.fine 2) :
    Calls Tryd.prog 16 #[.pointer (some ⟨jb, 0, none⟩), v] w fun e w' => ∃ R' S1 c1, e = .returned (.int .i64 0) ∧ Two w0 w' R' d ja jb ob S1 c1 cf la (lb ++ [b]) va vb ma mb ∧ S1.ops ≤ S.ops + 2 ∧ S1.wait.length ≤ S.wait.length + 1 := by
  have h1 := secsOf_one hb
  have hs := secsAll_ones h.bb
  have hlt := h.lt
  have hfa := h.ca.fits
  refine (chained_append (f := 12) (k := 12) (m := 1) (n := 24) hT ⟨⟨⟨h.sd, h.rb, h.xjb, h.njb⟩, h.up, h.sh⟩, h.cb⟩ (by omega) v b hv (by rw [h1, hs]; omega) (by omega) (by rw [h1]; exact hf)).mono ?_
  rintro e w' ⟨R', S1, rfl, hc, hx, hk, o1, l1, s1⟩
  have nR : ∀ k, k < w.heap.size → ¬ R k → ¬ R' k := fun k hk hr => hx.not hr hk
  have nRJ : ∀ k, ¬ R k → k ≠ jb → ¬ RJ R jb k := fun k h1 h2 e => e.elim h1 h2
  have jo : ob ≠ jb := h.row.ne h.rb (by decide)
  refine ⟨R', S1, _, rfl, ⟨hc.ju.jn.sd, hc.ju.up, hc.ju.shows, h.ra.keep hk (nRJ _ h.xja h.ne), hc.ju.jn.row, nR _ hlt.1 h.xja, hc.ju.jn.out, nR _ hlt.2.2 h.xob, h.nja, h.njb, h.nob, h.ne, h.row.keep hk (nRJ _ h.xob jo), ?_, ?_, ?_, ?_, h.dis, h.ca.away ?_, hc.ch, ?_, h.ba, ?_⟩, by omega, by omega⟩
  · exact h.sa.keep hk (fun g hg => nRJ _ (h.xa g hg) (by obtain ⟨_, cur, hr⟩ := h.sa.row hg; exact hr.ne h.rb (by decide)))
  · exact h.sb.keep hk (fun g hg => nRJ _ (h.xb g hg) (by obtain ⟨_, cur, hr⟩ := h.sb.row hg; exact hr.ne h.rb (by decide)))
  · exact fun g hg => nR g (by obtain ⟨_, cur, hr⟩ := h.sa.row hg; exact hr.lt) (h.xa g hg)
  · exact fun g hg => nR g (by obtain ⟨_, cur, hr⟩ := h.sb.row hg; exact hr.lt) (h.xb g hg)
  · intro i h2 h3
    unfold putAt
    rw [h1, if_neg (by omega)]
  · rw [s1 h1]; exact h.secs
  · intro x hx
    rcases List.mem_append.1 hx with hx | hx
    · exact h.bb x hx
    · simp only [List.mem_singleton] at hx; subst hx; exact hb
/-- The row of the one is pushed to. -/
theorem Two.push_a {A : Option Addr} {ca_ g cap : Nat} {b : List UInt8} {w1 : World} (h : Two w0 w R d ja jb ob S c cf la lb (.slice A ma.length ca_) vb ma mb) (hs : Strs w1 w0.heap.size (.slice (some ⟨g, 0, none⟩) (ma.length + 1) cap) (ma ++ [b]))
    (hk : Keep (fun k => (Value.slice A ma.length ca_).ownBlock = some k) w w1) (hg : (Value.slice A ma.length ca_).ownBlock = some g ∨ w.heap.size ≤ g) :
    Two w0 (w1.setCell ⟨ob, 0, none⟩ (.slice (some ⟨g, 0, none⟩) (ma.length + 1) cap)) R d ja jb ob S c cf la lb (.slice (some ⟨g, 0, none⟩) (ma.length + 1) cap) vb (ma ++ [b]) mb := by
  have hlt := h.lt
  have o1 : ∀ k, (Value.slice A ma.length ca_).ownBlock = some k → w0.heap.size ≤ k ∧ k ≠ ja ∧ k ≠ jb ∧ k ≠ ob := fun k e => by
    obtain ⟨h1, cur, hr⟩ := h.sa.row e
    exact ⟨h1, hr.ne h.ra (by decide), hr.ne h.rb (by decide), hr.ne h.row (by decide)⟩
  have r1 : Row w1 ob 60 #[.slice A ma.length ca_, vb] := h.row.keep hk (fun e => (o1 _ e).2.2.2 rfl)
  have k2 : Keep (fun k => (Value.slice A ma.length ca_).ownBlock = some k ∨ k = ob) w (w1.setCell ⟨ob, 0, none⟩ (.slice (some ⟨g, 0, none⟩) (ma.length + 1) cap)) :=
    (hk.mono (fun i _ e => .inl e)).store (p := ⟨ob, 0, none⟩) (fun _ => .inr rfl) _
  have jo : ja ≠ ob := (h.row.ne h.ra (by decide)).symm
  have jo2 : jb ≠ ob := (h.row.ne h.rb (by decide)).symm
  have hgo : g ≠ ob := by
    obtain ⟨_, cur, hr⟩ := hs.row (g := g) rfl
    exact hr.ne r1 (by decide)
  have gR : ¬ R g := by
    rcases hg with hg | hg
    · exact h.xa g hg
    · exact h.sd.st.fresh hg
  refine ⟨h.sd.apart k2 (fun i e => ?_), h.up, h.sh, h.ra.keep k2 (fun e => ?_), h.rb.keep k2 (fun e => ?_), h.xja, h.xjb, h.xob, h.nja, h.njb, h.nob, h.ne, by simpa using r1.store 0 (.slice (some ⟨g, 0, none⟩) (ma.length + 1) cap), hs.keep ((Keep.refl (· = ob) w1).store (p := ⟨ob, 0, none⟩) (fun _ => rfl) _) (fun k e he => ?_), h.sb.keep k2 (fun k e he => ?_), fun k e => ?_, h.xb, fun k e e2 => ?_, h.ca, h.cb, h.secs, h.ba, h.bb⟩
  · rcases e with e | rfl
    · exact ⟨h.xa i e, (o1 i e).1⟩
    · exact ⟨h.xob, h.nob⟩
  · rcases e with e | e
    · exact (o1 _ e).2.1 rfl
    · exact jo e
  · rcases e with e | e
    · exact (o1 _ e).2.2.1 rfl
    · exact jo2 e
  · have : g = k := by simpa [Value.ownBlock] using e
    subst this
    exact hgo he
  · rcases he with he | he
    · exact h.dis k he e
    · subst he
      obtain ⟨_, cur, hr⟩ := h.sb.row e
      exact (hr.ne h.row (by decide)) rfl
  · have : g = k := by simpa [Value.ownBlock] using e
    subst this
    exact gR
  · have : g = k := by simpa [Value.ownBlock] using e
    subst this
    rcases hg with hg | hg
    · exact h.dis g hg e2
    · obtain ⟨_, cur, hr⟩ := h.sb.row e2
      have := hr.lt
      omega
theorem Two.push_b {A : Option Addr} {cb_ g cap : Nat} {b : List UInt8} {w1 : World} (h : Two w0 w R d ja jb ob S c cf la lb va (.slice A mb.length cb_) ma mb) (hs : Strs w1 w0.heap.size (.slice (some ⟨g, 0, none⟩) (mb.length + 1) cap) (mb ++ [b]))
    (hk : Keep (fun k => (Value.slice A mb.length cb_).ownBlock = some k) w w1) (hg : (Value.slice A mb.length cb_).ownBlock = some g ∨ w.heap.size ≤ g) :
    Two w0 (w1.setCell ⟨ob, 1, none⟩ (.slice (some ⟨g, 0, none⟩) (mb.length + 1) cap)) R d ja jb ob S c cf la lb va (.slice (some ⟨g, 0, none⟩) (mb.length + 1) cap) ma (mb ++ [b]) := by
  have hlt := h.lt
  have o1 : ∀ k, (Value.slice A mb.length cb_).ownBlock = some k → w0.heap.size ≤ k ∧ k ≠ ja ∧ k ≠ jb ∧ k ≠ ob := fun k e => by
    obtain ⟨h1, cur, hr⟩ := h.sb.row e
    exact ⟨h1, hr.ne h.ra (by decide), hr.ne h.rb (by decide), hr.ne h.row (by decide)⟩
  have r1 : Row w1 ob 60 #[va, .slice A mb.length cb_] := h.row.keep hk (fun e => (o1 _ e).2.2.2 rfl)
  have k2 : Keep (fun k => (Value.slice A mb.length cb_).ownBlock = some k ∨ k = ob) w (w1.setCell ⟨ob, 1, none⟩ (.slice (some ⟨g, 0, none⟩) (mb.length + 1) cap)) :=
    (hk.mono (fun i _ e => .inl e)).store (p := ⟨ob, 1, none⟩) (fun _ => .inr rfl) _
  have jo : ja ≠ ob := (h.row.ne h.ra (by decide)).symm
  have jo2 : jb ≠ ob := (h.row.ne h.rb (by decide)).symm
  have hgo : g ≠ ob := by
    obtain ⟨_, cur, hr⟩ := hs.row (g := g) rfl
    exact hr.ne r1 (by decide)
  have gR : ¬ R g := by
    rcases hg with hg | hg
    · exact h.xb g hg
    · exact h.sd.st.fresh hg
  refine ⟨h.sd.apart k2 (fun i e => ?_), h.up, h.sh, h.ra.keep k2 (fun e => ?_), h.rb.keep k2 (fun e => ?_), h.xja, h.xjb, h.xob, h.nja, h.njb, h.nob, h.ne, by simpa using r1.store 1 (.slice (some ⟨g, 0, none⟩) (mb.length + 1) cap), h.sa.keep k2 (fun k e he => ?_), hs.keep ((Keep.refl (· = ob) w1).store (p := ⟨ob, 1, none⟩) (fun _ => rfl) _) (fun k e he => ?_), h.xa, fun k e => ?_, fun k e2 e => ?_, h.ca, h.cb, h.secs, h.ba, h.bb⟩
  · rcases e with e | rfl
    · exact ⟨h.xb i e, (o1 i e).1⟩
    · exact ⟨h.xob, h.nob⟩
  · rcases e with e | e
    · exact (o1 _ e).2.1 rfl
    · exact jo e
  · rcases e with e | e
    · exact (o1 _ e).2.2.1 rfl
    · exact jo2 e
  · rcases he with he | he
    · exact h.dis k e he
    · subst he
      obtain ⟨_, cur, hr⟩ := h.sa.row e
      exact (hr.ne h.row (by decide)) rfl
  · have : g = k := by simpa [Value.ownBlock] using e
    subst this
    exact hgo he
  · have : g = k := by simpa [Value.ownBlock] using e
    subst this
    exact gR
  · have : g = k := by simpa [Value.ownBlock] using e
    subst this
    rcases hg with hg | hg
    · exact h.dis g e2 hg
    · obtain ⟨_, cur, hr⟩ := h.sa.row e2
      have := hr.lt
      omega
end
end Go.Proofs.YtglfmhheepgneaaDoor
