/-
  The document's answer for disk: Write.
-/
import Derived.Test.YtppehlnfoendgaaRef5
import Derived.Deep.AppendLies
namespace Go.Proofs.Ytppehlnfoendgaa
open Go.RowKit
set_option linter.all false

theorem infoRW : (Try.prog.info? 66).map (fun i => (i.zero, i.size, i.bytes)) = some (some (.agg #[.int .i64 0, .string ⟨#[]⟩]), 2, 24) := by kernel_rfl
theorem wsv_snoc (ws : List (Nat × List UInt8)) (x : Nat) (bs : List UInt8) : flat (wsv (ws ++ [(x, bs)])) = flat (wsv ws) ++ [.int .i64 x, .string (str bs)] := by simp [wsv, flat, sv]
theorem str_size (bs : List UInt8) : (str bs).size = bs.length := rfl

theorem rwrite_pack {w w1 w3 : World} {R : Nat → Prop} {r : Nat} {S1 : DS} {dv wv kv : Value} {left : Int} {kl : List Bool} {o : Obj} {gg cg x : Nat} {bs : List UInt8} (h : RLay w1 R r S1 dv wv kv left kl) (k1 : Keep R w w1) (hgrow : (w1.alloc o).grownBy w3 wv.ownBlock)
    (hown3 : w3.ownsRow 0 66 2 (.slice (some ⟨gg, 0, none⟩) (S1.wait.length + 1) cg) (S1.wait.length + 1) (flat (wsv S1.wait) ++ [.int .i64 x, .string (str bs)])) (hat : wv.ownBlock = some gg ∨ gg = w1.heap.size + 1) (hx : x < S1.secs.length) :
    IsRef (w3.setCell ⟨r, 1, none⟩ (.slice (some ⟨gg, 0, none⟩) (S1.wait.length + 1) cg)) (Grow R w (w3.setCell ⟨r, 1, none⟩ (.slice (some ⟨gg, 0, none⟩) (S1.wait.length + 1) cg))) r { S1 with wait := S1.wait ++ [(x, bs)] } ∧
      Keep R w (w3.setCell ⟨r, 1, none⟩ (.slice (some ⟨gg, 0, none⟩) (S1.wait.length + 1) cg)) := by
  have hz1 := k1.size
  have hz : (w3.setCell ⟨r, 1, none⟩ (.slice (some ⟨gg, 0, none⟩) (S1.wait.length + 1) cg)).heap.size = w3.heap.size := World.size_setCell _ _ _
  have far3 : ∀ {k t cur}, t ≠ 66 → Row w1 k t cur → Row w3 k t cur := fun {k t cur} ht hr => by
    refine (hr.alloc _).grown hgrow (fun e => ?_)
    rcases h.wrow.2 with ⟨h0, _⟩ | ⟨g', cap', cur', h0, _, h2, _⟩
    · rw [h0] at e; simp [Value.ownBlock] at e
    · rw [h0] at e
      have : k = g' := by simpa [Value.ownBlock] using e
      subst this
      exact (hr.ne (show Row w1 k 66 cur' from h2) ht) rfl
  have top3 : Row w3 r 38 _ := far3 (by decide) h.top
  have hrow3 : ∃ cur3, Row w3 gg 66 cur3 := by
    rcases hown3.2 with ⟨_, h0⟩ | ⟨g', cap', cur', h0, _, h2, _⟩
    · omega
    · injection h0 with h0 _ _
      injection h0 with h0
      injection h0 with h0
      subst h0
      exact ⟨cur', h2⟩
  obtain ⟨cur3, hrow3⟩ := hrow3
  have hlt := hrow3.lt
  have farW : ∀ {k t cur}, t ≠ 38 → Row w3 k t cur → Row (w3.setCell ⟨r, 1, none⟩ (.slice (some ⟨gg, 0, none⟩) (S1.wait.length + 1) cg)) k t cur := fun {k t cur} ht hr => hr.far (p := ⟨r, 1, none⟩) (hr.ne top3 ht) _
  have kW : Keep R w (w3.setCell ⟨r, 1, none⟩ (.slice (some ⟨gg, 0, none⟩) (S1.wait.length + 1) cg)) :=
    ((k1.alloc _).grown hgrow (fun k e hk => h.rW k e)).store (p := ⟨r, 1, none⟩) (fun _ => h.rd) _
  refine ⟨⟨dv, .slice (some ⟨gg, 0, none⟩) (S1.wait.length + 1) cg, kv, left, kl, ?_, own_move h.done (fun g cur _ b => farW (by decide) (far3 (by decide) b)), ?_, own_move h.krow (fun g cur _ b => farW (by decide) (far3 (by decide) b)), h.arm, .inl h.rd, fun g e => .inl (h.rD g e), ?_, fun g e => .inl (h.rK g e), h.few, h.some_, ?_⟩, kW⟩
  · simpa using top3.store 1 (.slice (some ⟨gg, 0, none⟩) (S1.wait.length + 1) cg)
  · show World.ownsRow _ 0 _ 2 _ (S1.wait ++ [(x, bs)]).length (flat (wsv (S1.wait ++ [(x, bs)])))
    rw [wsv_snoc, List.length_append]
    exact own_move hown3 (fun k cur _ b => farW (by decide) b)
  · intro k e
    have : gg = k := by simpa [Value.ownBlock] using e
    subst this
    rcases hat with hat | hat
    · exact .inl (h.rW _ hat)
    · exact .inr ⟨by omega, by omega⟩
  · intro y hy
    rcases List.mem_append.1 hy with hy | hy
    · exact h.at_ y hy
    · simp at hy; subst hy; exact hx

set_option maxHeartbeats 400000 in
theorem rwrite_arg {w : World} {R : Nat → Prop} {r : Nat} {S : DS} (h : IsRef w R r S) (x : Int) (bs : List UInt8) (hx : ¬ (0 ≤ x ∧ x < S.secs.length) ∨ bs.length ≠ 512) :
    Calls Try.prog 18 #[.pointer (some ⟨r, 0, none⟩), .int .i64 x, .string (str bs)] w fun e w' => e = .returned (.int .i64 1) ∧ w = w' := by
  obtain ⟨db, dc, A, wc, t0, t1, _, _, _⟩ := h.view
  have e0 := str_size bs
  by_cases h0 : x < 0
  · go_enter Try.func18, Try.ntmps18
    go_wp2_with fail
    go_ret
    exact ⟨rfl, rfl⟩
  · by_cases h1 : (S.secs.length : Int) ≤ x
    · clear hx
      go_enter Try.func18, Try.ntmps18
      go_wp2_with fail
      go_ret
      exact ⟨rfl, rfl⟩
    · have h2 : ((bs.length : Int) == 512) = false := beq_eq_false_iff_ne.2 (by omega)
      clear hx
      go_enter Try.func18, Try.ntmps18
      go_wp2_with fail
      go_ret
      exact ⟨rfl, rfl⟩
set_option maxHeartbeats 400000 in
theorem rwrite_no {w : World} {R : Nat → Prop} {r : Nat} {S S1 : DS} (h : IsRef w R r S) (hwm : S.wait.length ≤ 1000000) (hops : S.ops ≤ 1000000000) (hop : S.op = (false, S1)) (x : Nat) (hx : x < S.secs.length) (bs : List UInt8) (hl : bs.length = 512) :
    Calls Try.prog 18 #[.pointer (some ⟨r, 0, none⟩), .int .i64 x, .string (str bs)] w fun e w' => e = .returned (.int .i64 11) ∧ IsRef w' R r S1 ∧ Keep R w w' := by
  obtain ⟨db, dc, A, wc, t0, t1, _, _, _⟩ := h.view
  have e0 := str_size bs
  rw [hl] at e0
  have hc := rop_c h hwm hops
  rw [hop] at hc
  have x0 : ¬ (x : Int) < 0 := by omega
  have x1 : (x : Int) < (S.secs.length : Int) := by omega
  have H := Lib.hid hc
  clear hc h hop
  go_enter Try.func18, Try.ntmps18
  go_wp2_with fail
  refine H.out.mono ?_
  rintro e w1 ⟨rfl, h1, k1⟩
  have H1 := Lib.hid h1
  have K1 := Lib.hid k1
  clear h1 k1
  go_wp2_with fail
  go_ret
  exact ⟨rfl, H1.out, K1.out⟩
set_option maxHeartbeats 1600000 in
theorem rwrite_ok {w : World} {R : Nat → Prop} {r : Nat} {S S1 : DS} (h : IsRef w R r S) (hwm : S.wait.length ≤ 1000000) (hops : S.ops ≤ 1000000000) (hop : S.op = (true, S1)) (x : Nat) (hx : x < S.secs.length) (bs : List UInt8) (hl : bs.length = 512) :
    Calls Try.prog 18 #[.pointer (some ⟨r, 0, none⟩), .int .i64 x, .string (str bs)] w fun e w' => e = .returned (.int .i64 0) ∧ IsRef w' (Grow R w w') r { S1 with wait := S1.wait ++ [(x, bs)] } ∧ Keep R w w' := by
  obtain ⟨db, dc, A, wc, t0, t1, _, _, _⟩ := h.view
  obtain ⟨i0, hi0, hz0, hz1, hz2⟩ := info_parts infoRW
  have e0 := str_size bs
  rw [hl] at e0
  have hc := rop_c h hwm hops
  rw [hop] at hc
  obtain ⟨s1, s2⟩ := rop_same hop
  rw [← s2] at hwm
  have x0 : ¬ (x : Int) < 0 := by omega
  have x1 : (x : Int) < (S.secs.length : Int) := by omega
  have H := Lib.hid hc
  have Hs := Lib.hid s1
  clear hc h hop s1 s2
  go_enter Try.func18, Try.ntmps18
  go_wp2_with fail
  refine H.out.mono ?_
  rintro e w1 ⟨rfl, h1, k1⟩
  obtain ⟨dv, wv, kv, left, kl, h⟩ := h1
  obtain ⟨WA, wc', hwv, _⟩ := own_waits h.wrow
  subst hwv
  have u1 := h.top.cell 1
  have f1 := h.top.soft 1
  simp at u1
  have hrl := h.top.lt
  have H1 := Lib.hid h
  have K1 := Lib.hid k1
  have OW := fun (o : Obj) => (own_move (w' := w1.alloc o) h.wrow (fun g cur _ b => Row.alloc b o))
  have hfar : some r ≠ (Value.slice WA S1.wait.length wc').ownBlock := by
    intro e
    rcases h.wrow.2 with ⟨h0, _⟩ | ⟨g', cap', cur', h0, _, h2, _⟩
    · rw [h0] at e; simp [Value.ownBlock] at e
    · rw [h0] at e
      have : r = g' := by simpa [Value.ownBlock] using e
      subst this
      exact (Row.ne h.top (show Row w1 r 66 cur' from h2) (by decide)) rfl
  clear h k1 H t0 t1
  go_wp2_with (at_builtin; go_loud (refine wpList_append_lies _ rfl (.tmp 30) (.tmp 34) 36 rfl 0 66 i0 _ 2 24 Try.underlying36 hi0 hz0 hz1 hz2 rfl (by omega) (.slice WA S1.wait.length wc') S1.wait.length (flat (wsv S1.wait)) rfl (OW _) ⟨w1.heap.size, 0, none⟩ 1 1 [.int .i64 x, .string (str bs)] rfl rfl (World.news_of_block (cs := #[.int .i64 x, .string (str bs)]) (t := 66) (fr := (0, 0)) (heap_alloc_new w1 _)) (by simp [Value.oneCell']) (by omega) (by simp only [maxLen]; omega) (by omega) (Nat.zero_le _) (w1.heap.size + 1) (by simp) ?_); intro gg cg w3 hown hgrow hat hlt; have c3 : w3.cell? ⟨r, 1, none⟩ = some (.slice WA S1.wait.length wc') := (World.cell?_of_block (a := ⟨r, 1, none⟩) (hgrow.block r (by simp; omega) hfar)).trans ((World.cell?_alloc_lt _ _ _ hrl).trans u1); have f3 : w3.frozen? ⟨r, 1, none⟩ = false := (World.frozen?_of_block (a := ⟨r, 1, none⟩) (hgrow.block r (by simp; omega) hfar)).trans ((World.frozen?_alloc_old _ _ _ (by simp; omega)).trans f1); have P := Lib.hid (rwrite_pack H1.out K1.out hgrow (by simpa using hown) hat (by rw [Hs.out]; exact hx)); clear hown hgrow hat hlt OW)
  go_ret
  exact ⟨rfl, P.out⟩
end Go.Proofs.Ytppehlnfoendgaa
