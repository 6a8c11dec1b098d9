/-
  Package isa: appendInsn, Encode.
-/
import Derived.Test.YthmiiddojccafaaI5
import Derived.Test.YthmiiddojccafaaI6a
namespace Go.Proofs.Ythmiiddojccafaa
open Go.RowKit
set_option linter.all false

set_option maxHeartbeats 1600000 in
theorem appendInsn_c (x : In) (hx : x.Wf) (hs : x.dst < 16 ∧ x.src < 16) {w : World} {base g0 n0 c0 : Nat} {xs : List UInt8} (hown : Own w base (.slice (some ⟨g0, 0, none⟩) n0 c0) xs) (hbase : base ≤ w.heap.size) (hlen : xs.length ≤ 1000000) :
    Calls Try.prog 43 #[.slice (some ⟨g0, 0, none⟩) n0 c0, x.v] w fun e w' => ∃ g c, e = .returned (.slice (some ⟨g, 0, none⟩) (xs.length + 8) c) ∧ Own w' base (.slice (some ⟨g, 0, none⟩) (xs.length + 8) c) (xs ++ enc1 x) ∧ Keep (fun k => k = g0) w w' := by
  have h0 := hx.op
  have e0 : ((UInt8.ofNat x.op).toNat : Int) = (x.op : Int) := by rw [UInt8.toNat_ofNat']; omega
  have e1 : ((UInt8.ofNat (x.dst + 16 * x.src)).toNat : Int) = (x.dst : Int) + 16 * (x.src : Int) := by rw [UInt8.toNat_ofNat']; omega
  have w1 : IntKind.u8.wrap (16 * (x.src : Int)) = 16 * (x.src : Int) := by rw [IntKind.wrap_u8]; omega
  have w2 : IntKind.u8.wrap ((x.dst : Int) + 16 * (x.src : Int)) = (x.dst : Int) + 16 * (x.src : Int) := by rw [IntKind.wrap_u8]; omega
  have HOWN := Lib.hid hown
  unfold In.v
  clear hown
  have C1 : Hid (Calm w ((w.alloc (.cells #[.int .u8 (x.op : Int), .int .u8 (x.dst : Int), .int .u8 (x.src : Int), .int .i16 x.off, .int .i32 x.imm] 34)).alloc (.cells #[.int .u8 (x.op : Int), .int .u8 ((x.dst : Int) + 16 * (x.src : Int)), .int .u8 (x.off % 256), .int .u8 (x.off / 256 % 256), .int .u8 (x.imm % 256), .int .u8 (x.imm / 256 % 256), .int .u8 (x.imm / 65536 % 256), .int .u8 (x.imm / 16777216 % 256)] 5))) := Lib.hid (((Keep.refl _ w).alloc _).alloc _)
  have RD : Hid (Rd ((w.alloc (.cells #[.int .u8 (x.op : Int), .int .u8 (x.dst : Int), .int .u8 (x.src : Int), .int .i16 x.off, .int .i32 x.imm] 34)).alloc (.cells #[.int .u8 (x.op : Int), .int .u8 ((x.dst : Int) + 16 * (x.src : Int)), .int .u8 (x.off % 256), .int .u8 (x.off / 256 % 256), .int .u8 (x.imm % 256), .int .u8 (x.imm / 256 % 256), .int .u8 (x.imm / 65536 % 256), .int .u8 (x.imm / 16777216 % 256)] 5)) (.slice (some ⟨w.heap.size + 1, 0, none⟩) 8 8) (enc1 x)) := Lib.hid (by
    have := Rd.made (w.alloc (.cells #[.int .u8 (x.op : Int), .int .u8 (x.dst : Int), .int .u8 (x.src : Int), .int .i16 x.off, .int .i32 x.imm] 34)) (enc1 x) 8 #[.int .u8 (x.op : Int), .int .u8 ((x.dst : Int) + 16 * (x.src : Int)), .int .u8 (x.off % 256), .int .u8 (x.off / 256 % 256), .int .u8 (x.imm % 256), .int .u8 (x.imm / 256 % 256), .int .u8 (x.imm / 65536 % 256), .int .u8 (x.imm / 16777216 % 256)] rfl (by
      simp only [enc1, List.map_cons, List.map_nil, bv, e0, e1, byt0_n, byt1_n, byt2_n, byt3_n]) (by decide)
    rwa [World.size_alloc] at this)
  have HL := Lib.hid (And.intro hbase hlen)
  clear e0 e1 h0 hx hs hbase hlen
  go_enter Try.func43, Try.ntmps43
  go_wp2_with (at_builtin; go_loud (refine append_own rfl (.tmp 5) (.tmp 36) rfl base g0 n0 c0 xs rfl (HOWN.out.moved C1.out) (.slice (some ⟨w.heap.size + 1, 0, none⟩) 8 8) (enc1 x) rfl RD.out (by have := HL.out.2; show xs.length + 8 ≤ _; omega) (Nat.le_trans HL.out.1 C1.out.size) ?_); rintro g c w3 ho hg)
  have HO := Lib.hid ho
  have HG := Lib.hid hg
  clear ho hg
  go_wp2_with fail
  go_ret
  exact ⟨g, c, rfl, HO.out, (Calm.keep C1.out _).grown HG.out (fun k e hk => by injection e with e; exact e.symm)⟩
end Go.Proofs.Ythmiiddojccafaa
