/-
  LruNewest: the walk.
-/
import Derived.Test.YtkmknmoppigoeaaLSh
import Derived.Test.YtkmknmoppigoeaaLib4
import Derived.Test.YtkmknmoppigoeaaMasks
namespace Go.Proofs.Ytkmknmoppigoeaa
open Go.RowKit
set_option linter.all false
attribute [local go_sem] Oper.semAt_some

section
variable {κ ν : Type} [DecidableEq κ]
theorem putL_yes {most : Nat} {k : κ} {v : ν} {L : List (κ × ν)} (h : k ∈ keysL L) : putL most k v L = (none, dropL k L ++ [(k, v)]) := by unfold putL; rw [if_pos h]
theorem putL_room {most : Nat} {k : κ} {v : ν} {L : List (κ × ν)} (h : k ∉ keysL L) (hr : L.length < most) : putL most k v L = (none, L ++ [(k, v)]) := by unfold putL; rw [if_neg h, if_pos hr]
theorem putL_full {most : Nat} {k : κ} {v : ν} {L : List (κ × ν)} (h : k ∉ keysL L) (hr : ¬ L.length < most) : putL most k v L = (L.head?.map (·.1), L.tail ++ [(k, v)]) := by unfold putL; rw [if_neg h, if_neg hr]
end

/-- The first i numbers. -/
def firsts (i : Nat) : List (Int × Bool) := (List.range i).map fun (j : Nat) => ((j : Int), false)
theorem firsts_keys (i : Nat) (x : Int) : x ∈ keysL (firsts i) ↔ 0 ≤ x ∧ x < i := by
  simp only [keysL, firsts, List.map_map, List.mem_map, List.mem_range, Function.comp_def]
  constructor
  · rintro ⟨a, h, rfl⟩; omega
  · rintro ⟨h1, h2⟩; exact ⟨x.toNat, by omega, by omega⟩
theorem firsts_succ (i : Nat) : firsts (i + 1) = firsts i ++ [((i : Int), false)] := by simp [firsts, List.range_succ]
theorem firsts_len (i : Nat) : (firsts i).length = i := by simp [firsts]
/-- Who goes at the i-th new one. -/
def goesAt (n p i : Nat) : Int := if i + 1 = n then p else if p ≤ i then i + 1 else i
def goes (n p : Nat) : List Int := (List.range n).map (goesAt n p)
theorem goes_len (n p : Nat) : (goes n p).length = n := by simp [goes]
theorem goes_at (n p i : Nat) (h : i < n) : (goes n p)[i]? = some (goesAt n p i) := by simp [goes, h]
theorem firsts_split (n p : Nat) (h : p < n) : firsts n = firsts p ++ ((p : Int), false) :: ((List.range (n - p - 1)).map fun (j : Nat) => (((p + 1 + j : Nat) : Int), false)) := by
  have : n = p + (1 + (n - p - 1)) := by omega
  rw [this]
  unfold firsts
  rw [List.range_add, List.map_append, List.range_add, List.map_append]
  simp only [List.range_one, List.map_cons, List.map_nil, List.map_map, List.map_append, Nat.add_zero, List.singleton_append]
  congr 2
  rw [show p + (1 + (n - p - 1)) - p - 1 = n - p - 1 by omega]
  apply List.map_congr_left
  intro j _
  simp
  omega
theorem firsts_drop (n p : Nat) (h : p < n) (v : Bool) : keysL (dropL (p : Int) (firsts n) ++ [((p : Int), v)]) = goes n p := by
  have hs := firsts_split n p h
  have hk : (keysL (firsts n)).Nodup := by
    unfold keysL firsts
    rw [List.map_map]
    rw [List.nodup_iff_pairwise_ne, List.pairwise_map]
    refine (List.nodup_range (n := n)).imp ?_
    intro a b hab e
    have e' : (a : Int) = (b : Int) := e
    exact hab (by omega)
  have hd := dropL_mid (x := ((p : Int), false)) (hs ▸ hk)
  rw [← hs] at hd
  rw [hd]
  apply List.ext_getElem?
  intro i
  unfold keysL goes
  rw [List.getElem?_map, List.getElem?_map, List.append_assoc]
  by_cases h1 : i < p
  · rw [List.getElem?_append_left (by rw [firsts_len]; exact h1), List.getElem?_range (by omega)]
    simp [firsts, h1, goesAt]
    omega
  · rw [List.getElem?_append_right (by rw [firsts_len]; omega), firsts_len]
    by_cases h2 : i + 1 < n
    · rw [List.getElem?_append_left (by simp; omega), List.getElem?_range (by omega), List.getElem?_map, List.getElem?_range (by omega)]
      simp [goesAt]
      rw [if_neg (by omega), if_pos (by omega)]
      omega
    · rw [List.getElem?_append_right (by simp; omega)]
      simp only [List.length_map, List.length_range]
      by_cases h3 : i + 1 = n
      · rw [show i - p - (n - p - 1) = 0 by omega, List.getElem?_range (by omega)]
        simp [goesAt, h3]
      · rw [List.getElem?_eq_none (by simp; omega), List.getElem?_eq_none (by simp; omega)]
        rfl
/-- The keys behind i new ones. -/
def keysAt (n p i : Nat) : List Int := (goes n p).drop i ++ (List.range i).map fun j => ((1000 + j : Nat) : Int)
theorem keysAt_len (n p i : Nat) (h : i ≤ n) : (keysAt n p i).length = n := by simp [keysAt, goes_len]; omega
theorem keysAt_new (n p i : Nat) (hn : n ≤ 30) (hp : p < n) : ((1000 + i : Nat) : Int) ∉ keysAt n p i := by
  unfold keysAt
  rw [List.mem_append]
  rintro (h | h)
  · have := List.mem_of_mem_drop h
    unfold goes goesAt at this
    obtain ⟨j, hj, e⟩ := List.mem_map.1 this
    have := List.mem_range.1 hj
    split at e
    · omega
    · split at e <;> omega
  · obtain ⟨j, hj, e⟩ := List.mem_map.1 h
    have := List.mem_range.1 hj
    omega
theorem keysAt_head (n p i : Nat) (h : i < n) : (keysAt n p i).head? = some (goesAt n p i) := by
  unfold keysAt
  rw [List.head?_append, List.head?_drop, goes_at n p i h]
  rfl
theorem keysAt_succ (n p i : Nat) (h : i < n) : keysAt n p (i + 1) = (keysAt n p i).tail ++ [((1000 + i : Nat) : Int)] := by
  unfold keysAt
  have : (goes n p).drop i ≠ [] := by intro e; have := congrArg List.length e; simp [goes_len] at this; omega
  rw [List.tail_append_of_ne_nil this, List.tail_drop, List.range_succ, List.map_append, List.append_assoc]
  rfl

set_option maxRecDepth 20000 in
set_option maxHeartbeats 4000000 in
theorem lruNewest_c (a0 a1 : Int) (a2 : Bool) (w : World) : Calls Try.prog 6 #[.int .i64 a0, .int .i64 a1, .bool a2] w fun e w' => e = .returned (.bool true) ∧ Calm w w' := by
  obtain ⟨m0, hm0, e0⟩ := mask_nat a0 16 65535 (by omega) (by decide)
  obtain ⟨m1, hm1, e1⟩ := mask_nat a1 16 65535 (by omega) (by decide)
  obtain ⟨n, hn⟩ : ∃ n, n = 2 + m0 % 29 := ⟨_, rfl⟩
  obtain ⟨p, hp⟩ : ∃ p, p = m1 % n := ⟨_, rfl⟩
  have hn2 : 2 ≤ n ∧ n ≤ 30 := by omega
  have hpn : p < n := by rw [hp]; exact Nat.mod_lt _ (by omega)
  go_enter Try.func6, Try.ntmps6
  go_wp2_with fail
  refine (shown9_c w).mono ?_
  rintro e w1 ⟨rfl, hc⟩
  have C1 := Lib.hid hc
  clear hc
  go_wp2_with fail
  rw [show (2 + (m0 : Int) % 29) = (n : Int) by omega, show ((m1 : Int) % (n : Int)) = (p : Int) by omega]
  clear e0 e1 hm0 hm1 hn hp
  refine (ib_lnew (n : Int) n (by rw [if_neg (by omega)]) (by omega) (by omega) w1).mono ?_
  rintro e w2 ⟨rfl, h2⟩
  have H2 := Lib.hid h2
  clear h2
  generalize w1.heap.size + 1 = b at H2
  go_upto_block 0 with fail
  go_cut [] (fun wc => Lst ibT w1 wc b n (firsts n))
  case first =>
    go_wp2_with fail
    go_loopw [9] (fun i wr => ∃ j : Nat, j ≤ n ∧ i = .int .i64 (j : Int) ∧ Lst ibT w1 wr b n (firsts j)) (fun i _ => n - (intOf i).toNat)
    case atStart => exact ⟨0, by omega, rfl, H2.out⟩
    case round =>
      obtain ⟨j, hj, rfl, hl⟩ := hrel
      have Hl := Lib.hid hl
      clear hl H2
      by_cases hlt : j < n
      · have hnk : (j : Int) ∉ keysL (firsts j) := fun h => by have := (firsts_keys j _).1 h; omega
        have HP := Lib.hid (ib_lput Hl.out (j : Int) false (by show _ ∧ _; omega) none (firsts (j + 1)) (by rw [putL_room hnk (by rw [firsts_len]; exact hlt), firsts_succ]) (.int .i64 0) rfl false rfl)
        clear hnk
        go_wp2_with fail
        refine HP.out.mono ?_
        rintro e w3 ⟨rfl, h3⟩
        have H3 := Lib.hid h3
        clear h3 HP
        go_wp2_with fail
        go_roundw
        case rel => exact ⟨j + 1, by omega, by go_num, H3.out⟩
        case measure => simp [intOf]; omega
      · obtain rfl : j = n := by omega
        go_wp2_with fail
        go_meet
        case rel => exact Hl.out
  case rest =>
    have H3 := Lib.hid hcut
    clear hcut H2
    have hpk : (p : Int) ∈ keysL (firsts n) := (firsts_keys n _).2 (by omega)
    go_upto_if 35 with fail
    go_cut [] (fun wc => ∃ L, keysL L = goes n p ∧ Lst ibT w1 wc b n L)
    case first =>
      cases a2
      · have hg : getL (p : Int) (firsts n) = some false := by
          rw [firsts_split n p hpn]
          exact getL_mid (x := ((p : Int), false)) (by rw [← firsts_split n p hpn]; exact H3.out.nodup)
        have HT := Lib.hid (ib_ltouch H3.out (p : Int) (by show _ ∧ _; omega) (some false) hg (dropL (p : Int) (firsts n) ++ [((p : Int), false)]) (by unfold useL; rw [hg]) true rfl)
        clear hg
        go_wp2_with fail
        refine HT.out.mono ?_
        rintro e w3 ⟨rfl, h3⟩
        have H4 := Lib.hid h3
        clear h3 HT
        go_wp2_with fail
        go_meet
        case rel => exact ⟨_, firsts_drop n p hpn false, H4.out⟩
      · have HT := Lib.hid (ib_lput H3.out (p : Int) true (by show _ ∧ _; omega) none _ (putL_yes hpk) (.int .i64 0) rfl false rfl)
        go_wp2_with fail
        refine HT.out.mono ?_
        rintro e w3 ⟨rfl, h3⟩
        have H4 := Lib.hid h3
        clear h3 HT
        go_wp2_with fail
        go_meet
        case rel => exact ⟨_, firsts_drop n p hpn true, H4.out⟩
    case rest =>
      obtain ⟨L0, hk0, hl0⟩ := hcut
      have H4 := Lib.hid hl0
      have K0 := Lib.hid hk0
      clear hl0 hk0 H3 hpk
      go_wp2_with fail
      go_loopw [10] (fun i wr => ∃ j : Nat, j ≤ n ∧ i = .int .i64 (j : Int) ∧ ∃ L, keysL L = keysAt n p j ∧ Lst ibT w1 wr b n L) (fun i _ => n - (intOf i).toNat)
      case atStart => exact ⟨0, by omega, rfl, L0, by rw [K0.out]; simp [keysAt], H4.out⟩
      case round =>
        obtain ⟨j, hj, rfl, L, hk, hl⟩ := hrel
        have Hl := Lib.hid hl
        clear H4 K0
        by_cases hlt : j < n
        · have hlen : L.length = n := by have := congrArg List.length hk; simpa [keysL, keysAt_len n p j hj] using this
          have hnk : ((1000 + j : Nat) : Int) ∉ keysL L := by rw [hk]; exact keysAt_new n p j hn2.2 hpn
          have hput : putL n ((1000 + j : Nat) : Int) true L = (some (goesAt n p j), L.tail ++ [(((1000 + j : Nat) : Int), true)]) := by
            rw [putL_full hnk (by omega)]
            have := keysAt_head n p j hlt
            rw [← hk] at this
            unfold keysL at this
            rw [List.head?_map] at this
            rw [this]
          have HP := Lib.hid (ib_lput Hl.out ((1000 + j : Nat) : Int) true (by show _ ∧ _; omega) _ _ hput (.int .i64 (goesAt n p j)) rfl true rfl)
          have HK : Hid (keysL (L.tail ++ [(((1000 + j : Nat) : Int), true)]) = keysAt n p (j + 1)) := Lib.hid (by
            rw [keysAt_succ n p j hlt, ← hk]; simp [keysL])
          have HL2 : Hid ((L.tail ++ [(((1000 + j : Nat) : Int), true)]).length = n) := Lib.hid (by simp; omega)
          clear hlen hnk hput hl hk
          rw [show ((1000 + j : Nat) : Int) = 1000 + (j : Int) by omega] at HP
          go_wp2_with fail
          refine HP.out.mono ?_
          rintro e w3 ⟨rfl, h3⟩
          have H3 := Lib.hid h3
          have HLn := Lib.hid (ib_llen h3 n HL2.out)
          clear h3 HP HL2
          by_cases c1 : j + 1 = n
          · have hw : goesAt n p j = (p : Int) := by unfold goesAt; rw [if_pos c1]
            have d1 : (p : Int) ≤ (j : Int) := by omega
            have d2 : (j : Int) = (n : Int) - 1 := by omega
            rw [hw]
            go_wp2_with fail
            refine HLn.out.mono ?_
            rintro e w4 ⟨rfl, rfl⟩
            go_wp2_with fail
            go_roundw
            case rel => exact ⟨j + 1, by omega, by go_num, _, HK.out, H3.out⟩
            case measure => simp [intOf]; omega
          · by_cases c2 : p ≤ j
            · have hw : goesAt n p j = (j : Int) + 1 := by unfold goesAt; rw [if_neg c1, if_pos c2]
              have d1 : (p : Int) ≤ (j : Int) := by omega
              have d2 : ¬ (j : Int) = (n : Int) - 1 := by omega
              rw [hw]
              go_wp2_with fail
              refine HLn.out.mono ?_
              rintro e w4 ⟨rfl, rfl⟩
              go_wp2_with fail
              go_roundw
              case rel => exact ⟨j + 1, by omega, by go_num, _, HK.out, H3.out⟩
              case measure => simp [intOf]; omega
            · have hw : goesAt n p j = (j : Int) := by unfold goesAt; rw [if_neg c1, if_neg c2]
              have d1 : ¬ (p : Int) ≤ (j : Int) := by omega
              have d2 : ¬ (j : Int) = (n : Int) - 1 := by omega
              rw [hw]
              go_wp2_with fail
              refine HLn.out.mono ?_
              rintro e w4 ⟨rfl, rfl⟩
              go_wp2_with fail
              go_roundw
              case rel => exact ⟨j + 1, by omega, by go_num, _, HK.out, H3.out⟩
              case measure => simp [intOf]; omega
        · obtain rfl : j = n := by omega
          have HC := Lib.hid (C1.out.trans hl.calm_)
          clear hl hk Hl
          go_wp2_with fail
          go_ret
          exact ⟨rfl, HC.out⟩
end Go.Proofs.Ytkmknmoppigoeaa