/-
  Spans: pure facts on Do and Where.
-/
import Derived.Test.YtboiakahhkihiaaNP
import Derived.Test.YtboiakahhkihiaaN7
namespace Go.Proofs.Ytboiakahhkihiaa
open Go.RowKit
set_option linter.all false

theorem join_ok {s t : Sp} (hs : s.Ok) (ht : t.Ok) : (joinS s t).Ok := by
  have := hs.r; have := hs.h; have := ht.r; have := ht.h
  exact ⟨by show min s.lo t.lo ≤ max s.hi t.hi; omega, by show max s.hi t.hi < _; omega⟩
theorem join_sub (s t : Sp) : t.Sub (joinS s t) := ⟨by show min s.lo t.lo ≤ t.lo; omega, by show t.hi ≤ max s.hi t.hi; omega⟩

section
variable {s t u v : Sp}
theorem cut_cutN (wide : Bool) (hs : s.Ok) : cutS wide s = cutN (bW wide) s := by
  cases wide
  · rfl
  · have e : ¬ 2 ^ bW true - 1 < s.hi := by have := hs.h; show ¬ 18446744073709551615 < s.hi; omega
    unfold cutN
    rw [if_neg e]
    rfl
theorem cut_ok (wide : Bool) (hs : s.Ok) : (cutS wide s).Ok := by
  cases wide
  · exact hs.low
  · exact hs
theorem cut_lt (wide : Bool) (hs : s.Ok) : (cutS wide s).hi < 2 ^ bW wide := by
  cases wide
  · exact low_lt s
  · exact hs.h
theorem cut_sub (wide : Bool) (h : s.Sub t) : (cutS wide s).Sub (cutS wide t) := by
  cases wide
  · exact h.low
  · exact h
theorem bW_le (wide : Bool) : bW wide ≤ 64 := by cases wide <;> decide
theorem core_in (wide : Bool) (op : Nat) {x y : Nat} (hs : s.Ok) (ht : t.Ok) (hx : Sp.In x s) (hy : Sp.In y t) (ls : s.hi < 2 ^ bW wide) (lt : t.hi < 2 ^ bW wide) : Sp.In (dW (bW wide) op x y) (cutS wide (madeS (bW wide) op s t)) := by
  rw [cut_cutN wide (made_ok _ _ hs ht)]
  exact dW_in (bW_pos wide) (bW_le wide) hx hy ls lt op
theorem D_of {n op x y : Nat} (hx : x < 2 ^ n) (hy : y < 2 ^ n) : D n op x y = dW n op x y := by
  unfold D
  rw [Nat.mod_eq_of_lt hx, Nat.mod_eq_of_lt hy]
theorem do_sub (wide : Bool) (op : Nat) (hs : s.Ok) (ht : t.Ok) (hu : u.Ok) (hv : v.Ok) (h : s.Sub u) (k : t.Sub v) : (doS wide op s t).Sub (doS wide op u v) := by
  have h' := cut_sub wide h
  have k' := cut_sub wide k
  have os := cut_ok wide hs
  have ot := cut_ok wide ht
  have ou := cut_ok wide hu
  have ov := cut_ok wide hv
  have ls := cut_lt wide hs
  have lt := cut_lt wide ht
  have lu := cut_lt wide hu
  have lv := cut_lt wide hv
  unfold doS
  generalize cutS wide s = s' at *
  generalize cutS wide t = t' at *
  generalize cutS wide u = u' at *
  generalize cutS wide v = v' at *
  have r1 := os.r; have r2 := ot.r; have a1 := h'.1; have a2 := h'.2; have b1 := k'.1; have b2 := k'.2
  by_cases c : isO op = true ∧ u'.lo = u'.hi ∧ v'.lo = v'.hi
  · obtain ⟨c0, c1, c2⟩ := c
    have e1 : s' = u' := by cases s'; cases u'; simp only [Sp.mk.injEq] at *; omega
    have e2 : t' = v' := by cases t'; cases v'; simp only [Sp.mk.injEq] at *; omega
    subst e1
    subst e2
    exact Sp.Sub.refl _
  · rw [if_neg c]
    by_cases d : isO op = true ∧ s'.lo = s'.hi ∧ t'.lo = t'.hi
    · rw [if_pos d, D_of (by omega) (by omega)]
      exact core_in wide op ou ov ⟨a1, by omega⟩ ⟨b1, by omega⟩ lu lv
    · rw [if_neg d]
      exact cut_sub wide (made_sub _ op os ot h' k')
theorem mod_in (wide : Bool) {x : Nat} (hs : s.Ok) (hx : Sp.In x s) : Sp.In (x % 2 ^ bW wide) (cutS wide s) := by
  rw [cut_cutN wide hs]
  exact cutN_mod hx
theorem do_in (wide : Bool) (op : Nat) {x y : Nat} (ho : isO op = true) (hs : s.Ok) (ht : t.Ok) (hx : Sp.In x s) (hy : Sp.In y t) : Sp.In (D (bW wide) op x y) (doS wide op s t) := by
  have hx' := mod_in wide hs hx
  have hy' := mod_in wide ht hy
  have os := cut_ok wide hs
  have ot := cut_ok wide ht
  have ls := cut_lt wide hs
  have lt := cut_lt wide ht
  show Sp.In (dW (bW wide) op (x % 2 ^ bW wide) (y % 2 ^ bW wide)) _
  unfold doS
  generalize cutS wide s = s' at *
  generalize cutS wide t = t' at *
  generalize x % 2 ^ bW wide = x' at *
  generalize y % 2 ^ bW wide = y' at *
  have r1 := os.r; have r2 := ot.r; have a1 := hx'.1; have a2 := hx'.2; have b1 := hy'.1; have b2 := hy'.2
  by_cases d : isO op = true ∧ s'.lo = s'.hi ∧ t'.lo = t'.hi
  · rw [if_pos d, D_of (by omega) (by omega)]
    have e1 : x' = s'.lo := by omega
    have e2 : y' = t'.lo := by omega
    rw [e1, e2]
    exact ⟨Nat.le_refl _, Nat.le_refl _⟩
  · rw [if_neg d]
    exact core_in wide op os ot hx' hy' ls lt
theorem do_ok (wide : Bool) (op : Nat) (hs : s.Ok) (ht : t.Ok) : (doS wide op s t).Ok ∧ (doS wide op s t).hi < 2 ^ bW wide := by
  have os := cut_ok wide hs
  have ot := cut_ok wide ht
  unfold doS
  split
  · exact ⟨⟨Nat.le_refl _, D_lt64 wide op _ _⟩, D_lt _ op _ _⟩
  · have m := made_ok (bW wide) op os ot
    exact ⟨cut_ok wide m, cut_lt wide m⟩

theorem meet_sub (h : s.Sub u) (k : t.Sub v) : (meetS s t).2 = true → (meetS u v).2 = true ∧ (meetS s t).1.Sub (meetS u v).1 := by
  obtain ⟨h1, h2⟩ := h
  obtain ⟨k1, k2⟩ := k
  by_cases c : max s.lo t.lo ≤ min s.hi t.hi
  · rw [meet_yes c, meet_yes (s := u) (t := v) (by omega)]
    exact fun _ => ⟨rfl, by show max u.lo v.lo ≤ max s.lo t.lo; omega, by show min s.hi t.hi ≤ min u.hi v.hi; omega⟩
  · rw [meet_no c]
    exact fun e => by cases e
theorem other_sub (hs : s.Ok) (ht : t.Ok) (hu : u.Ok) (hv : v.Ok) (h : s.Sub u) (k : t.Sub v) : (otherS s t).2 = true → (otherS u v).2 = true ∧ (otherS s t).1.Sub (otherS u v).1 := by
  have r1 := hs.r; have r2 := ht.r; have r3 := hu.r; have r4 := hv.r
  obtain ⟨h1, h2⟩ := h
  obtain ⟨k1, k2⟩ := k
  unfold otherS
  by_cases c : v.lo = v.hi
  · have e1 : t.lo = v.lo := by omega
    have e2 : t.hi = v.lo := by omega
    rw [if_neg (show ¬ ¬ v.lo = v.hi by omega), if_neg (show ¬ ¬ t.lo = t.hi by omega)]
    by_cases c1 : s.lo = t.lo ∧ s.hi = t.hi
    · rw [if_pos c1]; exact fun e => by cases e
    · rw [if_neg c1, if_neg (show ¬ (u.lo = v.lo ∧ u.hi = v.hi) by omega)]
      by_cases c2 : u.lo = v.lo
      · rw [if_pos c2]
        by_cases c3 : s.lo = t.lo
        · rw [if_pos c3]; exact fun _ => ⟨rfl, by show u.lo + 1 ≤ s.lo + 1; omega, h2⟩
        · rw [if_neg c3]
          by_cases c4 : s.hi = t.lo
          · rw [if_pos c4]; omega
          · rw [if_neg c4]; exact fun _ => ⟨rfl, by show u.lo + 1 ≤ s.lo; omega, h2⟩
      · rw [if_neg c2]
        by_cases c5 : u.hi = v.lo
        · rw [if_pos c5]
          by_cases c3 : s.lo = t.lo
          · rw [if_pos c3]; omega
          · rw [if_neg c3]
            by_cases c4 : s.hi = t.lo
            · rw [if_pos c4]; exact fun _ => ⟨rfl, h1, by show s.hi - 1 ≤ u.hi - 1; omega⟩
            · rw [if_neg c4]; exact fun _ => ⟨rfl, h1, by show s.hi ≤ u.hi - 1; omega⟩
        · rw [if_neg c5]
          by_cases c3 : s.lo = t.lo
          · rw [if_pos c3]; exact fun _ => ⟨rfl, by show u.lo ≤ s.lo + 1; omega, h2⟩
          · rw [if_neg c3]
            by_cases c4 : s.hi = t.lo
            · rw [if_pos c4]; exact fun _ => ⟨rfl, h1, by show s.hi - 1 ≤ u.hi; omega⟩
            · rw [if_neg c4]; exact fun _ => ⟨rfl, h1, h2⟩
  · rw [if_pos (show ¬ v.lo = v.hi from c)]
    by_cases c0 : t.lo = t.hi
    · rw [if_neg (show ¬ ¬ t.lo = t.hi by omega)]
      by_cases c1 : s.lo = t.lo ∧ s.hi = t.hi
      · rw [if_pos c1]; exact fun e => by cases e
      · rw [if_neg c1]
        by_cases c3 : s.lo = t.lo
        · rw [if_pos c3]; exact fun _ => ⟨rfl, by show u.lo ≤ s.lo + 1; omega, h2⟩
        · rw [if_neg c3]
          by_cases c4 : s.hi = t.lo
          · rw [if_pos c4]; exact fun _ => ⟨rfl, h1, by show s.hi - 1 ≤ u.hi; omega⟩
          · rw [if_neg c4]; exact fun _ => ⟨rfl, h1, h2⟩
    · rw [if_pos c0]; exact fun _ => ⟨rfl, h1, h2⟩
theorem where_sub (op : Nat) (hs : s.Ok) (ht : t.Ok) (hu : u.Ok) (hv : v.Ok) (h : s.Sub u) (k : t.Sub v) : (whereS op s t).2 = true → (whereS op u v).2 = true ∧ (whereS op s t).1.Sub (whereS op u v).1 := by
  have k1 := k.1; have k2 := k.2; have r1 := ht.h
  by_cases c : op = 16; · subst c; exact meet_sub h k
  by_cases c : op = 80; · subst c; exact other_sub hs ht hu hv h k
  by_cases c : op = 32
  · subst c
    show (if t.lo = 18446744073709551615 then ((⟨0, 0⟩, false) : Sp × Bool) else meetS s ⟨t.lo + 1, 18446744073709551615⟩).2 = true → (if v.lo = 18446744073709551615 then ((⟨0, 0⟩, false) : Sp × Bool) else meetS u ⟨v.lo + 1, 18446744073709551615⟩).2 = true ∧ (if t.lo = 18446744073709551615 then ((⟨0, 0⟩, false) : Sp × Bool) else meetS s ⟨t.lo + 1, 18446744073709551615⟩).1.Sub (if v.lo = 18446744073709551615 then ((⟨0, 0⟩, false) : Sp × Bool) else meetS u ⟨v.lo + 1, 18446744073709551615⟩).1
    by_cases a : t.lo = 18446744073709551615
    · rw [if_pos a]; exact fun e => by cases e
    · have := ht.r
      rw [if_neg a, if_neg (by omega)]
      exact meet_sub h ⟨by show v.lo + 1 ≤ t.lo + 1; omega, Nat.le_refl _⟩
  by_cases c : op = 48
  · subst c; exact meet_sub h ⟨k1, Nat.le_refl _⟩
  by_cases c : op = 160
  · subst c
    show (if t.hi = 0 then ((⟨0, 0⟩, false) : Sp × Bool) else meetS s ⟨0, t.hi - 1⟩).2 = true → (if v.hi = 0 then ((⟨0, 0⟩, false) : Sp × Bool) else meetS u ⟨0, v.hi - 1⟩).2 = true ∧ (if t.hi = 0 then ((⟨0, 0⟩, false) : Sp × Bool) else meetS s ⟨0, t.hi - 1⟩).1.Sub (if v.hi = 0 then ((⟨0, 0⟩, false) : Sp × Bool) else meetS u ⟨0, v.hi - 1⟩).1
    by_cases a : t.hi = 0
    · rw [if_pos a]; exact fun e => by cases e
    · rw [if_neg a, if_neg (by omega)]
      exact meet_sub h ⟨Nat.le_refl _, by show t.hi - 1 ≤ v.hi - 1; omega⟩
  by_cases c : op = 176
  · subst c; exact meet_sub h ⟨Nat.le_refl _, k2⟩
  · have e : ∀ s t, whereS op s t = (s, true) := fun s t => by unfold whereS; simp only [*, if_false]
    simp only [e]
    exact fun _ => ⟨True.intro, h⟩
end

/-! What Where leaves. -/
section
variable {s t : Sp} {x y : Nat}
theorem meet_ok (s t : Sp) : (meetS s t).2 = true → (meetS s t).1.lo ≤ (meetS s t).1.hi ∧ s.lo ≤ (meetS s t).1.lo ∧ (meetS s t).1.hi ≤ s.hi := by
  by_cases c : max s.lo t.lo ≤ min s.hi t.hi
  · rw [meet_yes c]
    exact fun _ => ⟨c, by show s.lo ≤ max s.lo t.lo; omega, by show min s.hi t.hi ≤ s.hi; omega⟩
  · rw [meet_no c]
    exact fun e => by cases e
theorem meet_in (hx : Sp.In x s) (hy : Sp.In x t) : (meetS s t).2 = true ∧ Sp.In x (meetS s t).1 := by
  have := hx.1; have := hx.2; have := hy.1; have := hy.2
  rw [meet_yes (s := s) (t := t) (by omega)]
  exact ⟨rfl, by show max s.lo t.lo ≤ x; omega, by show x ≤ min s.hi t.hi; omega⟩
theorem where_ok (op : Nat) (hs : s.Ok) : (whereS op s t).2 = true → (whereS op s t).1.lo ≤ (whereS op s t).1.hi ∧ s.lo ≤ (whereS op s t).1.lo ∧ (whereS op s t).1.hi ≤ s.hi := by
  have r := hs.r
  have key : (otherS s t).2 = true → (otherS s t).1.lo ≤ (otherS s t).1.hi ∧ s.lo ≤ (otherS s t).1.lo ∧ (otherS s t).1.hi ≤ s.hi := by
    unfold otherS
    by_cases c : t.lo = t.hi
    · rw [if_neg (show ¬ ¬ t.lo = t.hi by omega)]
      by_cases c1 : s.lo = t.lo ∧ s.hi = t.hi
      · rw [if_pos c1]; exact fun e => by cases e
      · rw [if_neg c1]
        by_cases c2 : s.lo = t.lo
        · rw [if_pos c2]; exact fun _ => ⟨by show s.lo + 1 ≤ s.hi; omega, by show s.lo ≤ s.lo + 1; omega, Nat.le_refl _⟩
        · rw [if_neg c2]
          by_cases c3 : s.hi = t.lo
          · rw [if_pos c3]; exact fun _ => ⟨by show s.lo ≤ s.hi - 1; omega, Nat.le_refl _, by show s.hi - 1 ≤ s.hi; omega⟩
          · rw [if_neg c3]; exact fun _ => ⟨r, Nat.le_refl _, Nat.le_refl _⟩
    · rw [if_pos c]; exact fun _ => ⟨r, Nat.le_refl _, Nat.le_refl _⟩
  by_cases c : op = 16; · subst c; exact meet_ok s t
  by_cases c : op = 80; · subst c; exact key
  by_cases c : op = 32
  · subst c
    show (if t.lo = 18446744073709551615 then ((⟨0, 0⟩, false) : Sp × Bool) else meetS s ⟨t.lo + 1, 18446744073709551615⟩).2 = true → (if t.lo = 18446744073709551615 then ((⟨0, 0⟩, false) : Sp × Bool) else meetS s ⟨t.lo + 1, 18446744073709551615⟩).1.lo ≤ (if t.lo = 18446744073709551615 then ((⟨0, 0⟩, false) : Sp × Bool) else meetS s ⟨t.lo + 1, 18446744073709551615⟩).1.hi ∧ s.lo ≤ (if t.lo = 18446744073709551615 then ((⟨0, 0⟩, false) : Sp × Bool) else meetS s ⟨t.lo + 1, 18446744073709551615⟩).1.lo ∧ (if t.lo = 18446744073709551615 then ((⟨0, 0⟩, false) : Sp × Bool) else meetS s ⟨t.lo + 1, 18446744073709551615⟩).1.hi ≤ s.hi
    by_cases a : t.lo = 18446744073709551615
    · rw [if_pos a]; exact fun e => by cases e
    · rw [if_neg a]; exact meet_ok _ _
  by_cases c : op = 48
  · subst c; exact meet_ok _ _
  by_cases c : op = 160
  · subst c
    show (if t.hi = 0 then ((⟨0, 0⟩, false) : Sp × Bool) else meetS s ⟨0, t.hi - 1⟩).2 = true → (if t.hi = 0 then ((⟨0, 0⟩, false) : Sp × Bool) else meetS s ⟨0, t.hi - 1⟩).1.lo ≤ (if t.hi = 0 then ((⟨0, 0⟩, false) : Sp × Bool) else meetS s ⟨0, t.hi - 1⟩).1.hi ∧ s.lo ≤ (if t.hi = 0 then ((⟨0, 0⟩, false) : Sp × Bool) else meetS s ⟨0, t.hi - 1⟩).1.lo ∧ (if t.hi = 0 then ((⟨0, 0⟩, false) : Sp × Bool) else meetS s ⟨0, t.hi - 1⟩).1.hi ≤ s.hi
    by_cases a : t.hi = 0
    · rw [if_pos a]; exact fun e => by cases e
    · rw [if_neg a]; exact meet_ok _ _
  by_cases c : op = 176
  · subst c; exact meet_ok _ _
  · have e : ∀ s t, whereS op s t = (s, true) := fun s t => by unfold whereS; simp only [*, if_false]
    simp only [e]
    exact fun _ => ⟨r, Nat.le_refl _, Nat.le_refl _⟩
/-- A number of s for which the test holds against a number of t is left. -/
theorem where_in (op : Nat) (hx : Sp.In x s) (hy : Sp.In y t) (ls : s.hi < 18446744073709551616) (lt : t.hi < 18446744073709551616) (h : T 64 op x y = true) : (whereS op s t).2 = true ∧ Sp.In x (whereS op s t).1 := by
  have x1 := hx.1; have x2 := hx.2; have y1 := hy.1; have y2 := hy.2
  have ex : x % 2 ^ 64 = x := Nat.mod_eq_of_lt (show x < 18446744073709551616 by omega)
  have ey : y % 2 ^ 64 = y := Nat.mod_eq_of_lt (show y < 18446744073709551616 by omega)
  unfold T at h
  rw [ex, ey] at h
  by_cases c : op = 16
  · subst c
    have e : x = y := of_decide_eq_true h
    subst e
    exact meet_in hx hy
  by_cases c : op = 80
  · subst c
    have e : ¬ x = y := of_decide_eq_true h
    show (otherS s t).2 = true ∧ Sp.In x (otherS s t).1
    unfold otherS
    by_cases c : t.lo = t.hi
    · rw [if_neg (show ¬ ¬ t.lo = t.hi by omega), if_neg (show ¬ (s.lo = t.lo ∧ s.hi = t.hi) by omega)]
      by_cases c2 : s.lo = t.lo
      · rw [if_pos c2]; exact ⟨rfl, by show s.lo + 1 ≤ x; omega, hx.2⟩
      · rw [if_neg c2]
        by_cases c3 : s.hi = t.lo
        · rw [if_pos c3]; exact ⟨rfl, hx.1, by show x ≤ s.hi - 1; omega⟩
        · rw [if_neg c3]; exact ⟨rfl, hx⟩
    · rw [if_pos c]; exact ⟨rfl, hx⟩
  by_cases c : op = 32
  · subst c
    have e : y < x := of_decide_eq_true h
    show (if t.lo = 18446744073709551615 then ((⟨0, 0⟩, false) : Sp × Bool) else meetS s ⟨t.lo + 1, 18446744073709551615⟩).2 = true ∧ Sp.In x (if t.lo = 18446744073709551615 then ((⟨0, 0⟩, false) : Sp × Bool) else meetS s ⟨t.lo + 1, 18446744073709551615⟩).1
    rw [if_neg (by omega)]
    exact meet_in hx ⟨by show t.lo + 1 ≤ x; omega, by show x ≤ 18446744073709551615; omega⟩
  by_cases c : op = 48
  · subst c
    have e : y ≤ x := of_decide_eq_true h
    exact meet_in hx ⟨by show t.lo ≤ x; omega, by show x ≤ 18446744073709551615; omega⟩
  by_cases c : op = 160
  · subst c
    have e : x < y := of_decide_eq_true h
    show (if t.hi = 0 then ((⟨0, 0⟩, false) : Sp × Bool) else meetS s ⟨0, t.hi - 1⟩).2 = true ∧ Sp.In x (if t.hi = 0 then ((⟨0, 0⟩, false) : Sp × Bool) else meetS s ⟨0, t.hi - 1⟩).1
    rw [if_neg (by omega)]
    exact meet_in hx ⟨Nat.zero_le _, by show x ≤ t.hi - 1; omega⟩
  by_cases c : op = 176
  · subst c
    have e : x ≤ y := of_decide_eq_true h
    exact meet_in hx ⟨Nat.zero_le _, by show x ≤ t.hi; omega⟩
  · have e : ∀ s t, whereS op s t = (s, true) := fun s t => by unfold whereS; simp only [*, if_false]
    simp only [e]
    exact ⟨True.intro, x1, x2⟩
end

end Go.Proofs.Ytboiakahhkihiaa
