/- What is alike, bounded, sorted: the program's. -/
import Derived.Test.YtdcdlnmgbgeeeaaDoorPa
namespace Go.Proofs.YtdcdlnmgbgeeeaaDoor
open Go.RowKit Go.Shelf

set_option maxRecDepth 100000 in
set_option maxHeartbeats 1000000 in
theorem equalI_any (A1 A2 : Option Addr) (n1 n2 c1 c2 B1 B2 : Nat) (xs ys : List Int) (w : World) (hx : Rd w B1 A1 (i64s xs)) (hy : Rd w B2 A2 (i64s ys)) (hn1 : xs.length = n1) (hn2 : ys.length = n2) (hm1 : n1 ≤ maxLen) :
    Calls Tryd.prog 34 #[.slice A1 n1 c1, .slice A2 n2 c2] w fun e w' => e = .returned (.bool (Pm.ask (xs = ys))) ∧ w = w' := by
  unfold maxLen at hm1
  by_cases hne : n1 = n2
  · subst hne
    go_enter Tryd.func34, Tryd.ntmps34
    go_wp2
    go_loopw [14] (fun ix wr => ∃ (k : Nat), ix = .int .i64 (k : Int) ∧ k ≤ n1 ∧ Hid (xs.take k = ys.take k) ∧ Hid (wr = w)) (fun ix _ => n1 - (intOf ix).toNat)
    case atStart => exact ⟨0, rfl, by omega, Lib.hid rfl, Lib.hid rfl⟩
    case round =>
      obtain ⟨k, rfl, hk, hT, hW⟩ := hrel
      have hx' : Rd wr B1 A1 (i64s xs) := by rw [hW.out]; exact hx
      have hy' : Rd wr B2 A2 (i64s ys) := by rw [hW.out]; exact hy
      by_cases hlt : k < n1
      · obtain ⟨x, hxk⟩ : ∃ x, xs[k]? = some x := ⟨xs[k], List.getElem?_eq_getElem (by omega)⟩
        obtain ⟨y, hyk⟩ : ∃ y, ys[k]? = some y := ⟨ys[k], List.getElem?_eq_getElem (by omega)⟩
        obtain ⟨ad1, rfl, _, hc1⟩ := hx'.getU hxk
        obtain ⟨ad2, rfl, _, hc2⟩ := hy'.getU hyk
        have HX := Lib.hid hxk
        have HY := Lib.hid hyk
        clear hxk hyk hx hy hx' hy'
        by_cases hxy : x = y
        · subst hxy
          have hb : (x != x) = false := by simp
          go_wp2
          go_roundw
          case rel => exact ⟨k + 1, by go_num, by omega, Lib.hid (take_step hT.out HX.out HY.out), hW⟩
          case measure => simp [intOf]; omega
        · have hb : (x != y) = true := by rw [bne_iff_ne]; exact hxy
          have hne : xs ≠ ys := by
            intro e
            have h1 := HX.out
            rw [e, HY.out] at h1
            exact hxy (by injection h1 with h1; exact h1.symm)
          have HE := Lib.hid (Pm.ask_no hne)
          clear hne hxy
          go_wp2
          go_ret
          exact ⟨ret_bool HE.out.symm, hW.out.symm⟩
      · have HE : Hid (Pm.ask (xs = ys) = true) := by
          have h := hT.out
          rw [List.take_of_length_le (by omega), List.take_of_length_le (by omega)] at h
          exact Lib.hid (Pm.ask_yes h)
        clear hx hy hx' hy'
        go_wp2
        go_ret
        exact ⟨ret_bool HE.out.symm, hW.out.symm⟩
  · have HE : Hid (Pm.ask (xs = ys) = false) := by
      have : xs ≠ ys := by intro e; apply hne; rw [← hn1, ← hn2, e]
      exact Lib.hid (Pm.ask_no this)
    have hb : ((n1 : Int) != (n2 : Int)) = true := by rw [bne_iff_ne]; omega
    clear hx hy
    go_enter Tryd.func34, Tryd.ntmps34
    go_wp2
    go_ret
    exact ⟨ret_bool HE.out.symm, rfl⟩

set_option maxRecDepth 100000 in
set_option maxHeartbeats 1000000 in
theorem equalL_any (A1 A2 : Option Addr) (n1 n2 c1 c2 B1 B2 : Nat) (xs ys : List Int) (w : World) (hx : Rd w B1 A1 (i64s xs)) (hy : Rd w B2 A2 (i64s ys)) (hn1 : xs.length = n1) (hn2 : ys.length = n2) (hm1 : n1 ≤ maxLen) :
    Calls Tryd.prog 35 #[.slice A1 n1 c1, .slice A2 n2 c2] w fun e w' => e = .returned (.bool (Pm.ask (xs = ys))) ∧ w = w' := by
  unfold maxLen at hm1
  by_cases hne : n1 = n2
  · subst hne
    go_enter Tryd.func35, Tryd.ntmps35
    go_wp2
    go_loopw [14] (fun ix wr => ∃ (k : Nat), ix = .int .i64 (k : Int) ∧ k ≤ n1 ∧ Hid (xs.take k = ys.take k) ∧ Hid (wr = w)) (fun ix _ => n1 - (intOf ix).toNat)
    case atStart => exact ⟨0, rfl, by omega, Lib.hid rfl, Lib.hid rfl⟩
    case round =>
      obtain ⟨k, rfl, hk, hT, hW⟩ := hrel
      have hx' : Rd wr B1 A1 (i64s xs) := by rw [hW.out]; exact hx
      have hy' : Rd wr B2 A2 (i64s ys) := by rw [hW.out]; exact hy
      by_cases hlt : k < n1
      · obtain ⟨x, hxk⟩ : ∃ x, xs[k]? = some x := ⟨xs[k], List.getElem?_eq_getElem (by omega)⟩
        obtain ⟨y, hyk⟩ : ∃ y, ys[k]? = some y := ⟨ys[k], List.getElem?_eq_getElem (by omega)⟩
        obtain ⟨ad1, rfl, _, hc1⟩ := hx'.getU hxk
        obtain ⟨ad2, rfl, _, hc2⟩ := hy'.getU hyk
        have HX := Lib.hid hxk
        have HY := Lib.hid hyk
        clear hxk hyk hx hy hx' hy'
        by_cases hxy : x = y
        · subst hxy
          have hb : (x != x) = false := by simp
          go_wp2
          go_roundw
          case rel => exact ⟨k + 1, by go_num, by omega, Lib.hid (take_step hT.out HX.out HY.out), hW⟩
          case measure => simp [intOf]; omega
        · have hb : (x != y) = true := by rw [bne_iff_ne]; exact hxy
          have hne : xs ≠ ys := by
            intro e
            have h1 := HX.out
            rw [e, HY.out] at h1
            exact hxy (by injection h1 with h1; exact h1.symm)
          have HE := Lib.hid (Pm.ask_no hne)
          clear hne hxy
          go_wp2
          go_ret
          exact ⟨ret_bool HE.out.symm, hW.out.symm⟩
      · have HE : Hid (Pm.ask (xs = ys) = true) := by
          have h := hT.out
          rw [List.take_of_length_le (by omega), List.take_of_length_le (by omega)] at h
          exact Lib.hid (Pm.ask_yes h)
        clear hx hy hx' hy'
        go_wp2
        go_ret
        exact ⟨ret_bool HE.out.symm, hW.out.symm⟩
  · have HE : Hid (Pm.ask (xs = ys) = false) := by
      have : xs ≠ ys := by intro e; apply hne; rw [← hn1, ← hn2, e]
      exact Lib.hid (Pm.ask_no this)
    have hb : ((n1 : Int) != (n2 : Int)) = true := by rw [bne_iff_ne]; omega
    clear hx hy
    go_enter Tryd.func35, Tryd.ntmps35
    go_wp2
    go_ret
    exact ⟨ret_bool HE.out.symm, rfl⟩

set_option maxRecDepth 100000 in
set_option maxHeartbeats 1000000 in
theorem boundedI_any (A : Option Addr) (n c B : Nat) (xs : List Int) (size : Nat) (most : Int) (w : World) (hx : Rd w B A (i64s xs)) (hn : xs.length = n) (hm1 : n ≤ maxLen) :
    Calls Tryd.prog 38 #[.slice A n c, .int .i64 (size : Int), .int .i64 most] w fun e w' => e = .returned (.bool (Pm.ask (Pm.Bd xs size most))) ∧ w = w' := by
  unfold maxLen at hm1
  by_cases hs : size < n
  · have HE : Hid (Pm.ask (Pm.Bd xs size most) = false) := Pm.ask_no (fun h => by have := h.1; omega)
    clear hx
    go_enter Tryd.func38, Tryd.ntmps38
    go_wp2
    go_ret
    exact ⟨ret_bool HE.out.symm, rfl⟩
  · go_enter Tryd.func38, Tryd.ntmps38
    go_wp2
    go_loopw [15] (fun ix wr => ∃ (k : Nat), ix = .int .i64 (k : Int) ∧ k ≤ n ∧ Hid (∀ m ∈ xs.take k, 0 ≤ m ∧ m ≤ most) ∧ Hid (wr = w)) (fun ix _ => n - (intOf ix).toNat)
    case atStart => exact ⟨0, rfl, by omega, Lib.hid (fun m h => absurd h List.not_mem_nil), Lib.hid rfl⟩
    case round =>
      obtain ⟨k, rfl, hk, hT, hW⟩ := hrel
      have hx' : Rd wr B A (i64s xs) := by rw [hW.out]; exact hx
      by_cases hlt : k < n
      · obtain ⟨x, hxk⟩ : ∃ x, xs[k]? = some x := ⟨xs[k], List.getElem?_eq_getElem (by omega)⟩
        obtain ⟨ad1, rfl, _, hc1⟩ := hx'.getU hxk
        by_cases h0 : x < 0
        · have HE : Hid (Pm.ask (Pm.Bd xs size most) = false) := Pm.ask_no (fun h => by have := (h.2 x (List.mem_of_getElem? hxk)).1; omega)
          clear hxk hx hx'
          go_wp2
          go_ret
          exact ⟨ret_bool HE.out.symm, hW.out.symm⟩
        · by_cases h1 : most < x
          · have HE : Hid (Pm.ask (Pm.Bd xs size most) = false) := Pm.ask_no (fun h => by have := (h.2 x (List.mem_of_getElem? hxk)).2; omega)
            clear hxk hx hx'
            go_wp2
            go_ret
            exact ⟨ret_bool HE.out.symm, hW.out.symm⟩
          · have HS : Hid (∀ m ∈ xs.take (k + 1), 0 ≤ m ∧ m ≤ most) := by
              intro m hm
              rw [List.take_add_one, hxk] at hm
              rcases List.mem_append.1 hm with h | h
              · exact hT.out m h
              · simp at h; subst h; omega
            clear hxk hx hx'
            go_wp2
            go_roundw
            case rel => exact ⟨k + 1, by go_num, by omega, HS, hW⟩
            case measure => simp [intOf]; omega
      · have HE : Hid (Pm.ask (Pm.Bd xs size most) = true) := by
          refine Pm.ask_yes ⟨by omega, ?_⟩
          have h := hT.out
          rw [List.take_of_length_le (by omega)] at h
          exact h
        clear hx hx'
        go_wp2
        go_ret
        exact ⟨ret_bool HE.out.symm, hW.out.symm⟩

set_option maxRecDepth 100000 in
set_option maxHeartbeats 1000000 in
theorem boundedL_any (A : Option Addr) (n c B : Nat) (xs : List Int) (size : Nat) (most : Int) (w : World) (hx : Rd w B A (i64s xs)) (hn : xs.length = n) (hm1 : n ≤ maxLen) :
    Calls Tryd.prog 39 #[.slice A n c, .int .i64 (size : Int), .int .i64 most] w fun e w' => e = .returned (.bool (Pm.ask (Pm.Bd xs size most))) ∧ w = w' := by
  unfold maxLen at hm1
  by_cases hs : size < n
  · have HE : Hid (Pm.ask (Pm.Bd xs size most) = false) := Pm.ask_no (fun h => by have := h.1; omega)
    clear hx
    go_enter Tryd.func39, Tryd.ntmps39
    go_wp2
    go_ret
    exact ⟨ret_bool HE.out.symm, rfl⟩
  · go_enter Tryd.func39, Tryd.ntmps39
    go_wp2
    go_loopw [15] (fun ix wr => ∃ (k : Nat), ix = .int .i64 (k : Int) ∧ k ≤ n ∧ Hid (∀ m ∈ xs.take k, 0 ≤ m ∧ m ≤ most) ∧ Hid (wr = w)) (fun ix _ => n - (intOf ix).toNat)
    case atStart => exact ⟨0, rfl, by omega, Lib.hid (fun m h => absurd h List.not_mem_nil), Lib.hid rfl⟩
    case round =>
      obtain ⟨k, rfl, hk, hT, hW⟩ := hrel
      have hx' : Rd wr B A (i64s xs) := by rw [hW.out]; exact hx
      by_cases hlt : k < n
      · obtain ⟨x, hxk⟩ : ∃ x, xs[k]? = some x := ⟨xs[k], List.getElem?_eq_getElem (by omega)⟩
        obtain ⟨ad1, rfl, _, hc1⟩ := hx'.getU hxk
        by_cases h0 : x < 0
        · have HE : Hid (Pm.ask (Pm.Bd xs size most) = false) := Pm.ask_no (fun h => by have := (h.2 x (List.mem_of_getElem? hxk)).1; omega)
          clear hxk hx hx'
          go_wp2
          go_ret
          exact ⟨ret_bool HE.out.symm, hW.out.symm⟩
        · by_cases h1 : most < x
          · have HE : Hid (Pm.ask (Pm.Bd xs size most) = false) := Pm.ask_no (fun h => by have := (h.2 x (List.mem_of_getElem? hxk)).2; omega)
            clear hxk hx hx'
            go_wp2
            go_ret
            exact ⟨ret_bool HE.out.symm, hW.out.symm⟩
          · have HS : Hid (∀ m ∈ xs.take (k + 1), 0 ≤ m ∧ m ≤ most) := by
              intro m hm
              rw [List.take_add_one, hxk] at hm
              rcases List.mem_append.1 hm with h | h
              · exact hT.out m h
              · simp at h; subst h; omega
            clear hxk hx hx'
            go_wp2
            go_roundw
            case rel => exact ⟨k + 1, by go_num, by omega, HS, hW⟩
            case measure => simp [intOf]; omega
      · have HE : Hid (Pm.ask (Pm.Bd xs size most) = true) := by
          refine Pm.ask_yes ⟨by omega, ?_⟩
          have h := hT.out
          rw [List.take_of_length_le (by omega)] at h
          exact h
        clear hx hx'
        go_wp2
        go_ret
        exact ⟨ret_bool HE.out.symm, hW.out.symm⟩

/-! ### sorted -/
set_option maxRecDepth 100000 in
theorem isNaN_any (n : Int) (w : World) : Calls Tryd.prog 49 #[.int .i64 n] w fun e w' => e = .returned (.bool false) ∧ w = w' := by
  have hb : (n != n) = false := by simp
  go_enter Tryd.func49, Tryd.ntmps49
  go_wp2
  go_ret
  exact ⟨ret_bool (by simp), rfl⟩

set_option maxRecDepth 100000 in
theorem Less_any (a b : Int) (w : World) : Calls Tryd.prog 45 #[.int .i64 a, .int .i64 b] w fun e w' => e = .returned (.bool (decide (a < b))) ∧ w = w' := by
  go_enter Tryd.func45, Tryd.ntmps45
  go_wp2_with (go_at_call 49; refine (isNaN_any a _).mono ?_; rintro e w' ⟨rfl, rfl⟩)
  go_ret
  exact ⟨rfl, rfl⟩

theorem wrap_id {n : Int} (h1 : -9223372036854775808 ≤ n) (h2 : n ≤ 9223372036854775807) : IntKind.i64.wrap n = n := by
  simp [IntKind.wrap, IntKind.signed, IntKind.bits]; omega

theorem sd_step {xs : List Int} {k : Nat} {x y : Int} (hx : xs[k + 1]? = some x) (hy : xs[k]? = some y) (h : ∀ j, k + 1 ≤ j → j + 1 < xs.length → xs.getD j 0 ≤ xs.getD (j + 1) 0) (hl : ¬ x < y) :
    ∀ j, k ≤ j → j + 1 < xs.length → xs.getD j 0 ≤ xs.getD (j + 1) 0 := by
  intro j hj hjl
  by_cases e : j = k
  · subst e
    rw [List.getD_eq_getElem?_getD, List.getD_eq_getElem?_getD, hx, hy]
    simp; omega
  · exact h j (by omega) hjl

set_option maxRecDepth 100000 in
set_option maxHeartbeats 1000000 in
theorem IsSorted_any (A : Option Addr) (n c B : Nat) (xs : List Int) (w : World) (hx : Rd w B A (i64s xs)) (hn : xs.length = n) (hm1 : n ≤ maxLen) :
    Calls Tryd.prog 40 #[.slice A n c] w fun e w' => e = .returned (.bool (Pm.ask (Pm.Sd xs))) ∧ ∃ d, w' = w.drewN d := by
  unfold maxLen at hm1
  go_enter Tryd.func40, Tryd.ntmps40
  go_wp2
  go_loopw [3] (fun ix wr => ∃ (k : Int) (nd : Nat), ix = .int .i64 k ∧ -1 ≤ k ∧ k ≤ (n : Int) - 1 ∧ Hid (∀ j : Nat, k ≤ j → j + 1 < xs.length → xs.getD j 0 ≤ xs.getD (j + 1) 0) ∧ Hid (wr = w.drewN nd)) (fun ix _ => (intOf ix).toNat)
  case atStart => exact ⟨(n : Int) - 1, 0, by go_num, by omega, by omega, Lib.hid (fun j h1 h2 => by omega), Lib.hid rfl⟩
  case round =>
    obtain ⟨k, nd, rfl, hk, hk2, hT, hW⟩ := hrel
    have hx' : Rd wr B A (i64s xs) := by rw [hW.out]; exact hx
    by_cases hlt : 0 < k
    · obtain ⟨m, rfl⟩ := Int.eq_ofNat_of_zero_le (show 0 ≤ k by omega)
      obtain ⟨i, hi⟩ : ∃ i : Nat, m = i + 1 := ⟨m - 1, by omega⟩
      obtain ⟨x, hxk⟩ : ∃ x, xs[m]? = some x := ⟨xs[m]'(by omega), List.getElem?_eq_getElem (by omega)⟩
      obtain ⟨y, hyk⟩ : ∃ y, xs[i]? = some y := ⟨xs[i]'(by omega), List.getElem?_eq_getElem (by omega)⟩
      obtain ⟨ad1, rfl, _, hc1⟩ := hx'.getU hxk
      obtain ⟨ad2, e2, _, hc2⟩ := hx'.getU hyk
      obtain rfl : ad1 = ad2 := by injection e2
      have hmn : (m : Int) < (n : Int) := by omega
      have him : (i : Int) < (n : Int) := by omega
      have hi1 : (m : Int) - 1 = (i : Int) := by omega
      have hi2 : IntKind.i64.wrap ((m : Int) - 1) = (i : Int) := by rw [hi1]; exact wrap_id (by omega) (by omega)
      have HI := Lib.hid hi
      rw [hi] at hxk
      clear e2 hi
      by_cases hl : x < y
      · have HE : Hid (Pm.ask (Pm.Sd xs) = false) := Pm.ask_no (fun h => by
          have hil : i + 1 < xs.length := (List.getElem?_eq_some_iff.1 hxk).1
          have := h i hil
          rw [List.getD_eq_getElem?_getD, List.getD_eq_getElem?_getD, hxk, hyk] at this
          simp at this; omega)
        clear hxk hyk hx hx' hT
        go_wp2_with fail
        go_quiet (first | (go_at_call 45; exact Calls.quiet_of_same ((Less_any x y _).mono fun _ _ h => ⟨h.1, h.2.symm⟩)))
        go_wp2
        go_ret
        exact ⟨ret_bool HE.out.symm, nd + _, by rw [hW.out, World.drewN_drewN]⟩
      · have HS := Lib.hid (sd_step hxk hyk (fun j h1 h2 => hT.out j (by have := HI.out; omega) h2) hl)
        clear hxk hyk hx hx' hT
        go_wp2_with fail
        go_quiet (first | (go_at_call 45; exact Calls.quiet_of_same ((Less_any x y _).mono fun _ _ h => ⟨h.1, h.2.symm⟩)))
        go_wp2
        go_roundw
        case rel => exact ⟨(i : Int), nd + _, by go_num, by omega, by omega, Lib.hid (fun j h1 h2 => HS.out j (by omega) h2), Lib.hid (by rw [hW.out, World.drewN_drewN])⟩
        case measure => simp [intOf]; omega
    · have HE : Hid (Pm.ask (Pm.Sd xs) = true) := Pm.ask_yes (fun j hj => hT.out j (by omega) hj)
      clear hx hx' hT
      go_wp2
      go_ret
      exact ⟨ret_bool HE.out.symm, nd, hW.out⟩
end Go.Proofs.YtdcdlnmgbgeeeaaDoor
