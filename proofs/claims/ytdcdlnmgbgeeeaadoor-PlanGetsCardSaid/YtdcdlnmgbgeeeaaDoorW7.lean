import Derived.Test.YtdcdlnmgbgeeeaaDoorWa
import Derived.Test.YtdcdlnmgbgeeeaaDoorWm2
import Derived.Deep.QuietTactic
import Derived.BigQuiet
namespace Go.Proofs.YtdcdlnmgbgeeeaaDoor
open Go.RowKit Go.Shelf

/-- the numbers xs as values -/
abbrev i64s (xs : List Int) : List Value := xs.map (Value.int .i64)


theorem take_step {α : Type} {l m : List α} {k : Nat} {x : α} (h : l.take k = m.take k) (hx : l[k]? = some x) (hy : m[k]? = some x) : l.take (k + 1) = m.take (k + 1) := by
  rw [List.take_add_one, List.take_add_one, h, hx, hy]


set_option maxRecDepth 100000 in
set_option maxHeartbeats 1000000 in
theorem Same_any (A1 A2 : Option Addr) (n1 n2 c1 c2 B1 B2 : Nat) (xs ys : List Int) (w : World) (hx : Rd w B1 A1 (i64s xs)) (hy : Rd w B2 A2 (i64s ys)) (hn1 : xs.length = n1) (hn2 : ys.length = n2)
    (hm1 : n1 ≤ maxLen) :
    Calls Tryd.prog 33 #[.slice A1 n1 c1, .slice A2 n2 c2] w fun e w' => e = .returned (.bool (decide (xs = ys))) ∧ ∃ n, w' = w.drewN n := by
  unfold maxLen at hm1
  by_cases hne : n1 = n2
  · subst hne
    go_enter Tryd.func33, Tryd.ntmps33
    go_wp2
    go_loopw [5] (fun ix wr => ∃ (k : Nat) (nd : Nat), ix = .int .i64 (k : Int) ∧ k ≤ n1 ∧ Hid (xs.take k = ys.take k) ∧ Hid (wr = w.drewN nd)) (fun ix _ => n1 - (intOf ix).toNat)
    case atStart => exact ⟨0, 0, rfl, by omega, Lib.hid rfl, Lib.hid rfl⟩
    case round =>
      obtain ⟨k, nd, rfl, hk, hT, hW⟩ := hrel
      have hx' : Rd wr B1 A1 (i64s xs) := by rw [hW.out]; exact hx
      have hy' : Rd wr B2 A2 (i64s ys) := by rw [hW.out]; exact hy
      by_cases hlt : k < n1
      · obtain ⟨x, hxk⟩ : ∃ x, xs[k]? = some x := ⟨xs[k], List.getElem?_eq_getElem (by omega)⟩
        obtain ⟨y, hyk⟩ : ∃ y, ys[k]? = some y := ⟨ys[k], List.getElem?_eq_getElem (by omega)⟩
        obtain ⟨ad1, rfl, _, hc1⟩ := hx'.getU hxk
        obtain ⟨ad2, rfl, _, hc2⟩ := hy'.getU hyk
        have HX := Lib.hid hxk
        have HY := Lib.hid hyk
        clear hxk hyk hx hy hx' hy'
        have hr : decide ((k : Int) < (n1 : Int)) = true := by simp; omega
        by_cases hxy : x = y
        · subst hxy
          go_wp2_with fail
          go_quiet (fail)
          go_wp2
          go_roundw
          case rel => exact ⟨k + 1, nd + _, by go_num, by omega, Lib.hid (take_step hT.out HX.out HY.out), Lib.hid (by rw [hW.out, World.drewN_drewN])⟩
          case measure => simp [intOf]; omega
        · have hb : (x != y) = true := by rw [bne_iff_ne]; exact hxy
          have hne : xs ≠ ys := by
            intro e
            have h1 := HX.out
            rw [e, HY.out] at h1
            exact hxy (by injection h1 with h1; exact h1.symm)
          have HE := Lib.hid (show decide (xs = ys) = false by simpa using hne)
          clear hne hxy
          go_wp2_with fail
          go_quiet (fail)
          go_wp2
          go_ret
          exact ⟨ret_bool HE.out.symm, nd + _, by rw [hW.out, World.drewN_drewN]⟩
      · have HE : Hid (decide (xs = ys) = true) := by
          have h := hT.out
          rw [List.take_of_length_le (by omega), List.take_of_length_le (by omega)] at h
          exact Lib.hid (by simpa using h)
        clear hx hy hx' hy'
        go_wp2
        go_ret
        exact ⟨ret_bool HE.out.symm, nd, hW.out⟩
  · have HE : Hid (decide (xs = ys) = false) := by
      have : xs ≠ ys := by intro e; apply hne; rw [← hn1, ← hn2, e]
      exact Lib.hid (by simpa using this)
    have hb : ((n1 : Int) != (n2 : Int)) = true := by rw [bne_iff_ne]; omega
    clear hx hy
    go_enter Tryd.func33, Tryd.ntmps33
    go_wp2
    go_ret
    exact ⟨ret_bool HE.out.symm, 0, rfl⟩
end Go.Proofs.YtdcdlnmgbgeeeaaDoor
