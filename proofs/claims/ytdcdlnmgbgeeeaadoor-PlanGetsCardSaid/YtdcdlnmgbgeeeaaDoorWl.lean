import Derived.Test.YtdcdlnmgbgeeeaaDoorW7
import Derived.Test.YtdcdlnmgbgeeeaaDoorWm4
import Derived.Lib.SliceRun
namespace Go.Proofs.YtdcdlnmgbgeeeaaDoor
open Go.RowKit Go.Shelf

/-- a test of a number that is not decided -/
theorem beq_or (a b : Int) : ((a == b) = true ∧ a = b) ∨ ((a == b) = false ∧ a ≠ b) := by
  by_cases h : a = b
  · exact .inl ⟨by simpa using h, h⟩
  · exact .inr ⟨by simpa using h, h⟩

set_option maxRecDepth 100000 in
set_option maxHeartbeats 1000000 in
theorem length_any (A : Option Addr) (n cap B : Nat) (xs : List Int) (t most : Int) (w : World) (hx : Rd w B A (u8s xs)) (hn : xs.length = n) (hnc : n ≤ cap) (hcap : cap ≤ maxLen) (hb : ∀ x ∈ xs, 0 ≤ x ∧ x ≤ 255)
    (t0 : -9223372036854775808 ≤ t) (t1 : t ≤ 9223372036854775807) :
    Calls Tryd.prog 46 #[.slice A n cap, .int .i64 t, .int .i64 most] w fun e w' =>
      e = .returned (.tuple #[.int .i64 (Wm.rlen xs t most).1, .int .i64 (Wm.rlen xs t most).2.1, .int .i64 (Wm.rlen xs t most).2.2]) ∧ w = w' := by
  have HC := Lib.hid (Int_any A n cap B xs t w hx hn hnc hcap hb t0 t1)
  by_cases he : (Wm.rd xs t).2.2 = 0
  · obtain ⟨m, h0, e1, h1, h2, h3, _, h4, h5⟩ := Wm.rd_some (n := (Wm.rd xs t).1) (k := (Wm.rd xs t).2.1) (by rw [← he]) hb
    clear e1
    by_cases hr : (Wm.rd xs t).1 < 0 ∨ most < (Wm.rd xs t).1
    · have HE := Lib.hid (Wm.rlen_many he hr)
      have HZ := Lib.hid he
      clear he hx hb
      generalize Wm.rd xs t = q at *
      obtain ⟨q1, q2, q3⟩ := q
      dsimp only at *
      obtain rfl : q3 = 0 := HZ.out
      by_cases hq : q1 < 0
      all_goals
        go_enter Tryd.func46, Tryd.ntmps46
        go_wp2_with (go_at_call 47; refine HC.out.mono ?_; rintro e w' ⟨rfl, rfl⟩)
        go_ret3
        rw [HE.out]
        exact ⟨rfl, rfl⟩
    · have HE := Lib.hid (Wm.rlen_ok he hr)
      have HZ := Lib.hid he
      clear he hx hb
      generalize Wm.rd xs t = q at *
      obtain ⟨q1, q2, q3⟩ := q
      dsimp only at *
      obtain rfl : q3 = 0 := HZ.out
      go_enter Tryd.func46, Tryd.ntmps46
      go_wp2_with (go_at_call 47; refine HC.out.mono ?_; rintro e w' ⟨rfl, rfl⟩)
      go_ret3
      rw [HE.out]
      exact ⟨rfl, rfl⟩
  · have HE := Lib.hid (Wm.rlen_err (most := most) he)
    clear hx hb
    generalize Wm.rd xs t = q at *
    obtain ⟨q1, q2, q3⟩ := q
    dsimp only at *
    have hq : (q3 != 0) = true := by rw [bne_iff_ne]; exact he
    clear he
    go_enter Tryd.func46, Tryd.ntmps46
    go_wp2_with (go_at_call 47; refine HC.out.mono ?_; rintro e w' ⟨rfl, rfl⟩)
    go_ret3
    rw [HE.out]
    exact ⟨rfl, rfl⟩


end Go.Proofs.YtdcdlnmgbgeeeaaDoor
