import Derived.Test.YtnipaifkgjbanaaKit3
import Derived.Test.YtnipaifkgjbanaaWm4
import Derived.Lib.SliceRun
namespace Go.Proofs.Ytnipaifkgjbanaa
open Go.RowKit Go.Shelf

/-- a test of a number that is not decided -/
theorem beq_or (a b : Int) : ((a == b) = true ∧ a = b) ∨ ((a == b) = false ∧ a ≠ b) := by
  by_cases h : a = b
  · exact .inl ⟨by simpa using h, h⟩
  · exact .inr ⟨by simpa using h, h⟩

set_option maxRecDepth 100000 in
set_option maxHeartbeats 1000000 in
theorem length_any (A : Option Addr) (n cap B : Nat) (xs : List Int) (t most : Int) (w : World) (hx : Rd w B A (u8s xs)) (hn : xs.length = n) (hnc : n ≤ cap) (hcap : cap ≤ maxLen) (hb : ∀ x ∈ xs, 0 ≤ x ∧ x ≤ 255)
    (t0 : -9223372036854775808 ≤ t) (t1 : t ≤ 9223372036854775807) :
    Calls Try.prog 28 #[.slice A n cap, .int .i64 t, .int .i64 most] w fun e w' =>
      e = .returned (.tuple #[.int .i64 (Wm.rlen xs t most).1, .int .i64 (Wm.rlen xs t most).2.1, .int .i64 (Wm.rlen xs t most).2.2]) ∧ w = w' := by
  have HC := Lib.hid (Int_any A n cap B xs t w hx hn hnc hcap hb t0 t1)
  by_cases he : (Wm.rd xs t).2.2 = 0
  · obtain ⟨m, h0, e1, h1, h2, h3, _, h4, h5⟩ := Wm.rd_some (n := (Wm.rd xs t).1) (k := (Wm.rd xs t).2.1) (by rw [← he]) hb
    clear e1
    by_cases hr : (Wm.rd xs t).1 < 0 ∨ most < (Wm.rd xs t).1
    · have HE := Lib.hid (Wm.rlen_many he hr)
      have HZ := Lib.hid he
      clear he hx hb
      generalize Wm.rd xs t = q at *
      obtain ⟨q1, q2, q3⟩ := q
      dsimp only at *
      obtain rfl : q3 = 0 := HZ.out
      by_cases hq : q1 < 0
      all_goals
        go_enter Try.func28, Try.ntmps28
        go_wp2_with (go_at_call 12; refine HC.out.mono ?_; rintro e w' ⟨rfl, rfl⟩)
        go_ret3
        rw [HE.out]
        exact ⟨rfl, rfl⟩
    · have HE := Lib.hid (Wm.rlen_ok he hr)
      have HZ := Lib.hid he
      clear he hx hb
      generalize Wm.rd xs t = q at *
      obtain ⟨q1, q2, q3⟩ := q
      dsimp only at *
      obtain rfl : q3 = 0 := HZ.out
      go_enter Try.func28, Try.ntmps28
      go_wp2_with (go_at_call 12; refine HC.out.mono ?_; rintro e w' ⟨rfl, rfl⟩)
      go_ret3
      rw [HE.out]
      exact ⟨rfl, rfl⟩
  · have HE := Lib.hid (Wm.rlen_err (most := most) he)
    clear hx hb
    generalize Wm.rd xs t = q at *
    obtain ⟨q1, q2, q3⟩ := q
    dsimp only at *
    have hq : (q3 != 0) = true := by rw [bne_iff_ne]; exact he
    clear he
    go_enter Try.func28, Try.ntmps28
    go_wp2_with (go_at_call 12; refine HC.out.mono ?_; rintro e w' ⟨rfl, rfl⟩)
    go_ret3
    rw [HE.out]
    exact ⟨rfl, rfl⟩

theorem own_none {w : World} {base : Nat} {e : TypeId} : w.ownsRow base e 1 (.slice none 0 0) ([] : List Int).length (u8s []) := World.ownsRow_nil _ _ _ _

set_option maxRecDepth 100000 in
set_option maxHeartbeats 1000000 in
theorem Clone_any (ad : Addr) (n cap B : Nat) (xs : List Int) (w : World) (hx : Rd w B (some ad) (u8s xs)) (hn : xs.length = n) (hB : B ≤ w.heap.size) (hle : n ≤ 140737488355328) :
    Calls Try.prog 29 #[.slice (some ad) n cap] w fun e w' => ∃ v, e = .returned v ∧ w'.ownsRow w.heap.size 5 1 v xs.length (u8s xs) ∧ Below w.heap.size w w' := by
  obtain ⟨i0, hi, hz0, hz1, hz2⟩ := info_parts info_u8
  have hnl := fun W => Lib.run_eql_slice_nil (P := Try.prog) W 22 5 (some ad) n cap 0 0 Try.underlying22
  have HN := Lib.hid hn
  have hown := World.ownsRow_made (base := w.heap.size) (e := 5) (size := 1) w #[] 0 (Nat.le_refl _) (by unfold maxLen; omega) (by simp)
  clear hn
  go_enter Try.func29, Try.ntmps29
  go_wp2_with (at_builtin; refine wpList_app rfl _ _ 22 rfl w.heap.size 5 i0 (.int .u8 0) 1 Try.underlying22 hi hz0 hz1 hz2 rfl _ _ _ rfl hown B (some ad) n cap (u8s xs) rfl (by rw [List.length_map]; exact HN.out) (hx.alloc hB _) (oneCell_ints _ _) (by unfold maxLen; omega) (by omega) (by simp) ?_; intro v' w2 hown' hgrow _)
  go_ret
  refine ⟨v', rfl, ?_, below_app ((Below.refl _ w).alloc (Nat.le_refl _) _) hown hgrow (by simp)⟩
  rw [HN.out]
  simpa [u8s] using hown'
end Go.Proofs.Ytnipaifkgjbanaa
