import Derived.Test.YtnipaifkgjbanaaW2
import Derived.Test.YtnipaifkgjbanaaW4
namespace Go.Proofs.Ytnipaifkgjbanaa
open Go.RowKit Go.Shelf

theorem PutInt_any (k : Int) (w : World) (h0 : -9223372036854775808 ≤ k) (h1 : k ≤ 9223372036854775807) :
    Calls Try.prog 14 #[.int .i64 k] w fun e W' => ∃ v, e = .returned v ∧ W'.ownsRow w.heap.size 5 1 v (Wm.pint k).length ((Wm.pint k).map (Value.int .u8)) ∧ Below w.heap.size w W' :=
  callsIn_wide.1 (PutInt_in Fence.wide 3 trivial trivial trivial trivial rfl (by omega) k w h0 h1 (callsIn_wide.2 (fold_any k _ h0 h1)))

set_option maxRecDepth 100000 in
set_option maxHeartbeats 1000000 in
theorem PutText_many (A : Option Addr) (n cap : Nat) (w : World) (hn : 4096 < n) :
    Calls Try.prog 16 #[.slice A n cap] w fun e w' => e = .returned (.tuple #[.slice none 0 0, .int .i64 2]) ∧ w = w' := by
  go_enter Try.func16, Try.ntmps16
  go_wp2
  go_ret2
  exact ⟨rfl, rfl⟩

set_option maxRecDepth 100000 in
set_option maxHeartbeats 1000000 in
theorem PutText_any (A : Option Addr) (n cap B : Nat) (xs : List Int) (w : World) (hx : Rd w B A (u8s xs)) (hn : xs.length = n) (hB : B ≤ w.heap.size) (hle : n ≤ 4096) :
    Calls Try.prog 16 #[.slice A n cap] w fun e w' => ∃ v, e = .returned (.tuple #[v, .int .i64 0]) ∧
      w'.ownsRow w.heap.size 5 1 v (Wm.ptext xs).length (u8s (Wm.ptext xs)) ∧ Below w.heap.size w w' := by
  obtain ⟨i0, hi, hz0, hz1, hz2⟩ := info_parts info_u8
  have hpl := Wm.pint_len (n : Int)
  have HN := Lib.hid hn
  clear hn
  go_enter Try.func16, Try.ntmps16
  go_wp2_with (first | (go_at_call 14; refine (PutInt_any _ _ (by omega) (by omega)).mono ?_; rintro e w1 ⟨v, rfl, hrow, hb⟩) | (at_builtin; (refine wpList_app rfl _ _ 22 rfl w.heap.size 5 i0 (.int .u8 0) 1 Try.underlying22 hi hz0 hz1 hz2 rfl _ _ _ rfl hrow B A n cap (u8s xs) rfl (by rw [List.length_map]; exact HN.out) (hx.below (hb.mono hB)) (oneCell_ints _ _) (by unfold maxLen; omega) (by omega) hb.size ?_); intro v' w2 hown' hgrow _))
  go_ret2
  refine ⟨v', rfl, ?_, below_app hb hrow hgrow hb.size⟩
  have e1 : (Wm.ptext xs).length = (Wm.pint (n : Int)).length + n := by unfold Wm.ptext; rw [HN.out, List.length_append, HN.out]
  have e2 : u8s (Wm.ptext xs) = u8s (Wm.pint (n : Int)) ++ u8s xs := by unfold Wm.ptext; rw [HN.out]; simp [u8s]
  rw [e1, e2]
  exact hown'

set_option maxRecDepth 100000 in
set_option maxHeartbeats 1000000 in
theorem RPutText_many (A : Option Addr) (n cap : Nat) (w : World) (hn : 4096 < n) :
    Calls Try.prog 17 #[.slice A n cap] w fun e w' => e = .returned (.tuple #[.slice none 0 0, .int .i64 2]) ∧ w = w' := by
  go_enter Try.func17, Try.ntmps17
  go_wp2
  go_ret2
  exact ⟨rfl, rfl⟩

set_option maxRecDepth 100000 in
set_option maxHeartbeats 1000000 in
theorem RPutText_any (A : Option Addr) (n cap B : Nat) (xs : List Int) (w : World) (hx : Rd w B A (u8s xs)) (hn : xs.length = n) (hB : B ≤ w.heap.size) (hle : n ≤ 4096) :
    Calls Try.prog 17 #[.slice A n cap] w fun e w' => ∃ v, e = .returned (.tuple #[v, .int .i64 0]) ∧
      w'.ownsRow w.heap.size 5 1 v (Wm.ptext xs).length (u8s (Wm.ptext xs)) ∧ Below w.heap.size w w' := by
  obtain ⟨i0, hi, hz0, hz1, hz2⟩ := info_parts info_u8
  have hpl := Wm.pint_len (n : Int)
  have HN := Lib.hid hn
  clear hn
  go_enter Try.func17, Try.ntmps17
  go_wp2_with (first | (go_at_call 15; refine (RPutInt_any _ _ (by omega) (by omega)).mono ?_; rintro e w1 ⟨v, rfl, hrow, hb⟩) | (at_builtin; refine wpList_app rfl _ _ 22 rfl w.heap.size 5 i0 (.int .u8 0) 1 Try.underlying22 hi hz0 hz1 hz2 rfl _ _ _ rfl hrow B A n cap (u8s xs) rfl (by rw [List.length_map]; exact HN.out) (hx.below (hb.mono hB)) (oneCell_ints _ _) (by unfold maxLen; omega) (by omega) hb.size ?_; intro v' w2 hown' hgrow _))
  go_ret2
  refine ⟨v', rfl, ?_, below_app hb hrow hgrow hb.size⟩
  have e1 : (Wm.ptext xs).length = (Wm.pint (n : Int)).length + n := by unfold Wm.ptext; rw [HN.out, List.length_append, HN.out]
  have e2 : u8s (Wm.ptext xs) = u8s (Wm.pint (n : Int)) ++ u8s xs := by unfold Wm.ptext; rw [HN.out]; simp [u8s]
  rw [e1, e2]
  exact hown'

end Go.Proofs.Ytnipaifkgjbanaa
