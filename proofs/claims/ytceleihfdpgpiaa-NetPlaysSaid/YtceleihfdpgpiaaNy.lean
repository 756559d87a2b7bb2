/- The live question of nets. -/
import Derived.Test.YtceleihfdpgpiaaNx
import Derived.Lib.SlBytesConst
namespace Go.Proofs.Ytceleihfdpgpiaa
open Go.RowKit Go.Shelf Km Kb

set_option maxRecDepth 100000 in
set_option maxHeartbeats 2000000 in
theorem head_any (w : World) : Calls Try.prog 7 #[] w fun e w' => e = .returned (.bool true) ∧ Below w.heap.size w w' := by
  have ok1 : Nm.Ok [[97]] := ⟨by decide, by decide⟩
  have ok2 : Nm.Ok [[97], [97]] := ⟨by decide, by decide⟩
  go_enter Try.func7, Try.ntmps7
  go_wp2_with (go_at_call 8; fail)
  refine (new_own w w (Below.refl _ _)).mono ?_
  rintro e w1 ⟨rfl, j1⟩
  have kc := Lib.run_convert_bytes_const (P := Try.prog) w1 30 5 #[.int .u8 97] 1 1 Try.underlying30 Try.underlying5
  rw [show (#[Value.int .u8 97] : Array Value).size = 1 from rfl] at kc
  have hstr : strOfNums [97] = ⟨#[97]⟩ := rfl
  have R1 : Rd (w1.alloc (.cells #[.int .u8 97] 5 (1, 2))) (w1.heap.size + 1) (some ⟨w1.heap.size, 0, none⟩) (u8s [97]) := Rd.new w1 (w1.heap.size + 1) (u8s [97]) 5 (1, 2) (by omega)
  have j1a := j1.below ((Below.refl _ w1).alloc (Nat.le_refl _) (.cells #[.int .u8 97] 5 (1, 2)))
  have hs1 : (w1.alloc (.cells #[.int .u8 97] 5 (1, 2))).heap.size = w1.heap.size + 1 := World.size_alloc ..
  have H1 := Lib.hid (send_own j1a (some ⟨w1.heap.size, 0, none⟩) 1 1 (w1.heap.size + 1) [97] R1 rfl (by omega) (by omega) (fun e => nomatch e))
  rw [show Nm.send [] [97] = ([[97]], 0) from rfl] at H1
  dsimp only at H1
  clear R1 j1a hs1 j1
  go_wp2_with (go_at_call 9; fail)
  refine H1.out.mono ?_
  rintro e w2 ⟨rfl, j2⟩
  have H2 := Lib.hid (dup_own j2 ok1 0)
  rw [show Nm.dup [[97]] 0 = ([[97], [97]], 0) from rfl] at H2
  dsimp only at H2
  clear j2 kc
  go_wp2_with (go_at_call 14; fail)
  refine H2.out.mono ?_
  rintro e w3 ⟨rfl, j3⟩
  have H3 := Lib.hid (take_own j3 ok2 0)
  rw [show Nm.pick [[97], [97]] 0 = some [97] from rfl, show Nm.less [[97], [97]] 0 = [[97]] from rfl, show (some ([97] : List Int)).getD [] = [97] from rfl, show (some ([97] : List Int)).isSome = true from rfl, show ([97] : List Int).length = 1 from rfl] at H3
  clear j3
  go_wp2_with (go_at_call 11; fail)
  refine H3.out.mono ?_
  rintro e w4 ⟨v, rfl, hown, j4⟩
  obtain ⟨A4, c4, rfl, -, -, hrd⟩ := own_view hown
  have hcs := str_of (n := 1) (cap := c4) hrd rfl
  have H4 := Lib.hid (len_own j4)
  have H5 := Lib.hid (dup_own j4 ok1 5)
  rw [show Nm.dup [[97]] 5 = ([[97]], 1) from rfl] at H5
  dsimp only at H5
  clear hown hrd j4
  go_wp2_with (first
    | (go_at_call 18; refine H4.out.mono ?_; rintro e w5 ⟨rfl, rfl⟩)
    | (go_at_call 14; refine H5.out.mono ?_; rintro e w6 ⟨rfl, j6⟩))
  go_ret
  exact ⟨rfl, j6.bel⟩
end Go.Proofs.Ytceleihfdpgpiaa
