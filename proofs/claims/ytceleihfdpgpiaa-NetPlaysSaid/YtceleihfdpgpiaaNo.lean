/- What came as an argument is sent: for the walks of the laws. -/
import Derived.Test.YtceleihfdpgpiaaNy
import Derived.Test.YtceleihfdpgpiaaNz
import Derived.Test.YtceleihfdpgpiaaKitF
namespace Go.Proofs.Ytceleihfdpgpiaa
open Go.RowKit Go.Shelf Km Kb Kz

/-- what came as an argument stays, and can be sent -/
theorem sends {W w : World} {g : Nat} {l : List (List Int)} (j : NOwn W w g l) {v : Value} {b : List Int} (hr : Row W v b) : Calls Try.prog 9 #[.pointer (some ⟨g, 0, none⟩), v] w fun e w' => e = .returned (.int .i64 (Nm.send l b).2) ∧ NOwn W w' g (Nm.send l b).1 := by
  obtain ⟨A, c, rfl, _, _, h0, hrd⟩ := hr.form
  have := hr.le
  exact send_own j A b.length c W.heap.size b (hrd.below j.bel) rfl j.bel.size (by omega) h0
theorem send_take {bs : List (List Int)} {k : Nat} {b : List Int} (h : bs[k]? = some b) : Nm.send (bs.take (min k 400)) b = (bs.take (min (k + 1) 400), if k < 400 then 0 else 71) := by
  have hk := (List.getElem?_eq_some_iff.1 h).1
  have hl : (bs.take (min k 400)).length = min k 400 := by rw [List.length_take]; omega
  by_cases q : k < 400
  · rw [Nm.send_lt (by omega), if_pos q, show min k 400 = k by omega, show min (k + 1) 400 = k + 1 by omega, List.take_add_one, h]
    rfl
  · rw [Nm.send_ge (by omega), if_neg q, show min k 400 = 400 by omega, show min (k + 1) 400 = 400 by omega]

end Go.Proofs.Ytceleihfdpgpiaa
