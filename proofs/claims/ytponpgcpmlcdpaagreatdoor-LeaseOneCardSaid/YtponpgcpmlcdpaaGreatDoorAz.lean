import Derived.Test.YtponpgcpmlcdpaaGreatDoorAn
namespace Go.Proofs.YtponpgcpmlcdpaaGreatDoor
open Go.RowKit Go.Shelf Km Kx Kc Kt
set_option linter.unusedVariables false
set_option linter.unusedSimpArgs false
theorem zm2 {N : Nat} (hN : N ≤ 16) {e st : Int} (he : 0 ≤ e ∧ e ≤ 9223372036854775807) (hs : 0 ≤ st ∧ st ≤ 1099511627776) : ({ zp N with e := e, st := st } : Pm.Pl).right = true := by
 refine Pm.zbo ⟨fun k hk => ?_, ⟨?_, fun n hn => ?_⟩, ⟨Nat.zero_le _, fun n hn => by cases hn⟩, fun k hk => by have h : k + 1 < 0 := hk; omega⟩
 ·have h : k = 0 ∨ k = 1 ∨ k = 2 ∨ k = 3 ∨ k = 4 ∨ k = 5 ∨ k = 6 ∨ k = 7 ∨ k = 8 ∨ k = 9 := by omega
  rcases h with rfl | rfl | rfl | rfl | rfl | rfl | rfl | rfl | rfl | rfl <;> first | exact he | exact hs | exact (show (-1 : Int) ≤ -1 ∧ (-1 : Int) ≤ 15 from ⟨by decide, by decide⟩) | exact (show (0 : Int) ≤ 0 ∧ (0 : Int) ≤ 100 from ⟨by decide, by decide⟩) | exact (show (0 : Int) ≤ 0 ∧ (0 : Int) ≤ 1099511627776 from ⟨by decide, by decide⟩) | exact (show (0 : Int) ≤ 0 ∧ (0 : Int) ≤ 65535 from ⟨by decide, by decide⟩)
 ·show (List.replicate N (0 : Int)).length ≤ 16
  rw [List.length_replicate]; exact hN
 ·rw [(List.mem_replicate.1 hn).2]; exact ⟨by decide, by decide⟩
structure Live (s : Jm.St) (n : Nat) : Prop where
 off : s.off = false
 burn : s.burn = -1
 len : Jm.size s ≤ n
end Go.Proofs.YtponpgcpmlcdpaaGreatDoor
