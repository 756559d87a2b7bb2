import Derived.Test.YtnipaifkgjbanaaW10
namespace Go.Proofs.Ytnipaifkgjbanaa
open Go.RowKit Go.Shelf

theorem PutText_all (A : Option Addr) (n cap B : Nat) (xs : List Int) (w : World) (hx : Rd w B A (u8s xs)) (hn : xs.length = n) (hB : B ≤ w.heap.size) :
    Calls Try.prog 16 #[.slice A n cap] w fun e w' => ∃ v, e = .returned (.tuple #[v, .int .i64 (Wm.ptextE xs).2]) ∧
      w'.ownsRow w.heap.size 5 1 v (Wm.ptextE xs).1.length (u8s (Wm.ptextE xs).1) ∧ Below w.heap.size w w' := by
  by_cases h : 4096 < xs.length
  · rw [Wm.ptextE_many h]
    refine (PutText_many A n cap w (by omega)).mono ?_
    rintro e w' ⟨rfl, rfl⟩
    exact ⟨_, rfl, own_none, Below.refl _ _⟩
  · rw [Wm.ptextE_ok h]
    exact PutText_any A n cap B xs w hx hn hB (by omega)

theorem RPutText_all (A : Option Addr) (n cap B : Nat) (xs : List Int) (w : World) (hx : Rd w B A (u8s xs)) (hn : xs.length = n) (hB : B ≤ w.heap.size) :
    Calls Try.prog 17 #[.slice A n cap] w fun e w' => ∃ v, e = .returned (.tuple #[v, .int .i64 (Wm.ptextE xs).2]) ∧
      w'.ownsRow w.heap.size 5 1 v (Wm.ptextE xs).1.length (u8s (Wm.ptextE xs).1) ∧ Below w.heap.size w w' := by
  by_cases h : 4096 < xs.length
  · rw [Wm.ptextE_many h]
    refine (RPutText_many A n cap w (by omega)).mono ?_
    rintro e w' ⟨rfl, rfl⟩
    exact ⟨_, rfl, own_none, Below.refl _ _⟩
  · rw [Wm.ptextE_ok h]
    exact RPutText_any A n cap B xs w hx hn hB (by omega)

theorem str_of {w : World} {B n cap : Nat} {A : Option Addr} {xs : List Int} (h : Rd w B A (u8s xs)) (hn : xs.length = n) :
    (convert 22 9 (.slice A n cap)).run Try.prog w = .ok (.string (strOfNums xs)) w :=
  run_str (P := Try.prog) w 22 5 9 Try.underlying22 Try.underlying5 Try.underlying9 B A n cap xs hn h

end Go.Proofs.Ytnipaifkgjbanaa
