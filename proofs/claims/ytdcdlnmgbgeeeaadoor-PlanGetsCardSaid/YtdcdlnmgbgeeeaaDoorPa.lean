/- A plan's value; its numbers; what is alike, bounded, sorted: the program's. -/
import Derived.Test.YtdcdlnmgbgeeeaaDoorW14
import Derived.Test.YtdcdlnmgbgeeeaaDoorPm
import Derived.Test.YtdcdlnmgbgeeeaaDoorKitS
import Derived.Test.YtdcdlnmgbgeeeaaDoorKitC
namespace Go.Proofs.YtdcdlnmgbgeeeaaDoor
open Go.RowKit Go.Shelf

/-- a plan as a value: its lists lie where the slices say -/
def pv (x : Pm.Pl) (A : Option Addr) (n c : Nat) (A' : Option Addr) (n' c' : Nat) : Value :=
  .agg #[.int .i64 x.e, .int .i64 x.t, .int .i64 x.p, .int .i64 x.s, .int .i64 x.c, .int .i64 x.st, .int .i64 x.si, .int .i64 x.ra, .int .u64 x.up, .int .u64 x.su, .slice A n c, .slice A' n' c']

theorem last_block (w : World) (o : Obj) {b : Nat} (h : b = w.heap.size) : (w.alloc o).heap[b]? = some o := by subst h; exact heap_alloc_new w o
theorem info_nums : (Tryd.prog.info? 44).map (·.size) = some 10 := by kernel_rfl
theorem sgw {n : Int} (h : Pm.U n) : wrap64 n = Pm.sg n := by
  unfold Pm.U at h
  unfold wrap64 Pm.sg
  split <;> omega

set_option maxRecDepth 100000 in
set_option maxHeartbeats 1000000 in
theorem numbersOf_any (x : Pm.Pl) (A : Option Addr) (n c : Nat) (A' : Option Addr) (n' c' : Nat) (w : World) (hx : x.Ok) :
    Calls Tryd.prog 21 #[pv x A n c A' n' c'] w fun e w' => e = .returned (.agg (i64s x.nums).toArray) ∧ Below w.heap.size w w' := by
  have HE : Hid (i64s x.nums = [.int .i64 x.e, .int .i64 x.t, .int .i64 x.p, .int .i64 x.s, .int .i64 x.c, .int .i64 x.st, .int .i64 x.si, .int .i64 x.ra, .int .i64 (wrap64 x.up), .int .i64 (wrap64 x.su)]) := by
    rw [sgw hx.up, sgw hx.su]; exact Lib.hid rfl
  clear hx
  unfold pv
  go_enter Tryd.func21, Tryd.ntmps21
  go_wp2
  refine bodyPost_ret (results_cell_row rfl _ _ (w.heap.size + 1) _ _ (0, 0) _ rfl (last_block _ _ (by simp)) Tryd.underlying44 rfl info_nums) rfl ?_
  rw [HE.out]
  exact ⟨rfl, (((Below.refl _ w).alloc (Nat.le_refl _) _).alloc (by simp) _)⟩

/-! ### numbers in bounds -/
set_option maxRecDepth 100000 in
theorem in_any (n lo hi : Int) (w : World) :
    Calls Tryd.prog 26 #[.int .i64 n, .int .i64 lo, .int .i64 hi] w fun e w' => e = .returned (.bool (Pm.ask (lo ≤ n ∧ n ≤ hi))) ∧ w = w' := by
  by_cases h1 : lo ≤ n
  · by_cases h2 : n ≤ hi
    · rw [Pm.ask_yes ⟨h1, h2⟩]
      go_enter Tryd.func26, Tryd.ntmps26
      go_wp2
      go_ret
      exact ⟨ret_bool (by simp <;> omega), rfl⟩
    · rw [Pm.ask_no (fun h => h2 h.2)]
      go_enter Tryd.func26, Tryd.ntmps26
      go_wp2
      go_ret
      exact ⟨ret_bool (by simp <;> omega), rfl⟩
  · rw [Pm.ask_no (fun h => h1 h.1)]
    have h1' : n < lo := by omega
    go_enter Tryd.func26, Tryd.ntmps26
    go_wp2
    go_ret
    exact ⟨ret_bool (by simp <;> omega), rfl⟩
end Go.Proofs.YtdcdlnmgbgeeeaaDoor
