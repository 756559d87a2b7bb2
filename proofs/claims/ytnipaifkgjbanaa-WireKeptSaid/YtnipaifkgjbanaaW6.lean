import Derived.Test.YtnipaifkgjbanaaW5
import Derived.BigQuiet
import Derived.Lib.SlBytesConst
namespace Go.Proofs.Ytnipaifkgjbanaa
open Go.RowKit Go.Shelf

theorem Rd.new (w : World) (B : Nat) (xs : List Value) (t : TypeId) (fr : Nat × Nat) (hB : w.heap.size < B) : Rd (w.alloc (.cells xs.toArray t fr)) B (some ⟨w.heap.size, 0, none⟩) xs := fun j u hj =>
  ⟨_, rfl, hB, World.news_of_block (heap_alloc_new w _) j u (by simpa using hj)⟩

set_option maxRecDepth 100000 in
set_option maxHeartbeats 1000000 in
theorem head_any (w : World) : Calls Try.prog 11 #[] w fun e w' => e = .returned (.bool true) ∧ Below w.heap.size w w' := by
  have r1 : Wm.rd [128, 1] 0 = (64, 2, 0) := by decide
  have r2 : Wm.ptext [97, 98] = [4, 97, 98] := by decide
  have hstr : strOfNums [4, 97, 98] = ⟨#[4, 97, 98]⟩ := rfl
  have R1 : Hid (Rd (w.alloc (.cells #[.int .u8 128, .int .u8 1] 5)) (w.heap.size + 1) (some ⟨w.heap.size, 0, none⟩) (u8s [128, 1])) := Rd.new w (w.heap.size + 1) (u8s [128, 1]) 5 (0, 0) (by omega)
  have R2 : Hid (Rd ((w.alloc (.cells #[.int .u8 128, .int .u8 1] 5)).alloc (.cells #[.int .u8 97, .int .u8 98] 5 (2, 3))) (w.heap.size + 2) (some ⟨w.heap.size + 1, 0, none⟩) (u8s [97, 98])) := by
    have h := Rd.new (w.alloc (.cells #[.int .u8 128, .int .u8 1] 5)) (w.heap.size + 2) (u8s [97, 98]) 5 (2, 3) (by simp)
    rw [World.size_alloc] at h
    exact h
  have kc := Lib.run_convert_bytes_const (P := Try.prog) (w.alloc (.cells #[.int .u8 128, .int .u8 1] 5)) 22 5 #[.int .u8 97, .int .u8 98] 2 2 Try.underlying22 Try.underlying5
  rw [World.size_alloc] at kc
  go_enter Try.func11, Try.ntmps11
  go_wp2_with (first | (go_at_call 12; go_must (refine (Int_any (some ⟨w.heap.size, 0, none⟩) 2 2 _ [128, 1] 0 _ R1.out rfl (by omega) (by unfold maxLen; omega) (by decide) (by omega) (by omega)).mono ?_); rw [r1]; rintro e w' ⟨rfl, rfl⟩) | (go_at_call 16; go_must (refine (PutText_any (some ⟨w.heap.size + 1, 0, none⟩) 2 2 (w.heap.size + 2) [97, 98] _ (by exact R2.out) rfl (by simp) (by omega)).mono ?_); rw [r2]; rintro e w1 ⟨v, rfl, hown, hb⟩; obtain ⟨g, cap, rfl, -, -⟩ := hown.form (by decide); have hconv := run_str (P := Try.prog) w1 22 5 9 Try.underlying22 Try.underlying5 Try.underlying9 _ _ 3 cap [4, 97, 98] rfl (Rd.of_own hown)))
  go_ret
  exact ⟨rfl, ((((Below.refl _ w).alloc (Nat.le_refl _) _).alloc (by simp) _).trans (hb.mono (by simp; omega)))⟩
end Go.Proofs.Ytnipaifkgjbanaa
