/- Steps and nodes cut at their end. -/
import Derived.Test.YtfdpogbhhocaeaaCi
namespace Go.Proofs.Ytfdpogbhhocaeaa
open Go.RowKit Go.Shelf Km
theorem run_cutSh (A : Option Addr) (n cap h : Nat) (hh : h ≤ cap) (w : World) :
    (Instr.slice 22 (.slice A n cap) none (some (.int .i64 (h : Int))) none).run Try.prog w = .ok (.slice (cutS A 0 cap) h cap) w := by
  have he' : Try.prog.elem 22 = 30 := by kernel_rfl
  rw [run_slice_h (P := Try.prog) w 22 A n cap (by rw [he']; exact Try.underlying22) .i64 (h : Int) (by omega) (by omega), he', size_step]
  unfold cutS
  simp [Result.andThen, sliced]
theorem run_cutIh (A : Option Addr) (n cap h : Nat) (hh : h ≤ cap) (w : World) :
    (Instr.slice 23 (.slice A n cap) none (some (.int .i64 (h : Int))) none).run Try.prog w = .ok (.slice (cutA A 0 cap) h cap) w :=
  run_cut_h Try.underlying23 (fun w => Try.sizeOf3 w) A n cap h hh w
theorem Rd.cutSh {w : World} {B : Nat} {A : Option Addr} {l : List (Int × Int)} (h : Rd w B A (svs l)) {k cap : Nat} (hc : l.length ≤ cap) : Rd w B (Go.Proofs.Ytfdpogbhhocaeaa.cutS A 0 cap) (svs (l.take k)) := by
  have := Rd.cutS (l := l.take k) (k := 0) (cap := cap) (by rw [← svs_take]; exact h.take _) (by rw [List.length_take]; omega)
  rwa [List.drop_zero] at this
theorem Rd.cutIh {w : World} {B : Nat} {A : Option Addr} {l : List Int} (h : Rd w B A (i64s l)) {k cap : Nat} (hc : l.length ≤ cap) : Rd w B (Go.Proofs.Ytfdpogbhhocaeaa.cutA A 0 cap) (i64s (l.take k)) := by
  have h2 := (h.take k).cutA (k := 0) (cap := cap) (by unfold i64s; rw [List.length_take, List.length_map]; omega)
  rw [List.drop_zero] at h2
  unfold i64s at h2 ⊢
  rwa [← List.map_take] at h2
end Go.Proofs.Ytfdpogbhhocaeaa
