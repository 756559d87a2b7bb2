/- A row of steps of the call's own. -/
import Derived.Test.YtfdpogbhhocaeaaCq
import Derived.Test.YtfdpogbhhocaeaaCa
namespace Go.Proofs.Ytfdpogbhhocaeaa
open Go.RowKit Go.Shelf Km
theorem info_step : (Try.prog.info? 30).map (fun i => (i.zero, i.size, i.bytes)) = some (some (.agg #[.int .i64 0, .int .i64 0]), 2, 16) := by kernel_rfl
theorem cells_new (w : World) (cs : List Value) (t : TypeId) : ∀ j u, cs[j]? = some u → (w.alloc (.cells cs.toArray t)).cell? ((⟨w.heap.size, 0, none⟩ : Addr).add j) = some u := fun j u h => by
  obtain ⟨ad, e, _, hc⟩ := (Rd.new w (w.heap.size + 1) cs t (0, 0) (by omega)) j u h
  cases e
  exact hc
theorem svs_one (l : List (Int × Int)) : ∀ u ∈ svs l, u.oneCell' = true := by
  induction l with
  | nil => intro u hu; cases hu
  | cons p l ih =>
    intro u hu
    rw [svs_cons] at hu
    rcases List.mem_cons.1 hu with rfl | hu
    · rfl
    · rcases List.mem_cons.1 hu with rfl | hu
      · rfl
      · exact ih u hu
end Go.Proofs.Ytfdpogbhhocaeaa
