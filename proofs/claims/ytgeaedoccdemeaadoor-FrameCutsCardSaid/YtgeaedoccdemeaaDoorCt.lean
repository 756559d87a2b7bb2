/- The table of the checksum, as the walks read it; four shifts at once. -/
import Derived.Test.YtgeaedoccdemeaaDoorKitU
import Derived.Test.YtgeaedoccdemeaaDoorCm
import Derived.Lib.LaidTab
namespace Go.Proofs.YtgeaedoccdemeaaDoor
open Go.RowKit Go.Shelf

/-- the table's variable holds the sixteen numbers -/
def Tab (w : World) : Prop := ∀ k, k < 16 → w.cell? ⟨0, k, none⟩ = some (.int .u32 (Cm.tab.getD k 0))

theorem Tab.below {B : Nat} {w w' : World} (h : Tab w) (hb : Below B w w') (hB : w.heap.size ≤ B) : Tab w' := fun k hk => by
  have h1 := h k hk
  have h2 : (⟨0, k, none⟩ : Addr).block < w.heap.size := World.block_lt_of_cell? w _ h1
  rw [hb.cell (by omega), h1]
theorem Tab.alloc {w : World} (h : Tab w) (o : Obj) : Tab (w.alloc o) := fun k hk => by
  have h1 := h k hk
  rw [World.cell?_alloc_lt w o _ (World.block_lt_of_cell? w _ h1), h1]

set_option maxRecDepth 100000 in
set_option maxHeartbeats 1000000 in
theorem half_any (r : BitVec 32) (w : World) (ht : Tab w) :
    Calls Tryd.prog 28 #[.int .u32 (Cm.V r)] w fun e w' => e = .returned (.int .u32 (Cm.V (Cm.s4 r))) ∧ w = w' := by
  have hk : r.toNat % 16 < 16 := Nat.mod_lt _ (by omega)
  have hc := ht (r.toNat % 16) hk
  have ha := Cm.v_and15 r
  have hs := Lib.hid (Cm.v_shr4 r)
  have hf := Cm.tab_fit ⟨r.toNat % 16, hk⟩
  dsimp only at hf
  have hx := Lib.hid (Cm.v_xor (r >>> 4) hf.1 (by omega))
  have HE := Lib.hid (Cm.s4_tab r)
  have hr := Cm.V_fit r
  clear ht hf
  generalize r.toNat % 16 = k at *
  generalize Cm.tab.getD k 0 = c at *
  go_enter Tryd.func28, Tryd.ntmps28
  go_wp2
  go_ret
  exact ⟨by show Ending.returned (.int .u32 _) = _; rw [hs.out, hx.out, HE.out], rfl⟩
end Go.Proofs.YtgeaedoccdemeaaDoor
