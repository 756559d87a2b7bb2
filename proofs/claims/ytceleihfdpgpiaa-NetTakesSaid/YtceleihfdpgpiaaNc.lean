/- A call's cells, loaded into a law's own variable. -/
import Derived.Test.YtceleihfdpgpiaaNq
import Derived.Test.YtceleihfdpgpiaaKitL
namespace Go.Proofs.Ytceleihfdpgpiaa
open Go.RowKit Go.Shelf Km Kb Kz

/-- a call's cells -/
def cvs (o : Cl) (A : Option Addr) (c : Nat) : List Value := [.int .i64 o.what, .slice A o.body.length c, .int .i64 o.num]
theorem ClAt.cells {w : World} {ad : Addr} {i : Nat} {o : Cl} {A : Option Addr} {c : Nat} (h : ClAt w ad i o (.slice A o.body.length c)) : ∀ j v, (cvs o A c)[j]? = some v → w.cell? ((ad.add (i * 3)).add j) = some v := fun j v hv => by
  match j with
  | 0 => cases hv; rw [Addr.add_zero']; exact h.c0
  | 1 => cases hv; exact h.c1
  | 2 => cases hv; exact h.c2
  | j + 3 => simp [cvs] at hv
theorem Kp.cell {N : Nat → Prop} {w w' : World} (h : Kp N w w') {a : Addr} {v : Value} (hc : w.cell? a = some v) (hn : N a.block) : w'.cell? a = some v := (World.cell?_of_block (h.2 _ hn)).trans hc
theorem pick_back (l : List (List Int)) (b : List Int) : Nm.pick (l ++ [b]) (l.length : Int) = some b := by
  rw [Nm.pick_nat, List.getElem?_append_right (Nat.le_refl _), Nat.sub_self]; rfl
theorem own_empty (w : World) (b : Nat) (hb : b ≤ w.heap.size) : (w.alloc (.cells #[] 5)).ownsRow b 5 1 (.slice (some ⟨w.heap.size, 0, none⟩) 0 0) 0 [] :=
  World.ownsRow_made (base := b) (e := 5) (size := 1) w #[] 0 hb (by unfold maxLen; omega) (by simp)
end Go.Proofs.Ytceleihfdpgpiaa
