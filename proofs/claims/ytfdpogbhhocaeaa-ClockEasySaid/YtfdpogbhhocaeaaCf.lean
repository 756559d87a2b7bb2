/- A map from nodes to numbers, read as a function that is 0 where nothing was stored: looked up, stored into, cleared; the two conditions that read it, and whether a node of a list meets one. -/
import Derived.Test.YtfdpogbhhocaeaaCe
import Derived.Test.YtfdpogbhhocaeaaCa
import Derived.Test.YtfdpogbhhocaeaaKitF
import Derived.Maps.OwnOps
import Derived.Maps.OwnSet
namespace Go.Proofs.Ytfdpogbhhocaeaa
open Go.RowKit Go.Shelf Km Go.ChangeMaps Go.MapKept

theorem keyI : Maps.Keyed Try.prog 3 := Maps.int_keyed Try.underlying3
theorem wf_in {x : Int} (h : in64 x) : (Lit.int .i64 x).wf = true := by
  unfold in64 at h
  have h1 : IntKind.i64.min = -9223372036854775808 := rfl
  have h2 : IntKind.i64.max = 9223372036854775807 := rfl
  simp [Lit.wf, h1, h2]
  omega
theorem key_of {x : Int} (h : in64 x) : keyOf Try.prog 3 (.int .i64 x) = some (.int .i64 x) := Maps.keyOf_int_mk Try.underlying3 (wf_in h)
theorem zero_i64 (w : World) : (zeroValue 2).run Try.prog w = .ok (.int .i64 0) w := Try.zeroValue2 w

/-- block b holds a map of at most n entries that reads as f -/
def MapF (w : World) (b n : Nat) (f : Int → Int) : Prop :=
  ∃ D : DataW Unit, w.ownsMap Try.prog 3 (plainElem Try.prog 2) b n D ∧ ∀ x, D.atKey (.int .i64 x) (.lit (.int .i64 0)) = .lit (.int .i64 (f x))
theorem MapF.lt {w : World} {b n : Nat} {f : Int → Int} (h : MapF w b n f) : b < w.heap.size := by obtain ⟨D, h, -⟩ := h; exact h.lt
theorem MapF.kept {w w' : World} {b n : Nat} {f : Int → Int} (h : MapF w b n f) {row : Option Nat} (hg : w.grownBy w' row) (hne : some b ≠ row) : MapF w' b n f := by
  obtain ⟨D, h, h2⟩ := h; exact ⟨D, h.kept hg hne, h2⟩
theorem MapF.below {w w' : World} {b n : Nat} {f : Int → Int} (h : MapF w b n f) (hb : Below w.heap.size w w') : MapF w' b n f := h.kept (grown_of_below hb none) (by simp)
theorem MapF.mono {w : World} {b n n' : Nat} {f : Int → Int} (h : MapF w b n f) (hn : n ≤ n') : MapF w b n' f := by obtain ⟨D, h, h2⟩ := h; exact ⟨D, h.mono hn, h2⟩
theorem MapF.made (w : World) : MapF (w.alloc (.map #[] 0)) w.heap.size 0 (fun _ => 0) := ⟨.map [], World.ownsMap_made _ _ _ _, fun _ => rfl⟩
theorem MapF.drew {w : World} {b n : Nat} {f : Int → Int} (h : MapF w b n f) (q : Nat) : MapF (w.drewN q) b n f := h

theorem wpList_look {w : World} {ops : Array Oper} {rest : List Oper} {o : Oper} {a : Act} {Q : Exit → Act → World → Prop} (hg : o.guard = none) (m x : Operand) (hop : o.op = Op.lookup 38 m x false)
    (b n : Nat) (f : Int → Int) (hm : a.eval m = .map (some b)) (hf : MapF w b n f) (k : Int) (hk : in64 k) (hx : a.eval x = .int .i64 k) (hK : wpList Try.prog ops Q rest (a.put o.dst (.int .i64 (f k))) w) : wpList Try.prog ops Q (o :: rest) a w := by
  obtain ⟨D, h1, h2⟩ := hf
  refine wpList_lookup_own_int w hg m x 38 hop 3 2 .i64 keyI Try.underlying38 Try.underlying2 (zero_i64 w) b n D hm h1 _ _ hx (key_of hk) ?_
  intro c hc _
  rw [h2] at hc
  obtain rfl : f k = c := by simpa using hc
  exact hK

theorem wpList_mset {w : World} {ops : Array Oper} {rest : List Oper} {o : Oper} {a : Act} {Q : Exit → Act → World → Prop} (hg : o.guard = none) (m x v : Operand) (hop : o.op = Op.mapUpdate 38 m x v)
    (b n : Nat) (f : Int → Int) (hm : a.eval m = .map (some b)) (hf : MapF w b n f) (hn : n < maxLen) (k y : Int) (hk : in64 k) (hy : in64 y) (hx : a.eval x = .int .i64 k) (hv : a.eval v = .int .i64 y)
    (hK : ∀ w', MapF w' b (n + 1) (fun z => if z = k then y else f z) → w.grownBy w' (some b) → wpList Try.prog ops Q rest (a.put o.dst undef) w') : wpList Try.prog ops Q (o :: rest) a w := by
  obtain ⟨D, h1, h2⟩ := hf
  refine wpList_mapUpdate_own w hg m x v 38 hop 3 2 keyI Try.underlying38 (plainElem Try.prog 2) b n D hm h1 hn _ _ _ hx hv (key_of hk) _ _ (plainElem_int Try.underlying2 (wf_in hy)) ?_
  intro w' h3 h4
  refine hK w' ⟨_, h3, fun z => ?_⟩ h4
  by_cases hz : z = k
  · subst hz
    dsimp only
    rw [if_pos rfl]
    exact Maps.atKey_put_same h1.isMap (by simp [WideAt.IsKeyLit]) _ _
  · refine (Maps.atKey_put_other (by simp [hz]) _ _).trans ((h2 z).trans ?_)
    simp [hz]

theorem wpList_mclear {w : World} {ops : Array Oper} {rest : List Oper} {o : Oper} {a : Act} {Q : Exit → Act → World → Prop} (hg : o.guard = none) (m : Operand) (hop : o.op = Op.call { callee := Callee.builtin Builtin.clear, args := #[m], argTypes := #[38] })
    (b n : Nat) (f : Int → Int) (hm : a.eval m = .map (some b)) (hf : MapF w b n f)
    (hK : ∀ w', MapF w' b 0 (fun _ => 0) → w.grownBy w' (some b) → wpList Try.prog ops Q rest (a.put o.dst (.tuple #[])) w') : wpList Try.prog ops Q (o :: rest) a w := by
  obtain ⟨D, ⟨es, clock, hb, F, hs, hD⟩, h2⟩ := hf
  refine wpList_plain hg fun K' hK' => ?_
  have hrun : (Builtin.clear_ #[38] o.type #[.map (some b)]).run Try.prog w = .ok (.tuple #[]) (setBlock w b (.map #[] clock)) := by
    simp [Builtin.clear_, run_underlying Try.underlying38, MapKept.run_getObj_map hb, MapKept.run_setObj_map _ hb, Result.andThen, setBlock]
  unfold Oper.wp
  simp [execOp, hop, resolve, invoke, builtin, hm, hrun, Result.andThen]
  refine hK' _ _ (hK _ ⟨.map [], ⟨#[], clock, heap_setBlock_same hb _, ⟨by simp, stamped_empty _, by simp⟩, Nat.le_refl _, rfl⟩, fun _ => rfl⟩ ⟨rfl, rfl, rfl, by simp [setBlock], fun i _ hi => heap_setBlock_other hb _ (fun e => hi (by rw [e]))⟩)
end Go.Proofs.Ytfdpogbhhocaeaa
