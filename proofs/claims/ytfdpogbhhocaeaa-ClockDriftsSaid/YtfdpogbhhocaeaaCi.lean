/- Steps cut; what holds of the world while parts of the steps are looked at. -/
import Derived.Test.YtfdpogbhhocaeaaCg
import Derived.Test.YtfdpogbhhocaeaaCh
namespace Go.Proofs.Ytfdpogbhhocaeaa
open Go.RowKit Go.Shelf Km

/-- where steps begin that are cut off at k -/
def cutS (A : Option Addr) (k cap : Nat) : Option Addr := if cap = k then A else A.map (·.add (k * 2))
theorem Rd.cutS {w : World} {B : Nat} {A : Option Addr} {l : List (Int × Int)} (h : Rd w B A (svs l)) {k cap : Nat} (hc : l.length ≤ cap) : Rd w B (cutS A k cap) (svs (l.drop k)) := by
  unfold Go.Proofs.Ytfdpogbhhocaeaa.cutS
  split
  · rename_i e
    rw [List.drop_eq_nil_of_le (by omega)]
    exact Rd.nil _ _ _
  · rw [← svs_drop]
    exact fun j u hj => by
      rw [List.getElem?_drop] at hj
      obtain ⟨ad, e, hb, hc⟩ := h _ u hj
      refine ⟨ad.add (k * 2), by rw [e]; rfl, by rw [addr_add_block]; exact hb, ?_⟩
      rw [addr_add_add]
      exact hc
theorem size_step (w : World) : (sizeOf 30).run Try.prog w = .ok 2 w := Try.sizeOf30 w
theorem run_cutS (A : Option Addr) (n cap k : Nat) (hk : k ≤ n) (w : World) :
    (Instr.slice 22 (.slice A n cap) (some (.int .i64 (k : Int))) none none).run Try.prog w = .ok (.slice (cutS A k cap) (n - k) (cap - k)) w := by
  have he' : Try.prog.elem 22 = 30 := by kernel_rfl
  rw [run_slice_l (P := Try.prog) w 22 A n cap (by rw [he']; exact Try.underlying22) .i64 (k : Int) (by omega) (by omega), he', size_step]
  unfold cutS
  simp [Result.andThen, sliced]
theorem run_cutSm (A : Option Addr) (n cap k h : Nat) (hk : k ≤ h) (hh : h ≤ cap) (w : World) :
    (Instr.slice 22 (.slice A n cap) (some (.int .i64 (k : Int))) (some (.int .i64 (h : Int))) none).run Try.prog w = .ok (.slice (cutS A k cap) (h - k) (cap - k)) w := by
  have he' : Try.prog.elem 22 = 30 := by kernel_rfl
  rw [run_slice_lh (P := Try.prog) w 22 A n cap (by rw [he']; exact Try.underlying22) .i64 .i64 (k : Int) (h : Int) (by omega) (by omega) (by omega), he', size_step]
  unfold cutS
  simp [Result.andThen, sliced]
theorem run_cutI (A : Option Addr) (n cap k : Nat) (hk : k ≤ n) (w : World) :
    (Instr.slice 23 (.slice A n cap) (some (.int .i64 (k : Int))) none none).run Try.prog w = .ok (.slice (cutA A k cap) (n - k) (cap - k)) w :=
  run_cut_l Try.underlying23 (fun w => Try.sizeOf3 w) A n cap k hk w

/-- the map lies in block m, the variable that holds it behind it; what lay below m is as it was -/
structure At (m : Nat) (w4 w : World) (n : Nat) (f : Int → Int) : Prop where
  bel : Below m w4 w
  map : MapF w m n f
  box : w.cell? ⟨m + 1, 0, none⟩ = some (.map (some m))
  size : m + 2 ≤ w.heap.size
theorem At.below {m n : Nat} {w4 w w' : World} {f : Int → Int} (h : At m w4 w n f) (hb : Below w.heap.size w w') : At m w4 w' n f :=
  ⟨h.bel.trans (hb.mono (by have := h.size; omega)), h.map.below hb, (hb.cell (p := ⟨m + 1, 0, none⟩) (by have := h.size; show m + 1 < _; omega)).trans h.box, Nat.le_trans h.size hb.size⟩
theorem At.drew {m n : Nat} {w4 w : World} {f : Int → Int} (h : At m w4 w n f) (q : Nat) : At m w4 (w.drewN q) n f :=
  ⟨below_drawn h.bel q, h.map.drew q, h.box, h.size⟩
theorem At.turn {m n n' : Nat} {w4 w w' : World} {f f' : Int → Int} (h : At m w4 w n f) (hm : MapF w' m n' f') (hg : w.grownBy w' (some m)) : At m w4 w' n' f' :=
  ⟨below_grown h.bel hg (Nat.le_refl _) (by have := h.size; omega), hm, (World.cell?_of_block (hg.block (m + 1) (by have := h.size; omega) (fun e => by injection e with e; omega))).trans h.box, Nat.le_trans h.size hg.size⟩
theorem At.rd {m n : Nat} {w4 w : World} {f : Int → Int} (h : At m w4 w n f) {A : Option Addr} {vs : List Value} (hr : Rd w4 m A vs) : Rd w m A vs := hr.below h.bel
theorem At.cell {m n : Nat} {w4 w : World} {f : Int → Int} (h : At m w4 w n f) {p : Addr} {v : Value} (hc : w4.cell? p = some v) (hp : p.block < m) : w.cell? p = some v := (h.bel.cell hp).trans hc
theorem Nds.below {base : Nat} {w w' : World} {v : Value} {zs : List Int} (h : Nds base w v zs) (hb : Below w.heap.size w w') : Nds base w' v zs := by
  obtain ⟨A, c, e, h1, h2, h3, h4, h5⟩ := h
  exact ⟨A, c, e, h1, h2, (h3.below hb).more hb.size, h4, h5⟩
end Go.Proofs.Ytfdpogbhhocaeaa
