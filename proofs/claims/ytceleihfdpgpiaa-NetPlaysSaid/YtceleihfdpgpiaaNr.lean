/- The document's net: a message looked at. -/
import Derived.Test.YtceleihfdpgpiaaNf
namespace Go.Proofs.Ytceleihfdpgpiaa
open Go.RowKit Go.Shelf Km Kb

namespace Nm
/-- the message of that number, if there is one -/
def pick (l : List (List Int)) (i : Int) : Option (List Int) := if i < 0 then none else l[i.toNat]?
theorem pick_some {l : List (List Int)} {i : Int} {b : List Int} (h : Nm.pick l i = some b) : ∃ k : Nat, i = k ∧ ∃ hk : k < l.length, l[k] = b := by
  unfold Nm.pick at h
  split at h
  · cases h
  · exact ⟨i.toNat, by omega, List.getElem?_eq_some_iff.1 h⟩
theorem pick_none {l : List (List Int)} {i : Int} (h : Nm.pick l i = none) : i < 0 ∨ (0 ≤ i ∧ (l.length : Int) ≤ i) := by
  unfold Nm.pick at h
  split at h
  · exact .inl (by assumption)
  · have := List.getElem?_eq_none_iff.1 h
    omega
theorem pick_nat (l : List (List Int)) (k : Nat) : Nm.pick l k = l[k]? := by
  unfold Nm.pick
  rw [if_neg (by omega), Int.toNat_natCast]
end Nm

section
variable {w w' : World} {S : Nat → Prop} {g : Nat} {l : List (List Int)} {ov : Value} {vs : List Value}

set_option maxRecDepth 100000 in
set_option maxHeartbeats 1000000 in
theorem rat_none (h : NAt w S g l ov vs) (i : Int) (hi : Nm.pick l i = none) :
    Calls Try.prog 17 #[.pointer (some ⟨g, 0, none⟩), .int .i64 i] w fun e w' => e = .returned (.tuple #[.slice none 0 0, .bool false]) ∧ w' = w := by
  have c1 := h.cell
  obtain ⟨A, cap, rfl, hc1, hc2, -⟩ := h.row.form
  have q0 := Nm.pick_none hi
  generalize l.length = n at *
  rcases q0 with q | ⟨q, q2⟩
  · have d1 : decide (i < 0) = true := by simpa using q
    clear h
    go_enter Try.func17, Try.ntmps17
    go_wp2
    go_ret2
    exact ⟨rfl, rfl⟩
  · have d1 : decide (i < 0) = false := by simpa using q
    have d2 : decide ((n : Int) ≤ i) = true := by simpa using q2
    clear h
    go_enter Try.func17, Try.ntmps17
    go_wp2
    go_ret2
    exact ⟨rfl, rfl⟩

set_option maxRecDepth 100000 in
set_option maxHeartbeats 1000000 in
theorem rat_some (h : NAt w S g l ov vs) (k : Nat) {b : List Int} (hk : l[k]? = some b) :
    Calls Try.prog 17 #[.pointer (some ⟨g, 0, none⟩), .int .i64 (k : Int)] w fun e w' => ∃ v, e = .returned (.tuple #[v, .bool true]) ∧ Bdy w (Nb S g ov) v b ∧ w' = w := by
  have c1 := h.cell
  obtain ⟨cap, ad, v, rfl, c2, hb⟩ := h.get hk
  have hk := (List.getElem?_eq_some_iff.1 hk).1
  have HB := Lib.hid hb
  obtain ⟨_, c, rfl, _, _, _, _⟩ := hb
  generalize l.length = n at *
  have d1 : decide ((k : Int) < 0) = false := by simp
  have d2 : decide ((n : Int) ≤ (k : Int)) = false := by simpa using hk
  have d3 : (k : Int) < (n : Int) := by omega
  clear h
  go_enter Try.func17, Try.ntmps17
  go_wp2
  go_ret2
  exact ⟨_, rfl, HB.out, rfl⟩

/-- a message sent: a row for its bytes, one more of the net's -/
theorem NAt.sent {w1 w2 : World} {ov' v : Value} {b : List Int} (h : NAt w S g l ov vs) (hw : Below w.heap.size w w1) (hv : w1.ownsRow w.heap.size 5 1 v b.length (u8s b))
    (hg : w1.grownBy w2 ov.ownBlock) (hr : Orow w2 0 30 ov' (l.length + 1) (vs ++ [v])) (ho : ov'.ownBlock = ov.ownBlock ∨ ov'.ownBlock = some w1.heap.size) :
    (w2.cell? ⟨g, 0, none⟩ = some ov ∧ w2.frozen? ⟨g, 0, none⟩ = false) ∧ Ndid w (w2.setCell ⟨g, 0, none⟩ ov') S g (l ++ [b]) := by
  have hgo : ov.ownBlock ≠ some g := fun q => (h.oS g q).2 rfl
  have hgw : g < w.heap.size := h.lt g h.sg
  have hb : w2.heap[g]? = w.heap[g]? := (hg.block g (by have := hw.size; omega) (fun q => hgo q.symm)).trans (hw.block g hgw)
  have hc2 : w2.cell? ⟨g, 0, none⟩ = some ov := (World.cell?_of_block hb).trans h.cell
  have hf2 : w2.frozen? ⟨g, 0, none⟩ = false := (World.frozen?_of_block hb).trans h.fz
  have h3 : ∀ k, k ≠ g → (w2.setCell ⟨g, 0, none⟩ ov').heap[k]? = w2.heap[k]? := fun k hk => Below.heap_setCell _ _ _ k (fun e => hk (by rw [e]))
  refine ⟨⟨hc2, hf2⟩, ⟨ov', vs ++ [v], h.add hw hv hg hr (fun k hk => ho.elim (fun q => .inl (q ▸ hk)) (fun q => .inr (by rw [q] at hk; cases hk; exact Nat.le_refl _))) (World.cell?_setCell_same _ _ _ hc2) (by rw [World.frozen?_setCell]; exact hf2) h3 (World.size_setCell _ _ _)⟩, ?_⟩
  exact ((Out.below hw).trans (Out.grown hg fun b e => .inl (h.oS b e).1)).trans ((Out.grown (grown_set1 g 0 ov' w2) fun b e => by cases e; exact h.sg).more fun b q => .inl q)

/-- a message removed: the net's row with what stays -/
theorem NAt.less {w2 : World} {ov' : Value} {l' : List (List Int)} {vs' : List Value} (h : NAt w S g l ov vs) (hg : w.grownBy w2 ov.ownBlock) (hr : Orow w2 0 30 ov' l'.length vs')
    (ho : ∀ k, ov'.ownBlock = some k → ov.ownBlock = some k ∨ w.heap.size ≤ k) (hp : ∀ (j : Nat) v b, vs'[j]? = some v → l'[j]? = some b → ∃ k : Nat, vs[k]? = some v ∧ l[k]? = some b) :
    (w2.cell? ⟨g, 0, none⟩ = some ov ∧ w2.frozen? ⟨g, 0, none⟩ = false) ∧ Ndid w (w2.setCell ⟨g, 0, none⟩ ov') S g l' := by
  have hgo : ov.ownBlock ≠ some g := fun q => (h.oS g q).2 rfl
  have hgw : g < w.heap.size := h.lt g h.sg
  have hb : w2.heap[g]? = w.heap[g]? := hg.block g hgw (fun q => hgo q.symm)
  have hc2 : w2.cell? ⟨g, 0, none⟩ = some ov := (World.cell?_of_block hb).trans h.cell
  have hf2 : w2.frozen? ⟨g, 0, none⟩ = false := (World.frozen?_of_block hb).trans h.fz
  have h3 : ∀ k, k ≠ g → (w2.setCell ⟨g, 0, none⟩ ov').heap[k]? = w2.heap[k]? := fun k hk => Below.heap_setCell _ _ _ k (fun e => hk (by rw [e]))
  refine ⟨⟨hc2, hf2⟩, ⟨ov', vs', h.part hg hr ho hp (World.cell?_setCell_same _ _ _ hc2) (by rw [World.frozen?_setCell]; exact hf2) h3 (World.size_setCell _ _ _)⟩, ?_⟩
  exact (Out.grown hg fun b e => (h.oS b e).1).trans ((Out.grown (grown_set1 g 0 ov' w2) fun b e => by cases e; exact h.sg).more fun b q => .inl q)
end
end Go.Proofs.Ytceleihfdpgpiaa
