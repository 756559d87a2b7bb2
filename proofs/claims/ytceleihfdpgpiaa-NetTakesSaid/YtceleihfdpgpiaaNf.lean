/- A net in memory: one cell that holds a row of rows of bytes. Its changes, told on the list of messages. -/
import Derived.Test.YtceleihfdpgpiaaKitB
import Derived.Test.YtceleihfdpgpiaaKitO
namespace Go.Proofs.Ytceleihfdpgpiaa
open Go.RowKit Go.Shelf Km Kb

/-- the blocks that hold the messages' bytes: those of S but the net's cell and its row -/
def Nb (S : Nat → Prop) (g : Nat) (ov : Value) : Nat → Prop := fun k => S k ∧ k ≠ g ∧ ov.ownBlock ≠ some k

structure NAt (w : World) (S : Nat → Prop) (g : Nat) (l : List (List Int)) (ov : Value) (vs : List Value) : Prop where
  cell : w.cell? ⟨g, 0, none⟩ = some ov
  fz : w.frozen? ⟨g, 0, none⟩ = false
  sg : S g
  lt : ∀ b, S b → b < w.heap.size
  row : Orow w 0 30 ov l.length vs
  oS : ∀ b, ov.ownBlock = some b → S b ∧ b ≠ g
  bod : ∀ (j : Nat) v b, vs[j]? = some v → l[j]? = some b → Bdy w (Nb S g ov) v b
section
variable {S D : Nat → Prop} {w w' : World} {g : Nat} {l : List (List Int)} {ov : Value} {vs : List Value}
theorem NAt.same (h : NAt w S g l ov vs) (hb : ∀ b, S b → w'.heap[b]? = w.heap[b]?) (hs : w.heap.size ≤ w'.heap.size) : NAt w' S g l ov vs :=
  ⟨(World.cell?_of_block (hb g h.sg)).trans h.cell, (World.frozen?_of_block (hb g h.sg)).trans h.fz, h.sg, fun b q => Nat.lt_of_lt_of_le (h.lt b q) hs, h.row.same (fun b q => hb b (h.oS b q).1) hs, h.oS,
    fun j v b hv hj => (h.bod j v b hv hj).keep fun k hk => ⟨hb k hk.1, hk⟩⟩
theorem NAt.out (h : NAt w S g l ov vs) (ho : Out D w w') (hd : ∀ b, S b → ¬ D b) : NAt w' S g l ov vs := h.same (fun b q => ho.block b (h.lt b q) (hd b q)) ho.size
theorem NAt.below (h : NAt w S g l ov vs) (hb : Below w.heap.size w w') : NAt w' S g l ov vs := h.same (fun b q => hb.block b (h.lt b q)) hb.size
theorem NAt.more (h : NAt w S g l ov vs) (hS : ∀ b, S b → D b) (hD : ∀ b, D b → b < w.heap.size) : NAt w D g l ov vs :=
  ⟨h.cell, h.fz, hS _ h.sg, hD, h.row, fun b e => ⟨hS _ (h.oS b e).1, (h.oS b e).2⟩, fun j v b hv hj => (h.bod j v b hv hj).keep fun _ hk => ⟨rfl, hS _ hk.1, hk.2⟩⟩
theorem NAt.sx (h : NAt w' S g l ov vs) : NAt w' (Sx S w w') g l ov vs := h.more (fun _ q => .inl q) (fun b q => q.elim (h.lt b) (·.2))
theorem NAt.len (h : NAt w S g l ov vs) : vs.length = l.length := h.row.len
/-- a message, to be read -/
theorem NAt.get (h : NAt w S g l ov vs) {k : Nat} {b : List Int} (hb : l[k]? = some b) : ∃ cap ad v, ov = .slice (some ad) l.length cap ∧ w.cell? (ad.add k) = some v ∧ Bdy w (Nb S g ov) v b := by
  have hk := (List.getElem?_eq_some_iff.1 hb).1
  obtain ⟨A, cap, e, _, _, h3, _⟩ := h.row.form
  obtain ⟨ad, e2, _, hc⟩ := h3.get (k := k) (by rw [h.len]; exact hk)
  exact ⟨cap, ad, _, e2 ▸ e, hc, h.bod k _ _ (List.getElem?_eq_getElem (by rw [h.len]; exact hk)) hb⟩

/-- a message's row, made anew, and the net's row with it behind: before the net's cell is set -/
theorem NAt.add {w1 w2 : World} {ov' v : Value} {b : List Int} (h : NAt w S g l ov vs) (hw : Below w.heap.size w w1) (hv : w1.ownsRow w.heap.size 5 1 v b.length (u8s b))
    (hg : w1.grownBy w2 ov.ownBlock) (hr : Orow w2 0 30 ov' (l.length + 1) (vs ++ [v])) (ho : ∀ k, ov'.ownBlock = some k → ov.ownBlock = some k ∨ w1.heap.size ≤ k) {w3 : World}
    (hc : w3.cell? ⟨g, 0, none⟩ = some ov') (hf : w3.frozen? ⟨g, 0, none⟩ = false) (h3 : ∀ k, k ≠ g → w3.heap[k]? = w2.heap[k]?) (hs : w3.heap.size = w2.heap.size) :
    NAt w3 (Sx S w w3) g (l ++ [b]) ov' (vs ++ [v]) := by
  have hgo : ov.ownBlock ≠ some g := fun q => (h.oS g q).2 rfl
  have hgw : g < w.heap.size := h.lt g h.sg
  have hsz : w.heap.size ≤ w1.heap.size := hw.size
  have hsz2 : w1.heap.size ≤ w2.heap.size := hg.size
  have hog : ov'.ownBlock ≠ some g := fun e => (ho g e).elim hgo (fun q => by omega)
  have hold : ∀ k, Nb S g ov k → w3.heap[k]? = w.heap[k]? ∧ Nb (Sx S w w3) g ov' k := fun k hk => by
    refine ⟨(h3 k hk.2.1).trans ((hg.block k (by have := h.lt k hk.1; omega) (fun q => hk.2.2 q.symm)).trans (hw.block k (h.lt k hk.1))), .inl hk.1, hk.2.1, fun e => (ho k e).elim hk.2.2 (fun q => by have := h.lt k hk.1; omega)⟩
  have hnew : ∀ k, w.heap.size ≤ k ∧ k < w1.heap.size → w3.heap[k]? = w1.heap[k]? ∧ Nb (Sx S w w3) g ov' k := fun k hk => by
    have hk1 : ov.ownBlock ≠ some k := fun q => by have := h.lt k (h.oS k q).1; omega
    refine ⟨(h3 k (by omega)).trans (hg.block k hk.2 (fun q => hk1 q.symm)), .inr ⟨hk.1, by omega⟩, by omega, fun e => (ho k e).elim hk1 (fun q => by omega)⟩
  refine ⟨hc, hf, .inl h.sg, fun k q => q.elim (fun q => by have := h.lt k q; omega) (·.2), ?_, fun k hk => ⟨?_, fun e => hog (e ▸ hk)⟩, fun j u c hu hj => ?_⟩
  · rw [List.length_append]
    exact hr.same (fun k hk => h3 k (fun e => hog (e ▸ hk))) (by omega)
  · have := (hr.lt k hk).2
    exact (ho k hk).elim (fun q => .inl (h.oS k q).1) (fun q => .inr ⟨by omega, by omega⟩)
  · rcases Nat.lt_trichotomy j l.length with q | q | q
    · rw [List.getElem?_append_left (by rw [h.len]; exact q)] at hu
      rw [List.getElem?_append_left q] at hj
      exact (h.bod j u c hu hj).keep hold
    · subst q
      rw [← h.len, List.getElem?_append_right (Nat.le_refl _)] at hu
      rw [List.getElem?_append_right (Nat.le_refl _)] at hj
      simp only [Nat.sub_self, List.getElem?_cons_zero, Option.some.injEq] at hu hj
      subst hu
      subst hj
      exact (Bdy.own hv).keep hnew
    · rw [List.getElem?_eq_none (by rw [List.length_append]; simp; omega)] at hj
      cases hj
/-- what a removal leaves: the net's row is another one, its elements a part of those that were -/
theorem NAt.part {w2 w3 : World} {ov' : Value} {l' : List (List Int)} {vs' : List Value} (h : NAt w S g l ov vs) (hg : w.grownBy w2 (ov.ownBlock)) (hr : Orow w2 0 30 ov' l'.length vs')
    (ho : ∀ k, ov'.ownBlock = some k → ov.ownBlock = some k ∨ w.heap.size ≤ k) (hp : ∀ (j : Nat) v b, vs'[j]? = some v → l'[j]? = some b → ∃ k : Nat, vs[k]? = some v ∧ l[k]? = some b)
    (hc : w3.cell? ⟨g, 0, none⟩ = some ov') (hf : w3.frozen? ⟨g, 0, none⟩ = false) (h3 : ∀ k, k ≠ g → w3.heap[k]? = w2.heap[k]?) (hs : w3.heap.size = w2.heap.size) :
    NAt w3 (Sx S w w3) g l' ov' vs' := by
  have hgo : ov.ownBlock ≠ some g := fun q => (h.oS g q).2 rfl
  have hgw : g < w.heap.size := h.lt g h.sg
  have hsz : w.heap.size ≤ w2.heap.size := hg.size
  have hog : ov'.ownBlock ≠ some g := fun e => (ho g e).elim hgo (fun q => by omega)
  refine ⟨hc, hf, .inl h.sg, fun k q => q.elim (fun q => by have := h.lt k q; omega) (·.2), hr.same (fun k hk => h3 k (fun e => hog (e ▸ hk))) (by omega), fun k hk => ⟨?_, fun e => hog (e ▸ hk)⟩, fun j u c hu hj => ?_⟩
  · have := (hr.lt k hk).2
    exact (ho k hk).elim (fun q => .inl (h.oS k q).1) (fun q => .inr ⟨by omega, by omega⟩)
  · obtain ⟨k, hk, hk2⟩ := hp j u c hu hj
    refine (h.bod k u c hk hk2).keep fun b hb => ⟨(h3 b hb.2.1).trans (hg.block b (h.lt b hb.1) (fun q => hb.2.2 q.symm)), .inl hb.1, hb.2.1, fun e => (ho b e).elim hb.2.2 (fun q => by have := h.lt b hb.1; omega)⟩
end
/-- what stays when the i-th is removed stood somewhere before -/
theorem erase_from {α β : Type} (l : List α) (m : List β) (hl : l.length = m.length) (i : Nat) (hi : i < l.length) : ∀ (j : Nat) (x : α) (y : β), (l.take i ++ l.drop (i + 1))[j]? = some x → (m.take i ++ m.drop (i + 1))[j]? = some y →
    ∃ k : Nat, l[k]? = some x ∧ m[k]? = some y := fun j x y hx hy => by
  have h1 : (l.take i).length = i := by rw [List.length_take]; omega
  have h2 : (m.take i).length = i := by rw [List.length_take]; omega
  by_cases hj : j < i
  · rw [List.getElem?_append_left (by omega), List.getElem?_take_of_lt hj] at hx
    rw [List.getElem?_append_left (by omega), List.getElem?_take_of_lt hj] at hy
    exact ⟨j, hx, hy⟩
  · rw [List.getElem?_append_right (by omega), List.getElem?_drop, h1] at hx
    rw [List.getElem?_append_right (by omega), List.getElem?_drop, h2] at hy
    exact ⟨_, hx, hy⟩
theorem erase_len {α : Type} (l : List α) (i : Nat) (hi : i < l.length) : (l.take i ++ l.drop (i + 1)).length = l.length - 1 := by
  rw [List.length_append, List.length_take, List.length_drop]; omega

/-- a net without messages, in a block just made -/
theorem NAt.make (w : World) (t : TypeId) : NAt (w.alloc (.cells #[.slice none 0 0] t)) (fun b => b = w.heap.size) w.heap.size [] (.slice none 0 0) [] :=
  ⟨by have := range_new w [.slice none 0 0] t 0 _ rfl; exact this, by have := (there_new w [.slice none 0 0] t 0 (by decide)).2; exact this, rfl, (fun b e => by rw [e, World.size_alloc]; omega), Orow.nil _ _ _, (fun b e => nomatch e), (fun j v b h => by simp at h)⟩

/-- a net, whatever its row -/
def Nt (w : World) (S : Nat → Prop) (g : Nat) (l : List (List Int)) : Prop := ∃ ov vs, NAt w S g l ov vs
/-- what a call leaves: the net, its blocks and those that were made -/
def Ndid (w w' : World) (S : Nat → Prop) (g : Nat) (l : List (List Int)) : Prop := Nt w' (Sx S w w') g l ∧ Out S w w'
/-- a net of a law's own: all its blocks are new since w0, and all older ones as they were -/
def NOwn (w0 w : World) (g : Nat) (l : List (List Int)) : Prop := ∃ S, Nt w S g l ∧ (∀ b, S b → w0.heap.size ≤ b) ∧ Below w0.heap.size w0 w
section
variable {w0 w w' : World} {S : Nat → Prop} {g : Nat} {l l' : List (List Int)}
theorem NOwn.bel (h : NOwn w0 w g l) : Below w0.heap.size w0 w := by obtain ⟨_, _, _, q⟩ := h; exact q
theorem NOwn.below (h : NOwn w0 w g l) (hb : Below w.heap.size w w') : NOwn w0 w' g l := by
  obtain ⟨S, ⟨ov, vs, q1⟩, q2, q3⟩ := h
  exact ⟨S, ⟨ov, vs, q1.below hb⟩, q2, q3.trans (hb.mono q3.size)⟩
theorem NOwn.did (h : Ndid w w' S g l') (hS : ∀ b, S b → w0.heap.size ≤ b) (hb : Below w0.heap.size w0 w) : NOwn w0 w' g l' := by
  obtain ⟨⟨ov, vs, q1⟩, q2⟩ := h
  exact ⟨_, ⟨ov, vs, q1⟩, fun b e => e.elim (hS b) (fun e => by have := hb.size; omega), hb.trans (q2.to hS hb.size)⟩
end
end Go.Proofs.Ytceleihfdpgpiaa
