/- The iterator over frames: what it hands over, and with what. -/
import Derived.Test.YtbkdenlhfigjhaaDoorBFs
import Derived.Test.YtbkdenlhfigjhaaDoorBG
namespace Go.Proofs.YtbkdenlhfigjhaaDoor
open Go.RowKit Go.Shelf
attribute [local go_sem] Oper.semAt_some

/-- what comes: a frame, where the slice that its body is begins and its capacity, and the offset behind it -/
abbrev It := (Int × List Int) × (Option Addr × Nat) × Nat
def itV (x : It) : Value := .slice x.2.1.1 x.1.2.length x.2.1.2

/-- the caller's bytes and the iterator's box stay -/
def KpI (Bu bsz : Nat) (A B : World) : Prop := (∀ u, Boxed A Bu 37 u → Boxed B Bu 37 u) ∧ Below bsz A B
def MvI (A B : World) : Prop := Below A.heap.size A B

/-- what is known of a frame that comes -/
def YI (xs : List Int) (pre : List It) (x : It) (A0 A : World) : Prop :=
  A.ownsRow A0.heap.size 5 1 (itV x) x.1.2.length (u8s x.1.2) ∧ x.2.2 = (Fm.cat ((pre ++ [x]).map (·.1))).length ∧ x.2.2 ≤ xs.length ∧ 8 * (pre.length + 1) ≤ x.2.2 ∧ (0 ≤ x.1.1 ∧ x.1.1 ≤ 255) ∧ x.1.2.length ≤ 8192

def recV (x : It) : Value := .agg #[.int .u8 x.1.1, itV x]

end Go.Proofs.YtbkdenlhfigjhaaDoor

/- All frames from the beginning on: the program's. -/
namespace Go.Proofs.YtbkdenlhfigjhaaDoor
open Go.RowKit Go.Shelf
attribute [local go_sem] Oper.semAt_some

theorem cells_of_cell {w : World} {a : Addr} {v : Value} (h : w.cell? a = some v) : ∃ c t fz, w.heap[a.block]? = some (Obj.cells c t fz) := by
  unfold World.cell? at h
  split at h
  · rename_i c t fz e; exact ⟨c, t, fz, e⟩
  · cases h

/-- what is no cells may turn -/
theorem Acc.others {base : Nat} {w w' : World} {kv bv : Value} {ks : List Int} {bs : List (List Int)} (h : Acc base w kv bv ks bs) {row : Option Nat} (hg : w.grownBy w' row) (hr : ∀ r, row = some r → ∃ o : Obj, w.heap[r]? = some o ∧ o.isCells = false) : Acc base w' kv bv ks bs := by
  obtain ⟨vs, h1, h2, h3, h4, h5⟩ := h
  have hs := hg.size
  have cellsKept : ∀ g c t fz, w.heap[g]? = some (Obj.cells c t fz) → w'.heap[g]? = w.heap[g]? := fun g c t fz e => hg.block g (Array.getElem?_eq_some_iff.1 e).1 fun er => by
    obtain ⟨o, ho, hc⟩ := hr g er.symm
    rw [e] at ho
    cases ho
    cases hc
  have ownKept : ∀ {e : TypeId} {v : Value} {n : Nat} {xs : List Value}, w.ownsRow base e 1 v n xs → w'.ownsRow base e 1 v n xs := fun {e v n xs} ho => by
    refine own_same ho fun g eg => ?_
    rcases ho.2 with ⟨rfl, _⟩ | ⟨g', cap, cur, rfl, _, hgb, _⟩
    · cases eg
    · cases eg
      exact cellsKept _ _ _ _ hgb
  refine ⟨vs, ownKept h1, ownKept h2, h3, by omega, fun j v b hv hb => ?_⟩
  obtain ⟨A, c, e, q1, q2, q3⟩ := h5 j v b hv hb
  refine ⟨A, c, e, q1, q2, fun i u hi => ?_⟩
  obtain ⟨ad, ea, ok, hc⟩ := q3 i u hi
  refine ⟨ad, ea, ⟨ok.1, by omega, ok.2.2⟩, ?_⟩
  obtain ⟨c2, t2, f2, e2⟩ := cells_of_cell hc
  exact (World.cell?_of_block (cellsKept _ _ _ _ e2)).trans hc

theorem Bod.others {w w' : World} {ok ok' : Nat → Prop} {v : Value} {b : List Int} (h : Bod w ok v b) {row : Option Nat} (hg : w.grownBy w' row) (hr : ∀ r, row = some r → ∃ o : Obj, w.heap[r]? = some o ∧ o.isCells = false) (hk : ∀ g, ok g → ok' g) : Bod w' ok' v b := by
  obtain ⟨A, c, e, q1, q2, q3⟩ := h
  refine ⟨A, c, e, q1, q2, fun i u hi => ?_⟩
  obtain ⟨ad, ea, ok, hc⟩ := q3 i u hi
  refine ⟨ad, ea, hk _ ok, ?_⟩
  obtain ⟨c2, t2, f2, e2⟩ := cells_of_cell hc
  refine (World.cell?_of_block (hg.block _ (Array.getElem?_eq_some_iff.1 e2).1 fun er => ?_)).trans hc
  obtain ⟨o, ho, hc⟩ := hr _ er.symm
  rw [e2] at ho
  cases ho
  cases hc

/-- a row behind a variable's box is appended to, and stored there -/
theorem stage {W w1 : World} {bk B : Nat} {t : TypeId} {v : Value} {tmp : Obj} (v' : Value) (hbB : bk ≤ B) (hBx : Boxed W B t v) (hB4 : B < bk + 4) (h4 : bk + 4 ≤ W.heap.size) (hg : (W.alloc tmp).grownBy w1 v.ownBlock)
    (hrow : ∀ g, v.ownBlock = some g → bk + 4 ≤ g ∧ ∃ c tt fz, (W.alloc tmp).heap[g]? = some (Obj.cells c tt fz)) :
    Boxed w1 B t v ∧ Boxed (w1.setCell ⟨B, 0, none⟩ v') B t v' ∧ (∀ B' t' u, B' < bk + 4 → B' ≠ B → Boxed W B' t' u → Boxed (w1.setCell ⟨B, 0, none⟩ v') B' t' u) ∧ KeepsOthers W (w1.setCell ⟨B, 0, none⟩ v') ∧
      Below bk W (w1.setCell ⟨B, 0, none⟩ v') ∧ (∀ g, bk + 4 ≤ g → (w1.setCell ⟨B, 0, none⟩ v').heap[g]? = w1.heap[g]?) ∧ (∀ g, bk + 4 ≤ g → g < W.heap.size → v.ownBlock ≠ some g → (w1.setCell ⟨B, 0, none⟩ v').heap[g]? = W.heap[g]?) := by
  have hne : ∀ B', B' < bk + 4 → some B' ≠ v.ownBlock := fun B' h e => by have := (hrow B' e.symm).1; omega
  have k1 : Boxed w1 B t v := (hBx.alloc tmp).kept hg (hne B hB4)
  have hset : ∀ g, bk + 4 ≤ g → (w1.setCell ⟨B, 0, none⟩ v').heap[g]? = w1.heap[g]? := fun g h => Below.heap_setCell _ _ _ g (by dsimp only; omega)
  refine ⟨k1, k1.set v', fun B' t' u h h' hb => ((hb.alloc tmp).kept hg (hne B' h)).other h' v', ?_, ?_, hset, fun g h h' hn => ?_⟩
  · refine ((KeepsOthers.alloc W tmp).trans (KeepsOthers.of_grownBy hg fun j o ej hj => ?_)).trans (KeepsOthers.setCell _ _ _)
    obtain ⟨_, c, tt, fz, e⟩ := hrow j ej
    rw [e] at hj
    cases hj
    rfl
  · exact (((Below.refl bk W).alloc (by omega) tmp).grown hg (by simp; omega) (fun j ej => by have := (hrow j ej).1; omega)).setCell (p := ⟨B, 0, none⟩) hbB v'
  · exact (hset g h).trans ((hg.block g (by simp; omega) (fun e => hn e.symm)).trans (Below.heap_alloc _ _ _ h'))

theorem Acc.rows {base : Nat} {w : World} {kv bv : Value} {ks : List Int} {bs : List (List Int)} (h : Acc base w kv bv ks bs) : (∀ g, kv.ownBlock = some g → base ≤ g ∧ ∃ c tt fz, w.heap[g]? = some (Obj.cells c tt fz)) ∧ (∀ g, bv.ownBlock = some g → base ≤ g ∧ ∃ c tt fz, w.heap[g]? = some (Obj.cells c tt fz)) := by
  obtain ⟨vs, h1, h2, -⟩ := h
  have one : ∀ {e : TypeId} {v : Value} {n : Nat} {xs : List Value}, w.ownsRow base e 1 v n xs → ∀ g, v.ownBlock = some g → base ≤ g ∧ ∃ c tt fz, w.heap[g]? = some (Obj.cells c tt fz) := fun {e v n xs} ho g eg => by
    rcases ho.2 with ⟨rfl, _⟩ | ⟨g', cap, cur, rfl, hb, hgb, _⟩
    · cases eg
    · cases eg
      exact ⟨hb, _, _, _, hgb⟩
  exact ⟨one h1, one h2⟩

theorem Acc.mono {base base' : Nat} {w : World} {kv bv : Value} {ks : List Int} {bs : List (List Int)} (h : Acc base w kv bv ks bs) (hb : base' ≤ base) : Acc base' w kv bv ks bs := by
  obtain ⟨vs, h1, h2, h3, h4, h5⟩ := h
  refine ⟨vs, own_mono h1 hb, own_mono h2 hb, h3, by omega, fun j v b hv hb' => (h5 j v b hv hb').keep fun g hg => ⟨rfl, by omega, hg.2⟩⟩

theorem boxed_others {W W' : World} {B : Nat} {t : TypeId} {v : Value} (h : Boxed W B t v) {row : Option Nat} (hg : W.grownBy W' row) (hr : ∀ r, row = some r → ∃ o : Obj, W.heap[r]? = some o ∧ o.isCells = false) : Boxed W' B t v :=
  h.kept hg fun e => by
    obtain ⟨o, ho, hc⟩ := hr B e.symm
    rw [show W.heap[B]? = _ from h] at ho
    cases ho
    cases hc

theorem boxed_below {W W' : World} {B : Nat} {t : TypeId} {v : Value} (h : Boxed W B t v) (hb : Below W.heap.size W W') : Boxed W' B t v := (hb.block _ h.lt).trans h

/-- between two rounds -/
def InvI (bk : Nat) (w : World) (pre : List It) (W : World) : Prop :=
  (∃ kv bv, Boxed W bk 37 kv ∧ Boxed W (bk + 1) 107 bv ∧ Acc (bk + 4) W kv bv (pre.map (·.1.1)) (pre.map (·.1.2))) ∧
    Boxed W (bk + 1 + 1) 3 (.int .i64 (((Fm.cat (pre.map (·.1))).length : Nat) : Int)) ∧ (∃ u, Boxed W (bk + 3) 37 u) ∧ Below bk w W

theorem InvI.own (bk B : Nat) (w : World) (hB : bk ≤ B) : OwnFrom B (InvI bk w) := fun s W W' row ⟨⟨kv, bv, h1, h2, h3⟩, h4, ⟨u, h5⟩, h6⟩ hg hr =>
  ⟨⟨kv, bv, boxed_others h1 hg (fun r e => (hr r e).2), boxed_others h2 hg (fun r e => (hr r e).2), h3.others hg (fun r e => (hr r e).2)⟩, boxed_others h4 hg (fun r e => (hr r e).2), ⟨u, boxed_others h5 hg (fun r e => (hr r e).2)⟩,
    h6.grown hg (by have := h1.lt; omega) (fun r e => by have := (hr r e).1; omega)⟩

theorem InvI.moved {bk : Nat} {w : World} {s : List It} {A B : World} (h : InvI bk w s A) (m : MvI A B) : InvI bk w s B := by
  obtain ⟨⟨kv, bv, h1, h2, h3⟩, h4, ⟨u, h5⟩, h6⟩ := h
  exact ⟨⟨kv, bv, (m.block _ h1.lt).trans h1, (m.block _ h2.lt).trans h2, h3.below m⟩, (m.block _ h4.lt).trans h4, ⟨u, (m.block _ h5.lt).trans h5⟩, h6.trans (m.mono (by have := h1.lt; omega))⟩

theorem Acc.outF {base : Nat} {w : World} {kv bv : Value} {fs : List (Int × List Int)} (h : Acc base w kv bv (fs.map (·.1)) (fs.map (·.2))) : ∃ A c vs A' c', kv = .slice A fs.length c ∧ bv = .slice A' fs.length c' ∧ (fs.length ≤ c ∧ c ≤ maxLen) ∧ (fs.length ≤ c' ∧ c' ≤ maxLen) ∧
    Rd w w.heap.size A (u8s (fs.map (·.1))) ∧ Rd w w.heap.size A' vs ∧ Bods w w.heap.size vs (fs.map (·.2)) := by
  obtain ⟨⟨A, c, e1, h1, h2, h3⟩, vs, A', c', e2, h4, h5, h6, h7⟩ := h.out
  rw [List.length_map] at e1 e2 h1 h4
  exact ⟨A, c, vs, A', c', e1, e2, ⟨h1, h2⟩, ⟨h4, h5⟩, h3, h6, h7⟩

theorem al_by {xs : List Int} (h : Fm.By xs) : Fm.By ((Fm.al xs).map (·.1)) ∧ ∀ b ∈ (Fm.al xs).map (·.2), Fm.By b := by
  have hk := (Fm.al_ok xs.length xs (Nat.le_refl _) h).1
  refine ⟨fun x hx => ?_, fun b hb => ?_⟩
  · obtain ⟨f, hf, rfl⟩ := List.mem_map.1 hx
    exact (hk f hf).2.1
  · obtain ⟨f, hf, rfl⟩ := List.mem_map.1 hb
    exact (hk f hf).2.2

theorem al_len {xs : List Int} (h : Fm.By xs) : 8 * (Fm.al xs).length ≤ (Fm.cat (Fm.al xs)).length ∧ (Fm.cat (Fm.al xs)).length ≤ xs.length := by
  refine ⟨?_, (Fm.al_ok xs.length xs (Nat.le_refl _) h).2.1⟩
  generalize Fm.al xs = fs
  induction fs with
  | nil => simp [Fm.cat_nil]
  | cons f fs ih => rw [Fm.cat_cons, List.length_append, Fm.frm_len, List.length_cons]; omega
end Go.Proofs.YtbkdenlhfigjhaaDoor
