/- A journal of a law's own, and three rows beside it, none of which touches another, nor what is named beside them. -/
import Derived.Test.YtgpagddaopgdgaaDoorJt
namespace Go.Proofs.YtgpagddaopgdgaaDoor
open Go.RowKit Go.Shelf Km

structure RecS (S N : Nat → Prop) (w0 w : World) (g : Nat) (s : Jm.St) (e1 : TypeId) (v1 : Value) (x1 : List Value) (e2 : TypeId) (v2 : Value) (x2 : List Value) (e3 : TypeId) (v3 : Value) (x3 : List Value) : Prop where
  j : Jat w S g s
  lo : ∀ b, S b → w0.heap.size ≤ b
  o1 : w.ownsRow w0.heap.size e1 1 v1 x1.length x1
  o2 : w.ownsRow w0.heap.size e2 1 v2 x2.length x2
  o3 : w.ownsRow w0.heap.size e3 1 v3 x3.length x3
  d1 : ∀ b, v1.ownBlock = some b → ¬ S b ∧ v2.ownBlock ≠ some b ∧ v3.ownBlock ≠ some b
  d2 : ∀ b, v2.ownBlock = some b → ¬ S b ∧ v3.ownBlock ≠ some b
  d3 : ∀ b, v3.ownBlock = some b → ¬ S b
  n : ∀ b, N b → b < w.heap.size ∧ ¬ S b ∧ v1.ownBlock ≠ some b ∧ v2.ownBlock ≠ some b ∧ v3.ownBlock ≠ some b
  bel : Below w0.heap.size w0 w

section
variable {S S' N N' : Nat → Prop} {w0 w w' : World} {g : Nat} {s s' : Jm.St} {e1 e2 e3 : TypeId} {v1 v2 v3 v1' : Value} {x1 x2 x3 x1' : List Value}

theorem RecS.weak (h : RecS S N w0 w g s e1 v1 x1 e2 v2 x2 e3 v3 x3) (q : ∀ b, N' b → N b) : RecS S N' w0 w g s e1 v1 x1 e2 v2 x2 e3 v3 x3 :=
  ⟨h.j, h.lo, h.o1, h.o2, h.o3, h.d1, h.d2, h.d3, fun b r => h.n b (q b r), h.bel⟩
theorem RecS.swap12 (h : RecS S N w0 w g s e1 v1 x1 e2 v2 x2 e3 v3 x3) : RecS S N w0 w g s e2 v2 x2 e1 v1 x1 e3 v3 x3 :=
  ⟨h.j, h.lo, h.o2, h.o1, h.o3, fun b q => ⟨(h.d2 b q).1, fun r => (h.d1 b r).2.1 q, (h.d2 b q).2⟩, fun b q => ⟨(h.d1 b q).1, (h.d1 b q).2.2⟩, h.d3, fun b q => ⟨(h.n b q).1, (h.n b q).2.1, (h.n b q).2.2.2.1, (h.n b q).2.2.1, (h.n b q).2.2.2.2⟩, h.bel⟩
theorem RecS.swap13 (h : RecS S N w0 w g s e1 v1 x1 e2 v2 x2 e3 v3 x3) : RecS S N w0 w g s e3 v3 x3 e2 v2 x2 e1 v1 x1 :=
  ⟨h.j, h.lo, h.o3, h.o2, h.o1, fun b q => ⟨h.d3 b q, fun r => (h.d2 b r).2 q, fun r => (h.d1 b r).2.2 q⟩, fun b q => ⟨(h.d2 b q).1, fun r => (h.d1 b r).2.1 q⟩, fun b q => (h.d1 b q).1, fun b q => ⟨(h.n b q).1, (h.n b q).2.1, (h.n b q).2.2.2.2, (h.n b q).2.2.2.1, (h.n b q).2.2.1⟩, h.bel⟩
/-- the journal's own doing -/
theorem RecS.move (h : RecS S N w0 w g s e1 v1 x1 e2 v2 x2 e3 v3 x3) (d : Jat w' S' g s') (o : Out S w w') (hS : ∀ b, S' b → Sx S w w' b) : RecS S' N w0 w' g s' e1 v1 x1 e2 v2 x2 e3 v3 x3 ∧ Kp N w w' := by
  have l1 := h.o1.lt
  have l2 := h.o2.lt
  have l3 := h.o3.lt
  have no : ∀ b, b < w.heap.size → ¬ S b → ¬ S' b := fun b hb hn hs => (hS b hs).elim hn (fun q => by omega)
  exact ⟨⟨d, fun b q => (hS b q).elim (h.lo b) (fun q => Nat.le_trans h.bel.size q.1), own_same h.o1 fun b q => o.block b (l1 b q).2 (h.d1 b q).1, own_same h.o2 fun b q => o.block b (l2 b q).2 (h.d2 b q).1, own_same h.o3 fun b q => o.block b (l3 b q).2 (h.d3 b q),
    fun b q => ⟨no b (l1 b q).2 (h.d1 b q).1, (h.d1 b q).2⟩, fun b q => ⟨no b (l2 b q).2 (h.d2 b q).1, (h.d2 b q).2⟩, fun b q => no b (l3 b q).2 (h.d3 b q), fun b q => ⟨Nat.lt_of_lt_of_le (h.n b q).1 o.size, no b (h.n b q).1 (h.n b q).2.1, (h.n b q).2.2⟩, h.bel.trans (o.to h.lo h.bel.size)⟩,
    o.size, fun b q => o.block b (h.n b q).1 (h.n b q).2.1⟩
/-- what is made is nobody's -/
theorem RecS.below (h : RecS S N w0 w g s e1 v1 x1 e2 v2 x2 e3 v3 x3) (hb : Below w.heap.size w w') : RecS S (fun b => N b ∨ (w.heap.size ≤ b ∧ b < w'.heap.size)) w0 w' g s e1 v1 x1 e2 v2 x2 e3 v3 x3 ∧ Kp N w w' := by
  have l1 := h.o1.lt
  have l2 := h.o2.lt
  have l3 := h.o3.lt
  obtain ⟨kv, rv, k⟩ := h.j
  refine ⟨⟨⟨kv, rv, k.below hb⟩, h.lo, own_same h.o1 fun b q => hb.block b (l1 b q).2, own_same h.o2 fun b q => hb.block b (l2 b q).2, own_same h.o3 fun b q => hb.block b (l3 b q).2, h.d1, h.d2, h.d3, fun b q => ?_, h.bel.trans (hb.mono h.bel.size)⟩, hb.size, fun b q => hb.block b (h.n b q).1⟩
  rcases q with q | q
  · exact ⟨Nat.lt_of_lt_of_le (h.n b q).1 hb.size, (h.n b q).2⟩
  · exact ⟨q.2, fun r => by have := k.lt b r; omega, fun r => by have := l1 b r; omega, fun r => by have := l2 b r; omega, fun r => by have := l3 b r; omega⟩
/-- the first row grown -/
theorem RecS.grow (h : RecS S N w0 w g s e1 v1 x1 e2 v2 x2 e3 v3 x3) (hg : w.grownBy w' v1.ownBlock) (ho : w'.ownsRow w0.heap.size e1 1 v1' x1'.length x1') (hone : v1'.ownBlock = v1.ownBlock ∨ v1'.ownBlock = some w.heap.size) :
    RecS S N w0 w' g s e1 v1' x1' e2 v2 x2 e3 v3 x3 ∧ Kp N w w' := by
  have l1 := h.o1.lt
  have l2 := h.o2.lt
  have l3 := h.o3.lt
  obtain ⟨kv, rv, k⟩ := h.j
  refine ⟨⟨⟨kv, rv, k.same (fun b q => hg.block b (k.lt b q) (fun e => (h.d1 b e.symm).1 q)) hg.size⟩, h.lo, ho, own_same h.o2 fun b q => hg.block b (l2 b q).2 (fun e => (h.d1 b e.symm).2.1 q), own_same h.o3 fun b q => hg.block b (l3 b q).2 (fun e => (h.d1 b e.symm).2.2 q),
    fun b q => ?_, h.d2, h.d3, fun b q => ⟨Nat.lt_of_lt_of_le (h.n b q).1 hg.size, (h.n b q).2.1, fun r => ?_, (h.n b q).2.2.2⟩, h.bel.grown hg h.bel.size (fun b q => (l1 b q).1)⟩, hg.size, fun b q => hg.block b (h.n b q).1 (fun e => (h.n b q).2.2.1 e.symm)⟩
  · rcases hone with e | e
    · exact h.d1 b (e ▸ q)
    · rw [e] at q
      injection q with q
      subst q
      exact ⟨fun r => by have := k.lt _ r; omega, fun r => by have := (l2 _ r).2; omega, fun r => by have := (l3 _ r).2; omega⟩
  · rcases hone with e | e
    · exact (h.n b q).2.2.1 (e ▸ r)
    · rw [e] at r
      injection r with r
      have := (h.n b q).1
      omega
end

/-- the journal, the tail's copy, the copy of all, the ends -/
def Rec (N : Nat → Prop) (w0 w : World) (g : Nat) (s : Jm.St) (vt va ve : Value) (T L E : List Int) : Prop := ∃ S, RecS S N w0 w g s 5 vt (u8s T) 5 va (u8s L) 3 ve (E.map (Value.int .i64))

section
variable {N N' : Nat → Prop} {w0 w w' : World} {g : Nat} {s : Jm.St} {vt va ve v' : Value} {T L E : List Int}

theorem Rec.weak (h : Rec N w0 w g s vt va ve T L E) (q : ∀ b, N' b → N b) : Rec N' w0 w g s vt va ve T L E := by obtain ⟨S, h⟩ := h; exact ⟨S, h.weak q⟩
theorem Rec.bel (h : Rec N w0 w g s vt va ve T L E) : Below w0.heap.size w0 w := by obtain ⟨S, h⟩ := h; exact h.bel
theorem Rec.ok (h : Rec N w0 w g s vt va ve T L E) : Jm.Ok s := by obtain ⟨S, h⟩ := h; obtain ⟨kv, rv, k⟩ := h.j; exact k.ok
theorem Rec.below (h : Rec N w0 w g s vt va ve T L E) (hb : Below w.heap.size w w') : Rec (fun b => N b ∨ (w.heap.size ≤ b ∧ b < w'.heap.size)) w0 w' g s vt va ve T L E ∧ Kp N w w' := by obtain ⟨S, h⟩ := h; exact ⟨⟨S, (h.below hb).1⟩, (h.below hb).2⟩
theorem Rec.below0 (h : Rec N w0 w g s vt va ve T L E) (hb : Below w.heap.size w w') : Rec N w0 w' g s vt va ve T L E := (h.below hb).1.weak fun _ q => .inl q
theorem Rec.own (j : Own w0 w g s) : Rec (fun _ => False) w0 w g s (.slice none 0 0) (.slice none 0 0) (.slice none 0 0) [] [] [] := by
  obtain ⟨S, h1, h2, h3⟩ := j
  exact ⟨S, h1, h2, World.ownsRow_nil _ _ _ _, World.ownsRow_nil _ _ _ _, World.ownsRow_nil _ _ _ _, (fun b q => nomatch q), (fun b q => nomatch q), (fun b q => nomatch q), (fun b q => q.elim), h3⟩
theorem Rec.ownT (h : Rec N w0 w g s vt va ve T L E) : w.ownsRow w0.heap.size 5 1 vt T.length (u8s T) := by obtain ⟨S, h⟩ := h; have := h.o1; rwa [List.length_map] at this
theorem Rec.ownL (h : Rec N w0 w g s vt va ve T L E) : w.ownsRow w0.heap.size 5 1 va L.length (u8s L) := by obtain ⟨S, h⟩ := h; have := h.o2; rwa [List.length_map] at this
theorem Rec.ownE (h : Rec N w0 w g s vt va ve T L E) : w.ownsRow w0.heap.size 3 1 ve E.length (E.map (Value.int .i64)) := by obtain ⟨S, h⟩ := h; have := h.o3; rwa [List.length_map] at this
theorem Rec.growT (h : Rec N w0 w g s vt va ve T L E) (hg : w.grownBy w' vt.ownBlock) {T' : List Int} (ho : w'.ownsRow w0.heap.size 5 1 v' T'.length (u8s T')) (hone : v'.ownBlock = vt.ownBlock ∨ v'.ownBlock = some w.heap.size) : Rec N w0 w' g s v' va ve T' L E ∧ Kp N w w' := by
  obtain ⟨S, h⟩ := h
  have := h.grow (x1' := u8s T') hg (by rw [List.length_map]; exact ho) hone
  exact ⟨⟨S, this.1⟩, this.2⟩
theorem Rec.growL (h : Rec N w0 w g s vt va ve T L E) (hg : w.grownBy w' va.ownBlock) {L' : List Int} (ho : w'.ownsRow w0.heap.size 5 1 v' L'.length (u8s L')) (hone : v'.ownBlock = va.ownBlock ∨ v'.ownBlock = some w.heap.size) : Rec N w0 w' g s vt v' ve T L' E ∧ Kp N w w' := by
  obtain ⟨S, h⟩ := h
  have := h.swap12.grow (x1' := u8s L') hg (by rw [List.length_map]; exact ho) hone
  exact ⟨⟨S, this.1.swap12⟩, this.2⟩
theorem Rec.growE (h : Rec N w0 w g s vt va ve T L E) (hg : w.grownBy w' ve.ownBlock) {E' : List Int} (ho : w'.ownsRow w0.heap.size 3 1 v' E'.length (E'.map (Value.int .i64))) (hone : v'.ownBlock = ve.ownBlock ∨ v'.ownBlock = some w.heap.size) : Rec N w0 w' g s vt va v' T L E' ∧ Kp N w w' := by
  obtain ⟨S, h⟩ := h
  have := h.swap13.grow (x1' := E'.map (Value.int .i64)) hg (by rw [List.length_map]; exact ho) hone
  exact ⟨⟨S, this.1.swap13⟩, this.2⟩

/-! ### the calls -/
theorem append_c (h : Rec N w0 w g s vt va ve T L E) (ht : HTab w0) (k : Int) (A : Option Addr) (n cap B : Nat) (xs : List Int) (hk : 0 ≤ k ∧ k ≤ 255) (hx : Rd w B A (u8s xs)) (hn : xs.length = n) (hnc : n ≤ cap) (hcap : cap ≤ maxLen) (hB : B ≤ w.heap.size) (hb : Fm.By xs) (hz : Jm.size s ≤ 16777216) :
    Calls Tryd.prog 12 #[.pointer (some ⟨g, 0, none⟩), .int .u8 k, .slice A n cap] w fun e w' => e = .returned (.int .i64 (Jm.append s k xs).2) ∧ Rec N w0 w' g (Jm.append s k xs).1 vt va ve T L E ∧ Kp N w w' := by
  have htw := ht.below h.bel (Nat.le_refl _)
  obtain ⟨S, h⟩ := h
  obtain ⟨kv, rv, h1⟩ := h.j
  exact (append_any h1 k A n cap B xs hk hx hn hnc hcap hB hb htw hz).mono fun e w' ⟨q1, q2, q3⟩ => ⟨q1, ⟨_, (h.move q2 q3 fun _ q => q).1⟩, (h.move q2 q3 fun _ q => q).2⟩
theorem sync_c (h : Rec N w0 w g s vt va ve T L E) (hz : Jm.size s ≤ 16777216) : Calls Tryd.prog 14 #[.pointer (some ⟨g, 0, none⟩)] w fun e w' => e = .returned (.int .i64 (Jm.sync s).2) ∧ Rec N w0 w' g (Jm.sync s).1 vt va ve T L E ∧ Kp N w w' := by
  obtain ⟨S, h⟩ := h
  obtain ⟨kv, rv, h1⟩ := h.j
  exact (sync_any h1 hz).mono fun e w' ⟨q1, q2, q3⟩ => ⟨q1, ⟨_, (h.move q2 q3 fun _ q => q).1⟩, (h.move q2 q3 fun _ q => q).2⟩
theorem crash_c (h : Rec N w0 w g s vt va ve T L E) (n : Int) (hz : Jm.size s ≤ 16777216) : Calls Tryd.prog 20 #[.pointer (some ⟨g, 0, none⟩), .int .i64 n] w fun e w' => e = .returned (.tuple #[]) ∧ Rec N w0 w' g (Jm.crash s n) vt va ve T L E ∧ Kp N w w' := by
  obtain ⟨S, h⟩ := h
  obtain ⟨kv, rv, h1⟩ := h.j
  exact (crash_any h1 n hz).mono fun e w' ⟨q1, q2, q3⟩ => ⟨q1, ⟨_, (h.move q2 q3 fun _ q => q).1⟩, (h.move q2 q3 fun _ q => q).2⟩
theorem open_c (h : Rec N w0 w g s vt va ve T L E) (ht : HTab w0) (hz : Jm.size s ≤ 4194304) : Calls Tryd.prog 22 #[.pointer (some ⟨g, 0, none⟩)] w fun e w' => ∃ kk bb, e = .returned (.tuple #[kk, bb, .int .i64 (Jm.opn s).2.2]) ∧ Told w.heap.size w' kk bb (Jm.opn s).2.1 ∧
      Rec (fun b => N b ∨ (w.heap.size ≤ b ∧ b < w'.heap.size)) w0 w' g (Jm.opn s).1 vt va ve T L E ∧ Kp N w w' := by
  have htw := ht.below h.bel (Nat.le_refl _)
  obtain ⟨S, h⟩ := h
  have nT : ¬ S 0 := fun q => by
    have e := World.block_lt_of_cell? w0 _ (ht 0 (by omega))
    have := h.lo _ q
    dsimp only at e
    omega
  obtain ⟨kv, rv, h1⟩ := h.j
  refine (open_any h1 htw nT hz).mono fun e w' ⟨kk, bb, q1, q2, q3, q4⟩ => ?_
  obtain ⟨m1, m2⟩ := h.move q3 q4 fun _ q => .inl q
  refine ⟨kk, bb, q1, q2, ⟨S, m1.j, m1.lo, m1.o1, m1.o2, m1.o3, m1.d1, m1.d2, m1.d3, fun b q => ?_, m1.bel⟩, m2⟩
  rcases q with q | q
  · exact m1.n b q
  · exact ⟨q.2, fun r => by have := h1.lt b r; omega, fun r => by have := h.o1.lt b r; omega, fun r => by have := h.o2.lt b r; omega, fun r => by have := h.o3.lt b r; omega⟩
theorem synced_c (h : Rec N w0 w g s vt va ve T L E) (hz : Jm.size s ≤ 16777216) : Calls Tryd.prog 26 #[.pointer (some ⟨g, 0, none⟩)] w fun e w' => ∃ v, e = .returned v ∧ w'.ownsRow w.heap.size 5 1 v s.kept.length (u8s s.kept) ∧ Below w.heap.size w w' := by
  obtain ⟨S, h⟩ := h
  obtain ⟨kv, rv, h1⟩ := h.j
  unfold Jm.size at hz
  exact synced_any h1 (by omega)
theorem tail_c (h : Rec N w0 w g s vt va ve T L E) (hz : Jm.size s ≤ 16777216) : Calls Tryd.prog 27 #[.pointer (some ⟨g, 0, none⟩)] w fun e w' => ∃ v, e = .returned v ∧ w'.ownsRow w.heap.size 5 1 v s.rest.length (u8s s.rest) ∧ Below w.heap.size w w' := by
  obtain ⟨S, h⟩ := h
  obtain ⟨kv, rv, h1⟩ := h.j
  unfold Jm.size at hz
  exact tail_any h1 (by omega)
end

namespace Jm
/-- without a fuse an opening tells all whole frames, and keeps just them -/
theorem opn_free {K : List Int} (hK : Fm.By K) (r : List Int) (d : Bool) : opn ⟨K, r, -1, d⟩ = (⟨Fm.cat (Fm.al K), [], -1, false⟩, Fm.al K, 0) := by
  obtain ⟨-, h2, h3, -⟩ := Fm.al_ok _ K (Nat.le_refl _) hK
  have eu : eff (up ⟨K, r, -1, d⟩) = (up ⟨K, r, -1, d⟩, 0) := eff_none rfl (by show (-1 : Int) < 0; decide)
  have ew : whole ⟨K, r, -1, d⟩ = (Fm.cat (Fm.al K)).length := rfl
  by_cases hw : whole ⟨K, r, -1, d⟩ < K.length
  · rw [opn_cut (s := ⟨K, r, -1, d⟩) hw (by rw [eu]), eu, ew]
    dsimp only
    have : K.take (Fm.cat (Fm.al K)).length = Fm.cat (Fm.al K) := by
      generalize Fm.cat (Fm.al K) = C at h3
      conv => lhs; rw [h3, List.take_left]
    rw [this]
    rfl
  · rw [opn_all (s := ⟨K, r, -1, d⟩) hw]
    have hl : (Fm.cat (Fm.al K)).length = K.length := by rw [ew] at hw; omega
    have : K = Fm.cat (Fm.al K) := by
      rw [hl, List.drop_length, List.append_nil] at h3
      exact h3
    dsimp only
    rw [← this]
    rfl
/-- of whole frames, and others of which p bytes were kept: those, and the whole ones of these -/
theorem al_kept {fs gs : List (Int × List Int)} (hf : ∀ f ∈ fs, f.2.length ≤ 8192) (hg : ∀ f ∈ gs, f.2.length ≤ 8192) (p : Nat) :
    ∃ q, q ≤ gs.length ∧ Fm.al (Fm.cat fs ++ (Fm.cat gs).take p) = fs ++ gs.take q ∧ (∀ m, m ≤ gs.length → ((Fm.cat (gs.take m)).length ≤ p ↔ m ≤ q)) := by
  obtain ⟨q, h1, h2, h3, -⟩ := Fm.al_cut gs p hg
  exact ⟨q, h1, by rw [Fm.al_cat fs _ hf, h2], h3⟩
end Jm
end Go.Proofs.YtgpagddaopgdgaaDoor
