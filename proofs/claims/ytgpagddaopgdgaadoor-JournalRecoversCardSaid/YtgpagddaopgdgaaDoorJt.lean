/- Two journals side by side, the program's and the document's, of which neither touches the other, nor what is named beside them. -/
import Derived.Test.YtgpagddaopgdgaaDoorJs
namespace Go.Proofs.YtgpagddaopgdgaaDoor
open Go.RowKit Go.Shelf Km

/-- two journals; N: blocks that are neither's -/
def Two (N : Nat → Prop) (w0 w : World) (g1 g2 : Nat) (s1 s2 : Jm.St) : Prop :=
  ∃ S1 S2 : Nat → Prop, Jat w S1 g1 s1 ∧ Jat w S2 g2 s2 ∧ (∀ b, S1 b → ¬ S2 b) ∧ (∀ b, S1 b ∨ S2 b → w0.heap.size ≤ b) ∧ (∀ b, N b → b < w.heap.size ∧ ¬ S1 b ∧ ¬ S2 b) ∧ Below w0.heap.size w0 w
/-- what is named stays -/
def Kp (N : Nat → Prop) (w w' : World) : Prop := w.heap.size ≤ w'.heap.size ∧ ∀ b, N b → w'.heap[b]? = w.heap[b]?

section
variable {N N' : Nat → Prop} {w0 w w' w'' : World} {g1 g2 : Nat} {s1 s2 s : Jm.St} {S : Nat → Prop}

theorem Kp.trans (h : Kp N w w') (k : Kp N w' w'') : Kp N w w'' := ⟨Nat.le_trans h.1 k.1, fun b q => (k.2 b q).trans (h.2 b q)⟩
theorem Kp.weak (h : Kp N w w') (q : ∀ b, N' b → N b) : Kp N' w w' := ⟨h.1, fun b r => h.2 b (q b r)⟩
theorem Kp.cell (h : Kp N w w') {a : Addr} {v : Value} (hc : w.cell? a = some v) (hn : N a.block) : w'.cell? a = some v := (World.cell?_of_block (h.2 _ hn)).trans hc
theorem Kp.own (h : Kp N w w') {base : Nat} {e : TypeId} {v : Value} {n : Nat} {xs : List Value} (ho : w.ownsRow base e 1 v n xs) (hn : ∀ b, v.ownBlock = some b → N b) : w'.ownsRow base e 1 v n xs := own_same ho fun b q => h.2 b (hn b q)
theorem Two.bel (h : Two N w0 w g1 g2 s1 s2) : Below w0.heap.size w0 w := by obtain ⟨_, _, -, -, -, -, -, h⟩ := h; exact h
theorem Two.ok1 (h : Two N w0 w g1 g2 s1 s2) : Jm.Ok s1 := by obtain ⟨_, _, ⟨_, _, h⟩, -⟩ := h; exact h.ok
theorem Two.weak (h : Two N w0 w g1 g2 s1 s2) (q : ∀ b, N' b → N b) : Two N' w0 w g1 g2 s1 s2 := by
  obtain ⟨S1, S2, h1, h2, h3, h4, h5, h6⟩ := h
  exact ⟨S1, S2, h1, h2, h3, h4, fun b r => h5 b (q b r), h6⟩
/-- new blocks are neither's -/
theorem Two.below (h : Two N w0 w g1 g2 s1 s2) (hb : Below w.heap.size w w') : Two (fun b => N b ∨ (w.heap.size ≤ b ∧ b < w'.heap.size)) w0 w' g1 g2 s1 s2 := by
  obtain ⟨S1, S2, ⟨k1, r1, h1⟩, ⟨k2, r2, h2⟩, h3, h4, h5, h6⟩ := h
  refine ⟨S1, S2, ⟨k1, r1, h1.below hb⟩, ⟨k2, r2, h2.below hb⟩, h3, h4, fun b q => ?_, h6.trans (hb.mono h6.size)⟩
  rcases q with q | q
  · exact ⟨Nat.lt_of_lt_of_le (h5 b q).1 hb.size, (h5 b q).2⟩
  · exact ⟨q.2, fun r => by have := h1.lt b r; omega, fun r => by have := h2.lt b r; omega⟩
theorem Two.kp (h : Two N w0 w g1 g2 s1 s2) (hb : Below w.heap.size w w') : Kp N w w' := by
  obtain ⟨S1, S2, -, -, -, -, h5, -⟩ := h
  exact ⟨hb.size, fun b q => hb.block b (h5 b q).1⟩
/-- a block that is neither's is written -/
theorem Two.grown (h : Two N w0 w g1 g2 s1 s2) {q : Nat} (hg : w.grownBy w' (some q)) (hq : N q) (hb : w0.heap.size ≤ q) : Two N w0 w' g1 g2 s1 s2 := by
  obtain ⟨S1, S2, ⟨k1, r1, h1⟩, ⟨k2, r2, h2⟩, h3, h4, h5, h6⟩ := h
  have hne : ∀ b, S1 b ∨ S2 b → some b ≠ some q := fun b r e => by
    injection e with e
    subst e
    exact r.elim (h5 b hq).2.1 (h5 b hq).2.2
  exact ⟨S1, S2, ⟨k1, r1, h1.same (fun b r => hg.block b (h1.lt b r) (hne b (.inl r))) hg.size⟩, ⟨k2, r2, h2.same (fun b r => hg.block b (h2.lt b r) (hne b (.inr r))) hg.size⟩, h3, h4, fun b r => ⟨Nat.lt_of_lt_of_le (h5 b r).1 hg.size, (h5 b r).2⟩, h6.grown hg h6.size (fun b r => by injection r with r; omega)⟩
theorem Two.left (h : Two N w0 w g1 g2 s1 s2) : ∃ S, Jat w S g1 s1 ∧ (∀ b, N b → ¬ S b) ∧ (∀ b, S b → w0.heap.size ≤ b) ∧ ∀ w' s S', Jat w' S' g1 s → Out S w w' → (∀ b, S' b → Sx S w w' b) → Two N w0 w' g1 g2 s s2 ∧ Kp N w w' := by
  obtain ⟨S1, S2, h1, ⟨k2, r2, h2⟩, h3, h4, h5, h6⟩ := h
  refine ⟨S1, h1, fun b q => (h5 b q).2.1, fun b q => h4 b (.inl q), fun w' s S' d o hS => ⟨⟨S', S2, d, ⟨k2, r2, h2.out o fun b q r => h3 b r q⟩, fun b q r => ?_, fun b q => ?_, fun b q => ⟨Nat.lt_of_lt_of_le (h5 b q).1 o.size, fun r => ?_, (h5 b q).2.2⟩, h6.trans (o.to (fun b q => h4 b (.inl q)) h6.size)⟩, o.size, fun b q => o.block b (h5 b q).1 (h5 b q).2.1⟩⟩
  · rcases hS b q with t | t
    · exact h3 b t r
    · have := h2.lt b r; omega
  · rcases q with q | q
    · rcases hS b q with t | t
      · exact h4 b (.inl t)
      · exact Nat.le_trans h6.size t.1
    · exact h4 b (.inr q)
  · rcases hS b r with t | t
    · exact (h5 b q).2.1 t
    · have := (h5 b q).1; omega
theorem Two.right (h : Two N w0 w g1 g2 s1 s2) : ∃ S, Jat w S g2 s2 ∧ (∀ b, N b → ¬ S b) ∧ (∀ b, S b → w0.heap.size ≤ b) ∧ ∀ w' s S', Jat w' S' g2 s → Out S w w' → (∀ b, S' b → Sx S w w' b) → Two N w0 w' g1 g2 s1 s ∧ Kp N w w' := by
  obtain ⟨S1, S2, ⟨k1, r1, h1⟩, h2, h3, h4, h5, h6⟩ := h
  refine ⟨S2, h2, fun b q => (h5 b q).2.2, fun b q => h4 b (.inr q), fun w' s S' d o hS => ⟨⟨S1, S', ⟨k1, r1, h1.out o fun b q r => h3 b q r⟩, d, fun b q r => ?_, fun b q => ?_, fun b q => ⟨Nat.lt_of_lt_of_le (h5 b q).1 o.size, (h5 b q).2.1, fun r => ?_⟩, h6.trans (o.to (fun b q => h4 b (.inr q)) h6.size)⟩, o.size, fun b q => o.block b (h5 b q).1 (h5 b q).2.2⟩⟩
  · rcases hS b r with t | t
    · exact h3 b q t
    · have := h1.lt b q; omega
  · rcases q with q | q
    · exact h4 b (.inl q)
    · rcases hS b q with t | t
      · exact h4 b (.inr t)
      · exact Nat.le_trans h6.size t.1
  · rcases hS b r with t | t
    · exact (h5 b q).2.2 t
    · have := (h5 b q).1; omega
theorem two_tab (h : Two N w0 w g1 g2 s1 s2) (ht : HTab w0) : HTab w := ht.below h.bel (Nat.le_refl _)

/-! ### the calls -/
theorem append_l (h : Two N w0 w g1 g2 s1 s2) (ht : HTab w0) (k : Int) (A : Option Addr) (n cap B : Nat) (xs : List Int) (hk : 0 ≤ k ∧ k ≤ 255) (hx : Rd w B A (u8s xs)) (hn : xs.length = n) (hnc : n ≤ cap) (hcap : cap ≤ maxLen) (hB : B ≤ w.heap.size) (hb : Fm.By xs) (hz : Jm.size s1 ≤ 16777216) :
    Calls Tryd.prog 12 #[.pointer (some ⟨g1, 0, none⟩), .int .u8 k, .slice A n cap] w fun e w' => e = .returned (.int .i64 (Jm.append s1 k xs).2) ∧ Two N w0 w' g1 g2 (Jm.append s1 k xs).1 s2 ∧ Kp N w w' := by
  have htw := two_tab h ht
  obtain ⟨S, ⟨kv, rv, h1⟩, -, -, h2⟩ := h.left
  exact (append_any h1 k A n cap B xs hk hx hn hnc hcap hB hb htw hz).mono fun e w' ⟨q1, q2, q3⟩ => ⟨q1, h2 w' _ _ q2 q3 fun _ q => q⟩
theorem append_r (h : Two N w0 w g1 g2 s1 s2) (k : Int) (A : Option Addr) (n cap B : Nat) (xs : List Int) (hk : 0 ≤ k ∧ k ≤ 255) (hx : Rd w B A (u8s xs)) (hn : xs.length = n) (hnc : n ≤ cap) (hcap : cap ≤ maxLen) (hB : B ≤ w.heap.size) (hb : Fm.By xs) (hz : Jm.size s2 ≤ 16777216) :
    Calls Tryd.prog 13 #[.pointer (some ⟨g2, 0, none⟩), .int .u8 k, .slice A n cap] w fun e w' => e = .returned (.int .i64 (Jm.append s2 k xs).2) ∧ Two N w0 w' g1 g2 s1 (Jm.append s2 k xs).1 ∧ Kp N w w' := by
  obtain ⟨S, ⟨kv, rv, h1⟩, -, -, h2⟩ := h.right
  exact (rappend_any h1 k A n cap B xs hk hx hn hnc hcap hB hb hz).mono fun e w' ⟨q1, q2, q3⟩ => ⟨q1, h2 w' _ _ q2 q3 fun _ q => q⟩
theorem sync_l (h : Two N w0 w g1 g2 s1 s2) (hz : Jm.size s1 ≤ 16777216) : Calls Tryd.prog 14 #[.pointer (some ⟨g1, 0, none⟩)] w fun e w' => e = .returned (.int .i64 (Jm.sync s1).2) ∧ Two N w0 w' g1 g2 (Jm.sync s1).1 s2 ∧ Kp N w w' := by
  obtain ⟨S, ⟨kv, rv, h1⟩, -, -, h2⟩ := h.left
  exact (sync_any h1 hz).mono fun e w' ⟨q1, q2, q3⟩ => ⟨q1, h2 w' _ _ q2 q3 fun _ q => q⟩
theorem sync_r (h : Two N w0 w g1 g2 s1 s2) (hz : Jm.size s2 ≤ 16777216) : Calls Tryd.prog 15 #[.pointer (some ⟨g2, 0, none⟩)] w fun e w' => e = .returned (.int .i64 (Jm.sync s2).2) ∧ Two N w0 w' g1 g2 s1 (Jm.sync s2).1 ∧ Kp N w w' := by
  obtain ⟨S, ⟨kv, rv, h1⟩, -, -, h2⟩ := h.right
  exact (rsync_any h1 hz).mono fun e w' ⟨q1, q2, q3⟩ => ⟨q1, h2 w' _ _ q2 q3 fun _ q => q⟩
theorem crash_l (h : Two N w0 w g1 g2 s1 s2) (n : Int) (hz : Jm.size s1 ≤ 16777216) : Calls Tryd.prog 20 #[.pointer (some ⟨g1, 0, none⟩), .int .i64 n] w fun e w' => e = .returned (.tuple #[]) ∧ Two N w0 w' g1 g2 (Jm.crash s1 n) s2 ∧ Kp N w w' := by
  obtain ⟨S, ⟨kv, rv, h1⟩, -, -, h2⟩ := h.left
  exact (crash_any h1 n hz).mono fun e w' ⟨q1, q2, q3⟩ => ⟨q1, h2 w' _ _ q2 q3 fun _ q => q⟩
theorem crash_r (h : Two N w0 w g1 g2 s1 s2) (n : Int) (hz : Jm.size s2 ≤ 16777216) : Calls Tryd.prog 21 #[.pointer (some ⟨g2, 0, none⟩), .int .i64 n] w fun e w' => e = .returned (.tuple #[]) ∧ Two N w0 w' g1 g2 s1 (Jm.crash s2 n) ∧ Kp N w w' := by
  obtain ⟨S, ⟨kv, rv, h1⟩, -, -, h2⟩ := h.right
  exact (rcrash_any h1 n hz).mono fun e w' ⟨q1, q2, q3⟩ => ⟨q1, h2 w' _ _ q2 q3 fun _ q => q⟩
theorem effect_l (h : Two N w0 w g1 g2 s1 s2) : Calls Tryd.prog 16 #[.pointer (some ⟨g1, 0, none⟩)] w fun e w' => e = .returned (.int .i64 (Jm.eff s1).2) ∧ Two N w0 w' g1 g2 (Jm.eff s1).1 s2 ∧ Kp N w w' := by
  obtain ⟨S, ⟨kv, rv, h1⟩, -, -, h2⟩ := h.left
  exact (effect_any h1).mono fun e w' ⟨q1, q2, q3⟩ => ⟨q1, h2 w' _ _ ⟨_, _, q2⟩ q3 fun _ q => .inl q⟩
theorem effect_r (h : Two N w0 w g1 g2 s1 s2) : Calls Tryd.prog 17 #[.pointer (some ⟨g2, 0, none⟩)] w fun e w' => e = .returned (.int .i64 (Jm.eff s2).2) ∧ Two N w0 w' g1 g2 s1 (Jm.eff s2).1 ∧ Kp N w w' := by
  obtain ⟨S, ⟨kv, rv, h1⟩, -, -, h2⟩ := h.right
  exact (reffect_any h1).mono fun e w' ⟨q1, q2, q3⟩ => ⟨q1, h2 w' _ _ ⟨_, _, q2⟩ q3 fun _ q => .inl q⟩
theorem fuse_l (h : Two N w0 w g1 g2 s1 s2) (n : Int) (hn : n ≤ 9223372036854775807) : Calls Tryd.prog 18 #[.pointer (some ⟨g1, 0, none⟩), .int .i64 n] w fun e w' => e = .returned (.tuple #[]) ∧ Two N w0 w' g1 g2 (Jm.fuse s1 n) s2 ∧ Kp N w w' := by
  obtain ⟨S, ⟨kv, rv, h1⟩, -, -, h2⟩ := h.left
  exact (fuse_any h1 n hn).mono fun e w' ⟨q1, q2, q3⟩ => ⟨q1, h2 w' _ _ ⟨_, _, q2⟩ q3 fun _ q => .inl q⟩
theorem fuse_r (h : Two N w0 w g1 g2 s1 s2) (n : Int) (hn : n ≤ 9223372036854775807) : Calls Tryd.prog 19 #[.pointer (some ⟨g2, 0, none⟩), .int .i64 n] w fun e w' => e = .returned (.tuple #[]) ∧ Two N w0 w' g1 g2 s1 (Jm.fuse s2 n) ∧ Kp N w w' := by
  obtain ⟨S, ⟨kv, rv, h1⟩, -, -, h2⟩ := h.right
  exact (rfuse_any h1 n hn).mono fun e w' ⟨q1, q2, q3⟩ => ⟨q1, h2 w' _ _ ⟨_, _, q2⟩ q3 fun _ q => .inl q⟩
/-- what is told lies in new blocks, which are neither's -/
theorem open_l (h : Two N w0 w g1 g2 s1 s2) (ht : HTab w0) (hz : Jm.size s1 ≤ 4194304) : Calls Tryd.prog 22 #[.pointer (some ⟨g1, 0, none⟩)] w fun e w' => ∃ kk bb, e = .returned (.tuple #[kk, bb, .int .i64 (Jm.opn s1).2.2]) ∧ Told w.heap.size w' kk bb (Jm.opn s1).2.1 ∧
      Two (fun b => N b ∨ (w.heap.size ≤ b ∧ b < w'.heap.size)) w0 w' g1 g2 (Jm.opn s1).1 s2 ∧ Kp N w w' := by
  have htw := two_tab h ht
  have h' := h
  obtain ⟨S1, S2, ⟨k1, r1, j1⟩, ⟨k2, r2, j2⟩, h3, h4, h5, h6⟩ := h
  have nT : ¬ S1 0 := fun q => by
    have e := World.block_lt_of_cell? w0 _ (ht 0 (by omega))
    have := h4 _ (.inl q)
    dsimp only at e
    omega
  refine (open_any j1 htw nT hz).mono fun e w' ⟨kk, bb, q1, q2, q3, q4⟩ => ⟨kk, bb, q1, q2, ⟨S1, S2, q3, ⟨k2, r2, j2.out q4 fun b q r => h3 b r q⟩, h3, h4, fun b q => ?_, h6.trans (q4.to (fun b q => h4 b (.inl q)) h6.size)⟩, q4.size, fun b q => q4.block b (h5 b q).1 (h5 b q).2.1⟩
  rcases q with q | q
  · exact ⟨Nat.lt_of_lt_of_le (h5 b q).1 q4.size, (h5 b q).2⟩
  · exact ⟨q.2, fun r => by have := j1.lt b r; omega, fun r => by have := j2.lt b r; omega⟩
theorem open_r (h : Two N w0 w g1 g2 s1 s2) (hz : Jm.size s2 ≤ 4194304) : Calls Tryd.prog 23 #[.pointer (some ⟨g2, 0, none⟩)] w fun e w' => ∃ kk bb, e = .returned (.tuple #[kk, bb, .int .i64 (Jm.opn s2).2.2]) ∧ Told w.heap.size w' kk bb (Jm.opn s2).2.1 ∧ Two N w0 w' g1 g2 s1 (Jm.opn s2).1 ∧ Kp N w w' := by
  obtain ⟨S, ⟨kv, rv, h1⟩, -, -, h2⟩ := h.right
  exact (ropen_any h1 hz).mono fun e w' ⟨kk, bb, q1, q2, S', q3, q4, q5, _⟩ => ⟨kk, bb, q1, q2, h2 w' _ S' q3 q4 q5⟩
theorem down_l (h : Two N w0 w g1 g2 s1 s2) : Calls Tryd.prog 25 #[.pointer (some ⟨g1, 0, none⟩)] w fun e w' => e = .returned (.bool s1.off) ∧ w' = w := by
  obtain ⟨S, ⟨kv, rv, h1⟩, -⟩ := h.left
  exact down_any h1
theorem synced_l (h : Two N w0 w g1 g2 s1 s2) (hz : Jm.size s1 ≤ 16777216) : Calls Tryd.prog 26 #[.pointer (some ⟨g1, 0, none⟩)] w fun e w' => ∃ v, e = .returned v ∧ w'.ownsRow w.heap.size 5 1 v s1.kept.length (u8s s1.kept) ∧ Below w.heap.size w w' := by
  obtain ⟨S, ⟨kv, rv, h1⟩, -⟩ := h.left
  unfold Jm.size at hz
  exact synced_any h1 (by omega)
theorem tail_l (h : Two N w0 w g1 g2 s1 s2) (hz : Jm.size s1 ≤ 16777216) : Calls Tryd.prog 27 #[.pointer (some ⟨g1, 0, none⟩)] w fun e w' => ∃ v, e = .returned v ∧ w'.ownsRow w.heap.size 5 1 v s1.rest.length (u8s s1.rest) ∧ Below w.heap.size w w' := by
  obtain ⟨S, ⟨kv, rv, h1⟩, -⟩ := h.left
  unfold Jm.size at hz
  exact tail_any h1 (by omega)
/-- the document's journal, cell by cell -/
theorem Two.cells (h : Two N w0 w g1 g2 s1 s2) : ∃ A c A' c', w.cell? ⟨g2, 0, none⟩ = some (.slice A s2.kept.length c) ∧ w.cell? ⟨g2, 1, none⟩ = some (.slice A' s2.rest.length c') ∧ w.cell? ⟨g2, 3, none⟩ = some (.bool s2.off) ∧
    Rd w w.heap.size A (u8s s2.kept) ∧ Rd w w.heap.size A' (u8s s2.rest) ∧ g2 < w.heap.size := by
  obtain ⟨S, ⟨kv, rv, h1⟩, -⟩ := h.right
  obtain ⟨A, c, rfl, -, -, r1, -⟩ := own_view0 h1.kr
  obtain ⟨A', c', rfl, -, -, r2, -⟩ := own_view0 h1.rr
  exact ⟨A, c, A', c', (h1.at 0 rfl).1, (h1.at 1 rfl).1, (h1.at 3 rfl).1, r1, r2, h1.lt _ h1.sg⟩
/-- both new -/
theorem Two.make {w1 w2 : World} (j1 : Own w0 w1 g1 s1) (hb : Below w1.heap.size w1 w2) {S : Nat → Prop} (j2 : Jat w2 S g2 s2) (hS : ∀ b, S b → w1.heap.size ≤ b) : Two (fun _ => False) w0 w2 g1 g2 s1 s2 := by
  obtain ⟨S1, ⟨kv, rv, h1⟩, h2, h3⟩ := j1
  exact ⟨S1, S, ⟨kv, rv, h1.below hb⟩, j2, fun b q r => by have := h1.lt b q; have := hS b r; omega, fun b q => q.elim (h2 b) (fun q => Nat.le_trans h3.size (hS b q)), fun b q => q.elim, h3.trans (hb.mono h3.size)⟩
end
end Go.Proofs.YtgpagddaopgdgaaDoor
