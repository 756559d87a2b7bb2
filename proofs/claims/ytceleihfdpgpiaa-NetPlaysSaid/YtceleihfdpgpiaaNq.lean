/- Two nets side by side, the program's and the document's. -/
import Derived.Test.YtceleihfdpgpiaaNp
namespace Go.Proofs.Ytceleihfdpgpiaa
open Go.RowKit Go.Shelf Km Kb Kz

/-- two nets, neither in the other's blocks, nor in those that N names -/
def Two (N : Nat → Prop) (w0 w : World) (g1 g2 : Nat) (l1 l2 : List (List Int)) : Prop :=
  ∃ S1 S2, One (fun b => N b ∨ S2 b) S1 w0 w g1 l1 ∧ One (fun b => N b ∨ S1 b) S2 w0 w g2 l2

section
variable {N N' : Nat → Prop} {w0 w w' w'' : World} {g1 g2 : Nat} {l1 l2 : List (List Int)}
theorem Two.bel (h : Two N w0 w g1 g2 l1 l2) : Below w0.heap.size w0 w := by obtain ⟨_, _, h, -⟩ := h; exact h.bel
theorem Two.nlt (h : Two N w0 w g1 g2 l1 l2) {b : Nat} (q : N b) : b < w.heap.size := by obtain ⟨_, _, h, -⟩ := h; exact (h.2.2.1 b (.inl q)).1
theorem Two.weak (h : Two N w0 w g1 g2 l1 l2) (q : ∀ b, N' b → N b) : Two N' w0 w g1 g2 l1 l2 := by
  obtain ⟨S1, S2, h1, h2⟩ := h
  exact ⟨S1, S2, h1.weak fun b r => r.imp (q b) id, h2.weak fun b r => r.imp (q b) id⟩
theorem Two.kp (h : Two N w0 w g1 g2 l1 l2) (hb : Below w.heap.size w w') : Kp N w w' := ⟨hb.size, fun b q => hb.block b (h.nlt q)⟩
theorem Two.below (h : Two N w0 w g1 g2 l1 l2) (hb : Below w.heap.size w w') : Two (fun b => N b ∨ (w.heap.size ≤ b ∧ b < w'.heap.size)) w0 w' g1 g2 l1 l2 := by
  obtain ⟨S1, S2, h1, h2⟩ := h
  exact ⟨S1, S2, (h1.below hb).weak fun b q => q.elim (fun q => q.elim (fun q => .inl (.inl q)) .inr) (fun q => .inl (.inr q)), (h2.below hb).weak fun b q => q.elim (fun q => q.elim (fun q => .inl (.inl q)) .inr) (fun q => .inl (.inr q))⟩
theorem Two.named (h : Two N w0 w g1 g2 l1 l2) (hb : Below w.heap.size w w') {v : Value} {n : Nat} {xs : List Value} {t : TypeId} (ho : w'.ownsRow w.heap.size t 1 v n xs) : Two (Nw N v) w0 w' g1 g2 l1 l2 :=
  (h.below hb).weak fun b q => q.elim .inl fun q => .inr (own_blk ho b q)
theorem Two.grown (h : Two N w0 w g1 g2 l1 l2) {q : Nat} (hg : w.grownBy w' (some q)) (hq : N q) (hb : w0.heap.size ≤ q) : Two N w0 w' g1 g2 l1 l2 := by
  obtain ⟨S1, S2, h1, h2⟩ := h
  exact ⟨S1, S2, h1.grown hg (.inl hq) hb, h2.grown hg (.inl hq) hb⟩
/-- the other net, while the one is changed -/
theorem One.other {N S1 S2 S1' : Nat → Prop} {g2 : Nat} {l2 : List (List Int)} (h2 : One (fun b => N b ∨ S1 b) S2 w0 w g2 l2) (hk : Kp (fun b => N b ∨ S2 b) w w') (hS : ∀ b, S1' b → S1 b ∨ w.heap.size ≤ b) (hN : ∀ b, N' b → N b ∨ w.heap.size ≤ b)
    (hl : ∀ b, N' b ∨ S1' b → b < w'.heap.size) (hb : Below w0.heap.size w0 w') : One (fun b => N' b ∨ S1' b) S2 w0 w' g2 l2 := by
  obtain ⟨⟨ov, vs, k1⟩, k2, k3, k4⟩ := h2
  refine ⟨⟨ov, vs, k1.same (fun b q => hk.2 b (.inr q)) hk.1⟩, k2, fun b q => ⟨hl b q, fun r => ?_⟩, hb⟩
  have hbw := k1.lt b r
  rcases q with q | q
  · rcases hN b q with q | q
    · exact (k3 b (.inl q)).2 r
    · omega
  · rcases hS b q with q | q
    · exact (k3 b (.inr q)).2 r
    · omega
theorem Two.left (h : Two N w0 w g1 g2 l1 l2) : ∃ S1 N1, One N1 S1 w0 w g1 l1 ∧ (∀ b, N b → N1 b) ∧ ∀ w' l, Step N1 S1 w0 w w' g1 l → Two N w0 w' g1 g2 l l2 ∧ Kp N w w' := by
  obtain ⟨S1, S2, h1, h2⟩ := h
  refine ⟨S1, _, h1, fun b q => .inl q, fun w' l ⟨S', d1, d2, d3⟩ => ⟨⟨S', S2, d1, h2.other d3 d2 (fun b q => .inl q) (fun b q => q.elim (fun q => (d1.2.2.1 b (.inl q)).1) d1.lt) d1.bel⟩, d3.weak fun b q => .inl q⟩⟩
theorem Two.right (h : Two N w0 w g1 g2 l1 l2) : ∃ S2 N2, One N2 S2 w0 w g2 l2 ∧ (∀ b, N b → N2 b) ∧ ∀ w' l, Step N2 S2 w0 w w' g2 l → Two N w0 w' g1 g2 l1 l ∧ Kp N w w' := by
  obtain ⟨S1, S2, h1, h2⟩ := h
  refine ⟨S2, _, h2, fun b q => .inl q, fun w' l ⟨S', d1, d2, d3⟩ => ⟨⟨S1, S', h1.other d3 d2 (fun b q => .inl q) (fun b q => q.elim (fun q => (d1.2.2.1 b (.inl q)).1) d1.lt) d1.bel, d1⟩, d3.weak fun b q => .inl q⟩⟩
end

section
variable {N : Nat → Prop} {w0 w w' : World} {g1 g2 : Nat} {l1 l2 : List (List Int)}
theorem send_l (h : Two N w0 w g1 g2 l1 l2) (A : Option Addr) (n cap B : Nat) (xs : List Int) (hx : Rd w B A (u8s xs)) (hn : xs.length = n) (hB : B ≤ w.heap.size) (hle : n ≤ 140737488355328) (hnc : A = none → cap = 0) :
    Calls Try.prog 9 #[.pointer (some ⟨g1, 0, none⟩), .slice A n cap] w fun e w' => e = .returned (.int .i64 (Nm.send l1 xs).2) ∧ Two N w0 w' g1 g2 (Nm.send l1 xs).1 l2 ∧ Kp N w w' := by
  obtain ⟨S, N1, h1, -, h2⟩ := h.left
  exact (send_one h1 A n cap B xs hx hn hB hle hnc).mono fun e w' ⟨q1, q2⟩ => ⟨q1, h2 w' _ q2⟩
theorem rsend_row_r {W : World} (h : Two N W w g1 g2 l1 l2) {v : Value} {b : List Int} (hr : Row W v b) :
    Calls Try.prog 10 #[.pointer (some ⟨g2, 0, none⟩), v] w fun e w' => e = .returned (.int .i64 (Nm.send l2 b).2) ∧ Two N W w' g1 g2 l1 (Nm.send l2 b).1 ∧ Kp N w w' := by
  obtain ⟨S, N1, h1, -, h2⟩ := h.right
  exact (rsend_row h1 hr).mono fun e w' ⟨q1, q2⟩ => ⟨q1, h2 w' _ q2⟩
theorem drop_l (h : Two N w0 w g1 g2 l1 l2) (ok : Nm.Ok l1) (i : Int) : Calls Try.prog 13 #[.pointer (some ⟨g1, 0, none⟩), .int .i64 i] w fun e w' => e = .returned (.bool (Nm.pick l1 i).isSome) ∧ Two N w0 w' g1 g2 (Nm.less l1 i) l2 ∧ Kp N w w' := by
  obtain ⟨S, N1, h1, -, h2⟩ := h.left
  exact (drop_one h1 ok i).mono fun e w' ⟨q1, q2⟩ => ⟨q1, h2 w' _ q2⟩
theorem dup_l (h : Two N w0 w g1 g2 l1 l2) (ok : Nm.Ok l1) (i : Int) : Calls Try.prog 14 #[.pointer (some ⟨g1, 0, none⟩), .int .i64 i] w fun e w' => e = .returned (.int .i64 (Nm.dup l1 i).2) ∧ Two N w0 w' g1 g2 (Nm.dup l1 i).1 l2 ∧ Kp N w w' := by
  obtain ⟨S, N1, h1, -, h2⟩ := h.left
  exact (dup_one h1 ok i).mono fun e w' ⟨q1, q2⟩ => ⟨q1, h2 w' _ q2⟩
theorem dup_r (h : Two N w0 w g1 g2 l1 l2) (ok : Nm.Ok l2) (i : Int) : Calls Try.prog 15 #[.pointer (some ⟨g2, 0, none⟩), .int .i64 i] w fun e w' => e = .returned (.int .i64 (Nm.dup l2 i).2) ∧ Two N w0 w' g1 g2 l1 (Nm.dup l2 i).1 ∧ Kp N w w' := by
  obtain ⟨S, N1, h1, -, h2⟩ := h.right
  exact (rdup_one h1 ok i).mono fun e w' ⟨q1, q2⟩ => ⟨q1, h2 w' _ q2⟩
theorem take_r (h : Two N w0 w g1 g2 l1 l2) (ok : Nm.Ok l2) (i : Int) : Calls Try.prog 12 #[.pointer (some ⟨g2, 0, none⟩), .int .i64 i] w fun e w' => ∃ v, e = .returned (.tuple #[v, .bool (Nm.pick l2 i).isSome]) ∧
    Bdy w' (fun b => b < w'.heap.size) v ((Nm.pick l2 i).getD []) ∧ Two N w0 w' g1 g2 l1 (Nm.less l2 i) ∧ Kp N w w' := by
  obtain ⟨S, N1, h1, -, h2⟩ := h.right
  exact (rtake_one h1 ok i).mono fun e w' ⟨v, q1, q2, q3⟩ => ⟨v, q1, q2, h2 w' _ q3⟩
theorem at_r (h : Two N w0 w g1 g2 l1 l2) (i : Int) : Calls Try.prog 17 #[.pointer (some ⟨g2, 0, none⟩), .int .i64 i] w fun e w' => ∃ v, e = .returned (.tuple #[v, .bool (Nm.pick l2 i).isSome]) ∧
    Bdy w (fun b => b < w.heap.size) v ((Nm.pick l2 i).getD []) ∧ w' = w := by
  obtain ⟨S, N1, h1, -, -⟩ := h.right
  exact rat_one h1 i
theorem len_l (h : Two N w0 w g1 g2 l1 l2) : Calls Try.prog 18 #[.pointer (some ⟨g1, 0, none⟩)] w fun e w' => e = .returned (.int .i64 (l1.length : Int)) ∧ w' = w := by
  obtain ⟨S, N1, h1, -, -⟩ := h.left
  exact len_one h1
theorem at_l (h : Two N w0 w g1 g2 l1 l2) (ok : Nm.Ok l1) (i : Int) : Calls Try.prog 16 #[.pointer (some ⟨g1, 0, none⟩), .int .i64 i] w fun e w' => ∃ v, e = .returned (.tuple #[v, .bool (Nm.pick l1 i).isSome]) ∧
    w'.ownsRow w.heap.size 5 1 v ((Nm.pick l1 i).getD []).length (u8s ((Nm.pick l1 i).getD [])) ∧ Below w.heap.size w w' ∧ Two (Nw N v) w0 w' g1 g2 l1 l2 := by
  obtain ⟨S, N1, h1, -, -⟩ := h.left
  exact (at_one h1 ok i).mono fun e w' ⟨v, q1, q2, q3, _⟩ => ⟨v, q1, q2, q3, h.named q3 q2⟩
theorem take_l (h : Two N w0 w g1 g2 l1 l2) (ok : Nm.Ok l1) (i : Int) : Calls Try.prog 11 #[.pointer (some ⟨g1, 0, none⟩), .int .i64 i] w fun e w' => ∃ v, e = .returned (.tuple #[v, .bool (Nm.pick l1 i).isSome]) ∧
    w'.ownsRow w.heap.size 5 1 v ((Nm.pick l1 i).getD []).length (u8s ((Nm.pick l1 i).getD [])) ∧ Two (Nw N v) w0 w' g1 g2 (Nm.less l1 i) l2 ∧ Kp N w w' := by
  obtain ⟨S1, S2, h1, h2⟩ := h
  refine (take_one h1 ok i).mono fun e w' ⟨v, q1, q2, ⟨S', d1, d2⟩, d3⟩ => ⟨v, q1, q2, ⟨S', S2, d1.weak fun b q => ?_, h2.other d3 d2 (fun b q => q.elim .inl fun q => .inr (own_blk q2 b q).1) (fun b q => q.elim (fun q => (d1.2.2.1 b (q.elim (fun q => .inl (.inl q)) .inr)).1) d1.lt) d1.bel⟩, d3.weak fun b q => .inl q⟩
  rcases q with (q | q) | q
  · exact .inl (.inl q)
  · exact .inr q
  · exact .inl (.inr q)
/-- the law's own nets, made one behind the other -/
theorem two_make {w0 w1 w2 : World} {S : Nat → Prop} (h1 : One (fun _ => False) S w0 w1 g1 l1) (h2 : NAt w2 (fun b => b = w1.heap.size) w1.heap.size [] (.slice none 0 0) []) (hb : Below w1.heap.size w1 w2) : Two (fun _ => False) w0 w2 g1 w1.heap.size l1 [] :=
  ⟨S, fun b => b = w1.heap.size, (h1.below hb).weak fun b q => q.elim (fun q => q.elim) fun q => .inr (by rw [q]; exact ⟨Nat.le_refl _, h2.lt _ rfl⟩),
    ⟨⟨_, _, h2⟩, fun b q => by rw [q]; exact h1.bel.size, fun b q => q.elim (fun q => q.elim) fun q => ⟨Nat.lt_of_lt_of_le (h1.lt q) hb.size, fun e => by have := h1.lt q; omega⟩, h1.bel.trans (hb.mono h1.bel.size)⟩⟩
end
end Go.Proofs.Ytceleihfdpgpiaa
