/- A net of a law's own beside what is named: what each call makes of the list of messages, and that what is named stays; two nets side by side. -/
import Derived.Test.YtceleihfdpgpiaaNo
namespace Go.Proofs.Ytceleihfdpgpiaa
open Go.RowKit Go.Shelf Km Kb Kz

/-- what is named stays -/
def Kp (N : Nat → Prop) (w w' : World) : Prop := w.heap.size ≤ w'.heap.size ∧ ∀ b, N b → w'.heap[b]? = w.heap[b]?
/-- a net in the blocks S, none of them named by N -/
def One (N S : Nat → Prop) (w0 w : World) (g : Nat) (l : List (List Int)) : Prop :=
  Nt w S g l ∧ (∀ b, S b → w0.heap.size ≤ b) ∧ (∀ b, N b → b < w.heap.size ∧ ¬ S b) ∧ Below w0.heap.size w0 w
/-- what a call leaves -/
def Step (N S : Nat → Prop) (w0 w w' : World) (g : Nat) (l : List (List Int)) : Prop := ∃ S', One N S' w0 w' g l ∧ (∀ b, S' b → S b ∨ w.heap.size ≤ b) ∧ Kp N w w'
/-- what is named, and a value's own block -/
def Nw (N : Nat → Prop) (v : Value) : Nat → Prop := fun b => N b ∨ v.ownBlock = some b

section
variable {N N' S : Nat → Prop} {w0 w w1 w' w'' : World} {g : Nat} {l l' : List (List Int)}
theorem Kp.refl : Kp N w w := ⟨Nat.le_refl _, fun _ _ => rfl⟩
theorem Kp.trans (h : Kp N w w') (k : Kp N w' w'') : Kp N w w'' := ⟨Nat.le_trans h.1 k.1, fun b q => (k.2 b q).trans (h.2 b q)⟩
theorem Kp.weak (h : Kp N w w') (q : ∀ b, N' b → N b) : Kp N' w w' := ⟨h.1, fun b r => h.2 b (q b r)⟩
theorem Kp.own (h : Kp N w w') {base : Nat} {e : TypeId} {v : Value} {n : Nat} {xs : List Value} (ho : w.ownsRow base e 1 v n xs) (hn : ∀ b, v.ownBlock = some b → N b) : w'.ownsRow base e 1 v n xs := own_same ho fun b q => h.2 b (hn b q)
theorem One.bel (h : One N S w0 w g l) : Below w0.heap.size w0 w := h.2.2.2
theorem One.lt (h : One N S w0 w g l) {b : Nat} (q : S b) : b < w.heap.size := by obtain ⟨_, _, r⟩ := h.1; exact r.lt b q
theorem One.kp (h : One N S w0 w g l) (hb : Below w.heap.size w w') : Kp N w w' := ⟨hb.size, fun b q => hb.block b (h.2.2.1 b q).1⟩
theorem One.weak (h : One N S w0 w g l) (q : ∀ b, N' b → N b) : One N' S w0 w g l := ⟨h.1, h.2.1, fun b r => h.2.2.1 b (q b r), h.2.2.2⟩
theorem Nt.below {w w' : World} (h : Nt w S g l) (hb : Below w.heap.size w w') : Nt w' S g l := by obtain ⟨ov, vs, q⟩ := h; exact ⟨ov, vs, q.below hb⟩
/-- new blocks are not the net's -/
theorem One.below (h : One N S w0 w g l) (hb : Below w.heap.size w w') : One (fun b => N b ∨ (w.heap.size ≤ b ∧ b < w'.heap.size)) S w0 w' g l :=
  ⟨h.1.below hb, h.2.1, fun b q => q.elim (fun q => ⟨Nat.lt_of_lt_of_le (h.2.2.1 b q).1 hb.size, (h.2.2.1 b q).2⟩) (fun q => ⟨q.2, fun r => by have := h.lt r; omega⟩), h.2.2.2.trans (hb.mono h.2.2.2.size)⟩
theorem One.did (h : One N S w0 w g l) (hd : Ndid w w' S g l') : Step N S w0 w w' g l' := by
  obtain ⟨⟨ov, vs, q1⟩, q2⟩ := hd
  exact ⟨Sx S w w', ⟨⟨ov, vs, q1⟩, fun b q => q.elim (h.2.1 b) (fun q => Nat.le_trans h.2.2.2.size q.1), fun b q => ⟨Nat.lt_of_lt_of_le (h.2.2.1 b q).1 q2.size, fun r => r.elim (h.2.2.1 b q).2 (fun r => by have := (h.2.2.1 b q).1; omega)⟩,
    h.2.2.2.trans (q2.to h.2.1 h.2.2.2.size)⟩, fun b q => q.elim .inl (fun q => .inr q.1), q2.size, fun b q => q2.block b (h.2.2.1 b q).1 (h.2.2.1 b q).2⟩
theorem One.stay (h : One N S w0 w g l) : Step N S w0 w w g l := ⟨S, h, fun _ q => .inl q, Kp.refl⟩
/-- a named block is written -/
theorem One.grown (h : One N S w0 w g l) {q : Nat} (hg : w.grownBy w' (some q)) (hq : N q) (hb : w0.heap.size ≤ q) : One N S w0 w' g l := by
  obtain ⟨⟨ov, vs, h1⟩, h2, h3, h4⟩ := h
  exact ⟨⟨ov, vs, h1.same (fun b r => hg.block b (h1.lt b r) (fun e => by cases e; exact (h3 q hq).2 r)) hg.size⟩, h2, fun b r => ⟨Nat.lt_of_lt_of_le (h3 b r).1 hg.size, (h3 b r).2⟩, h4.grown hg h4.size (fun b r => by injection r with r; omega)⟩
theorem One.of (h : NOwn w0 w g l) : ∃ S, One (fun _ => False) S w0 w g l := by
  obtain ⟨S, h1, h2, h3⟩ := h
  exact ⟨S, h1, h2, fun _ q => q.elim, h3⟩
theorem own_blk {base : Nat} {v : Value} {n : Nat} {xs : List Value} {t : TypeId} (h : w'.ownsRow base t 1 v n xs) : ∀ b, v.ownBlock = some b → base ≤ b ∧ b < w'.heap.size := fun b q => h.lt b q
/-- a row just made is named -/
theorem One.named (h : One N S w0 w g l) (hb : Below w.heap.size w w') {v : Value} {n : Nat} {xs : List Value} {t : TypeId} (ho : w'.ownsRow w.heap.size t 1 v n xs) : One (Nw N v) S w0 w' g l :=
  (h.below hb).weak fun b q => q.elim .inl fun q => .inr (own_blk ho b q)
end

section
variable {w w' : World} {S : Nat → Prop} {g : Nat} {l : List (List Int)} {ov : Value} {vs : List Value}
set_option maxRecDepth 100000 in
set_option maxHeartbeats 1000000 in
/-- Take, in two steps: the message is copied, then the net is less -/
theorem take_two (h : NAt w S g l ov vs) (k : Nat) {b : List Int} (hk : l[k]? = some b) (hle : b.length ≤ 140737488355328) (hz : l.length ≤ 1000000) :
    Calls Try.prog 11 #[.pointer (some ⟨g, 0, none⟩), .int .i64 (k : Int)] w fun e w' => ∃ v w1, e = .returned (.tuple #[v, .bool true]) ∧ w1.ownsRow w.heap.size 5 1 v b.length (u8s b) ∧ Below w.heap.size w w1 ∧ Ndid w1 w' S g (er k l) := by
  have HA := Lib.hid (at_some h k hk hle)
  have HD := Lib.hid (fun (W : World) (q : Below w.heap.size w W) => drop_some (h.below q) k (List.getElem?_eq_some_iff.1 hk).1 hz)
  have hlt := h.lt
  clear h hk
  go_enter Try.func11, Try.ntmps11
  go_wp2_with (go_at_call 16; refine HA.out.mono ?_; rintro e w1 ⟨v, rfl, hown, hb⟩; obtain ⟨A2, c2, rfl, -, -, -⟩ := own_view hown)
  go_wp2_with (go_at_call 13; refine (HD.out w1 hb).mono ?_; rintro e w2 ⟨rfl, hd⟩)
  go_ret2
  exact ⟨_, _, rfl, hown, hb, hd⟩
end

section
variable {N S : Nat → Prop} {w0 w w' : World} {g : Nat} {l : List (List Int)}
theorem new_one {w0 w : World} (N : Nat → Prop) (h : Below w0.heap.size w0 w) (hN : ∀ b, N b → b < w.heap.size) : Calls Try.prog 8 #[] w fun e w' => e = .returned (.pointer (some ⟨w.heap.size, 0, none⟩)) ∧ Below w.heap.size w w' ∧ One N (fun b => b = w.heap.size) w0 w' w.heap.size [] :=
  (new_any w).mono fun e w' ⟨q1, q2, q3⟩ => ⟨q1, q3, ⟨_, _, q2⟩, fun b e => by rw [e]; exact h.size, fun b q => ⟨Nat.lt_of_lt_of_le (hN b q) q3.size, fun e => by have := hN b q; omega⟩, h.trans (q3.mono h.size)⟩
theorem len_one (h : One N S w0 w g l) : Calls Try.prog 18 #[.pointer (some ⟨g, 0, none⟩)] w fun e w' => e = .returned (.int .i64 (l.length : Int)) ∧ w' = w := by
  obtain ⟨⟨ov, vs, h1⟩, -⟩ := h
  exact len_any h1
theorem send_one (h : One N S w0 w g l) (A : Option Addr) (n cap B : Nat) (xs : List Int) (hx : Rd w B A (u8s xs)) (hn : xs.length = n) (hB : B ≤ w.heap.size) (hle : n ≤ 140737488355328) (hnc : A = none → cap = 0) :
    Calls Try.prog 9 #[.pointer (some ⟨g, 0, none⟩), .slice A n cap] w fun e w' => e = .returned (.int .i64 (Nm.send l xs).2) ∧ Step N S w0 w w' g (Nm.send l xs).1 := by
  have h' := h
  obtain ⟨⟨ov, vs, h1⟩, -⟩ := h
  by_cases q : l.length < 400
  · rw [Nm.send_lt q]
    exact (send_any h1 A n cap B xs hx hn hB hle hnc q).mono fun e w' ⟨q1, q2⟩ => ⟨q1, h'.did q2⟩
  · rw [Nm.send_ge (by omega)]
    exact (send_full h1 A n cap (by omega)).mono fun e w' ⟨q1, q2⟩ => ⟨q1, q2 ▸ h'.stay⟩
theorem at_one (h : One N S w0 w g l) (ok : Nm.Ok l) (i : Int) : Calls Try.prog 16 #[.pointer (some ⟨g, 0, none⟩), .int .i64 i] w fun e w' => ∃ v, e = .returned (.tuple #[v, .bool (Nm.pick l i).isSome]) ∧
    w'.ownsRow w.heap.size 5 1 v ((Nm.pick l i).getD []).length (u8s ((Nm.pick l i).getD [])) ∧ Below w.heap.size w w' ∧ One (Nw N v) S w0 w' g l := by
  have h' := h
  obtain ⟨⟨ov, vs, h1⟩, -⟩ := h
  cases hp : Nm.pick l i with
  | none => exact (at_none h1 i hp).mono fun e w' ⟨q1, q2⟩ => ⟨_, q1, own_none, q2 ▸ Below.refl _ _, q2 ▸ h'.weak fun b r => r.elim id (fun r => nomatch r)⟩
  | some b =>
    have hb := ok.2 b (Nm.pick_mem hp)
    obtain ⟨k, rfl, hk, e⟩ := Nm.pick_some hp
    exact (at_some h1 k (List.getElem?_eq_some_iff.2 ⟨hk, e⟩) hb).mono fun e w' ⟨v, q1, q2, q3⟩ => ⟨v, q1, q2, q3, h'.named q3 q2⟩
theorem drop_one (h : One N S w0 w g l) (ok : Nm.Ok l) (i : Int) : Calls Try.prog 13 #[.pointer (some ⟨g, 0, none⟩), .int .i64 i] w fun e w' => e = .returned (.bool (Nm.pick l i).isSome) ∧ Step N S w0 w w' g (Nm.less l i) := by
  have h' := h
  obtain ⟨⟨ov, vs, h1⟩, -⟩ := h
  cases hp : Nm.pick l i with
  | none => rw [Nm.less_none hp]; exact (drop_none h1 i hp).mono fun e w' ⟨q1, q2⟩ => ⟨q1, q2 ▸ h'.stay⟩
  | some b =>
    rw [Nm.less_some hp]
    obtain ⟨k, rfl, hk, e⟩ := Nm.pick_some hp
    rw [Int.toNat_natCast]
    exact (drop_some h1 k hk (by have := ok.1; omega)).mono fun e w' ⟨q1, q2⟩ => ⟨q1, h'.did q2⟩
theorem take_one (h : One N S w0 w g l) (ok : Nm.Ok l) (i : Int) : Calls Try.prog 11 #[.pointer (some ⟨g, 0, none⟩), .int .i64 i] w fun e w' => ∃ v, e = .returned (.tuple #[v, .bool (Nm.pick l i).isSome]) ∧
    w'.ownsRow w.heap.size 5 1 v ((Nm.pick l i).getD []).length (u8s ((Nm.pick l i).getD [])) ∧ (∃ S', One (Nw N v) S' w0 w' g (Nm.less l i) ∧ ∀ b, S' b → S b ∨ w.heap.size ≤ b) ∧ Kp N w w' := by
  have h' := h
  obtain ⟨⟨ov, vs, h1⟩, -⟩ := h
  cases hp : Nm.pick l i with
  | none => rw [Nm.less_none hp]; exact (take_none h1 i hp).mono fun e w' ⟨q1, q2⟩ => by subst q2; exact ⟨_, q1, own_none, ⟨S, h'.weak fun b r => r.elim id (fun r => nomatch r), fun b q => .inl q⟩, Kp.refl⟩
  | some b =>
    have hb := ok.2 b (Nm.pick_mem hp)
    rw [Nm.less_some hp]
    obtain ⟨k, rfl, hk, e⟩ := Nm.pick_some hp
    rw [Int.toNat_natCast]
    exact (take_two h1 k (List.getElem?_eq_some_iff.2 ⟨hk, e⟩) hb (by have := ok.1; omega)).mono fun e w' ⟨v, w1, q1, q2, q3, q4⟩ => by
      obtain ⟨S', r1, r2, r3⟩ := (h'.named q3 q2).did q4
      exact ⟨v, q1, r3.own q2 (fun b q => .inr q), ⟨S', r1, fun b q => (r2 b q).elim .inl (fun q => .inr (Nat.le_trans q3.size q))⟩, (h'.kp q3).trans (r3.weak fun b q => .inl q)⟩
theorem dup_one (h : One N S w0 w g l) (ok : Nm.Ok l) (i : Int) : Calls Try.prog 14 #[.pointer (some ⟨g, 0, none⟩), .int .i64 i] w fun e w' => e = .returned (.int .i64 (Nm.dup l i).2) ∧ Step N S w0 w w' g (Nm.dup l i).1 := by
  have h' := h
  obtain ⟨⟨ov, vs, h1⟩, -⟩ := h
  cases hp : Nm.pick l i with
  | none => rw [Nm.dup_none hp]; exact (dup_none h1 i hp).mono fun e w' ⟨q1, q2⟩ => ⟨q1, q2 ▸ h'.stay⟩
  | some b =>
    have hb := ok.2 b (Nm.pick_mem hp)
    rw [Nm.dup_some hp]
    obtain ⟨k, rfl, hk, e⟩ := Nm.pick_some hp
    exact (dup_some h1 k (List.getElem?_eq_some_iff.2 ⟨hk, e⟩) (fun n w' => n = (Nm.send l b).2 ∧ Step N S w0 w w' g (Nm.send l b).1) fun A c q1 q2 => (send_one h' A b.length c w.heap.size b q1 rfl (Nat.le_refl _) hb q2).mono fun e w' ⟨r1, r2⟩ => ⟨_, r1, rfl, r2⟩).mono fun e w' ⟨n, r1, r2, r3⟩ => ⟨r2 ▸ r1, r3⟩
theorem rsend_one (h : One N S w0 w g l) (A : Option Addr) (n cap B : Nat) (xs : List Int) (hx : Rd w B A (u8s xs)) (hn : xs.length = n) (hB : B ≤ w.heap.size) (hle : n ≤ 140737488355328) :
    Calls Try.prog 10 #[.pointer (some ⟨g, 0, none⟩), .slice A n cap] w fun e w' => e = .returned (.int .i64 (Nm.send l xs).2) ∧ Step N S w0 w w' g (Nm.send l xs).1 := by
  have h' := h
  obtain ⟨⟨ov, vs, h1⟩, -⟩ := h
  by_cases q : l.length < 400
  · rw [Nm.send_lt q]
    exact (rsend_any h1 A n cap B xs hx hn hB hle q).mono fun e w' ⟨q1, q2⟩ => ⟨q1, h'.did q2⟩
  · rw [Nm.send_ge (by omega)]
    exact (rsend_full h1 A n cap (by omega)).mono fun e w' ⟨q1, q2⟩ => ⟨q1, q2 ▸ h'.stay⟩
theorem rdup_one (h : One N S w0 w g l) (ok : Nm.Ok l) (i : Int) : Calls Try.prog 15 #[.pointer (some ⟨g, 0, none⟩), .int .i64 i] w fun e w' => e = .returned (.int .i64 (Nm.dup l i).2) ∧ Step N S w0 w w' g (Nm.dup l i).1 := by
  have h' := h
  obtain ⟨⟨ov, vs, h1⟩, -⟩ := h
  cases hp : Nm.pick l i with
  | none => rw [Nm.dup_none hp]; exact (rdup_none h1 i hp).mono fun e w' ⟨q1, q2⟩ => ⟨q1, q2 ▸ h'.stay⟩
  | some b =>
    have hb := ok.2 b (Nm.pick_mem hp)
    rw [Nm.dup_some hp]
    obtain ⟨k, rfl, hk, e⟩ := Nm.pick_some hp
    have hk2 := List.getElem?_eq_some_iff.2 ⟨hk, e⟩
    by_cases q : l.length < 400
    · rw [Nm.send_lt q]
      exact (rdup_some h1 k hk2 hb q).mono fun e w' ⟨q1, q2⟩ => ⟨q1, h'.did q2⟩
    · rw [Nm.send_ge (by omega)]
      exact (rdup_full h1 k hk2 (by omega)).mono fun e w' ⟨q1, q2⟩ => ⟨q1, q2 ▸ h'.stay⟩
/-- the document's At and Take hand on the message itself: it lies in blocks of the net's -/
theorem rat_one (h : One N S w0 w g l) (i : Int) : Calls Try.prog 17 #[.pointer (some ⟨g, 0, none⟩), .int .i64 i] w fun e w' => ∃ v, e = .returned (.tuple #[v, .bool (Nm.pick l i).isSome]) ∧
    Bdy w (fun b => b < w.heap.size) v ((Nm.pick l i).getD []) ∧ w' = w := by
  obtain ⟨⟨ov, vs, h1⟩, -⟩ := h
  cases hp : Nm.pick l i with
  | none => exact (rat_none h1 i hp).mono fun e w' ⟨q1, q2⟩ => ⟨_, q1, Bdy.nil _ _, q2⟩
  | some b =>
    obtain ⟨k, rfl, hk, e⟩ := Nm.pick_some hp
    exact (rat_some h1 k (List.getElem?_eq_some_iff.2 ⟨hk, e⟩)).mono fun e w' ⟨v, q1, q2, q3⟩ => ⟨v, q1, q2.keep fun b hb => ⟨rfl, h1.lt b hb.1⟩, q3⟩
theorem rtake_one (h : One N S w0 w g l) (ok : Nm.Ok l) (i : Int) : Calls Try.prog 12 #[.pointer (some ⟨g, 0, none⟩), .int .i64 i] w fun e w' => ∃ v, e = .returned (.tuple #[v, .bool (Nm.pick l i).isSome]) ∧
    Bdy w' (fun b => b < w'.heap.size) v ((Nm.pick l i).getD []) ∧ Step N S w0 w w' g (Nm.less l i) := by
  have h' := h
  obtain ⟨⟨ov, vs, h1⟩, -⟩ := h
  cases hp : Nm.pick l i with
  | none => rw [Nm.less_none hp]; exact (rtake_none h1 i hp).mono fun e w' ⟨q1, q2⟩ => ⟨_, q1, Bdy.nil _ _, q2 ▸ h'.stay⟩
  | some b =>
    rw [Nm.less_some hp]
    obtain ⟨k, rfl, hk, e⟩ := Nm.pick_some hp
    rw [Int.toNat_natCast]
    exact (rtake_some h1 k (List.getElem?_eq_some_iff.2 ⟨hk, e⟩) (by have := ok.1; omega)).mono fun e w' ⟨v, q1, q2, q3⟩ => ⟨v, q1, q2.keep fun b hb => ⟨rfl, Nat.lt_of_lt_of_le (h1.lt b hb) q3.2.size⟩, h'.did q3⟩
/-- what came as an argument -/
theorem send_row {W : World} (h : One N S W w g l) {v : Value} {b : List Int} (hr : Row W v b) : Calls Try.prog 9 #[.pointer (some ⟨g, 0, none⟩), v] w fun e w' => e = .returned (.int .i64 (Nm.send l b).2) ∧ Step N S W w w' g (Nm.send l b).1 := by
  obtain ⟨A, c, rfl, _, _, h0, hrd⟩ := hr.form
  have := hr.le
  exact send_one h A b.length c W.heap.size b (hrd.below h.bel) rfl h.bel.size (by omega) h0
theorem rsend_row {W : World} (h : One N S W w g l) {v : Value} {b : List Int} (hr : Row W v b) : Calls Try.prog 10 #[.pointer (some ⟨g, 0, none⟩), v] w fun e w' => e = .returned (.int .i64 (Nm.send l b).2) ∧ Step N S W w w' g (Nm.send l b).1 := by
  obtain ⟨A, c, rfl, _, _, h0, hrd⟩ := hr.form
  have := hr.le
  exact rsend_one h A b.length c W.heap.size b (hrd.below h.bel) rfl h.bel.size (by omega)
end
end Go.Proofs.Ytceleihfdpgpiaa
