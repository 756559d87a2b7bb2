/- The program's Dup; the document's net as a law holds it. -/
import Derived.Test.YtceleihfdpgpiaaNw
namespace Go.Proofs.Ytceleihfdpgpiaa
open Go.RowKit Go.Shelf Km Kb

section
variable {w w' : World} {S : Nat → Prop} {g : Nat} {l : List (List Int)} {ov : Value} {vs : List Value}
set_option maxRecDepth 100000 in
set_option maxHeartbeats 1000000 in
theorem dup_none (h : NAt w S g l ov vs) (i : Int) (hi : Nm.pick l i = none) :
    Calls Try.prog 14 #[.pointer (some ⟨g, 0, none⟩), .int .i64 i] w fun e w' => e = .returned (.int .i64 1) ∧ w' = w := by
  have HH := Lib.hid (has_none h i hi)
  clear h hi
  go_enter Try.func14, Try.ntmps14
  go_wp2_with (go_at_call 20; refine HH.out.mono ?_; rintro e w1 ⟨rfl, rfl⟩)
  go_ret
  exact ⟨rfl, rfl⟩

set_option maxRecDepth 100000 in
set_option maxHeartbeats 1000000 in
theorem dup_some (h : NAt w S g l ov vs) (k : Nat) {b : List Int} (hk : l[k]? = some b) (Q : Int → World → Prop)
    (hs : ∀ A c, Rd w w.heap.size A (u8s b) → (A = none → c = 0) → Calls Try.prog 9 #[.pointer (some ⟨g, 0, none⟩), .slice A b.length c] w fun e w' => ∃ n, e = .returned (.int .i64 n) ∧ Q n w') :
    Calls Try.prog 14 #[.pointer (some ⟨g, 0, none⟩), .int .i64 (k : Int)] w fun e w' => ∃ n, e = .returned (.int .i64 n) ∧ Q n w' := by
  have hkl := (List.getElem?_eq_some_iff.1 hk).1
  have HH := Lib.hid (has_some h k hkl)
  have c1 := h.cell
  obtain ⟨cap, ad, v, rfl, c2, hb⟩ := h.get hk
  obtain ⟨Av, cv, rfl, -, -, h0, hrd⟩ := hb.rd (fun q => Nb.lt h (k := q))
  have HS := Lib.hid (hs Av cv hrd h0)
  have d3 : (k : Int) < (l.length : Int) := by omega
  clear h hb hrd h0 hk hs
  go_enter Try.func14, Try.ntmps14
  go_wp2_with (go_at_call 20; refine HH.out.mono ?_; rintro e w1 ⟨rfl, rfl⟩)
  go_wp2_with (go_at_call 9; refine HS.out.mono ?_; rintro e w2 ⟨n, rfl, hq⟩)
  go_ret
  exact ⟨_, rfl, hq⟩
end

section
variable {w0 w w' : World} {g : Nat} {l : List (List Int)}
theorem dup_own (h : NOwn w0 w g l) (ok : Nm.Ok l) (i : Int) : Calls Try.prog 14 #[.pointer (some ⟨g, 0, none⟩), .int .i64 i] w fun e w' => e = .returned (.int .i64 (Nm.dup l i).2) ∧ NOwn w0 w' g (Nm.dup l i).1 := by
  have h' := h
  obtain ⟨S, ⟨ov, vs, h1⟩, h2, h3⟩ := h
  cases hp : Nm.pick l i with
  | none => rw [Nm.dup_none hp]; exact (dup_none h1 i hp).mono fun e w' ⟨q1, q2⟩ => ⟨q1, q2 ▸ h'⟩
  | some b =>
    have hb := ok.2 b (Nm.pick_mem hp)
    rw [Nm.dup_some hp]
    obtain ⟨k, rfl, hk, e⟩ := Nm.pick_some hp
    exact (dup_some h1 k (List.getElem?_eq_some_iff.2 ⟨hk, e⟩) (fun n w' => n = (Nm.send l b).2 ∧ NOwn w0 w' g (Nm.send l b).1) fun A c q1 q2 => (send_own h' A b.length c w.heap.size b q1 rfl (Nat.le_refl _) hb q2).mono fun e w' ⟨r1, r2⟩ => ⟨_, r1, rfl, r2⟩).mono fun e w' ⟨n, r1, r2, r3⟩ => ⟨r2 ▸ r1, r3⟩

/-- the document's: what Nt says, with blocks of its own -/
theorem rsend_own (h : NOwn w0 w g l) (A : Option Addr) (n cap B : Nat) (xs : List Int) (hx : Rd w B A (u8s xs)) (hn : xs.length = n) (hB : B ≤ w.heap.size) (hle : n ≤ 140737488355328) :
    Calls Try.prog 10 #[.pointer (some ⟨g, 0, none⟩), .slice A n cap] w fun e w' => e = .returned (.int .i64 (Nm.send l xs).2) ∧ NOwn w0 w' g (Nm.send l xs).1 := by
  have h' := h
  obtain ⟨S, ⟨ov, vs, h1⟩, h2, h3⟩ := h
  by_cases q : l.length < 400
  · rw [Nm.send_lt q]
    exact (rsend_any h1 A n cap B xs hx hn hB hle q).mono fun e w' ⟨q1, q2⟩ => ⟨q1, NOwn.did q2 h2 h3⟩
  · rw [Nm.send_ge (by omega)]
    exact (rsend_full h1 A n cap (by omega)).mono fun e w' ⟨q1, q2⟩ => ⟨q1, q2 ▸ h'⟩
theorem rdup_own (h : NOwn w0 w g l) (ok : Nm.Ok l) (i : Int) : Calls Try.prog 15 #[.pointer (some ⟨g, 0, none⟩), .int .i64 i] w fun e w' => e = .returned (.int .i64 (Nm.dup l i).2) ∧ NOwn w0 w' g (Nm.dup l i).1 := by
  have h' := h
  obtain ⟨S, ⟨ov, vs, h1⟩, h2, h3⟩ := h
  cases hp : Nm.pick l i with
  | none => rw [Nm.dup_none hp]; exact (rdup_none h1 i hp).mono fun e w' ⟨q1, q2⟩ => ⟨q1, q2 ▸ h'⟩
  | some b =>
    have hb := ok.2 b (Nm.pick_mem hp)
    rw [Nm.dup_some hp]
    obtain ⟨k, rfl, hk, e⟩ := Nm.pick_some hp
    have hk2 := List.getElem?_eq_some_iff.2 ⟨hk, e⟩
    by_cases q : l.length < 400
    · rw [Nm.send_lt q]
      exact (rdup_some h1 k hk2 hb q).mono fun e w' ⟨q1, q2⟩ => ⟨q1, NOwn.did q2 h2 h3⟩
    · rw [Nm.send_ge (by omega)]
      exact (rdup_full h1 k hk2 (by omega)).mono fun e w' ⟨q1, q2⟩ => ⟨q1, q2 ▸ h'⟩
/-- the document's At and Take hand on the message itself: it lies in blocks of the net's -/
theorem rat_own (h : NOwn w0 w g l) (i : Int) : Calls Try.prog 17 #[.pointer (some ⟨g, 0, none⟩), .int .i64 i] w fun e w' => ∃ v, e = .returned (.tuple #[v, .bool (Nm.pick l i).isSome]) ∧
    Bdy w (fun b => w0.heap.size ≤ b ∧ b < w.heap.size) v ((Nm.pick l i).getD []) ∧ w' = w := by
  obtain ⟨S, ⟨ov, vs, h1⟩, h2, h3⟩ := h
  cases hp : Nm.pick l i with
  | none => exact (rat_none h1 i hp).mono fun e w' ⟨q1, q2⟩ => ⟨_, q1, Bdy.nil _ _, q2⟩
  | some b =>
    obtain ⟨k, rfl, hk, e⟩ := Nm.pick_some hp
    exact (rat_some h1 k (List.getElem?_eq_some_iff.2 ⟨hk, e⟩)).mono fun e w' ⟨v, q1, q2, q3⟩ => ⟨v, q1, q2.keep fun b hb => ⟨rfl, h2 b hb.1, h1.lt b hb.1⟩, q3⟩
theorem rtake_own (h : NOwn w0 w g l) (ok : Nm.Ok l) (i : Int) : Calls Try.prog 12 #[.pointer (some ⟨g, 0, none⟩), .int .i64 i] w fun e w' => ∃ v, e = .returned (.tuple #[v, .bool (Nm.pick l i).isSome]) ∧
    Bdy w' (fun b => w0.heap.size ≤ b ∧ b < w'.heap.size) v ((Nm.pick l i).getD []) ∧ NOwn w0 w' g (Nm.less l i) := by
  have h' := h
  obtain ⟨S, ⟨ov, vs, h1⟩, h2, h3⟩ := h
  cases hp : Nm.pick l i with
  | none => rw [Nm.less_none hp]; exact (rtake_none h1 i hp).mono fun e w' ⟨q1, q2⟩ => ⟨_, q1, Bdy.nil _ _, q2 ▸ h'⟩
  | some b =>
    rw [Nm.less_some hp]
    obtain ⟨k, rfl, hk, e⟩ := Nm.pick_some hp
    rw [Int.toNat_natCast]
    exact (rtake_some h1 k (List.getElem?_eq_some_iff.2 ⟨hk, e⟩) (by have := ok.1; omega)).mono fun e w' ⟨v, q1, q2, q3⟩ => ⟨v, q1, q2.keep fun b hb => ⟨rfl, h2 b hb, Nat.lt_of_lt_of_le (h1.lt b hb) q3.2.size⟩, NOwn.did q3 h2 h3⟩
end
end Go.Proofs.Ytceleihfdpgpiaa
