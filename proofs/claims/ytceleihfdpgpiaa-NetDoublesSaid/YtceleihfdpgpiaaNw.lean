/- The program's net as a law holds it: what each call makes of the list of messages. -/
import Derived.Test.YtceleihfdpgpiaaNv
namespace Go.Proofs.Ytceleihfdpgpiaa
open Go.RowKit Go.Shelf Km Kb

namespace Nm
/-- what may be under way: at most 400, none longer than memory lets be copied -/
def Ok (l : List (List Int)) : Prop := l.length ≤ 400 ∧ ∀ b ∈ l, b.length ≤ 140737488355328
def send (l : List (List Int)) (b : List Int) : List (List Int) × Int := if l.length < 400 then (l ++ [b], 0) else (l, 71)
def less (l : List (List Int)) (i : Int) : List (List Int) := match pick l i with | none => l | some _ => er i.toNat l
def dup (l : List (List Int)) (i : Int) : List (List Int) × Int := match pick l i with | none => (l, 1) | some b => send l b
theorem send_lt {l : List (List Int)} {b : List Int} (h : l.length < 400) : send l b = (l ++ [b], 0) := if_pos h
theorem send_ge {l : List (List Int)} {b : List Int} (h : 400 ≤ l.length) : send l b = (l, 71) := if_neg (by omega)
theorem less_none {l : List (List Int)} {i : Int} (h : pick l i = none) : less l i = l := by unfold less; rw [h]
theorem less_some {l : List (List Int)} {i : Int} {b : List Int} (h : pick l i = some b) : less l i = er i.toNat l := by unfold less; rw [h]
theorem dup_none {l : List (List Int)} {i : Int} (h : pick l i = none) : dup l i = (l, 1) := by unfold dup; rw [h]
theorem dup_some {l : List (List Int)} {i : Int} {b : List Int} (h : pick l i = some b) : dup l i = send l b := by unfold dup; rw [h]
theorem pick_mem {l : List (List Int)} {i : Int} {b : List Int} (h : pick l i = some b) : b ∈ l := by
  obtain ⟨k, _, hk, rfl⟩ := pick_some h
  exact List.getElem_mem hk
theorem ok_nil : Ok [] := ⟨by simp, by simp⟩
theorem ok_send {l : List (List Int)} {b : List Int} (h : Ok l) (hb : b.length ≤ 140737488355328) : Ok (send l b).1 := by
  by_cases q : l.length < 400
  · rw [send_lt q]
    refine ⟨by simp; omega, fun x hx => ?_⟩
    rcases List.mem_append.1 hx with r | r
    · exact h.2 x r
    · rw [List.mem_singleton.1 r]; exact hb
  · rw [send_ge (by omega)]; exact h
theorem ok_less {l : List (List Int)} (h : Ok l) (i : Int) : Ok (less l i) := by
  cases e : pick l i with
  | none => rw [less_none e]; exact h
  | some b =>
    rw [less_some e]
    refine ⟨Nat.le_trans er_le h.1, fun x hx => ?_⟩
    rcases List.mem_append.1 hx with r | r
    · exact h.2 x (List.mem_of_mem_take r)
    · exact h.2 x (List.mem_of_mem_drop r)
theorem ok_dup {l : List (List Int)} (h : Ok l) (i : Int) : Ok (dup l i).1 := by
  cases e : pick l i with
  | none => rw [dup_none e]; exact h
  | some b => rw [dup_some e]; exact ok_send h (h.2 b (pick_mem e))
theorem len_send (l : List (List Int)) (b : List Int) : ((send l b).1.length : Int) = if (send l b).2 = 0 then (l.length : Int) + 1 else l.length := by
  by_cases q : l.length < 400
  · rw [send_lt q]; simp
  · rw [send_ge (by omega)]; simp
theorem len_less (l : List (List Int)) (i : Int) : ((less l i).length : Int) = if (pick l i).isSome then (l.length : Int) - 1 else l.length := by
  cases e : pick l i with
  | none => rw [less_none e]; simp
  | some b =>
    obtain ⟨k, rfl, hk, _⟩ := pick_some e
    rw [less_some e, Int.toNat_natCast, er_len hk]
    simp
    omega
end Nm

section
variable {w0 w w' : World} {g : Nat} {l : List (List Int)}
theorem new_own (w0 w : World) (h : Below w0.heap.size w0 w) : Calls Try.prog 8 #[] w fun e w' => e = .returned (.pointer (some ⟨w.heap.size, 0, none⟩)) ∧ NOwn w0 w' w.heap.size [] :=
  (new_any w).mono fun e w' ⟨q1, q2, q3⟩ => ⟨q1, _, ⟨_, _, q2⟩, fun b e => by rw [e]; exact h.size, h.trans (q3.mono h.size)⟩
theorem len_own (h : NOwn w0 w g l) : Calls Try.prog 18 #[.pointer (some ⟨g, 0, none⟩)] w fun e w' => e = .returned (.int .i64 (l.length : Int)) ∧ w' = w := by
  obtain ⟨S, ⟨ov, vs, h1⟩, h2, h3⟩ := h
  exact len_any h1
theorem send_own (h : NOwn w0 w g l) (A : Option Addr) (n cap B : Nat) (xs : List Int) (hx : Rd w B A (u8s xs)) (hn : xs.length = n) (hB : B ≤ w.heap.size) (hle : n ≤ 140737488355328) (hnc : A = none → cap = 0) :
    Calls Try.prog 9 #[.pointer (some ⟨g, 0, none⟩), .slice A n cap] w fun e w' => e = .returned (.int .i64 (Nm.send l xs).2) ∧ NOwn w0 w' g (Nm.send l xs).1 := by
  have h' := h
  obtain ⟨S, ⟨ov, vs, h1⟩, h2, h3⟩ := h
  by_cases q : l.length < 400
  · rw [Nm.send_lt q]
    exact (send_any h1 A n cap B xs hx hn hB hle hnc q).mono fun e w' ⟨q1, q2⟩ => ⟨q1, NOwn.did q2 h2 h3⟩
  · rw [Nm.send_ge (by omega)]
    exact (send_full h1 A n cap (by omega)).mono fun e w' ⟨q1, q2⟩ => ⟨q1, q2 ▸ h'⟩
theorem at_own_none (h : NOwn w0 w g l) (i : Int) (hi : Nm.pick l i = none) : Calls Try.prog 16 #[.pointer (some ⟨g, 0, none⟩), .int .i64 i] w fun e w' => e = .returned (.tuple #[.slice none 0 0, .bool false]) ∧ w' = w := by
  obtain ⟨S, ⟨ov, vs, h1⟩, h2, h3⟩ := h
  exact at_none h1 i hi
/-- At, of any number: a copy of the message, or none -/
theorem at_own (h : NOwn w0 w g l) (ok : Nm.Ok l) (i : Int) : Calls Try.prog 16 #[.pointer (some ⟨g, 0, none⟩), .int .i64 i] w fun e w' => ∃ v, e = .returned (.tuple #[v, .bool (Nm.pick l i).isSome]) ∧
    w'.ownsRow w.heap.size 5 1 v ((Nm.pick l i).getD []).length (u8s ((Nm.pick l i).getD [])) ∧ Below w.heap.size w w' := by
  obtain ⟨S, ⟨ov, vs, h1⟩, h2, h3⟩ := h
  cases hp : Nm.pick l i with
  | none => exact (at_none h1 i hp).mono fun e w' ⟨q1, q2⟩ => ⟨_, q1, own_none, q2 ▸ Below.refl _ _⟩
  | some b =>
    have hb := ok.2 b (Nm.pick_mem hp)
    obtain ⟨k, rfl, hk, e⟩ := Nm.pick_some hp
    exact (at_some h1 k (List.getElem?_eq_some_iff.2 ⟨hk, e⟩) hb).mono fun e w' ⟨v, q1, q2, q3⟩ => ⟨v, q1, q2, q3⟩
theorem drop_own (h : NOwn w0 w g l) (ok : Nm.Ok l) (i : Int) : Calls Try.prog 13 #[.pointer (some ⟨g, 0, none⟩), .int .i64 i] w fun e w' => e = .returned (.bool (Nm.pick l i).isSome) ∧ NOwn w0 w' g (Nm.less l i) := by
  have h' := h
  obtain ⟨S, ⟨ov, vs, h1⟩, h2, h3⟩ := h
  cases hp : Nm.pick l i with
  | none => rw [Nm.less_none hp]; exact (drop_none h1 i hp).mono fun e w' ⟨q1, q2⟩ => ⟨q1, q2 ▸ h'⟩
  | some b =>
    rw [Nm.less_some hp]
    obtain ⟨k, rfl, hk, e⟩ := Nm.pick_some hp
    rw [Int.toNat_natCast]
    exact (drop_some h1 k hk (by have := ok.1; omega)).mono fun e w' ⟨q1, q2⟩ => ⟨q1, NOwn.did q2 h2 h3⟩
theorem take_own (h : NOwn w0 w g l) (ok : Nm.Ok l) (i : Int) : Calls Try.prog 11 #[.pointer (some ⟨g, 0, none⟩), .int .i64 i] w fun e w' => ∃ v, e = .returned (.tuple #[v, .bool (Nm.pick l i).isSome]) ∧
    w'.ownsRow w.heap.size 5 1 v ((Nm.pick l i).getD []).length (u8s ((Nm.pick l i).getD [])) ∧ NOwn w0 w' g (Nm.less l i) := by
  have h' := h
  obtain ⟨S, ⟨ov, vs, h1⟩, h2, h3⟩ := h
  cases hp : Nm.pick l i with
  | none => rw [Nm.less_none hp]; exact (take_none h1 i hp).mono fun e w' ⟨q1, q2⟩ => ⟨_, q1, own_none, q2 ▸ h'⟩
  | some b =>
    have hb := ok.2 b (Nm.pick_mem hp)
    rw [Nm.less_some hp]
    obtain ⟨k, rfl, hk, e⟩ := Nm.pick_some hp
    rw [Int.toNat_natCast]
    exact (take_some h1 k (List.getElem?_eq_some_iff.2 ⟨hk, e⟩) hb (by have := ok.1; omega)).mono fun e w' ⟨v, q1, q2, q3⟩ => ⟨v, q1, q2, NOwn.did q3 h2 h3⟩
end
end Go.Proofs.Ytceleihfdpgpiaa
