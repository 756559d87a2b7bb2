/- The program's net: copies, made, looked at. (Clone_any stands in frame/Fp, Copy_any in journal/Jh as well.) -/
import Derived.Test.YtceleihfdpgpiaaNt
namespace Go.Proofs.Ytceleihfdpgpiaa
open Go.RowKit Go.Shelf Km Kb

set_option maxRecDepth 100000 in
set_option maxHeartbeats 1000000 in
theorem Clone_any (ad : Addr) (n cap B : Nat) (xs : List Int) (w : World) (hx : Rd w B (some ad) (u8s xs)) (hn : xs.length = n) (hB : B ≤ w.heap.size) (hle : n ≤ 140737488355328) :
    Calls Try.prog 19 #[.slice (some ad) n cap] w fun e w' => ∃ v, e = .returned v ∧ w'.ownsRow w.heap.size 5 1 v xs.length (u8s xs) ∧ Below w.heap.size w w' := by
  obtain ⟨i0, hi, hz0, hz1, hz2⟩ := info_parts info_u8
  have hnl := fun W => Lib.run_eql_slice_nil (P := Try.prog) W 30 5 (some ad) n cap 0 0 Try.underlying30
  have HN := Lib.hid hn
  have hown := World.ownsRow_made (base := w.heap.size) (e := 5) (size := 1) w #[] 0 (Nat.le_refl _) (by unfold maxLen; omega) (by simp)
  clear hn
  go_enter Try.func19, Try.ntmps19
  go_wp2_with (at_builtin; refine wpList_app rfl _ _ 30 rfl w.heap.size 5 i0 (.int .u8 0) 1 Try.underlying30 hi hz0 hz1 hz2 rfl _ _ _ rfl hown B (some ad) n cap (u8s xs) rfl (by rw [List.length_map]; exact HN.out) (hx.alloc hB _) (oneCell_ints _ _) (by unfold maxLen; omega) (by omega) (by simp) ?_; intro v' w2 hown' hgrow _)
  go_ret
  refine ⟨v', rfl, ?_, below_app ((Below.refl _ w).alloc (Nat.le_refl _) _) hown hgrow (by simp)⟩
  rw [HN.out]
  simpa [u8s] using hown'

/-- a copy of bytes, of none too -/
theorem Copy_any {w : World} (A : Option Addr) (n cap B : Nat) (xs : List Int) (hx : Rd w B A (u8s xs)) (hn : xs.length = n) (hB : B ≤ w.heap.size) (hle : n ≤ 140737488355328) (hnc : A = none → cap = 0) :
    Calls Try.prog 19 #[.slice A n cap] w fun e w' => ∃ v, e = .returned v ∧ w'.ownsRow w.heap.size 5 1 v xs.length (u8s xs) ∧ Below w.heap.size w w' := by
  cases A with
  | some ad => exact Clone_any ad n cap B xs w hx hn hB hle
  | none =>
    have hc := hnc rfl
    subst hc
    have hx0 : xs = [] := by
      cases xs with
      | nil => rfl
      | cons u l => obtain ⟨ad, h, _⟩ := hx 0 _ rfl; cases h
    subst hx0
    subst hn
    have hnl := fun W => Lib.run_eql_slice_nil (P := Try.prog) W 30 5 none 0 0 0 0 Try.underlying30
    clear hx hB hle hnc
    go_enter Try.func19, Try.ntmps19
    go_wp2
    go_ret
    exact ⟨_, rfl, own_none, Below.refl _ _⟩


section
variable {w w' : World} {S : Nat → Prop} {g : Nat} {l : List (List Int)} {ov : Value} {vs : List Value}
set_option maxRecDepth 100000 in
theorem new_any (w : World) :
    Calls Try.prog 8 #[] w fun e w' => e = .returned (.pointer (some ⟨w.heap.size, 0, none⟩)) ∧ NAt w' (fun b => b = w.heap.size) w.heap.size [] (.slice none 0 0) [] ∧ Below w.heap.size w w' := by
  have HJ := Lib.hid (NAt.make w 44)
  have HB : Hid (Below w.heap.size w (w.alloc (.cells #[.slice none 0 0] 44))) := (Below.refl _ w).alloc (Nat.le_refl _) _
  go_enter Try.func8, Try.ntmps8
  go_wp2
  go_ret
  exact ⟨rfl, HJ.out, HB.out⟩

set_option maxRecDepth 100000 in
set_option maxHeartbeats 1000000 in
theorem len_any (h : NAt w S g l ov vs) : Calls Try.prog 18 #[.pointer (some ⟨g, 0, none⟩)] w fun e w' => e = .returned (.int .i64 (l.length : Int)) ∧ w' = w := by
  have c1 := h.cell
  obtain ⟨Ao, co, rfl, -, -, -⟩ := h.row.form
  clear h
  go_enter Try.func18, Try.ntmps18
  go_wp2
  go_ret
  exact ⟨rfl, rfl⟩

set_option maxRecDepth 100000 in
set_option maxHeartbeats 1000000 in
theorem has_none (h : NAt w S g l ov vs) (i : Int) (hi : Nm.pick l i = none) :
    Calls Try.prog 20 #[.pointer (some ⟨g, 0, none⟩), .int .i64 i] w fun e w' => e = .returned (.bool false) ∧ w' = w := by
  have c1 := h.cell
  obtain ⟨A, cap, rfl, -, -, -⟩ := h.row.form
  have q0 := Nm.pick_none hi
  generalize l.length = n at *
  rcases q0 with q | ⟨q, q2⟩
  · have d1 : decide ((0 : Int) ≤ i) = false := by simpa using q
    clear h
    go_enter Try.func20, Try.ntmps20
    go_wp2
    go_ret
    exact ⟨rfl, rfl⟩
  · have d1 : decide ((0 : Int) ≤ i) = true := by simpa using q
    have d2 : decide (i < (n : Int)) = false := by simpa using q2
    clear h
    go_enter Try.func20, Try.ntmps20
    go_wp2
    go_ret
    exact ⟨rfl, rfl⟩

set_option maxRecDepth 100000 in
set_option maxHeartbeats 1000000 in
theorem has_some (h : NAt w S g l ov vs) (k : Nat) (hk : k < l.length) :
    Calls Try.prog 20 #[.pointer (some ⟨g, 0, none⟩), .int .i64 (k : Int)] w fun e w' => e = .returned (.bool true) ∧ w' = w := by
  have c1 := h.cell
  obtain ⟨A, cap, rfl, -, -, -⟩ := h.row.form
  generalize l.length = n at *
  have d1 : decide ((0 : Int) ≤ (k : Int)) = true := by simp
  have d2 : decide ((k : Int) < (n : Int)) = true := by simpa using hk
  clear h
  go_enter Try.func20, Try.ntmps20
  go_wp2
  go_ret
  exact ⟨rfl, rfl⟩

set_option maxRecDepth 100000 in
set_option maxHeartbeats 1000000 in
theorem at_none (h : NAt w S g l ov vs) (i : Int) (hi : Nm.pick l i = none) :
    Calls Try.prog 16 #[.pointer (some ⟨g, 0, none⟩), .int .i64 i] w fun e w' => e = .returned (.tuple #[.slice none 0 0, .bool false]) ∧ w' = w := by
  have HH := Lib.hid (has_none h i hi)
  clear h hi
  go_enter Try.func16, Try.ntmps16
  go_wp2_with (go_at_call 20; refine HH.out.mono ?_; rintro e w1 ⟨rfl, rfl⟩)
  go_ret2
  exact ⟨rfl, rfl⟩

set_option maxRecDepth 100000 in
set_option maxHeartbeats 1000000 in
theorem at_some (h : NAt w S g l ov vs) (k : Nat) {b : List Int} (hk : l[k]? = some b) (hle : b.length ≤ 140737488355328) :
    Calls Try.prog 16 #[.pointer (some ⟨g, 0, none⟩), .int .i64 (k : Int)] w fun e w' => ∃ v, e = .returned (.tuple #[v, .bool true]) ∧ w'.ownsRow w.heap.size 5 1 v b.length (u8s b) ∧ Below w.heap.size w w' := by
  have hkl := (List.getElem?_eq_some_iff.1 hk).1
  have HH := Lib.hid (has_some h k hkl)
  have c1 := h.cell
  obtain ⟨cap, ad, v, rfl, c2, hb⟩ := h.get hk
  obtain ⟨Av, cv, rfl, -, -, h0, hrd⟩ := hb.rd (fun q => Nb.lt h (k := q))
  have HC := Lib.hid (Copy_any Av b.length cv w.heap.size b hrd rfl (Nat.le_refl _) hle h0)
  have d3 : (k : Int) < (l.length : Int) := by omega
  clear h hb hrd h0 hk
  go_enter Try.func16, Try.ntmps16
  go_wp2_with (go_at_call 20; refine HH.out.mono ?_; rintro e w1 ⟨rfl, rfl⟩)
  go_wp2_with (go_at_call 19; refine HC.out.mono ?_; rintro e w2 ⟨v2, rfl, hown, hb2⟩; obtain ⟨A2, c2', rfl, -, -, -⟩ := own_view hown)
  go_ret2
  exact ⟨_, rfl, hown, hb2⟩
end
end Go.Proofs.Ytceleihfdpgpiaa
