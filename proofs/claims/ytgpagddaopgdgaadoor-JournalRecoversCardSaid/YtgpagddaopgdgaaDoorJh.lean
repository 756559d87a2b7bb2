/- A journal's small calls: made, down, an effect, a fuse, what it has: the program's and the document's. -/
import Derived.Test.YtgpagddaopgdgaaDoorJg
import Derived.Test.YtgpagddaopgdgaaDoorBFj
namespace Go.Proofs.YtgpagddaopgdgaaDoor
open Go.RowKit Go.Shelf Km

/-- a journal somewhere: who holds it needs no more than the set of its blocks -/
def Jat (w : World) (S : Nat → Prop) (g : Nat) (s : Jm.St) : Prop := ∃ kv rv, JAt w S g s kv rv

theorem Jm.ok_fall {s : Jm.St} (h : Jm.Ok s) : Jm.Ok { s with burn := -1 } := ⟨h.k, h.r, by show (-1 : Int) ≤ -1; decide, by show (-1 : Int) ≤ 9223372036854775807; decide⟩

section
variable {w : World} {S : Nat → Prop} {g : Nat} {s : Jm.St} {kv rv : Value}

set_option maxRecDepth 100000 in
set_option maxHeartbeats 1000000 in
theorem fall_any (h : JAt w S g s kv rv) :
    Calls Tryd.prog 35 #[.pointer (some ⟨g, 0, none⟩)] w fun e w' => e = .returned (.tuple #[]) ∧ JAt w' S g { s with burn := -1, off := true } kv rv ∧ Out S w w' := by
  have h1 := h.burn (-1) (Jm.ok_fall h.ok)
  have h2 := h1.offs true
  have o1 := h.setOut 2 (.int .i64 (-1))
  have o2 := h1.setOut 3 (.bool true)
  obtain ⟨c1, f1⟩ := h.at 2 rfl
  obtain ⟨c2, f2⟩ := h1.at 3 rfl
  have HE := Lib.hid (show JAt _ S g _ kv rv ∧ Out S w _ from ⟨h2, o1.trans (o2.more fun _ q => .inl q)⟩)
  clear h h1 h2 o1 o2
  go_enter Tryd.func35, Tryd.ntmps35
  go_wp2
  go_end0
  exact ⟨rfl, HE.out⟩

theorem none_any : Calls Tryd.prog 34 #[] w fun e w' => e = .returned (.tuple #[]) ∧ w' = w := by
  go_enter Tryd.func34, Tryd.ntmps34
  go_wp2
  go_end0
  exact ⟨rfl, rfl⟩

set_option maxRecDepth 100000 in
set_option maxHeartbeats 1000000 in
theorem down_any (h : JAt w S g s kv rv) :
    Calls Tryd.prog 25 #[.pointer (some ⟨g, 0, none⟩)] w fun e w' => e = .returned (.bool s.off) ∧ w' = w := by
  obtain ⟨c1, f1⟩ := h.at 3 rfl
  clear h
  go_enter Tryd.func25, Tryd.ntmps25
  go_wp2
  go_ret
  exact ⟨rfl, rfl⟩

set_option maxRecDepth 100000 in
set_option maxHeartbeats 1000000 in
theorem fuse_any (h : JAt w S g s kv rv) (n : Int) (hn : n ≤ 9223372036854775807) :
    Calls Tryd.prog 18 #[.pointer (some ⟨g, 0, none⟩), .int .i64 n] w fun e w' => e = .returned (.tuple #[]) ∧ JAt w' S g (Jm.fuse s n) kv rv ∧ Out S w w' := by
  obtain ⟨c1, f1⟩ := h.at 2 rfl
  have HE : Hid (∀ m, (if n < -1 then -1 else n) = m → JAt (w.setCell ⟨g, 2, none⟩ (.int .i64 m)) S g (Jm.fuse s n) kv rv ∧ Out S w (w.setCell ⟨g, 2, none⟩ (.int .i64 m))) := fun m e => by
    subst e
    exact ⟨h.burn (if n < -1 then -1 else n) (Jm.ok_fuse h.ok hn), h.setOut 2 _⟩
  clear h
  go_enter Tryd.func18, Tryd.ntmps18
  go_wp2
  all_goals go_end0
  · exact ⟨rfl, HE.out _ (if_pos (by assumption))⟩
  · exact ⟨rfl, HE.out _ (if_neg (by omega))⟩

set_option maxRecDepth 100000 in
set_option maxHeartbeats 1000000 in
theorem rfuse_any (h : JAt w S g s kv rv) (n : Int) (hn : n ≤ 9223372036854775807) :
    Calls Tryd.prog 19 #[.pointer (some ⟨g, 0, none⟩), .int .i64 n] w fun e w' => e = .returned (.tuple #[]) ∧ JAt w' S g (Jm.fuse s n) kv rv ∧ Out S w w' := by
  obtain ⟨c1, f1⟩ := h.at 2 rfl
  have HE : Hid (∀ m, (if n < -1 then -1 else n) = m → JAt (w.setCell ⟨g, 2, none⟩ (.int .i64 m)) S g (Jm.fuse s n) kv rv ∧ Out S w (w.setCell ⟨g, 2, none⟩ (.int .i64 m))) := fun m e => by
    subst e
    exact ⟨h.burn (if n < -1 then -1 else n) (Jm.ok_fuse h.ok hn), h.setOut 2 _⟩
  clear h
  go_enter Tryd.func19, Tryd.ntmps19
  go_wp2
  all_goals go_end0
  · exact ⟨rfl, HE.out _ (if_pos (by assumption))⟩
  · exact ⟨rfl, HE.out _ (if_neg (by omega))⟩

/-- a copy of bytes, of none too -/
theorem Copy_any (A : Option Addr) (n cap B : Nat) (xs : List Int) (hx : Rd w B A (u8s xs)) (hn : xs.length = n) (hB : B ≤ w.heap.size) (hle : n ≤ 140737488355328) (hnc : A = none → cap = 0) :
    Calls Tryd.prog 39 #[.slice A n cap] w fun e w' => ∃ v, e = .returned v ∧ w'.ownsRow w.heap.size 5 1 v xs.length (u8s xs) ∧ Below w.heap.size w w' := by
  cases A with
  | some ad => exact Clone_any ad n cap B xs w hx hn hB hle
  | none =>
    have hc := hnc rfl
    subst hc
    have hx0 : xs = [] := by
      cases xs with
      | nil => rfl
      | cons u l => obtain ⟨ad, h, _⟩ := hx 0 _ rfl; cases h
    subst hx0
    subst hn
    have hnl := fun W => Lib.run_eql_slice_nil (P := Tryd.prog) W 29 5 none 0 0 0 0 Tryd.underlying29
    clear hx hB hle hnc
    go_enter Tryd.func39, Tryd.ntmps39
    go_wp2
    go_ret
    exact ⟨_, rfl, own_none, Below.refl _ _⟩

/-- a row's slice that is nil has no room -/
theorem own_view0 {w : World} {base : Nat} {e : TypeId} {v : Value} {n : Nat} {xs : List Value} (h : w.ownsRow base e 1 v n xs) : ∃ A cap, v = .slice A n cap ∧ n ≤ cap ∧ cap ≤ maxLen ∧ Rd w w.heap.size A xs ∧ (A = none → cap = 0) := by
  rcases h.2 with ⟨rfl, rfl⟩ | ⟨g, cap, cur, rfl, _, _, h1, h2, _⟩
  · have : xs = [] := List.eq_nil_of_length_eq_zero (by simpa using h.1)
    subst this
    exact ⟨none, 0, rfl, Nat.le_refl _, Nat.zero_le _, Rd.nil _ _ _, fun _ => rfl⟩
  · exact ⟨_, cap, rfl, h1, h2, Rd.of_own h, fun e => by cases e⟩

set_option maxRecDepth 100000 in
set_option maxHeartbeats 1000000 in
theorem synced_any (h : JAt w S g s kv rv) (hl : s.kept.length ≤ 140737488355328) :
    Calls Tryd.prog 26 #[.pointer (some ⟨g, 0, none⟩)] w fun e w' => ∃ v, e = .returned v ∧ w'.ownsRow w.heap.size 5 1 v s.kept.length (u8s s.kept) ∧ Below w.heap.size w w' := by
  obtain ⟨c1, f1⟩ := h.at 0 rfl
  obtain ⟨A, c, rfl, h1, h2, h3, h4⟩ := own_view0 h.kr
  have HC := Lib.hid (Copy_any A s.kept.length c w.heap.size s.kept h3 rfl (Nat.le_refl _) hl h4)
  generalize s.kept = xs at *
  clear h h1 h2 h3 h4
  go_enter Tryd.func26, Tryd.ntmps26
  go_wp2_with (go_at_call 39; refine HC.out.mono ?_; rintro e w' ⟨v, rfl, h1, h2⟩)
  go_ret
  exact ⟨_, rfl, h1, h2⟩

set_option maxRecDepth 100000 in
set_option maxHeartbeats 1000000 in
theorem tail_any (h : JAt w S g s kv rv) (hl : s.rest.length ≤ 140737488355328) :
    Calls Tryd.prog 27 #[.pointer (some ⟨g, 0, none⟩)] w fun e w' => ∃ v, e = .returned v ∧ w'.ownsRow w.heap.size 5 1 v s.rest.length (u8s s.rest) ∧ Below w.heap.size w w' := by
  obtain ⟨c1, f1⟩ := h.at 1 rfl
  obtain ⟨A, c, rfl, h1, h2, h3, h4⟩ := own_view0 h.rr
  have HC := Lib.hid (Copy_any A s.rest.length c w.heap.size s.rest h3 rfl (Nat.le_refl _) hl h4)
  generalize s.rest = xs at *
  clear h h1 h2 h3 h4
  go_enter Tryd.func27, Tryd.ntmps27
  go_wp2_with (go_at_call 39; refine HC.out.mono ?_; rintro e w' ⟨v, rfl, h1, h2⟩)
  go_ret
  exact ⟨_, rfl, h1, h2⟩
end

/-- a new journal's cells lie in a block just made -/
theorem JAt.make (w : World) (t : TypeId) : JAt (w.alloc (.cells #[.slice none 0 0, .slice none 0 0, .int .i64 (-1), .bool false] t)) (fun b => b = w.heap.size) w.heap.size Jm.new (.slice none 0 0) (.slice none 0 0) :=
  ⟨range_new w [.slice none 0 0, .slice none 0 0, .int .i64 (-1), .bool false] t, there_new w [.slice none 0 0, .slice none 0 0, .int .i64 (-1), .bool false] t, rfl,
    (fun b e => by rw [e, World.size_alloc]; omega), World.ownsRow_nil _ _ _ _, World.ownsRow_nil _ _ _ _, (fun b e => nomatch e), (fun b e => nomatch e), (fun b e => nomatch e), Jm.ok_new⟩

set_option maxRecDepth 100000 in
theorem new_any (w : World) :
    Calls Tryd.prog 9 #[] w fun e w' => e = .returned (.pointer (some ⟨w.heap.size, 0, none⟩)) ∧ JAt w' (fun b => b = w.heap.size) w.heap.size Jm.new (.slice none 0 0) (.slice none 0 0) ∧ Below w.heap.size w w' := by
  have HJ := Lib.hid (JAt.make w 50)
  have HB : Hid (Below w.heap.size w (w.alloc (.cells #[.slice none 0 0, .slice none 0 0, .int .i64 (-1), .bool false] 50))) := (Below.refl _ w).alloc (Nat.le_refl _) _
  go_enter Tryd.func9, Tryd.ntmps9
  go_wp2
  go_ret
  exact ⟨rfl, HJ.out, HB.out⟩

set_option maxRecDepth 100000 in
theorem rnew_any (w : World) :
    Calls Tryd.prog 10 #[] w fun e w' => e = .returned (.pointer (some ⟨w.heap.size, 0, none⟩)) ∧ JAt w' (fun b => b = w.heap.size) w.heap.size Jm.new (.slice none 0 0) (.slice none 0 0) ∧ Below w.heap.size w w' := by
  have HJ := Lib.hid (JAt.make w 41)
  have HB : Hid (Below w.heap.size w (w.alloc (.cells #[.slice none 0 0, .slice none 0 0, .int .i64 (-1), .bool false] 41))) := (Below.refl _ w).alloc (Nat.le_refl _) _
  go_enter Tryd.func10, Tryd.ntmps10
  go_wp2
  go_ret
  exact ⟨rfl, HJ.out, HB.out⟩
end Go.Proofs.YtgpagddaopgdgaaDoor
