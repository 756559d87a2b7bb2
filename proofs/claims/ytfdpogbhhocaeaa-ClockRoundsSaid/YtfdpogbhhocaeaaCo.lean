/- What the laws have in common: the live question, and whether it is too much to be gone through. -/
import Derived.Test.YtfdpogbhhocaeaaCj
import Derived.Test.YtfdpogbhhocaeaaCb
namespace Go.Proofs.Ytfdpogbhhocaeaa
open Go.RowKit Go.Shelf Km

def lst3 : List (Int × Int) := [(0, 2), (1, 2), (0, 2)]
theorem gain3 : Cl.gain lst3 0 = 4 := by decide
instance (f : Int → Int) (some others : List Int) (much least : Int) : Decidable (Cl.Hd f some much others least) := by unfold Cl.Hd; infer_instance
theorem dr3 : Cl.Dr lst3 [0] 4 [1] 2 := by
  refine Cl.dr_F.2 fun i j h => ?_
  have hi : i < 4 := by have : lst3.length = 3 := rfl; omega
  have hj : j < 4 := by have : lst3.length = 3 := rfl; omega
  have key : ∀ i, i < 4 → ∀ j, j < 4 → i + j ≤ 3 → Cl.Hd (Cl.F lst3 i j) [0] 4 [1] 2 := by decide
  exact key i hi j hj h
theorem ndr3 : ¬ Cl.Dr lst3 [0] 2 [1] 2 := fun h => by
  have := Cl.dr_F.1 h 0 1 (by decide)
  revert this
  decide
theorem wl3 : Wl lst3 := by
  intro p hp
  unfold lst3 at hp
  simp only [List.mem_cons, List.not_mem_nil, or_false] at hp
  rcases hp with rfl | rfl | rfl <;> exact ⟨⟨by decide, by decide⟩, by decide, by decide⟩
theorem in1 (x : Int) (h : in64 x) : ∀ y ∈ [x], in64 y := fun y hy => by rw [List.mem_singleton] at hy; subst hy; exact h

set_option maxRecDepth 100000 in
set_option maxHeartbeats 4000000 in
theorem head_any (w : World) : Calls Try.prog 8 #[] w fun e w' => e = .returned (.bool true) ∧ Below w.heap.size w w' := by
  have hb1 : Below w.heap.size w (w.alloc (.cells (svs lst3).toArray 30)) := (Below.refl _ w).alloc (Nat.le_refl _) _
  have hs1 : (w.alloc (.cells (svs lst3).toArray 30)).heap.size = w.heap.size + 1 := World.size_alloc ..
  have hr1 := Rd.new w (w.heap.size + 1) (svs lst3) 30 (0, 0) (by omega)
  have HG := Lib.hid (Gain_any (some ⟨w.heap.size, 0, none⟩) 3 3 (w.heap.size + 1) lst3 0 (w.alloc (.cells (svs lst3).toArray 30)) hr1 rfl (by omega) (by omega))
  rw [gain3] at HG
  go_enter Try.func8, Try.ntmps8
  go_wp2_with (go_at_call 10; fail)
  refine HG.out.mono ?_
  rintro e w2 ⟨rfl, hb2⟩
  have hr2 := hr1.below (hb2.mono (Nat.le_of_eq hs1.symm))
  have hb2' : Below w.heap.size w w2 := hb1.trans (hb2.mono (by omega))
  have hz2 : w.heap.size + 1 ≤ w2.heap.size := by have := hb2.size; omega
  have HR2 := Lib.hid hr2
  have HB2 := Lib.hid hb2'
  clear hb1 hs1 hr1 HG hb2 hr2 hb2'
  have hb4 : Below w2.heap.size w2 ((w2.alloc (.cells #[.int .i64 0] 3)).alloc (.cells #[.int .i64 1] 3)) := ((Below.refl _ _).alloc (Nat.le_refl _) _).alloc (by simp) _
  have hz4 : ((w2.alloc (.cells #[.int .i64 0] 3)).alloc (.cells #[.int .i64 1] 3)).heap.size = w2.heap.size + 2 := by rw [World.size_alloc, World.size_alloc]
  have ha4 : Rd ((w2.alloc (.cells #[.int .i64 0] 3)).alloc (.cells #[.int .i64 1] 3)) (w2.heap.size + 1) (some ⟨w2.heap.size, 0, none⟩) (i64s [0]) := (Rd.new w2 (w2.heap.size + 1) (i64s [0]) 3 (0, 0) (by omega)).alloc (by rw [World.size_alloc]; omega) _
  have hc4 : Rd ((w2.alloc (.cells #[.int .i64 0] 3)).alloc (.cells #[.int .i64 1] 3)) (w2.heap.size + 2) (some ⟨w2.heap.size + 1, 0, none⟩) (i64s [1]) := by
    have := Rd.new (w2.alloc (.cells #[.int .i64 0] 3)) (w2.heap.size + 2) (i64s [1]) 3 (0, 0) (by rw [World.size_alloc]; omega)
    rw [World.size_alloc] at this
    exact this
  have HD := Lib.hid (Drift_any (some ⟨w.heap.size, 0, none⟩) 3 3 (w.heap.size + 1) lst3 (some ⟨w2.heap.size, 0, none⟩) 1 1 (w2.heap.size + 1) [0] 4 (some ⟨w2.heap.size + 1, 0, none⟩) 1 1 (w2.heap.size + 2) [1] 2 _ (HR2.out.below (hb4.mono hz2)) rfl (by omega) (by omega) wl3 (by omega)
    ha4 rfl (by omega) (in1 0 ⟨by decide, by decide⟩) (by omega) hc4 rfl (by omega) (in1 1 ⟨by decide, by decide⟩) (by omega))
  have HR4 := Lib.hid (HR2.out.below (hb4.mono hz2))
  have HB4 := Lib.hid (HB2.out.trans (hb4.mono (by omega)))
  clear hb4 ha4 hc4 HR2 HB2
  go_wp2_with (go_at_call 12; fail)
  generalize (w2.alloc (.cells #[.int .i64 0] 3)).alloc (.cells #[.int .i64 1] 3) = w4 at *
  refine HD.out.mono ?_
  rintro e w5 ⟨b, rfl, hbi, hb5⟩
  obtain rfl := hbi.2 dr3
  have hz5 := hb5.size
  have HR5 := Lib.hid (HR4.out.below (hb5.mono (by omega)))
  have HB5 := Lib.hid (HB4.out.trans (hb5.mono (by omega)))
  clear hbi hb5 HR4 HB4 HD
  have hb6 : Below w5.heap.size w5 ((w5.alloc (.cells #[.int .i64 0] 3)).alloc (.cells #[.int .i64 1] 3)) := ((Below.refl _ _).alloc (Nat.le_refl _) _).alloc (by simp) _
  have hz6 : ((w5.alloc (.cells #[.int .i64 0] 3)).alloc (.cells #[.int .i64 1] 3)).heap.size = w5.heap.size + 2 := by rw [World.size_alloc, World.size_alloc]
  have ha6 : Rd ((w5.alloc (.cells #[.int .i64 0] 3)).alloc (.cells #[.int .i64 1] 3)) (w5.heap.size + 1) (some ⟨w5.heap.size, 0, none⟩) (i64s [0]) := (Rd.new w5 (w5.heap.size + 1) (i64s [0]) 3 (0, 0) (by omega)).alloc (by rw [World.size_alloc]; omega) _
  have hc6 : Rd ((w5.alloc (.cells #[.int .i64 0] 3)).alloc (.cells #[.int .i64 1] 3)) (w5.heap.size + 2) (some ⟨w5.heap.size + 1, 0, none⟩) (i64s [1]) := by
    have := Rd.new (w5.alloc (.cells #[.int .i64 0] 3)) (w5.heap.size + 2) (i64s [1]) 3 (0, 0) (by rw [World.size_alloc]; omega)
    rw [World.size_alloc] at this
    exact this
  have HD2 := Lib.hid (Drift_any (some ⟨w.heap.size, 0, none⟩) 3 3 (w.heap.size + 1) lst3 (some ⟨w5.heap.size, 0, none⟩) 1 1 (w5.heap.size + 1) [0] 2 (some ⟨w5.heap.size + 1, 0, none⟩) 1 1 (w5.heap.size + 2) [1] 2 _ (HR5.out.below (hb6.mono (by omega))) rfl (by omega) (by omega) wl3 (by omega)
    ha6 rfl (by omega) (in1 0 ⟨by decide, by decide⟩) (by omega) hc6 rfl (by omega) (in1 1 ⟨by decide, by decide⟩) (by omega))
  have HB6 := Lib.hid (HB5.out.trans (hb6.mono (by omega)))
  clear hb6 ha6 hc6 HR5 HB5
  go_wp2_with (go_at_call 12; fail)
  generalize (w5.alloc (.cells #[.int .i64 0] 3)).alloc (.cells #[.int .i64 1] 3) = w6 at *
  refine HD2.out.mono ?_
  rintro e w7 ⟨b, rfl, hbi, hb7⟩
  cases b with
  | true => exact absurd (hbi.1 rfl) ndr3
  | false =>
    have HB7 := Lib.hid (HB6.out.trans (hb7.mono (by omega)))
    clear hbi hb7
    go_wp2
    go_ret
    exact ⟨rfl, HB7.out⟩

theorem great_no (A0 : Option Addr) (n c : Nat) (A1 : Option Addr) (n1 c1 : Nat) (A3 : Option Addr) (n3 c3 : Nat) (w : World) (h : n ≤ 40) (h1 : n1 ≤ 20) (h3 : n3 ≤ 20) :
    Calls Try.prog 9 #[.slice A0 n c, .slice A1 n1 c1, .slice A3 n3 c3] w fun e w' => e = .returned (.bool false) ∧ w' = w := by
  have d0 : decide ((40 : Int) < (n : Int)) = false := by simp; omega
  have d1 : decide ((20 : Int) < (n1 : Int)) = false := by simp; omega
  have d2 : decide ((20 : Int) < (n3 : Int)) = false := by simp; omega
  go_enter Try.func9, Try.ntmps9
  go_wp2
  go_ret
  exact ⟨rfl, rfl⟩
theorem great_yes (A0 : Option Addr) (n c : Nat) (A1 : Option Addr) (n1 c1 : Nat) (A3 : Option Addr) (n3 c3 : Nat) (w : World) (h : ¬ (n ≤ 40 ∧ n1 ≤ 20 ∧ n3 ≤ 20)) :
    Calls Try.prog 9 #[.slice A0 n c, .slice A1 n1 c1, .slice A3 n3 c3] w fun e w' => e = .returned (.bool true) ∧ w' = w := by
  by_cases h0 : n ≤ 40
  · have d0 : decide ((40 : Int) < (n : Int)) = false := by simp; omega
    by_cases h1 : n1 ≤ 20
    · have d1 : decide ((20 : Int) < (n1 : Int)) = false := by simp; omega
      have d2 : decide ((20 : Int) < (n3 : Int)) = true := by simp; omega
      go_enter Try.func9, Try.ntmps9
      go_wp2
      go_ret
      exact ⟨rfl, rfl⟩
    · have d1 : decide ((20 : Int) < (n1 : Int)) = true := by simp; omega
      go_enter Try.func9, Try.ntmps9
      go_wp2
      go_ret
      exact ⟨rfl, rfl⟩
  · have d0 : decide ((40 : Int) < (n : Int)) = true := by simp; omega
    go_enter Try.func9, Try.ntmps9
    go_wp2
    go_ret
    exact ⟨rfl, rfl⟩
end Go.Proofs.Ytfdpogbhhocaeaa
