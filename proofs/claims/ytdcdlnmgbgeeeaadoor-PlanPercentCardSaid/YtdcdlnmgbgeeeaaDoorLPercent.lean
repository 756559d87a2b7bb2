/- The law PlanPercent walked. -/
import Derived.Test.YtdcdlnmgbgeeeaaDoorPk
namespace Go.Proofs.YtdcdlnmgbgeeeaaDoor
open Go.RowKit Go.Shelf

namespace Pm
def px (t p s c : Int) : Pl := ⟨0, t, p, s, c, 0, 0, 0, 0, 0, [], []⟩
theorem px_p {t p s c : Int} (h : 0 ≤ p) : (px t p s c).names p = ((p == t) || (p == s) || decide (c < 100)) := by
  show ask (0 ≤ p ∧ (p = t ∨ (p = p ∧ c < 100) ∨ p = s)) = _
  by_cases h1 : p = t
  · rw [show (p == t) = true from by simpa using h1]
    exact ask_yes ⟨h, .inl h1⟩
  · rw [show (p == t) = false from by simpa using h1]
    by_cases h2 : p = s
    · rw [show (p == s) = true from by simpa using h2]
      exact ask_yes ⟨h, .inr (.inr h2)⟩
    · rw [show (p == s) = false from by simpa using h2]
      by_cases h3 : c < 100
      · rw [show decide (c < 100) = true from by simpa using h3]
        exact ask_yes ⟨h, .inr (.inl ⟨rfl, h3⟩)⟩
      · rw [show decide (c < 100) = false from by simpa using h3]
        exact ask_no (fun q => q.2.elim h1 (fun q => q.elim (fun q => h3 q.2) h2))
theorem px_t {t p s c : Int} (h : 0 ≤ t) : (px t p s c).names t = true := ask_yes ⟨h, .inl rfl⟩
theorem px_s {t p s c : Int} (h : 0 ≤ s) : (px t p s c).names s = true := ask_yes ⟨h, .inr (.inr rfl)⟩
end Pm

set_option maxRecDepth 100000 in
set_option maxHeartbeats 8000000 in
theorem percent_neg (a0 a1 a2 a3 t p s c : Int) (w : World) (HH : Hid (Calls Tryd.prog 10 #[] w fun e w' => e = .returned (.bool true) ∧ Below w.heap.size w w'))
    (et : wrap64 (a0.tmod 16) = t) (ep : wrap64 (a1.tmod 16) = p) (es : wrap64 (wrap64 (a2.tmod 17) - 1) = s) (ec : wrap64 (a3.tmod 101) = c) (p0 : 0 ≤ p) (t0 : 0 ≤ t) (hs : s < 0) :
    Calls Tryd.prog 9 #[.int .u8 a0, .int .u8 a1, .int .u8 a2, .int .u8 a3] w fun e w' => e = .returned (.bool true) ∧ Below w.heap.size w w' := by
  have N1 := Lib.hid (fun W => Names_any (Pm.px t p s c) none 0 0 none 0 0 p W)
  have N2 := Lib.hid (fun W => Names_any (Pm.px t p s c) none 0 0 none 0 0 t W)
  have N3 := Lib.hid (fun W => Names_any (Pm.px t p s c) none 0 0 none 0 0 s W)
  rw [Pm.px_p p0] at N1
  rw [Pm.px_t t0] at N2
  clear p0 t0
  have d4 : decide (s < 0) = true := by simpa using hs
  have way : ((p == t) = true) ∨ ((p == t) = false ∧ (p == s) = true) ∨ ((p == t) = false ∧ (p == s) = false ∧ decide (c < 100) = true) ∨ ((p == t) = false ∧ (p == s) = false ∧ decide (c < 100) = false) := by
    cases (p == t) <;> cases (p == s) <;> cases decide (c < 100) <;> simp
  rcases way with e1 | ⟨e1, e2⟩ | ⟨e1, e2, e3⟩ | ⟨e1, e2, e3⟩
  · rw [e1, Bool.true_or, Bool.true_or] at N1
    go_enter Tryd.func9, Tryd.ntmps9
    go_wp2_with (go_at_call 10; fail)
    refine HH.out.mono ?_
    rintro e w1 ⟨rfl, hb1⟩
    have hbx := Bx.new w1 (Pm.px t p s c) none 0 0 none 0 0 26
    have hB1 := Lib.hid (hb1.alloc (o := .cells (pvs (Pm.px t p s c) none 0 0 none 0 0).toArray 26) hb1.size)
    have hz : Hid ((w1.alloc (.cells (pvs (Pm.px t p s c) none 0 0 none 0 0).toArray 26)).heap.size = w1.heap.size + 1) := World.size_alloc ..
    have HBX := Lib.hid hbx
    clear hbx hb1
    go_wp2_with (go_at_call 18; fail)
    refine (N1.out _).mono ?_
    rintro e w2 ⟨rfl, hb2⟩
    have hb2' : Below (w1.alloc (.cells (pvs (Pm.px t p s c) none 0 0 none 0 0).toArray 26)).heap.size (w1.alloc (.cells (pvs (Pm.px t p s c) none 0 0 none 0 0).toArray 26)) w2 := hb2
    have hB2 := Lib.hid (hB1.out.trans (hb2'.mono hB1.out.size))
    have h2 : Hid (w1.heap.size + 1 ≤ w2.heap.size) := by have := hb2'.size; rw [hz.out] at this; exact this
    rw [hz.out] at hb2'
    have hbx2 := Lib.hid (HBX.out.below hb2' (Nat.lt_succ_self _))
    have f1 : w2.cell? ⟨w1.heap.size, 1, none⟩ = some (.int .i64 t) := hbx2.out.at 1 rfl
    clear hb2 hb2' hB1 HBX hz N1
    go_wp2_with (first | (refine wpList_load_on 26 _ rfl w1.heap.size 0 rfl (pvs (Pm.px t p s c) none 0 0 none 0 0) _ hbx2.out Tryd.underlying26 rfl info_plan (by kernel_rfl) ?_) | (go_at_call 18; fail))
    refine (N2.out _).mono ?_
    rintro e w3 ⟨rfl, hb3⟩
    have hB3 := Lib.hid (hB2.out.trans (hb3.mono hB2.out.size))
    have hbx3 := Lib.hid (hbx2.out.below hb3 (by have := h2.out; omega))
    have f3 : w3.cell? ⟨w1.heap.size, 3, none⟩ = some (.int .i64 s) := hbx3.out.at 3 rfl
    clear hb3 hB2 hbx2 f1 N2
    go_wp2
    go_ret
    exact ⟨rfl, hB3.out⟩
  · rw [e1, e2, Bool.or_true, Bool.true_or] at N1
    go_enter Tryd.func9, Tryd.ntmps9
    go_wp2_with (go_at_call 10; fail)
    refine HH.out.mono ?_
    rintro e w1 ⟨rfl, hb1⟩
    have hbx := Bx.new w1 (Pm.px t p s c) none 0 0 none 0 0 26
    have hB1 := Lib.hid (hb1.alloc (o := .cells (pvs (Pm.px t p s c) none 0 0 none 0 0).toArray 26) hb1.size)
    have hz : Hid ((w1.alloc (.cells (pvs (Pm.px t p s c) none 0 0 none 0 0).toArray 26)).heap.size = w1.heap.size + 1) := World.size_alloc ..
    have HBX := Lib.hid hbx
    clear hbx hb1
    go_wp2_with (go_at_call 18; fail)
    refine (N1.out _).mono ?_
    rintro e w2 ⟨rfl, hb2⟩
    have hb2' : Below (w1.alloc (.cells (pvs (Pm.px t p s c) none 0 0 none 0 0).toArray 26)).heap.size (w1.alloc (.cells (pvs (Pm.px t p s c) none 0 0 none 0 0).toArray 26)) w2 := hb2
    have hB2 := Lib.hid (hB1.out.trans (hb2'.mono hB1.out.size))
    have h2 : Hid (w1.heap.size + 1 ≤ w2.heap.size) := by have := hb2'.size; rw [hz.out] at this; exact this
    rw [hz.out] at hb2'
    have hbx2 := Lib.hid (HBX.out.below hb2' (Nat.lt_succ_self _))
    have f1 : w2.cell? ⟨w1.heap.size, 1, none⟩ = some (.int .i64 t) := hbx2.out.at 1 rfl
    clear hb2 hb2' hB1 HBX hz N1
    go_wp2_with (first | (refine wpList_load_on 26 _ rfl w1.heap.size 0 rfl (pvs (Pm.px t p s c) none 0 0 none 0 0) _ hbx2.out Tryd.underlying26 rfl info_plan (by kernel_rfl) ?_) | (go_at_call 18; fail))
    refine (N2.out _).mono ?_
    rintro e w3 ⟨rfl, hb3⟩
    have hB3 := Lib.hid (hB2.out.trans (hb3.mono hB2.out.size))
    have hbx3 := Lib.hid (hbx2.out.below hb3 (by have := h2.out; omega))
    have f3 : w3.cell? ⟨w1.heap.size, 3, none⟩ = some (.int .i64 s) := hbx3.out.at 3 rfl
    clear hb3 hB2 hbx2 f1 N2
    go_wp2
    go_ret
    exact ⟨rfl, hB3.out⟩
  · rw [e1, e2, e3, Bool.or_true] at N1
    go_enter Tryd.func9, Tryd.ntmps9
    go_wp2_with (go_at_call 10; fail)
    refine HH.out.mono ?_
    rintro e w1 ⟨rfl, hb1⟩
    have hbx := Bx.new w1 (Pm.px t p s c) none 0 0 none 0 0 26
    have hB1 := Lib.hid (hb1.alloc (o := .cells (pvs (Pm.px t p s c) none 0 0 none 0 0).toArray 26) hb1.size)
    have hz : Hid ((w1.alloc (.cells (pvs (Pm.px t p s c) none 0 0 none 0 0).toArray 26)).heap.size = w1.heap.size + 1) := World.size_alloc ..
    have HBX := Lib.hid hbx
    clear hbx hb1
    go_wp2_with (go_at_call 18; fail)
    refine (N1.out _).mono ?_
    rintro e w2 ⟨rfl, hb2⟩
    have hb2' : Below (w1.alloc (.cells (pvs (Pm.px t p s c) none 0 0 none 0 0).toArray 26)).heap.size (w1.alloc (.cells (pvs (Pm.px t p s c) none 0 0 none 0 0).toArray 26)) w2 := hb2
    have hB2 := Lib.hid (hB1.out.trans (hb2'.mono hB1.out.size))
    have h2 : Hid (w1.heap.size + 1 ≤ w2.heap.size) := by have := hb2'.size; rw [hz.out] at this; exact this
    rw [hz.out] at hb2'
    have hbx2 := Lib.hid (HBX.out.below hb2' (Nat.lt_succ_self _))
    have f1 : w2.cell? ⟨w1.heap.size, 1, none⟩ = some (.int .i64 t) := hbx2.out.at 1 rfl
    clear hb2 hb2' hB1 HBX hz N1
    go_wp2_with (first | (refine wpList_load_on 26 _ rfl w1.heap.size 0 rfl (pvs (Pm.px t p s c) none 0 0 none 0 0) _ hbx2.out Tryd.underlying26 rfl info_plan (by kernel_rfl) ?_) | (go_at_call 18; fail))
    refine (N2.out _).mono ?_
    rintro e w3 ⟨rfl, hb3⟩
    have hB3 := Lib.hid (hB2.out.trans (hb3.mono hB2.out.size))
    have hbx3 := Lib.hid (hbx2.out.below hb3 (by have := h2.out; omega))
    have f3 : w3.cell? ⟨w1.heap.size, 3, none⟩ = some (.int .i64 s) := hbx3.out.at 3 rfl
    clear hb3 hB2 hbx2 f1 N2
    go_wp2
    go_ret
    exact ⟨rfl, hB3.out⟩
  · rw [e1, e2, e3, Bool.or_false, Bool.or_false] at N1
    go_enter Tryd.func9, Tryd.ntmps9
    go_wp2_with (go_at_call 10; fail)
    refine HH.out.mono ?_
    rintro e w1 ⟨rfl, hb1⟩
    have hbx := Bx.new w1 (Pm.px t p s c) none 0 0 none 0 0 26
    have hB1 := Lib.hid (hb1.alloc (o := .cells (pvs (Pm.px t p s c) none 0 0 none 0 0).toArray 26) hb1.size)
    have hz : Hid ((w1.alloc (.cells (pvs (Pm.px t p s c) none 0 0 none 0 0).toArray 26)).heap.size = w1.heap.size + 1) := World.size_alloc ..
    have HBX := Lib.hid hbx
    clear hbx hb1
    go_wp2_with (go_at_call 18; fail)
    refine (N1.out _).mono ?_
    rintro e w2 ⟨rfl, hb2⟩
    have hb2' : Below (w1.alloc (.cells (pvs (Pm.px t p s c) none 0 0 none 0 0).toArray 26)).heap.size (w1.alloc (.cells (pvs (Pm.px t p s c) none 0 0 none 0 0).toArray 26)) w2 := hb2
    have hB2 := Lib.hid (hB1.out.trans (hb2'.mono hB1.out.size))
    have h2 : Hid (w1.heap.size + 1 ≤ w2.heap.size) := by have := hb2'.size; rw [hz.out] at this; exact this
    rw [hz.out] at hb2'
    have hbx2 := Lib.hid (HBX.out.below hb2' (Nat.lt_succ_self _))
    have f1 : w2.cell? ⟨w1.heap.size, 1, none⟩ = some (.int .i64 t) := hbx2.out.at 1 rfl
    clear hb2 hb2' hB1 HBX hz N1
    go_wp2_with (first | (refine wpList_load_on 26 _ rfl w1.heap.size 0 rfl (pvs (Pm.px t p s c) none 0 0 none 0 0) _ hbx2.out Tryd.underlying26 rfl info_plan (by kernel_rfl) ?_) | (go_at_call 18; fail))
    refine (N2.out _).mono ?_
    rintro e w3 ⟨rfl, hb3⟩
    have hB3 := Lib.hid (hB2.out.trans (hb3.mono hB2.out.size))
    have hbx3 := Lib.hid (hbx2.out.below hb3 (by have := h2.out; omega))
    have f3 : w3.cell? ⟨w1.heap.size, 3, none⟩ = some (.int .i64 s) := hbx3.out.at 3 rfl
    clear hb3 hB2 hbx2 f1 N2
    go_wp2
    go_ret
    exact ⟨rfl, hB3.out⟩

set_option maxRecDepth 100000 in
set_option maxHeartbeats 8000000 in
theorem percent_pos (a0 a1 a2 a3 t p s c : Int) (w : World) (HH : Hid (Calls Tryd.prog 10 #[] w fun e w' => e = .returned (.bool true) ∧ Below w.heap.size w w'))
    (et : wrap64 (a0.tmod 16) = t) (ep : wrap64 (a1.tmod 16) = p) (es : wrap64 (wrap64 (a2.tmod 17) - 1) = s) (ec : wrap64 (a3.tmod 101) = c) (p0 : 0 ≤ p) (t0 : 0 ≤ t) (hs : ¬ s < 0) :
    Calls Tryd.prog 9 #[.int .u8 a0, .int .u8 a1, .int .u8 a2, .int .u8 a3] w fun e w' => e = .returned (.bool true) ∧ Below w.heap.size w w' := by
  have N1 := Lib.hid (fun W => Names_any (Pm.px t p s c) none 0 0 none 0 0 p W)
  have N2 := Lib.hid (fun W => Names_any (Pm.px t p s c) none 0 0 none 0 0 t W)
  have N3 := Lib.hid (fun W => Names_any (Pm.px t p s c) none 0 0 none 0 0 s W)
  rw [Pm.px_p p0] at N1
  rw [Pm.px_t t0] at N2
  rw [Pm.px_s (by omega)] at N3
  clear p0 t0
  have d4 : decide (s < 0) = false := by simpa using hs
  have way : ((p == t) = true) ∨ ((p == t) = false ∧ (p == s) = true) ∨ ((p == t) = false ∧ (p == s) = false ∧ decide (c < 100) = true) ∨ ((p == t) = false ∧ (p == s) = false ∧ decide (c < 100) = false) := by
    cases (p == t) <;> cases (p == s) <;> cases decide (c < 100) <;> simp
  rcases way with e1 | ⟨e1, e2⟩ | ⟨e1, e2, e3⟩ | ⟨e1, e2, e3⟩
  · rw [e1, Bool.true_or, Bool.true_or] at N1
    go_enter Tryd.func9, Tryd.ntmps9
    go_wp2_with (go_at_call 10; fail)
    refine HH.out.mono ?_
    rintro e w1 ⟨rfl, hb1⟩
    have hbx := Bx.new w1 (Pm.px t p s c) none 0 0 none 0 0 26
    have hB1 := Lib.hid (hb1.alloc (o := .cells (pvs (Pm.px t p s c) none 0 0 none 0 0).toArray 26) hb1.size)
    have hz : Hid ((w1.alloc (.cells (pvs (Pm.px t p s c) none 0 0 none 0 0).toArray 26)).heap.size = w1.heap.size + 1) := World.size_alloc ..
    have HBX := Lib.hid hbx
    clear hbx hb1
    go_wp2_with (go_at_call 18; fail)
    refine (N1.out _).mono ?_
    rintro e w2 ⟨rfl, hb2⟩
    have hb2' : Below (w1.alloc (.cells (pvs (Pm.px t p s c) none 0 0 none 0 0).toArray 26)).heap.size (w1.alloc (.cells (pvs (Pm.px t p s c) none 0 0 none 0 0).toArray 26)) w2 := hb2
    have hB2 := Lib.hid (hB1.out.trans (hb2'.mono hB1.out.size))
    have h2 : Hid (w1.heap.size + 1 ≤ w2.heap.size) := by have := hb2'.size; rw [hz.out] at this; exact this
    rw [hz.out] at hb2'
    have hbx2 := Lib.hid (HBX.out.below hb2' (Nat.lt_succ_self _))
    have f1 : w2.cell? ⟨w1.heap.size, 1, none⟩ = some (.int .i64 t) := hbx2.out.at 1 rfl
    clear hb2 hb2' hB1 HBX hz N1
    go_wp2_with (first | (refine wpList_load_on 26 _ rfl w1.heap.size 0 rfl (pvs (Pm.px t p s c) none 0 0 none 0 0) _ hbx2.out Tryd.underlying26 rfl info_plan (by kernel_rfl) ?_) | (go_at_call 18; fail))
    refine (N2.out _).mono ?_
    rintro e w3 ⟨rfl, hb3⟩
    have hB3 := Lib.hid (hB2.out.trans (hb3.mono hB2.out.size))
    have hbx3 := Lib.hid (hbx2.out.below hb3 (by have := h2.out; omega))
    have f3 : w3.cell? ⟨w1.heap.size, 3, none⟩ = some (.int .i64 s) := hbx3.out.at 3 rfl
    clear hb3 hB2 hbx2 f1 N2
    go_wp2_with (first | (refine wpList_load_on 26 _ rfl w1.heap.size 0 rfl (pvs (Pm.px t p s c) none 0 0 none 0 0) _ hbx3.out Tryd.underlying26 rfl info_plan (by kernel_rfl) ?_) | (go_at_call 18; fail))
    refine (N3.out _).mono ?_
    rintro e w4 ⟨rfl, hb4⟩
    have hB4 := Lib.hid (hB3.out.trans (hb4.mono hB3.out.size))
    go_wp2
    go_ret
    exact ⟨rfl, hB4.out⟩
  · rw [e1, e2, Bool.or_true, Bool.true_or] at N1
    go_enter Tryd.func9, Tryd.ntmps9
    go_wp2_with (go_at_call 10; fail)
    refine HH.out.mono ?_
    rintro e w1 ⟨rfl, hb1⟩
    have hbx := Bx.new w1 (Pm.px t p s c) none 0 0 none 0 0 26
    have hB1 := Lib.hid (hb1.alloc (o := .cells (pvs (Pm.px t p s c) none 0 0 none 0 0).toArray 26) hb1.size)
    have hz : Hid ((w1.alloc (.cells (pvs (Pm.px t p s c) none 0 0 none 0 0).toArray 26)).heap.size = w1.heap.size + 1) := World.size_alloc ..
    have HBX := Lib.hid hbx
    clear hbx hb1
    go_wp2_with (go_at_call 18; fail)
    refine (N1.out _).mono ?_
    rintro e w2 ⟨rfl, hb2⟩
    have hb2' : Below (w1.alloc (.cells (pvs (Pm.px t p s c) none 0 0 none 0 0).toArray 26)).heap.size (w1.alloc (.cells (pvs (Pm.px t p s c) none 0 0 none 0 0).toArray 26)) w2 := hb2
    have hB2 := Lib.hid (hB1.out.trans (hb2'.mono hB1.out.size))
    have h2 : Hid (w1.heap.size + 1 ≤ w2.heap.size) := by have := hb2'.size; rw [hz.out] at this; exact this
    rw [hz.out] at hb2'
    have hbx2 := Lib.hid (HBX.out.below hb2' (Nat.lt_succ_self _))
    have f1 : w2.cell? ⟨w1.heap.size, 1, none⟩ = some (.int .i64 t) := hbx2.out.at 1 rfl
    clear hb2 hb2' hB1 HBX hz N1
    go_wp2_with (first | (refine wpList_load_on 26 _ rfl w1.heap.size 0 rfl (pvs (Pm.px t p s c) none 0 0 none 0 0) _ hbx2.out Tryd.underlying26 rfl info_plan (by kernel_rfl) ?_) | (go_at_call 18; fail))
    refine (N2.out _).mono ?_
    rintro e w3 ⟨rfl, hb3⟩
    have hB3 := Lib.hid (hB2.out.trans (hb3.mono hB2.out.size))
    have hbx3 := Lib.hid (hbx2.out.below hb3 (by have := h2.out; omega))
    have f3 : w3.cell? ⟨w1.heap.size, 3, none⟩ = some (.int .i64 s) := hbx3.out.at 3 rfl
    clear hb3 hB2 hbx2 f1 N2
    go_wp2_with (first | (refine wpList_load_on 26 _ rfl w1.heap.size 0 rfl (pvs (Pm.px t p s c) none 0 0 none 0 0) _ hbx3.out Tryd.underlying26 rfl info_plan (by kernel_rfl) ?_) | (go_at_call 18; fail))
    refine (N3.out _).mono ?_
    rintro e w4 ⟨rfl, hb4⟩
    have hB4 := Lib.hid (hB3.out.trans (hb4.mono hB3.out.size))
    go_wp2
    go_ret
    exact ⟨rfl, hB4.out⟩
  · rw [e1, e2, e3, Bool.or_true] at N1
    go_enter Tryd.func9, Tryd.ntmps9
    go_wp2_with (go_at_call 10; fail)
    refine HH.out.mono ?_
    rintro e w1 ⟨rfl, hb1⟩
    have hbx := Bx.new w1 (Pm.px t p s c) none 0 0 none 0 0 26
    have hB1 := Lib.hid (hb1.alloc (o := .cells (pvs (Pm.px t p s c) none 0 0 none 0 0).toArray 26) hb1.size)
    have hz : Hid ((w1.alloc (.cells (pvs (Pm.px t p s c) none 0 0 none 0 0).toArray 26)).heap.size = w1.heap.size + 1) := World.size_alloc ..
    have HBX := Lib.hid hbx
    clear hbx hb1
    go_wp2_with (go_at_call 18; fail)
    refine (N1.out _).mono ?_
    rintro e w2 ⟨rfl, hb2⟩
    have hb2' : Below (w1.alloc (.cells (pvs (Pm.px t p s c) none 0 0 none 0 0).toArray 26)).heap.size (w1.alloc (.cells (pvs (Pm.px t p s c) none 0 0 none 0 0).toArray 26)) w2 := hb2
    have hB2 := Lib.hid (hB1.out.trans (hb2'.mono hB1.out.size))
    have h2 : Hid (w1.heap.size + 1 ≤ w2.heap.size) := by have := hb2'.size; rw [hz.out] at this; exact this
    rw [hz.out] at hb2'
    have hbx2 := Lib.hid (HBX.out.below hb2' (Nat.lt_succ_self _))
    have f1 : w2.cell? ⟨w1.heap.size, 1, none⟩ = some (.int .i64 t) := hbx2.out.at 1 rfl
    clear hb2 hb2' hB1 HBX hz N1
    go_wp2_with (first | (refine wpList_load_on 26 _ rfl w1.heap.size 0 rfl (pvs (Pm.px t p s c) none 0 0 none 0 0) _ hbx2.out Tryd.underlying26 rfl info_plan (by kernel_rfl) ?_) | (go_at_call 18; fail))
    refine (N2.out _).mono ?_
    rintro e w3 ⟨rfl, hb3⟩
    have hB3 := Lib.hid (hB2.out.trans (hb3.mono hB2.out.size))
    have hbx3 := Lib.hid (hbx2.out.below hb3 (by have := h2.out; omega))
    have f3 : w3.cell? ⟨w1.heap.size, 3, none⟩ = some (.int .i64 s) := hbx3.out.at 3 rfl
    clear hb3 hB2 hbx2 f1 N2
    go_wp2_with (first | (refine wpList_load_on 26 _ rfl w1.heap.size 0 rfl (pvs (Pm.px t p s c) none 0 0 none 0 0) _ hbx3.out Tryd.underlying26 rfl info_plan (by kernel_rfl) ?_) | (go_at_call 18; fail))
    refine (N3.out _).mono ?_
    rintro e w4 ⟨rfl, hb4⟩
    have hB4 := Lib.hid (hB3.out.trans (hb4.mono hB3.out.size))
    go_wp2
    go_ret
    exact ⟨rfl, hB4.out⟩
  · rw [e1, e2, e3, Bool.or_false, Bool.or_false] at N1
    go_enter Tryd.func9, Tryd.ntmps9
    go_wp2_with (go_at_call 10; fail)
    refine HH.out.mono ?_
    rintro e w1 ⟨rfl, hb1⟩
    have hbx := Bx.new w1 (Pm.px t p s c) none 0 0 none 0 0 26
    have hB1 := Lib.hid (hb1.alloc (o := .cells (pvs (Pm.px t p s c) none 0 0 none 0 0).toArray 26) hb1.size)
    have hz : Hid ((w1.alloc (.cells (pvs (Pm.px t p s c) none 0 0 none 0 0).toArray 26)).heap.size = w1.heap.size + 1) := World.size_alloc ..
    have HBX := Lib.hid hbx
    clear hbx hb1
    go_wp2_with (go_at_call 18; fail)
    refine (N1.out _).mono ?_
    rintro e w2 ⟨rfl, hb2⟩
    have hb2' : Below (w1.alloc (.cells (pvs (Pm.px t p s c) none 0 0 none 0 0).toArray 26)).heap.size (w1.alloc (.cells (pvs (Pm.px t p s c) none 0 0 none 0 0).toArray 26)) w2 := hb2
    have hB2 := Lib.hid (hB1.out.trans (hb2'.mono hB1.out.size))
    have h2 : Hid (w1.heap.size + 1 ≤ w2.heap.size) := by have := hb2'.size; rw [hz.out] at this; exact this
    rw [hz.out] at hb2'
    have hbx2 := Lib.hid (HBX.out.below hb2' (Nat.lt_succ_self _))
    have f1 : w2.cell? ⟨w1.heap.size, 1, none⟩ = some (.int .i64 t) := hbx2.out.at 1 rfl
    clear hb2 hb2' hB1 HBX hz N1
    go_wp2_with (first | (refine wpList_load_on 26 _ rfl w1.heap.size 0 rfl (pvs (Pm.px t p s c) none 0 0 none 0 0) _ hbx2.out Tryd.underlying26 rfl info_plan (by kernel_rfl) ?_) | (go_at_call 18; fail))
    refine (N2.out _).mono ?_
    rintro e w3 ⟨rfl, hb3⟩
    have hB3 := Lib.hid (hB2.out.trans (hb3.mono hB2.out.size))
    have hbx3 := Lib.hid (hbx2.out.below hb3 (by have := h2.out; omega))
    have f3 : w3.cell? ⟨w1.heap.size, 3, none⟩ = some (.int .i64 s) := hbx3.out.at 3 rfl
    clear hb3 hB2 hbx2 f1 N2
    go_wp2_with (first | (refine wpList_load_on 26 _ rfl w1.heap.size 0 rfl (pvs (Pm.px t p s c) none 0 0 none 0 0) _ hbx3.out Tryd.underlying26 rfl info_plan (by kernel_rfl) ?_) | (go_at_call 18; fail))
    refine (N3.out _).mono ?_
    rintro e w4 ⟨rfl, hb4⟩
    have hB4 := Lib.hid (hB3.out.trans (hb4.mono hB3.out.size))
    go_wp2
    go_ret
    exact ⟨rfl, hB4.out⟩

theorem percent_walk (a0 a1 a2 a3 : Int) (w : World) (w0 : (Lit.int .u8 a0).wf = true) (w1 : (Lit.int .u8 a1).wf = true) (_w2 : (Lit.int .u8 a2).wf = true) (_w3 : (Lit.int .u8 a3).wf = true) (ht : Tab w) :
    Calls Tryd.prog 9 #[.int .u8 a0, .int .u8 a1, .int .u8 a2, .int .u8 a3] w fun e w' => e = .returned (.bool true) ∧ Below w.heap.size w w' := by
  have u : ∀ {a : Int}, (Lit.int .u8 a).wf = true → 0 ≤ a ∧ a ≤ 255 := fun h => by simpa [Lit.wf, IntKind.min, IntKind.max, IntKind.signed, IntKind.bits] using h
  have u0 := u w0
  have u1 := u w1
  have t0 : 0 ≤ wrap64 (a0.tmod 16) := by rw [Int.tmod_eq_emod_of_nonneg u0.1]; unfold wrap64; omega
  have p0 : 0 ≤ wrap64 (a1.tmod 16) := by rw [Int.tmod_eq_emod_of_nonneg u1.1]; unfold wrap64; omega
  by_cases hs : wrap64 (wrap64 (a2.tmod 17) - 1) < 0
  · exact percent_neg a0 a1 a2 a3 _ _ _ _ w (Lib.hid (head_any w ht)) rfl rfl rfl rfl p0 t0 hs
  · exact percent_pos a0 a1 a2 a3 _ _ _ _ w (Lib.hid (head_any w ht)) rfl rfl rfl rfl p0 t0 hs
end Go.Proofs.YtdcdlnmgbgeeeaaDoor
