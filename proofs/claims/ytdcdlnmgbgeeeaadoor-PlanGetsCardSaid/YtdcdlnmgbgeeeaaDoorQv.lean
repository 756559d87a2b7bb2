/- Whether two plans are alike: the document's. -/
import Derived.Test.YtdcdlnmgbgeeeaaDoorPi
namespace Go.Proofs.YtdcdlnmgbgeeeaaDoor
open Go.RowKit Go.Shelf

theorem ne_or (a b : Int) : ((a != b) = true ∧ a ≠ b) ∨ ((a != b) = false ∧ a = b) := by
  by_cases h : a = b
  · exact .inr ⟨by simpa using h, h⟩
  · exact .inl ⟨by simpa using h, h⟩

set_option maxRecDepth 100000 in
set_option maxHeartbeats 8000000 in
theorem RSame_no (x y : Pm.Pl) (A : Option Addr) (n c : Nat) (A' : Option Addr) (n' c' : Nat) (B : Nat) (D : Option Addr) (m d : Nat) (D' : Option Addr) (m' d' : Nat) (B2 : Nat) (w : World)
    (hp : PlAt w B x A n c A' n' c') (hq : PlAt w B2 y D m d D' m' d') (_hB : B ≤ w.heap.size) (_hB2 : B2 ≤ w.heap.size)
    (hno : ¬ (x.e = y.e ∧ x.t = y.t ∧ x.p = y.p ∧ x.s = y.s ∧ x.c = y.c ∧ x.st = y.st ∧ x.si = y.si ∧ x.ra = y.ra ∧ x.up = y.up ∧ x.su = y.su ∧ n = m)) :
    Calls Tryd.prog 17 #[pv x A n c A' n' c', pv y D m d D' m' d'] w fun e w' => e = .returned (.bool (Pm.same x y)) ∧ Below w.heap.size w w' := by
  have b0 := Bx.new w x A n c A' n' c' 26
  have hb0 : Below w.heap.size w (w.alloc (.cells (pvs x A n c A' n' c').toArray 26)) := (Below.refl _ w).alloc (Nat.le_refl _) _
  have hz1 : (w.alloc (.cells (pvs x A n c A' n' c').toArray 26)).heap.size = w.heap.size + 1 := World.size_alloc ..
  have b1 := Bx.new (w.alloc (.cells (pvs x A n c A' n' c').toArray 26)) y D m d D' m' d' 26
  have b0' : Bx ((w.alloc (.cells (pvs x A n c A' n' c').toArray 26)).alloc (.cells (pvs y D m d D' m' d').toArray 26)) w.heap.size x A n c A' n' c' := b0.below (B := w.heap.size + 1) ((Below.refl _ _).alloc (by omega) _) (Nat.lt_succ_self _)
  have HB1 := Lib.hid (hb0.alloc (o := .cells (pvs y D m d D' m' d').toArray 26) (by omega))
  rw [hz1] at b1
  have k0 := b0'.at 0 rfl
  have j0 := b1.at 0 rfl
  have k1 := b0'.at 1 rfl
  have j1 := b1.at 1 rfl
  have k2 := b0'.at 2 rfl
  have j2 := b1.at 2 rfl
  have k3 := b0'.at 3 rfl
  have j3 := b1.at 3 rfl
  have k4 := b0'.at 4 rfl
  have j4 := b1.at 4 rfl
  have k5 := b0'.at 5 rfl
  have j5 := b1.at 5 rfl
  have k6 := b0'.at 6 rfl
  have j6 := b1.at 6 rfl
  have k7 := b0'.at 7 rfl
  have j7 := b1.at 7 rfl
  have k8 := b0'.at 8 rfl
  have j8 := b1.at 8 rfl
  have k9 := b0'.at 9 rfl
  have j9 := b1.at 9 rfl
  have k10 := b0'.pen
  have k11 := b0'.ch
  have j10 := b1.pen
  have j11 := b1.ch
  have S0 := Lib.hid (fun (h : x.e ≠ y.e) => (Pm.ask_no (fun q : x = y => h (by rw [q])) : Pm.same x y = false))
  have S1 := Lib.hid (fun (h : x.t ≠ y.t) => (Pm.ask_no (fun q : x = y => h (by rw [q])) : Pm.same x y = false))
  have S2 := Lib.hid (fun (h : x.p ≠ y.p) => (Pm.ask_no (fun q : x = y => h (by rw [q])) : Pm.same x y = false))
  have S3 := Lib.hid (fun (h : x.s ≠ y.s) => (Pm.ask_no (fun q : x = y => h (by rw [q])) : Pm.same x y = false))
  have S4 := Lib.hid (fun (h : x.c ≠ y.c) => (Pm.ask_no (fun q : x = y => h (by rw [q])) : Pm.same x y = false))
  have S5 := Lib.hid (fun (h : x.st ≠ y.st) => (Pm.ask_no (fun q : x = y => h (by rw [q])) : Pm.same x y = false))
  have S6 := Lib.hid (fun (h : x.si ≠ y.si) => (Pm.ask_no (fun q : x = y => h (by rw [q])) : Pm.same x y = false))
  have S7 := Lib.hid (fun (h : x.ra ≠ y.ra) => (Pm.ask_no (fun q : x = y => h (by rw [q])) : Pm.same x y = false))
  have S8 := Lib.hid (fun (h : x.up ≠ y.up) => (Pm.ask_no (fun q : x = y => h (by rw [q])) : Pm.same x y = false))
  have S9 := Lib.hid (fun (h : x.su ≠ y.su) => (Pm.ask_no (fun q : x = y => h (by rw [q])) : Pm.same x y = false))
  have S10 := Lib.hid (fun (h : n ≠ m) => (Pm.ask_no (fun q : x = y => h (by rw [← hp.l1, ← hq.l1, q])) : Pm.same x y = false))
  have HNO := Lib.hid hno
  clear hno
  clear b0 b0' b1 hb0 hz1 hp hq
  rw [pv_eq, pv_eq]
  generalize pvs x A n c A' n' c' = L at *
  generalize pvs y D m d D' m' d' = M at *
  generalize x.e = xe at *
  generalize y.e = ye at *
  generalize x.t = xt at *
  generalize y.t = yt at *
  generalize x.p = xp at *
  generalize y.p = yp at *
  generalize x.s = xs at *
  generalize y.s = ys at *
  generalize x.c = xc at *
  generalize y.c = yc at *
  generalize x.st = xst at *
  generalize y.st = yst at *
  generalize x.si = xsi at *
  generalize y.si = ysi at *
  generalize x.ra = xra at *
  generalize y.ra = yra at *
  generalize x.up = xup at *
  generalize y.up = yup at *
  generalize x.su = xsu at *
  generalize y.su = ysu at *
  rcases ne_or xe ye with ⟨d0, e0⟩ | ⟨d0, e0⟩
  · have HE := Lib.hid (S0.out e0)
    clear e0 k10 k11 j10 j11 S0 S1 S2 S3 S4 S5 S6 S7 S8 S9 S10 k1 j1 k2 j2 k3 j3 k4 j4 k5 j5 k6 j6 k7 j7 k8 j8 k9 j9
    go_enter Tryd.func17, Tryd.ntmps17
    go_wp2
    go_ret
    exact ⟨ret_bool HE.out.symm, HB1.out⟩
  have E0 := Lib.hid e0
  clear e0
  rcases ne_or xt yt with ⟨d1, e1⟩ | ⟨d1, e1⟩
  · have HE := Lib.hid (S1.out e1)
    clear e1 k10 k11 j10 j11 S0 S1 S2 S3 S4 S5 S6 S7 S8 S9 S10 k2 j2 k3 j3 k4 j4 k5 j5 k6 j6 k7 j7 k8 j8 k9 j9
    go_enter Tryd.func17, Tryd.ntmps17
    go_wp2
    go_ret
    exact ⟨ret_bool HE.out.symm, HB1.out⟩
  have E1 := Lib.hid e1
  clear e1
  rcases ne_or xp yp with ⟨d2, e2⟩ | ⟨d2, e2⟩
  · have HE := Lib.hid (S2.out e2)
    clear e2 k10 k11 j10 j11 S0 S1 S2 S3 S4 S5 S6 S7 S8 S9 S10 k3 j3 k4 j4 k5 j5 k6 j6 k7 j7 k8 j8 k9 j9
    go_enter Tryd.func17, Tryd.ntmps17
    go_wp2
    go_ret
    exact ⟨ret_bool HE.out.symm, HB1.out⟩
  have E2 := Lib.hid e2
  clear e2
  rcases ne_or xs ys with ⟨d3, e3⟩ | ⟨d3, e3⟩
  · have HE := Lib.hid (S3.out e3)
    clear e3 k10 k11 j10 j11 S0 S1 S2 S3 S4 S5 S6 S7 S8 S9 S10 k4 j4 k5 j5 k6 j6 k7 j7 k8 j8 k9 j9
    go_enter Tryd.func17, Tryd.ntmps17
    go_wp2
    go_ret
    exact ⟨ret_bool HE.out.symm, HB1.out⟩
  have E3 := Lib.hid e3
  clear e3
  rcases ne_or xc yc with ⟨d4, e4⟩ | ⟨d4, e4⟩
  · have HE := Lib.hid (S4.out e4)
    clear e4 k10 k11 j10 j11 S0 S1 S2 S3 S4 S5 S6 S7 S8 S9 S10 k5 j5 k6 j6 k7 j7 k8 j8 k9 j9
    go_enter Tryd.func17, Tryd.ntmps17
    go_wp2
    go_ret
    exact ⟨ret_bool HE.out.symm, HB1.out⟩
  have E4 := Lib.hid e4
  clear e4
  rcases ne_or xst yst with ⟨d5, e5⟩ | ⟨d5, e5⟩
  · have HE := Lib.hid (S5.out e5)
    clear e5 k10 k11 j10 j11 S0 S1 S2 S3 S4 S5 S6 S7 S8 S9 S10 k6 j6 k7 j7 k8 j8 k9 j9
    go_enter Tryd.func17, Tryd.ntmps17
    go_wp2
    go_ret
    exact ⟨ret_bool HE.out.symm, HB1.out⟩
  have E5 := Lib.hid e5
  clear e5
  rcases ne_or xsi ysi with ⟨d6, e6⟩ | ⟨d6, e6⟩
  · have HE := Lib.hid (S6.out e6)
    clear e6 k10 k11 j10 j11 S0 S1 S2 S3 S4 S5 S6 S7 S8 S9 S10 k7 j7 k8 j8 k9 j9
    go_enter Tryd.func17, Tryd.ntmps17
    go_wp2
    go_ret
    exact ⟨ret_bool HE.out.symm, HB1.out⟩
  have E6 := Lib.hid e6
  clear e6
  rcases ne_or xra yra with ⟨d7, e7⟩ | ⟨d7, e7⟩
  · have HE := Lib.hid (S7.out e7)
    clear e7 k10 k11 j10 j11 S0 S1 S2 S3 S4 S5 S6 S7 S8 S9 S10 k8 j8 k9 j9
    go_enter Tryd.func17, Tryd.ntmps17
    go_wp2
    go_ret
    exact ⟨ret_bool HE.out.symm, HB1.out⟩
  have E7 := Lib.hid e7
  clear e7
  rcases ne_or xup yup with ⟨d8, e8⟩ | ⟨d8, e8⟩
  · have HE := Lib.hid (S8.out e8)
    clear e8 k10 k11 j10 j11 S0 S1 S2 S3 S4 S5 S6 S7 S8 S9 S10 k9 j9
    go_enter Tryd.func17, Tryd.ntmps17
    go_wp2
    go_ret
    exact ⟨ret_bool HE.out.symm, HB1.out⟩
  have E8 := Lib.hid e8
  clear e8
  rcases ne_or xsu ysu with ⟨d9, e9⟩ | ⟨d9, e9⟩
  · have HE := Lib.hid (S9.out e9)
    clear e9 k10 k11 j10 j11 S0 S1 S2 S3 S4 S5 S6 S7 S8 S9 S10
    go_enter Tryd.func17, Tryd.ntmps17
    go_wp2
    go_ret
    exact ⟨ret_bool HE.out.symm, HB1.out⟩
  have E9 := Lib.hid e9
  clear e9
  by_cases hnm : n = m
  · exact absurd ⟨E0.out, E1.out, E2.out, E3.out, E4.out, E5.out, E6.out, E7.out, E8.out, E9.out, hnm⟩ HNO.out
  · have d10 : ((n : Int) != (m : Int)) = true := by rw [bne_iff_ne]; omega
    have HE := Lib.hid (S10.out hnm)
    clear hnm k11 j11 S0 S1 S2 S3 S4 S5 S6 S7 S8 S9 S10
    go_enter Tryd.func17, Tryd.ntmps17
    go_wp2
    go_ret
    exact ⟨ret_bool HE.out.symm, HB1.out⟩
end Go.Proofs.YtdcdlnmgbgeeeaaDoor
