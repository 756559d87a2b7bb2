/- Whether two plans are alike: the document's. -/
import Derived.Test.YtbkdenlhfigjhaaDoorBPb
namespace Go.Proofs.YtbkdenlhfigjhaaDoor
open Go.RowKit Go.Shelf

theorem ne_or (a b : Int) : ((a != b) = true ∧ a ≠ b) ∨ ((a != b) = false ∧ a = b) := by
  by_cases h : a = b
  · exact .inr ⟨by simpa using h, h⟩
  · exact .inl ⟨by simpa using h, h⟩

set_option maxRecDepth 100000 in
set_option maxHeartbeats 8000000 in
theorem RSame_no (x y : Pm.Pl) (A : Option Addr) (n c : Nat) (A' : Option Addr) (n' c' : Nat) (B : Nat) (D : Option Addr) (m d : Nat) (D' : Option Addr) (m' d' : Nat) (B2 : Nat) (w : World)
    (hp : PlAt w B x A n c A' n' c') (hq : PlAt w B2 y D m d D' m' d') (_hB : B ≤ w.heap.size) (_hB2 : B2 ≤ w.heap.size)
    (hno : ¬ (x.e = y.e ∧ x.t = y.t ∧ x.p = y.p ∧ x.s = y.s ∧ x.c = y.c ∧ x.st = y.st ∧ x.si = y.si ∧ x.ra = y.ra ∧ x.up = y.up ∧ x.su = y.su ∧ n = m)) :
    Calls Tryd.prog 25 #[pv x A n c A' n' c', pv y D m d D' m' d'] w fun e w' => e = .returned (.bool (Pm.same x y)) ∧ Below w.heap.size w w' := by
  have b0 := Bx.new w x A n c A' n' c' 36
  have hb0 : Below w.heap.size w (w.alloc (.cells (pvs x A n c A' n' c').toArray 36)) := (Below.refl _ w).alloc (Nat.le_refl _) _
  have hz1 : (w.alloc (.cells (pvs x A n c A' n' c').toArray 36)).heap.size = w.heap.size + 1 := World.size_alloc ..
  have b1 := Bx.new (w.alloc (.cells (pvs x A n c A' n' c').toArray 36)) y D m d D' m' d' 36
  have b0' : Bx ((w.alloc (.cells (pvs x A n c A' n' c').toArray 36)).alloc (.cells (pvs y D m d D' m' d').toArray 36)) w.heap.size x A n c A' n' c' := b0.below (B := w.heap.size + 1) ((Below.refl _ _).alloc (by omega) _) (Nat.lt_succ_self _)
  have HB1 := Lib.hid (hb0.alloc (o := .cells (pvs y D m d D' m' d').toArray 36) (by omega))
  rw [hz1] at b1
  have k0 := b0'.at 0 rfl
  have j0 := b1.at 0 rfl
  have k1 := b0'.at 1 rfl
  have j1 := b1.at 1 rfl
  have k2 := b0'.at 2 rfl
  have j2 := b1.at 2 rfl
  have k3 := b0'.at 3 rfl
  have j3 := b1.at 3 rfl
  have k4 := b0'.at 4 rfl
  have j4 := b1.at 4 rfl
  have k5 := b0'.at 5 rfl
  have j5 := b1.at 5 rfl
  have k6 := b0'.at 6 rfl
  have j6 := b1.at 6 rfl
  have k7 := b0'.at 7 rfl
  have j7 := b1.at 7 rfl
  have k8 := b0'.at 8 rfl
  have j8 := b1.at 8 rfl
  have k9 := b0'.at 9 rfl
  have j9 := b1.at 9 rfl
  have k10 := b0'.pen
  have k11 := b0'.ch
  have j10 := b1.pen
  have j11 := b1.ch
  have S0 := Lib.hid (fun (h : x.e ≠ y.e) => (Pm.ask_no (fun q : x = y => h (by rw [q])) : Pm.same x y = false))
  have S1 := Lib.hid (fun (h : x.t ≠ y.t) => (Pm.ask_no (fun q : x = y => h (by rw [q])) : Pm.same x y = false))
  have S2 := Lib.hid (fun (h : x.p ≠ y.p) => (Pm.ask_no (fun q : x = y => h (by rw [q])) : Pm.same x y = false))
  have S3 := Lib.hid (fun (h : x.s ≠ y.s) => (Pm.ask_no (fun q : x = y => h (by rw [q])) : Pm.same x y = false))
  have S4 := Lib.hid (fun (h : x.c ≠ y.c) => (Pm.ask_no (fun q : x = y => h (by rw [q])) : Pm.same x y = false))
  have S5 := Lib.hid (fun (h : x.st ≠ y.st) => (Pm.ask_no (fun q : x = y => h (by rw [q])) : Pm.same x y = false))
  have S6 := Lib.hid (fun (h : x.si ≠ y.si) => (Pm.ask_no (fun q : x = y => h (by rw [q])) : Pm.same x y = false))
  have S7 := Lib.hid (fun (h : x.ra ≠ y.ra) => (Pm.ask_no (fun q : x = y => h (by rw [q])) : Pm.same x y = false))
  have S8 := Lib.hid (fun (h : x.up ≠ y.up) => (Pm.ask_no (fun q : x = y => h (by rw [q])) : Pm.same x y = false))
  have S9 := Lib.hid (fun (h : x.su ≠ y.su) => (Pm.ask_no (fun q : x = y => h (by rw [q])) : Pm.same x y = false))
  have S10 := Lib.hid (fun (h : n ≠ m) => (Pm.ask_no (fun q : x = y => h (by rw [← hp.l1, ← hq.l1, q])) : Pm.same x y = false))
  have HNO := Lib.hid hno
  clear hno
  clear b0 b0' b1 hb0 hz1 hp hq
  rw [pv_eq, pv_eq]
  generalize pvs x A n c A' n' c' = L at *
  generalize pvs y D m d D' m' d' = M at *
  generalize x.e = xe at *
  generalize y.e = ye at *
  generalize x.t = xt at *
  generalize y.t = yt at *
  generalize x.p = xp at *
  generalize y.p = yp at *
  generalize x.s = xs at *
  generalize y.s = ys at *
  generalize x.c = xc at *
  generalize y.c = yc at *
  generalize x.st = xst at *
  generalize y.st = yst at *
  generalize x.si = xsi at *
  generalize y.si = ysi at *
  generalize x.ra = xra at *
  generalize y.ra = yra at *
  generalize x.up = xup at *
  generalize y.up = yup at *
  generalize x.su = xsu at *
  generalize y.su = ysu at *
  rcases ne_or xe ye with ⟨d0, e0⟩ | ⟨d0, e0⟩
  · have HE := Lib.hid (S0.out e0)
    clear e0 k10 k11 j10 j11 S0 S1 S2 S3 S4 S5 S6 S7 S8 S9 S10 k1 j1 k2 j2 k3 j3 k4 j4 k5 j5 k6 j6 k7 j7 k8 j8 k9 j9
    go_enter Tryd.func25, Tryd.ntmps25
    go_wp2
    go_ret
    exact ⟨ret_bool HE.out.symm, HB1.out⟩
  have E0 := Lib.hid e0
  clear e0
  rcases ne_or xt yt with ⟨d1, e1⟩ | ⟨d1, e1⟩
  · have HE := Lib.hid (S1.out e1)
    clear e1 k10 k11 j10 j11 S0 S1 S2 S3 S4 S5 S6 S7 S8 S9 S10 k2 j2 k3 j3 k4 j4 k5 j5 k6 j6 k7 j7 k8 j8 k9 j9
    go_enter Tryd.func25, Tryd.ntmps25
    go_wp2
    go_ret
    exact ⟨ret_bool HE.out.symm, HB1.out⟩
  have E1 := Lib.hid e1
  clear e1
  rcases ne_or xp yp with ⟨d2, e2⟩ | ⟨d2, e2⟩
  · have HE := Lib.hid (S2.out e2)
    clear e2 k10 k11 j10 j11 S0 S1 S2 S3 S4 S5 S6 S7 S8 S9 S10 k3 j3 k4 j4 k5 j5 k6 j6 k7 j7 k8 j8 k9 j9
    go_enter Tryd.func25, Tryd.ntmps25
    go_wp2
    go_ret
    exact ⟨ret_bool HE.out.symm, HB1.out⟩
  have E2 := Lib.hid e2
  clear e2
  rcases ne_or xs ys with ⟨d3, e3⟩ | ⟨d3, e3⟩
  · have HE := Lib.hid (S3.out e3)
    clear e3 k10 k11 j10 j11 S0 S1 S2 S3 S4 S5 S6 S7 S8 S9 S10 k4 j4 k5 j5 k6 j6 k7 j7 k8 j8 k9 j9
    go_enter Tryd.func25, Tryd.ntmps25
    go_wp2
    go_ret
    exact ⟨ret_bool HE.out.symm, HB1.out⟩
  have E3 := Lib.hid e3
  clear e3
  rcases ne_or xc yc with ⟨d4, e4⟩ | ⟨d4, e4⟩
  · have HE := Lib.hid (S4.out e4)
    clear e4 k10 k11 j10 j11 S0 S1 S2 S3 S4 S5 S6 S7 S8 S9 S10 k5 j5 k6 j6 k7 j7 k8 j8 k9 j9
    go_enter Tryd.func25, Tryd.ntmps25
    go_wp2
    go_ret
    exact ⟨ret_bool HE.out.symm, HB1.out⟩
  have E4 := Lib.hid e4
  clear e4
  rcases ne_or xst yst with ⟨d5, e5⟩ | ⟨d5, e5⟩
  · have HE := Lib.hid (S5.out e5)
    clear e5 k10 k11 j10 j11 S0 S1 S2 S3 S4 S5 S6 S7 S8 S9 S10 k6 j6 k7 j7 k8 j8 k9 j9
    go_enter Tryd.func25, Tryd.ntmps25
    go_wp2
    go_ret
    exact ⟨ret_bool HE.out.symm, HB1.out⟩
  have E5 := Lib.hid e5
  clear e5
  rcases ne_or xsi ysi with ⟨d6, e6⟩ | ⟨d6, e6⟩
  · have HE := Lib.hid (S6.out e6)
    clear e6 k10 k11 j10 j11 S0 S1 S2 S3 S4 S5 S6 S7 S8 S9 S10 k7 j7 k8 j8 k9 j9
    go_enter Tryd.func25, Tryd.ntmps25
    go_wp2
    go_ret
    exact ⟨ret_bool HE.out.symm, HB1.out⟩
  have E6 := Lib.hid e6
  clear e6
  rcases ne_or xra yra with ⟨d7, e7⟩ | ⟨d7, e7⟩
  · have HE := Lib.hid (S7.out e7)
    clear e7 k10 k11 j10 j11 S0 S1 S2 S3 S4 S5 S6 S7 S8 S9 S10 k8 j8 k9 j9
    go_enter Tryd.func25, Tryd.ntmps25
    go_wp2
    go_ret
    exact ⟨ret_bool HE.out.symm, HB1.out⟩
  have E7 := Lib.hid e7
  clear e7
  rcases ne_or xup yup with ⟨d8, e8⟩ | ⟨d8, e8⟩
  · have HE := Lib.hid (S8.out e8)
    clear e8 k10 k11 j10 j11 S0 S1 S2 S3 S4 S5 S6 S7 S8 S9 S10 k9 j9
    go_enter Tryd.func25, Tryd.ntmps25
    go_wp2
    go_ret
    exact ⟨ret_bool HE.out.symm, HB1.out⟩
  have E8 := Lib.hid e8
  clear e8
  rcases ne_or xsu ysu with ⟨d9, e9⟩ | ⟨d9, e9⟩
  · have HE := Lib.hid (S9.out e9)
    clear e9 k10 k11 j10 j11 S0 S1 S2 S3 S4 S5 S6 S7 S8 S9 S10
    go_enter Tryd.func25, Tryd.ntmps25
    go_wp2
    go_ret
    exact ⟨ret_bool HE.out.symm, HB1.out⟩
  have E9 := Lib.hid e9
  clear e9
  by_cases hnm : n = m
  · exact absurd ⟨E0.out, E1.out, E2.out, E3.out, E4.out, E5.out, E6.out, E7.out, E8.out, E9.out, hnm⟩ HNO.out
  · have d10 : ((n : Int) != (m : Int)) = true := by rw [bne_iff_ne]; omega
    have HE := Lib.hid (S10.out hnm)
    clear hnm k11 j11 S0 S1 S2 S3 S4 S5 S6 S7 S8 S9 S10
    go_enter Tryd.func25, Tryd.ntmps25
    go_wp2
    go_ret
    exact ⟨ret_bool HE.out.symm, HB1.out⟩
end Go.Proofs.YtbkdenlhfigjhaaDoor

/- Whether two plans are alike, further: the document's. -/
namespace Go.Proofs.YtbkdenlhfigjhaaDoor
open Go.RowKit Go.Shelf

set_option maxRecDepth 100000 in
set_option maxHeartbeats 8000000 in
theorem RSame_any (x y : Pm.Pl) (A : Option Addr) (n c : Nat) (A' : Option Addr) (n' c' : Nat) (B : Nat) (D : Option Addr) (m d : Nat) (D' : Option Addr) (m' d' : Nat) (B2 : Nat) (w : World)
    (hp : PlAt w B x A n c A' n' c') (hq : PlAt w B2 y D m d D' m' d') (hB : B ≤ w.heap.size) (hB2 : B2 ≤ w.heap.size) :
    Calls Tryd.prog 25 #[pv x A n c A' n' c', pv y D m d D' m' d'] w fun e w' => e = .returned (.bool (Pm.same x y)) ∧ Below w.heap.size w w' := by
  by_cases hyes : x.e = y.e ∧ x.t = y.t ∧ x.p = y.p ∧ x.s = y.s ∧ x.c = y.c ∧ x.st = y.st ∧ x.si = y.si ∧ x.ra = y.ra ∧ x.up = y.up ∧ x.su = y.su ∧ n = m
  case neg => exact RSame_no x y A n c A' n' c' B D m d D' m' d' B2 w hp hq hB hB2 hyes
  obtain ⟨e0, e1, e2, e3, e4, e5, e6, e7, e8, e9, hnm⟩ := hyes
  subst hnm
  have b0 := Bx.new w x A n c A' n' c' 36
  have hb0 : Below w.heap.size w (w.alloc (.cells (pvs x A n c A' n' c').toArray 36)) := (Below.refl _ w).alloc (Nat.le_refl _) _
  have hz1 : (w.alloc (.cells (pvs x A n c A' n' c').toArray 36)).heap.size = w.heap.size + 1 := World.size_alloc ..
  have b1 := Bx.new (w.alloc (.cells (pvs x A n c A' n' c').toArray 36)) y D n d D' m' d' 36
  have b0' : Bx ((w.alloc (.cells (pvs x A n c A' n' c').toArray 36)).alloc (.cells (pvs y D n d D' m' d').toArray 36)) w.heap.size x A n c A' n' c' := b0.below (B := w.heap.size + 1) ((Below.refl _ _).alloc (by omega) _) (Nat.lt_succ_self _)
  have HB1 := Lib.hid (hb0.alloc (o := .cells (pvs y D n d D' m' d').toArray 36) (by omega))
  rw [hz1] at b1
  have k0 := b0'.at 0 rfl
  have j0 := b1.at 0 rfl
  have k1 := b0'.at 1 rfl
  have j1 := b1.at 1 rfl
  have k2 := b0'.at 2 rfl
  have j2 := b1.at 2 rfl
  have k3 := b0'.at 3 rfl
  have j3 := b1.at 3 rfl
  have k4 := b0'.at 4 rfl
  have j4 := b1.at 4 rfl
  have k5 := b0'.at 5 rfl
  have j5 := b1.at 5 rfl
  have k6 := b0'.at 6 rfl
  have j6 := b1.at 6 rfl
  have k7 := b0'.at 7 rfl
  have j7 := b1.at 7 rfl
  have k8 := b0'.at 8 rfl
  have j8 := b1.at 8 rfl
  have k9 := b0'.at 9 rfl
  have j9 := b1.at 9 rfl
  have k10 := b0'.pen
  have k11 := b0'.ch
  have j10 := b1.pen
  have j11 := b1.ch
  have HPX := Lib.hid (hp.below HB1.out hB)
  have HPY := Lib.hid (hq.below HB1.out hB2)
  have hl1 := Lib.hid hp.l1
  have hl2 := Lib.hid hq.l1
  have hm1 := hp.c1
  have hm2 := hp.m1
  unfold maxLen at hm2
  have HS2 : Hid (Pm.same x y = Pm.ask (x.pen = y.pen ∧ x.ch = y.ch)) := by
    refine congrArg Pm.ask (propext ⟨fun h => by rw [h]; exact ⟨rfl, rfl⟩, fun h => ?_⟩)
    obtain ⟨h1, h2⟩ := h
    cases x; cases y
    dsimp only at *
    rw [e0, e1, e2, e3, e4, e5, e6, e7, e8, e9, h1, h2]
  rw [e0] at k0
  have d0 : (y.e != y.e) = false := by simp
  rw [e1] at k1
  have d1 : (y.t != y.t) = false := by simp
  rw [e2] at k2
  have d2 : (y.p != y.p) = false := by simp
  rw [e3] at k3
  have d3 : (y.s != y.s) = false := by simp
  rw [e4] at k4
  have d4 : (y.c != y.c) = false := by simp
  rw [e5] at k5
  have d5 : (y.st != y.st) = false := by simp
  rw [e6] at k6
  have d6 : (y.si != y.si) = false := by simp
  rw [e7] at k7
  have d7 : (y.ra != y.ra) = false := by simp
  rw [e8] at k8
  have d8 : (y.up != y.up) = false := by simp
  rw [e9] at k9
  have d9 : (y.su != y.su) = false := by simp
  clear e0 e1 e2 e3 e4 e5 e6 e7 e8 e9
  clear b0 b0' b1 hb0 hz1 hp hq
  rw [pv_eq, pv_eq]
  generalize pvs x A n c A' n' c' = L at *
  generalize pvs y D n d D' m' d' = M at *
  generalize y.e = ye at *
  generalize y.t = yt at *
  generalize y.p = yp at *
  generalize y.s = ys at *
  generalize y.c = yc at *
  generalize y.st = yst at *
  generalize y.si = ysi at *
  generalize y.ra = yra at *
  generalize y.up = yup at *
  generalize y.su = ysu at *
  have d10 : ((n : Int) != (n : Int)) = false := by simp
  have K10 := Lib.hid k10
  have K11 := Lib.hid k11
  have J10 := Lib.hid j10
  have J11 := Lib.hid j11
  go_enter Tryd.func25, Tryd.ntmps25
  go_wp2_with fail
  clear k0 k1 k2 k3 k4 k5 k6 k7 k8 k9 j0 j1 j2 j3 j4 j5 j6 j7 j8 j9 d0 d1 d2 d3 d4 d5 d6 d7 d8 d9 d10
  go_loopw [5] (fun ix wr => ∃ (k nd : Nat), ix = .int .i64 (k : Int) ∧ k ≤ n ∧ Hid (x.pen.take k = y.pen.take k) ∧ Hid (wr = ((w.alloc (.cells L.toArray 36)).alloc (.cells M.toArray 36)).drewN nd)) (fun ix _ => n - (intOf ix).toNat)
  case atStart => exact ⟨0, 0, rfl, by omega, Lib.hid rfl, Lib.hid rfl⟩
  case round =>
    obtain ⟨k, nd, rfl, hk, hT, hW⟩ := hrel
    have hbw : Hid (Below w.heap.size w wr) := by rw [hW.out]; exact below_drawn HB1.out nd
    have k10' : wr.cell? ⟨w.heap.size, 10, none⟩ = some (.slice A n c) := by rw [hW.out]; exact K10.out
    have k11' : wr.cell? ⟨w.heap.size, 11, none⟩ = some (.slice A' n' c') := by rw [hW.out]; exact K11.out
    have j10' : wr.cell? ⟨w.heap.size + 1, 10, none⟩ = some (.slice D n d) := by rw [hW.out]; exact J10.out
    have j11' : wr.cell? ⟨w.heap.size + 1, 11, none⟩ = some (.slice D' m' d') := by rw [hW.out]; exact J11.out
    have hxr : Hid (Rd wr B A (i64s x.pen)) := by rw [hW.out]; exact HPX.out.r1.drewN nd
    have hyr : Hid (Rd wr B2 D (i64s y.pen)) := by rw [hW.out]; exact HPY.out.r1.drewN nd
    have hxc : Hid (Rd wr B A' (i64s x.ch)) := by rw [hW.out]; exact HPX.out.r2.drewN nd
    have hyc : Hid (Rd wr B2 D' (i64s y.ch)) := by rw [hW.out]; exact HPY.out.r2.drewN nd
    clear k10 k11 j10 j11
    by_cases hlt : k < n
    · have hkm : k < n := hlt
      obtain ⟨u, huk⟩ : ∃ u, x.pen[k]? = some u := ⟨x.pen[k]'(by have := hl1.out; omega), List.getElem?_eq_getElem (by have := hl1.out; omega)⟩
      obtain ⟨v, hvk⟩ : ∃ v, y.pen[k]? = some v := ⟨y.pen[k]'(by have := hl2.out; omega), List.getElem?_eq_getElem (by have := hl2.out; omega)⟩
      obtain ⟨ad1, rfl, _, hc1⟩ := hxr.out.getU huk
      obtain ⟨ad2, rfl, _, hc2⟩ := hyr.out.getU hvk
      have HU := Lib.hid huk
      have HV := Lib.hid hvk
      have i1 : (k : Int) < (n : Int) := by omega
      have i2 : (k : Int) < (n : Int) := by omega
      clear huk hvk
      rcases ne_or u v with ⟨d, e⟩ | ⟨d, e⟩
      · have HE : Hid (Pm.same _ _ = false) := HS2.out.trans (Pm.ask_no (fun h => by
          have h1 := HU.out
          rw [h.1, HV.out] at h1
          exact e (by injection h1 with h1; exact h1.symm)))
        clear e
        go_wp2_with fail
        go_quiet (fail)
        go_wp2
        go_ret
        exact ⟨ret_bool HE.out.symm, below_drawn hbw.out _⟩
      · have HT2 : Hid (x.pen.take (k + 1) = y.pen.take (k + 1)) := take_step hT.out HU.out (by rw [e]; exact HV.out)
        clear e
        go_wp2_with fail
        go_quiet (fail)
        go_wp2
        go_roundw
        case rel => exact ⟨k + 1, nd + _, by go_num, by omega, HT2, Lib.hid (by rw [hW.out, World.drewN_drewN])⟩
        case measure => simp [intOf]; omega
    · obtain rfl : k = n := by omega
      have HPE : Hid (x.pen = y.pen) := by
        have h := hT.out
        rw [List.take_of_length_le (by have := hl1.out; omega), List.take_of_length_le (by have := hl2.out; omega)] at h
        exact h
      have HC := Lib.hid (Same_any A' D' n' m' c' d' B B2 x.ch y.ch wr hxc.out hyc.out HPX.out.l2 HPY.out.l2 (Nat.le_trans HPX.out.c2 HPX.out.m2))
      have HS3 : Hid (Pm.same x y = decide (x.ch = y.ch)) := by
        refine HS2.out.trans ?_
        by_cases h : x.ch = y.ch
        · rw [Pm.ask_yes ⟨HPE.out, h⟩]; exact (decide_eq_true h).symm
        · rw [Pm.ask_no (fun q => h q.2)]; exact (decide_eq_false h).symm
      clear hT hlt
      go_wp2_with (go_at_call 43; fail)
      refine HC.out.mono ?_
      rintro e w5 ⟨rfl, nq, rfl⟩
      go_wp2
      go_ret
      exact ⟨ret_bool HS3.out.symm, below_drawn hbw.out _⟩
end Go.Proofs.YtbkdenlhfigjhaaDoor
