import Derived.Test.YtnipaifkgjbanaaKitR
import Derived.Deep.RegionWith
import Derived.BigRegion
import Derived.Test.YtnipaifkgjbanaaW11
import Derived.Test.YtnipaifkgjbanaaWm7
import Derived.Test.YtnipaifkgjbanaaW14
namespace Go.Proofs.Ytnipaifkgjbanaa
open Go.RowKit Go.Shelf

theorem rd_cutH {w : World} {B : Nat} {A : Option Addr} {xs : List Int} (h : Rd w B A (u8s xs)) {cap : Nat} (hc : xs.length ≤ cap) (m : Nat) : Rd w B (cutA A 0 cap) (u8s (xs.take m)) := by
  have h2 := (Rd.takeU h m).cutA (k := 0) (cap := cap) (by rw [List.length_map, List.length_take]; omega)
  rwa [List.drop_zero] at h2

set_option maxRecDepth 100000 in
set_option maxHeartbeats 16000000 in
theorem kept_walk (a0 : Option Addr) (len0 cap0 : Nat) (z0 : List Int) (w : World) (w0 : RowOf .u8 w a0 len0 cap0 z0) :
    Calls Try.prog 7 #[.slice a0 len0 cap0] w fun e w' => e = .returned (.bool true) ∧ Below w.heap.size w w' := by
  obtain ⟨xs, hn, hnc, hcm, hr, hw⟩ := row_rd w0
  have HB := Lib.hid (wf_u8 hw)
  have HR := Lib.hid hr
  have hcm' := hcm
  unfold maxLen at hcm'
  obtain ⟨i0, hi, hz0, hz1, hz2⟩ := info_parts info_u8
  have hsl := fun (m : Nat) (hm : m ≤ cap0) W => run_cut_h (P := Try.prog) Try.underlying22 (size_of_info hi hz1) a0 len0 cap0 m hm W
  clear w0 hw hr hi hz0 hz1 hz2
  go_enter Try.func7, Try.ntmps7
  go_wp2_with (go_at_call 11; refine (head_any _).mono ?_; rintro e w1 ⟨rfl, hb1⟩)
  refine (Int_any _ _ _ _ xs _ _ (by exact HR.out.below hb1) hn hnc hcm HB.out (by omega) (by omega)).mono ?_
  have HB1 := Lib.hid hb1
  have hsz1 := hb1.size
  clear hb1
  rcases hq : Wm.rd xs 0 with ⟨q1, q2, q3⟩
  dsimp only
  rintro e w' ⟨rfl, rfl⟩
  by_cases h3 : q3 = 0
  case' pos =>
    subst h3
    obtain ⟨m, rfl, m1, m2, m3, he, n0, n1⟩ := Wm.int_kept hq HB.out
    have HE := Lib.hid he
    clear he hq
    have hsm := hsl m (by omega)
    have k1 : decide ((m : Int) < 1) = false := by simp; omega
    have k2 : decide ((len0 : Int) < (m : Int)) = false := by simp; omega
    have k3 : decide ((10 : Int) < (m : Int)) = false := by simp; omega
    have k4 : decide (len0 < m) = false := by simp; omega
    have k5 : decide (10 < m) = false := by simp; omega
    have hcut : Hid (∀ {W : World}, Below w.heap.size w W → (convert 22 9 (.slice (cutA a0 0 cap0) m cap0)).run Try.prog W = .ok (.string (strOfNums (Wm.pint q1))) W) := fun hb => by
      rw [HE.out]
      exact str_of (rd_cutH (HR.out.below hb) (by omega) m) (by rw [List.length_take]; omega)
    clear hcm' HE
    go_wp2_with fail
    refine wp_region_any (by kernel_rfl) ?_
    change wpAny _ _ _ _ _ _ _ (World.drew _)
    refine wpAny_take_flat (i := 0) (v := ?v0) (a' := ?a0) rfl (by kernel_rfl) (by kernel_rfl) (by kernel_rfl) (fun _ _ _ h => h) ?w0 ?y0 ?f0 ?r0
    case w0 => kernel_rfl
    case y0 => (intro w; go_simp; try with_reducible rfl)
    case f0 => (go_simp; try with_reducible rfl)
    refine wpAny_take_flat (i := 1) (v := ?v1) (a' := ?a1) rfl (by kernel_rfl) (by kernel_rfl) (by kernel_rfl) (fun _ _ _ h => h) ?w1 ?y1 ?f1 ?r1
    case w1 => kernel_rfl
    case y1 => (intro w; go_simp; try with_reducible rfl)
    case f1 => (go_simp; try with_reducible rfl)
    refine wpAny_take_flat (i := 2) (v := ?v2) (a' := ?a2) rfl (by kernel_rfl) (by kernel_rfl) (by kernel_rfl) (fun _ _ _ h => h) ?w2 ?y2 ?f2 ?r2
    case w2 => kernel_rfl
    case y2 => (intro w; go_simp; try with_reducible rfl)
    case f2 => (go_simp; try with_reducible rfl)
    refine wpAny_take_flat (i := 3) (v := ?v3) (a' := ?a3) rfl (by kernel_rfl) (by kernel_rfl) (by kernel_rfl) (fun _ _ _ h => h) ?w3 ?y3 ?f3 ?r3
    case w3 => kernel_rfl
    case y3 => (intro w; go_simp; try with_reducible rfl)
    case f3 => (go_simp; try with_reducible rfl)
    refine wpAny_take_flat (i := 4) (v := ?v4) (a' := ?a4) rfl (by kernel_rfl) (by kernel_rfl) (by kernel_rfl) (fun _ _ _ h => h) ?w4 ?y4 ?f4 ?r4
    case w4 => kernel_rfl
    case y4 => (intro w; go_simp; try with_reducible rfl)
    case f4 => (go_simp; try with_reducible rfl)
    refine wpAny_take_flat (i := 5) (v := ?v5) (a' := ?a5) rfl (by kernel_rfl) (by kernel_rfl) (by kernel_rfl) (fun _ _ _ h => h) ?w5 ?y5 ?f5 ?r5
    case w5 => kernel_rfl
    case y5 => (intro w; go_simp; try with_reducible rfl)
    case f5 => (go_simp; try with_reducible rfl)
    refine wpAny_take_flat (i := 6) (v := ?v6) (a' := ?a6) rfl (by kernel_rfl) (by kernel_rfl) (by kernel_rfl) (fun _ _ _ h => h) ?w6 ?y6 ?f6 ?r6
    case w6 => kernel_rfl
    case y6 => (intro w; go_simp; try with_reducible rfl)
    case f6 => (go_simp; try with_reducible rfl)
    refine wpAny_take_flat (i := 7) (v := ?v7) (a' := ?a7) rfl (by kernel_rfl) (by kernel_rfl) (by kernel_rfl) (fun _ _ _ h => h) ?w7 ?y7 ?f7 ?r7
    case w7 => kernel_rfl
    case y7 => (intro w; go_simp; try with_reducible rfl)
    case f7 => (go_simp; try with_reducible rfl)
    refine wpAny_take_flat (i := 8) (v := ?v8) (a' := ?a8) rfl (by kernel_rfl) (by kernel_rfl) (by kernel_rfl) (fun _ _ _ h => h) ?w8 ?y8 ?f8 ?r8
    case w8 => kernel_rfl
    case y8 => (intro w; go_simp; try with_reducible rfl)
    case f8 => (go_simp; try with_reducible rfl)
    refine wpAny_take_flat (i := 9) (v := ?v9) (a' := ?a9) rfl (by kernel_rfl) (by kernel_rfl) (by kernel_rfl) (fun _ _ _ h => h) ?w9 ?y9 ?f9 ?r9
    case w9 => kernel_rfl
    case y9 => (intro w; go_simp; try with_reducible rfl)
    case f9 => (go_simp; try with_reducible rfl)
    refine wpAny_take_flat (i := 10) (v := ?v10) (a' := ?a10) rfl (by kernel_rfl) (by kernel_rfl) (by kernel_rfl) (fun _ _ _ h => h) ?w10 ?y10 ?f10 ?r10
    case w10 => kernel_rfl
    case y10 => (intro w; go_simp; try with_reducible rfl)
    case f10 => (go_simp; try with_reducible rfl)
    refine wpAny_take_flat (i := 11) (v := ?v11) (a' := ?a11) rfl (by kernel_rfl) (by kernel_rfl) (by kernel_rfl) (fun _ _ _ h => h) ?w11 ?y11 ?f11 ?r11
    case w11 => kernel_rfl
    case y11 => (intro w; go_simp; try with_reducible rfl)
    case f11 => (go_simp; try with_reducible rfl)
    refine wpAny_take_flat (i := 12) (v := ?v12) (a' := ?a12) rfl (by kernel_rfl) (by kernel_rfl) (by kernel_rfl) (fun _ _ _ h => h) ?w12 ?y12 ?f12 ?r12
    case w12 => kernel_rfl
    case y12 => (intro w; go_simp; try with_reducible rfl)
    case f12 => (go_simp; try with_reducible rfl)
    refine wpAny_take_flat (i := 13) (v := ?v13) (a' := ?a13) rfl (by kernel_rfl) (by kernel_rfl) (by kernel_rfl) (fun _ _ _ h => h) ?w13 ?y13 ?f13 ?r13
    case w13 => kernel_rfl
    case y13 => (intro w; go_simp; try with_reducible rfl)
    case f13 => (go_simp; try with_reducible rfl)
    refine wpAny_take_flat (i := 14) (v := ?v14) (a' := ?a14) rfl (by kernel_rfl) (by kernel_rfl) (by kernel_rfl) (fun _ _ _ h => h) ?w14 ?y14 ?f14 ?r14
    case w14 => kernel_rfl
    case y14 => (intro w; go_simp; try with_reducible rfl)
    case f14 => (go_simp; try with_reducible rfl)
    refine wpAny_take_flat (i := 15) (v := ?v15) (a' := ?a15) rfl (by kernel_rfl) (by kernel_rfl) (by kernel_rfl) (fun _ _ _ h => h) ?w15 ?y15 ?f15 ?r15
    case w15 => kernel_rfl
    case y15 => (intro w; go_simp; try with_reducible rfl)
    case f15 => (go_simp; try with_reducible rfl)
    refine wpAny_take_flat (i := 16) (v := ?v16) (a' := ?a16) rfl (by kernel_rfl) (by kernel_rfl) (by kernel_rfl) (fun _ _ _ h => h) ?w16 ?y16 ?f16 ?r16
    case w16 => kernel_rfl
    case y16 => (intro w; go_simp; try with_reducible rfl)
    case f16 => (go_simp; try with_reducible rfl)
    refine wpAny_take_flat (i := 19) (v := ?v19) (a' := ?a19) rfl (by kernel_rfl) (by kernel_rfl) (by kernel_rfl) (fun _ _ _ h => h) ?w19 ?y19 ?f19 ?r19
    case w19 => kernel_rfl
    case y19 => (intro w; go_simp; try with_reducible rfl)
    case f19 => (go_simp; try with_reducible rfl)
    refine wpAny_take_flat (i := 20) (v := ?v20) (a' := ?a20) rfl (by kernel_rfl) (by kernel_rfl) (by kernel_rfl) (fun _ _ _ h => h) ?w20 ?y20 ?f20 ?r20
    case w20 => kernel_rfl
    case y20 => (intro w; go_simp; try with_reducible rfl)
    case f20 => (go_simp; try with_reducible rfl)
    refine wpAny_take_flat (i := 21) (v := ?v21) (a' := ?a21) rfl (by kernel_rfl) (by kernel_rfl) (by kernel_rfl) (fun _ _ _ h => h) ?w21 ?y21 ?f21 ?r21
    case w21 => kernel_rfl
    case y21 => (intro w; go_simp; try with_reducible rfl)
    case f21 => (go_simp; try with_reducible rfl)
    refine wpAny_ready (rs := [17, 22]) (by kernel_rfl) (by simp) ?_
    refine AllReady.cons rfl (fun K hK => ?ka) (AllReady.cons rfl (fun K hK => ?kb) AllReady.nil)
    case' ka =>
      go_simp
      go_wp2_with (go_at_call 14; refine (PutInt_any _ _ n0 n1).mono ?_; rintro e w2 ⟨v, rfl, hown2, hb2⟩; obtain ⟨A2, cap2, rfl, -, -, hrd2⟩ := own_view hown2; have HB2 := Lib.hid hb2; have HR2 := Lib.hid hrd2; clear hown2 hb2 hrd2)
      have hw2 := HB1.out.trans (((below_drawn (Below.refl w1.heap.size w1) 1).trans HB2.out).mono hsz1)
      have hcv1 : ∀ nq, (convert 22 9 (.slice A2 (Wm.pint q1).length cap2)).run Try.prog (w2.drewN nq) = .ok (.string (strOfNums (Wm.pint q1))) (w2.drewN nq) := fun nq => str_of (HR2.out.drewN nq) rfl
      have hcv2 : ∀ nq, (convert 22 9 (.slice (cutA a0 0 cap0) m cap0)).run Try.prog (w2.drewN nq) = .ok (.string (strOfNums (Wm.pint q1))) (w2.drewN nq) := fun nq => hcut.out (below_drawn hw2 nq)
      refine wpAny_rest1 18 22 (.string (strOfNums (Wm.pint q1))) rfl (by kernel_rfl) (by kernel_rfl) (by kernel_rfl) (by rfl) (by intro nq; go_simp) rfl (by kernel_rfl) ?_
      repeat (quiet_step (fail))
      refine wpQuiet_nil ?_
      rintro _ ⟨nq, rfl⟩
      have HW := Lib.hid (below_drawn hw2 nq)
      clear hcv1 hcv2 hw2 HB2 HR2
      generalize w2.drewN nq = w3 at HW ⊢
      go_wp2_with fail
    case' kb =>
      have hcv2 := hcut.out (W := w1.drew) (below_drawn HB1.out 1)
      go_simp
      refine hK _ _ ?_
      clear hK hcv2
      refine wpAny_ready (rs := [17]) (by kernel_rfl) (by simp) ?_
      refine AllReady.cons rfl (fun K hK => ?_) AllReady.nil
      go_simp
      go_wp2_with (go_at_call 14; refine (PutInt_any _ _ n0 n1).mono ?_; rintro e w2 ⟨v, rfl, hown2, hb2⟩; obtain ⟨A2, cap2, rfl, -, -, hrd2⟩ := own_view hown2; have HB2 := Lib.hid hb2; have HR2 := Lib.hid hrd2; clear hown2 hb2 hrd2)
      have hw2 := HB1.out.trans (((below_drawn (Below.refl w1.heap.size w1) 1).trans HB2.out).mono hsz1)
      have hcv1 : ∀ nq, (convert 22 9 (.slice A2 (Wm.pint q1).length cap2)).run Try.prog (w2.drewN nq) = .ok (.string (strOfNums (Wm.pint q1))) (w2.drewN nq) := fun nq => str_of (HR2.out.drewN nq) rfl
      refine wpAny_rest1 18 23 (.string (strOfNums (Wm.pint q1))) rfl (by kernel_rfl) (by kernel_rfl) (by kernel_rfl) (by rfl) (by intro nq; go_simp) rfl (by kernel_rfl) ?_
      repeat (quiet_step (fail))
      refine wpQuiet_nil ?_
      rintro _ ⟨nq, rfl⟩
      have HW := Lib.hid (below_drawn hw2 nq)
      clear hcv1 hw2 HB2 HR2
      generalize w2.drewN nq = w3 at HW ⊢
      go_wp2_with fail
    all_goals clear hsm k1 k2 k3 k4 k5 hcut n0 n1 m1 m2 m3
  case' neg =>
    have hne : ((q3 : Int) == 0) = false := by simpa using h3
    clear hq h3 hcm'
    go_wp2_with fail
    go_quiet (fail)
    have HW := Lib.hid (below_drawn HB1.out nq)
    generalize w1.drewN nq = w3 at HW ⊢
    go_wp2_with fail
    clear hne
  all_goals
    refine (Text_any a0 len0 cap0 w.heap.size xs 0 _ (by exact HR.out.below HW.out) hn hnc hcm HW.out.size HB.out (by omega) (by omega)).mono ?_
    by_cases ht : (Wm.rtext xs 0).2.2 = 0
    case' pos =>
      obtain ⟨s, to, e1, s1, t1, e2, hsb⟩ := Wm.text_kept ht HB.out
      have HE2 := Lib.hid e2
      have HPT := Lib.hid (Wm.ptextE_ok s1)
      rw [e1]
      dsimp only
      rintro e w4 ⟨vs, rfl, hos, hb4⟩
      obtain ⟨As, cs, rfl, -, -, rs⟩ := own_view hos
      have HW4 := Lib.hid (HW.out.trans (hb4.mono HW.out.size))
      have hsm := hsl to (by omega)
      have k2 : decide ((len0 : Int) < (to : Int)) = false := by simp; omega
      have k4 : decide (len0 < to) = false := by simp; omega
      clear e1 e2 ht hsb hos hb4 s1
      go_wp2_with fail
      refine (PutText_all As s.length cs w4.heap.size s _ (by exact rs) rfl (Nat.le_refl _)).mono ?_
      rw [HPT.out]
      dsimp only
      rintro e w5 ⟨va, rfl, hoa, hb5⟩
      obtain ⟨Aa, ca, rfl, -, -, ra⟩ := own_view hoa
      have HW5 := Lib.hid (HW4.out.trans (hb5.mono HW4.out.size))
      have c1 : ∀ nq, (convert 22 9 (.slice Aa (Wm.ptext s).length ca)).run Try.prog (w5.drewN nq) = .ok (.string (strOfNums (Wm.ptext s))) (w5.drewN nq) := fun nq => str_of (ra.drewN nq) rfl
      have c2 : ∀ nq, (convert 22 9 (.slice (cutA a0 0 cap0) to cap0)).run Try.prog (w5.drewN nq) = .ok (.string (strOfNums (Wm.ptext s))) (w5.drewN nq) := fun nq => by
        rw [HE2.out]
        exact str_of (rd_cutH ((HR.out.below HW5.out).drewN nq) (by omega) to) (by rw [List.length_take]; omega)
      clear hoa hb5 rs ra HE2 HPT
      go_wp2_with fail
      go_quiet (fail)
      have HX := Lib.hid (below_drawn HW5.out nq)
      clear c1 c2 HW5 HW4 HW
      generalize w5.drewN nq = w6 at HX ⊢
      go_wp2_with fail
      clear hsm k2 k4
    case' neg =>
      rcases hq : Wm.rtext xs 0 with ⟨r1, r2, r3⟩
      rw [hq] at ht
      dsimp only at ht ⊢
      have hne : ((r3 : Int) == 0) = false := by simpa using ht
      rintro e w6 ⟨vs, rfl, hos, hb4⟩
      have HX := Lib.hid (HW.out.trans (hb4.mono HW.out.size))
      clear hos hb4 ht hq HW
      go_wp2_with fail
      clear hne
  all_goals
    refine (Ints_any a0 len0 cap0 w.heap.size xs 0 _ (by exact HR.out.below HX.out) hn hnc hcm HX.out.size HB.out (by omega) (by omega)).mono ?_
    by_cases hz : (Wm.rints xs 0).2.2 = 0
    case' pos =>
      obtain ⟨l, tz, f1, l1, lf, z1, f2⟩ := Wm.ints_kept hz HB.out
      have HF2 := Lib.hid f2
      have HPZ := Lib.hid (Wm.pintsE_ok l1)
      have HLF : Hid (Wm.Fits l) := lf
      rw [f1]
      dsimp only
      rintro e w7 ⟨vl, rfl, hol, hb7⟩
      obtain ⟨Al, cl, rfl, -, -, rl⟩ := own_view hol
      have HY7 := Lib.hid (HX.out.trans (hb7.mono HX.out.size))
      have hsz := hsl tz (by omega)
      have y2 : decide ((tz : Int) ≤ (len0 : Int)) = true := by simp; omega
      have y4 : decide (tz ≤ len0) = true := by simp; omega
      clear f1 f2 hz lf hol hb7 l1
      go_wp2_with fail
      refine (PutInts_all Al l.length cl w7.heap.size l _ (by exact rl) rfl HLF.out (Nat.le_refl _)).mono ?_
      rw [HPZ.out]
      dsimp only
      rintro e w8 ⟨vb, rfl, hob, hb8⟩
      obtain ⟨Ab, cb, rfl, -, -, rb⟩ := own_view hob
      have HY8 := Lib.hid (HY7.out.trans (hb8.mono HY7.out.size))
      have d1 : ∀ nq, (convert 22 9 (.slice Ab (Wm.pintsU l l.length).length cb)).run Try.prog (w8.drewN nq) = .ok (.string (strOfNums (Wm.pintsU l l.length))) (w8.drewN nq) := fun nq => str_of (rb.drewN nq) rfl
      have d2 : ∀ nq, (convert 22 9 (.slice (cutA a0 0 cap0) tz cap0)).run Try.prog (w8.drewN nq) = .ok (.string (strOfNums (Wm.pintsU l l.length))) (w8.drewN nq) := fun nq => by
        rw [HF2.out]
        exact str_of (rd_cutH ((HR.out.below HY8.out).drewN nq) (by omega) tz) (by rw [List.length_take]; omega)
      clear hob hb8 rl rb HF2 HPZ
      go_wp2_with fail
      go_quiet (fail)
      have HZ := Lib.hid (below_drawn HY8.out nq)
      clear d1 d2 HY8 HY7 HX
      generalize w8.drewN nq = w9 at HZ ⊢
      go_wp2_with fail
      go_ret
      exact ⟨ret_bool (by simp), HZ.out⟩
    case' neg =>
      rcases hq : Wm.rints xs 0 with ⟨r1, r2, r3⟩
      rw [hq] at hz
      dsimp only at hz ⊢
      have hne : ((r3 : Int) == 0) = false := by simpa using hz
      have hnb : ((r3 : Int) != 0) = true := by simpa using hz
      rintro e w9 ⟨vs, rfl, hos, hb4⟩
      have HZ := Lib.hid (HX.out.trans (hb4.mono HX.out.size))
      clear hos hb4 hz hq HX
      go_wp2_with fail
      go_ret
      exact ⟨ret_bool (by simp), HZ.out⟩
end Go.Proofs.Ytnipaifkgjbanaa
