/- Whether two plans are alike: the program's. -/
import Derived.Test.YtdcdlnmgbgeeeaaDoorPf
import Derived.Laws.StructEq
namespace Go.Proofs.YtdcdlnmgbgeeeaaDoor
open Go.RowKit Go.Shelf

theorem all_range_eqI : ∀ (xs ys : List Int), xs.length = ys.length → ((List.range xs.length).all fun i => xs.getD i 0 == ys.getD i 0) = (xs == ys)
  | [], [], _ => rfl
  | x :: xs, y :: ys, h => by
    have ih := all_range_eqI xs ys (by simpa using h)
    rw [List.length_cons, List.range_succ_eq_map, List.all_cons, List.all_map]
    simp only [List.getD_cons_zero, Function.comp_def, List.getD_cons_succ, ih]
    simp [List.cons_beq_cons]
  | [], _ :: _, h => by simp at h
  | _ :: _, [], h => by simp at h

/-- an array of numbers compared -/
theorem run_equalIn_ints {P : Program} (w : World) (d : Nat) (t e : TypeId) (n : Nat) (ht : P.underlying t = some (.array n e)) (he : P.underlying e = some (.int .i64)) (hsz : ∀ w, (sizeOf e).run P w = .ok 1 w)
    (xs ys : List Int) (hx : xs.length = n) (hy : ys.length = n) :
    (Op.equalIn (d + 2) t (.agg (i64s xs).toArray) (.agg (i64s ys).toArray)).run P w = .ok (xs == ys) w := by
  rw [← all_range_eqI xs ys (hx.trans hy.symm), hx, List.range_eq_range', Op.equalIn]
  simp only [Sem.run_bind, run_underlying ht, Result.andThen_ok, hsz, Std.Legacy.Range.forIn_eq_forIn_range', Std.Legacy.Range.size, Nat.sub_zero, Nat.add_sub_cancel, Nat.div_one]
  have hl : ∀ i ∈ List.range' 0 n 1, i < n := fun i hi => by simpa using (List.mem_range'_1.1 hi).2
  generalize List.range' 0 n 1 = l at hl ⊢
  induction l with
  | nil => simp
  | cons i l ih =>
    have hi : i < n := hl i (by simp)
    have px : (part e (i64s xs).toArray (i * 1)).run P w = .ok (.int .i64 (xs.getD i 0)) w := by
      simp [part, isAgg, run_underlying he, List.getD, List.getElem?_eq_getElem (show i < xs.length by omega)]
    have py : (part e (i64s ys).toArray (i * 1)).run P w = .ok (.int .i64 (ys.getD i 0)) w := by
      simp [part, isAgg, run_underlying he, List.getD, List.getElem?_eq_getElem (show i < ys.length by omega)]
    have pe : (Op.equalIn (d + 1) e (.int .i64 (xs.getD i 0)) (.int .i64 (ys.getD i 0))).run P w = .ok (xs.getD i 0 == ys.getD i 0) w := run_equalIn_int w d e .i64 .i64 _ _ he
    simp only [List.forIn_cons, Sem.run_bind, px, py, pe, Result.andThen_ok, List.all_cons]
    cases hb : (xs.getD i 0 == ys.getD i 0)
    · simp
    · simp only [Bool.not_true, Bool.false_eq_true, if_false, Sem.run_pure, Result.andThen_ok, Bool.true_and]
      exact ih fun j hj => hl j (by simp [hj])

theorem guard_nums : Tryd.prog.eqGuardType Tryd.prog.depth 44 = false := by kernel_rfl
theorem nums_equal (xs ys : List Int) (hx : xs.length = 10) (hy : ys.length = 10) (w : World) : (Op.equalIn 10000 44 (.agg (i64s xs).toArray) (.agg (i64s ys).toArray)).run Tryd.prog w = .ok (xs == ys) w := by
  obtain ⟨i0, hi, _, hz1, _⟩ := info_parts info_i64
  exact run_equalIn_ints w 9998 44 2 10 Tryd.underlying44 Tryd.underlying2 (size_of_info hi hz1) xs ys hx hy

set_option maxRecDepth 100000 in
set_option maxHeartbeats 4000000 in
theorem Same_p_any (x y : Pm.Pl) (A : Option Addr) (n c : Nat) (A' : Option Addr) (n' c' : Nat) (B : Nat) (D : Option Addr) (m d : Nat) (D' : Option Addr) (m' d' : Nat) (B2 : Nat) (w : World)
    (hp : PlAt w B x A n c A' n' c') (hq : PlAt w B2 y D m d D' m' d') (hB : B ≤ w.heap.size) (hB2 : B2 ≤ w.heap.size) :
    Calls Tryd.prog 20 #[pv x A n c A' n' c', pv y D m d D' m' d'] w fun e w' => e = .returned (.bool (Pm.same x y)) ∧ Below w.heap.size w w' := by
  have HP := Lib.hid hp
  have HQ := Lib.hid hq
  have b0 := Bx.new w x A n c A' n' c' 26
  have hb0 : Below w.heap.size w (w.alloc (.cells (pvs x A n c A' n' c').toArray 26)) := (Below.refl _ w).alloc (Nat.le_refl _) _
  have hNX := Lib.hid (fun W => numbersOf_any x A n c A' n' c' W HP.out.ok)
  have hNY := Lib.hid (fun W => numbersOf_any y D m d D' m' d' W HQ.out.ok)
  clear hp hq
  rw [pv_eq] at hNX hNY
  rw [pv_eq, pv_eq]
  have hz1 : (w.alloc (.cells (pvs x A n c A' n' c').toArray 26)).heap.size = w.heap.size + 1 := World.size_alloc ..
  generalize hw1 : w.alloc (.cells (pvs x A n c A' n' c').toArray 26) = w1 at *
  have b1 := Bx.new w1 y D m d D' m' d' 26
  have b0' : Bx (w1.alloc (.cells (pvs y D m d D' m' d').toArray 26)) w.heap.size x A n c A' n' c' := b0.below (B := w.heap.size + 1) ((Below.refl _ w1).alloc (by omega) _) (Nat.lt_succ_self _)
  have hb1 : Below w.heap.size w (w1.alloc (.cells (pvs y D m d D' m' d').toArray 26)) := hb0.alloc (by omega) _
  rw [hz1] at b1
  have hz2 : (w1.alloc (.cells (pvs y D m d D' m' d').toArray 26)).heap.size = w.heap.size + 2 := by rw [World.size_alloc, hz1]
  subst hw1
  have HX := Lib.hid (fun (W : World) (h : Below (w.heap.size + 2) ((w.alloc (.cells (pvs x A n c A' n' c').toArray 26)).alloc (.cells (pvs y D m d D' m' d').toArray 26)) W) => (b0'.below h (by omega) : Bx W w.heap.size x A n c A' n' c'))
  have HY := Lib.hid (fun (W : World) (h : Below (w.heap.size + 2) ((w.alloc (.cells (pvs x A n c A' n' c').toArray 26)).alloc (.cells (pvs y D m d D' m' d').toArray 26)) W) => (b1.below h (by omega) : Bx W (w.heap.size + 1) y D m d D' m' d'))
  have HRX : Hid (∀ (W : World), Below (w.heap.size + 2) ((w.alloc (.cells (pvs x A n c A' n' c').toArray 26)).alloc (.cells (pvs y D m d D' m' d').toArray 26)) W → W.rangeAt w.heap.size 0 (pvs x A n c A' n' c')) := HX.out
  have HRY : Hid (∀ (W : World), Below (w.heap.size + 2) ((w.alloc (.cells (pvs x A n c A' n' c').toArray 26)).alloc (.cells (pvs y D m d D' m' d').toArray 26)) W → W.rangeAt (w.heap.size + 1) 0 (pvs y D m d D' m' d')) := HY.out
  have hl1 : Hid ((Tryd.prog.info? 26).map (·.size) = some (pvs x A n c A' n' c').length) := info_plan
  have hl2 : Hid ((Tryd.prog.info? 26).map (·.size) = some (pvs y D m d D' m' d').length) := info_plan
  generalize pvs x A n c A' n' c' = L at *
  generalize pvs y D m d D' m' d' = M at *
  have HB1 := Lib.hid hb1
  have HZ2 := Lib.hid hz2
  clear b0 b0' b1 hb0 hb1 hz1 hz2
  have hEN := Lib.hid (fun W => nums_equal x.nums y.nums rfl rfl W)
  have HS : Hid (Pm.same x y = Pm.ask (x.nums = y.nums ∧ x.pen = y.pen ∧ x.ch = y.ch)) := by
    by_cases e : x = y
    · rw [show Pm.same x y = true from Pm.ask_yes e, Pm.ask_yes ⟨by rw [e], by rw [e], by rw [e]⟩]; exact Lib.hid rfl
    · rw [show Pm.same x y = false from Pm.ask_no e, Pm.ask_no (fun h => e (Pm.nums_inj HP.out.ok HQ.out.ok h.1 h.2.1 h.2.2))]; exact Lib.hid rfl
  have hgd := guard_nums
  go_enter Tryd.func20, Tryd.ntmps20
  go_wp2_with fail
  refine region_C (fun W => Below (w.heap.size + 2) ((w.alloc (.cells L.toArray 26)).alloc (.cells M.toArray 26)) W) (by kernel_rfl) ?_
  have hC : Below (w.heap.size + 2) ((w.alloc (.cells L.toArray 26)).alloc (.cells M.toArray 26)) ((w.alloc (.cells L.toArray 26)).alloc (.cells M.toArray 26)).drew := (Below.refl _ _).drew
  refine anyC_take (i := 0) (v := ?v0_33) (a' := ?a0_33) rfl (by kernel_rfl) (by kernel_rfl) (by kernel_rfl) (fun _ _ _ h => h) hC ?w0_33 ?y0_33 ?f0_33 ?r0_33
  case w0_33 => kernel_rfl
  case y0_33 => (intro W hW; exact by refine exec_load 26 (.tmp 2) ?_ w.heap.size ?_ L _ (HRX.out _ hW) Tryd.underlying26 rfl hl1.out <;> rfl)
  case f0_33 => (go_simp; try with_reducible rfl)
  refine anyC_take (i := 2) (v := ?v2_34) (a' := ?a2_34) rfl (by kernel_rfl) (by kernel_rfl) (by kernel_rfl) (fun _ _ _ h => h) hC ?w2_34 ?y2_34 ?f2_34 ?r2_34
  case w2_34 => kernel_rfl
  case y2_34 => (intro W hW; exact by refine exec_load 26 (.tmp 3) ?_ (w.heap.size + 1) ?_ M _ (HRY.out _ hW) Tryd.underlying26 rfl hl2.out <;> rfl)
  case f2_34 => (go_simp; try with_reducible rfl)
  refine anyC_one (i := 1) rfl (by kernel_rfl) (by kernel_rfl) (fun K hK => ?_)
  go_simp
  refine (hNX.out _).mono ?_
  rintro e w2 ⟨rfl, hb2⟩
  have hC2 : Below (w.heap.size + 2) ((w.alloc (.cells L.toArray 26)).alloc (.cells M.toArray 26)) w2 := hC.trans (hb2.mono (by simp))
  refine hK _ _ ⟨hC2, ?_⟩
  clear hK K hb2 hC
  refine anyC_one (i := 3) rfl (by kernel_rfl) (by kernel_rfl) (fun K hK => ?_)
  go_simp
  refine (hNY.out _).mono ?_
  rintro e w3 ⟨rfl, hb3⟩
  have hz2 := hC2.size
  rw [HZ2.out] at hz2
  have hC3 : Below (w.heap.size + 2) ((w.alloc (.cells L.toArray 26)).alloc (.cells M.toArray 26)) w3 := hC2.trans (hb3.mono hz2)
  refine hK _ _ ⟨hC3, ?_⟩
  clear hK K hb3 hC2 hz2
  have hbw := HB1.out.trans (hC3.mono (by omega))
  have HE1 := Lib.hid (equalI_any A D n m c d B B2 x.pen y.pen w3 (HP.out.r1.below (hbw.mono hB)) (HQ.out.r1.below (hbw.mono hB2)) HP.out.l1 HQ.out.l1 (Nat.le_trans HP.out.c1 HP.out.m1))
  have HE2 := Lib.hid (equalL_any A' D' n' m' c' d' B B2 x.ch y.ch w3 (HP.out.r2.below (hbw.mono hB)) (HQ.out.r2.below (hbw.mono hB2)) HP.out.l2 HQ.out.l2 (Nat.le_trans HP.out.c2 HP.out.m2))
  generalize x.nums = xs at *
  generalize y.nums = ys at *
  by_cases e1 : xs = ys
  · have hbe : (xs == ys) = true := by rw [beq_iff_eq]; exact e1
    rw [hbe] at hEN
    have E1 := Lib.hid e1
    clear hbe e1
    refine anyC_take (i := 4) (v := ?v4_35) (a' := ?a4_35) rfl (by kernel_rfl) (by kernel_rfl) (by kernel_rfl) (fun _ _ _ h => h) hC3 ?w4_35 ?y4_35 ?f4_35 ?r4_35
    case w4_35 => kernel_rfl
    case y4_35 => (intro w hC; have h4 := hEN.out w; go_simp; try with_reducible rfl)
    case f4_35 => (go_simp; try with_reducible rfl)
    refine anyC_take (i := 5) (v := ?v5_36) (a' := ?a5_36) rfl (by kernel_rfl) (by kernel_rfl) (by kernel_rfl) (fun _ _ _ h => h) hC3 ?w5_36 ?y5_36 ?f5_36 ?r5_36
    case w5_36 => kernel_rfl
    case y5_36 => (intro w hC; go_simp; try with_reducible rfl)
    case f5_36 => (go_simp; try with_reducible rfl)
    refine anyC_take (i := 6) (v := ?v6_37) (a' := ?a6_37) rfl (by kernel_rfl) (by kernel_rfl) (by kernel_rfl) (fun _ _ _ h => h) hC3 ?w6_37 ?y6_37 ?f6_37 ?r6_37
    case w6_37 => kernel_rfl
    case y6_37 => (intro w hC; go_simp; try with_reducible rfl)
    case f6_37 => (go_simp; try with_reducible rfl)
    refine anyC_take (i := 8) (v := ?v8_38) (a' := ?a8_38) rfl (by kernel_rfl) (by kernel_rfl) (by kernel_rfl) (fun _ _ _ h => h) hC3 ?w8_38 ?y8_38 ?f8_38 ?r8_38
    case w8_38 => kernel_rfl
    case y8_38 => (intro w hC; go_simp; try with_reducible rfl)
    case f8_38 => (go_simp; try with_reducible rfl)
    refine anyC_take (i := 7) (v := ?v7_39) (a' := ?a7_39) rfl (by kernel_rfl) (by kernel_rfl) (by kernel_rfl) (fun _ _ _ h => h) hC3 ?w7_39 ?y7_39 ?f7_39 ?r7_39
    case w7_39 => kernel_rfl
    case y7_39 => (intro w hC; have h4 := (HX.out w hC).pen; go_simp; try with_reducible rfl)
    case f7_39 => (go_simp; try with_reducible rfl)
    refine anyC_take (i := 9) (v := ?v9_40) (a' := ?a9_40) rfl (by kernel_rfl) (by kernel_rfl) (by kernel_rfl) (fun _ _ _ h => h) hC3 ?w9_40 ?y9_40 ?f9_40 ?r9_40
    case w9_40 => kernel_rfl
    case y9_40 => (intro w hC; have h4 := (HY.out w hC).pen; go_simp; try with_reducible rfl)
    case f9_40 => (go_simp; try with_reducible rfl)
    refine anyC_one (i := 10) rfl (by kernel_rfl) (by kernel_rfl) (fun K hK => ?_)
    go_simp
    refine HE1.out.mono ?_
    rintro e w4 ⟨rfl, rfl⟩
    refine hK _ _ ⟨hC3, ?_⟩
    clear hK K
    by_cases p1 : x.pen = y.pen
    · have HS2 : Hid (Pm.same x y = Pm.ask (x.ch = y.ch)) := by
        by_cases p2 : x.ch = y.ch
        · rw [Pm.ask_yes p2]; exact HS.out.trans (Pm.ask_yes ⟨E1.out, p1, p2⟩)
        · rw [Pm.ask_no p2]; exact HS.out.trans (Pm.ask_no (fun h => p2 h.2.2))
      rw [Pm.ask_yes p1]
      clear p1
      generalize Pm.ask (x.ch = y.ch) = bq at *
      refine anyC_take (i := 11) (v := ?v11_41) (a' := ?a11_41) rfl (by kernel_rfl) (by kernel_rfl) (by kernel_rfl) (fun _ _ _ h => h) hC3 ?w11_41 ?y11_41 ?f11_41 ?r11_41
      case w11_41 => kernel_rfl
      case y11_41 => (intro w hC; go_simp; try with_reducible rfl)
      case f11_41 => (go_simp; try with_reducible rfl)
      refine anyC_take (i := 12) (v := ?v12_42) (a' := ?a12_42) rfl (by kernel_rfl) (by kernel_rfl) (by kernel_rfl) (fun _ _ _ h => h) hC3 ?w12_42 ?y12_42 ?f12_42 ?r12_42
      case w12_42 => kernel_rfl
      case y12_42 => (intro w hC; go_simp; try with_reducible rfl)
      case f12_42 => (go_simp; try with_reducible rfl)
      refine anyC_take (i := 13) (v := ?v13_43) (a' := ?a13_43) rfl (by kernel_rfl) (by kernel_rfl) (by kernel_rfl) (fun _ _ _ h => h) hC3 ?w13_43 ?y13_43 ?f13_43 ?r13_43
      case w13_43 => kernel_rfl
      case y13_43 => (intro w hC; go_simp; try with_reducible rfl)
      case f13_43 => (go_simp; try with_reducible rfl)
      refine anyC_take (i := 15) (v := ?v15_44) (a' := ?a15_44) rfl (by kernel_rfl) (by kernel_rfl) (by kernel_rfl) (fun _ _ _ h => h) hC3 ?w15_44 ?y15_44 ?f15_44 ?r15_44
      case w15_44 => kernel_rfl
      case y15_44 => (intro w hC; go_simp; try with_reducible rfl)
      case f15_44 => (go_simp; try with_reducible rfl)
      refine anyC_take (i := 14) (v := ?v14_45) (a' := ?a14_45) rfl (by kernel_rfl) (by kernel_rfl) (by kernel_rfl) (fun _ _ _ h => h) hC3 ?w14_45 ?y14_45 ?f14_45 ?r14_45
      case w14_45 => kernel_rfl
      case y14_45 => (intro w hC; have h4 := (HX.out w hC).ch; go_simp; try with_reducible rfl)
      case f14_45 => (go_simp; try with_reducible rfl)
      refine anyC_take (i := 16) (v := ?v16_46) (a' := ?a16_46) rfl (by kernel_rfl) (by kernel_rfl) (by kernel_rfl) (fun _ _ _ h => h) hC3 ?w16_46 ?y16_46 ?f16_46 ?r16_46
      case w16_46 => kernel_rfl
      case y16_46 => (intro w hC; have h4 := (HY.out w hC).ch; go_simp; try with_reducible rfl)
      case f16_46 => (go_simp; try with_reducible rfl)
      refine anyC_one (i := 17) rfl (by kernel_rfl) (by kernel_rfl) (fun K hK => ?_)
      go_simp
      refine HE2.out.mono ?_
      rintro e w5 ⟨rfl, rfl⟩
      refine hK _ _ ⟨hC3, ?_⟩
      clear hK K
      refine anyC_take (i := 18) (v := ?v18_47) (a' := ?a18_47) rfl (by kernel_rfl) (by kernel_rfl) (by kernel_rfl) (fun _ _ _ h => h) hC3 ?w18_47 ?y18_47 ?f18_47 ?r18_47
      case w18_47 => kernel_rfl
      case y18_47 => (intro w hC; go_simp; try with_reducible rfl)
      case f18_47 => (go_simp; try with_reducible rfl)
      refine anyC_take (i := 19) (v := ?v19_48) (a' := ?a19_48) rfl (by kernel_rfl) (by kernel_rfl) (by kernel_rfl) (fun _ _ _ h => h) hC3 ?w19_48 ?y19_48 ?f19_48 ?r19_48
      case w19_48 => kernel_rfl
      case y19_48 => (intro w hC; go_simp; try with_reducible rfl)
      case f19_48 => (go_simp; try with_reducible rfl)
      refine anyC_done (by kernel_rfl) ?_
      go_wp2
      go_ret
      exact ⟨ret_bool HS2.out.symm, hbw⟩
    · have HF : Hid (Pm.same x y = false) := HS.out.trans (Pm.ask_no (fun h => p1 h.2.1))
      rw [Pm.ask_no p1]
      clear p1
      refine anyC_take (i := 11) (v := ?v11_49) (a' := ?a11_49) rfl (by kernel_rfl) (by kernel_rfl) (by kernel_rfl) (fun _ _ _ h => h) hC3 ?w11_49 ?y11_49 ?f11_49 ?r11_49
      case w11_49 => kernel_rfl
      case y11_49 => (intro w hC; go_simp; try with_reducible rfl)
      case f11_49 => (go_simp; try with_reducible rfl)
      refine anyC_take (i := 12) (v := ?v12_50) (a' := ?a12_50) rfl (by kernel_rfl) (by kernel_rfl) (by kernel_rfl) (fun _ _ _ h => h) hC3 ?w12_50 ?y12_50 ?f12_50 ?r12_50
      case w12_50 => kernel_rfl
      case y12_50 => (intro w hC; go_simp; try with_reducible rfl)
      case f12_50 => (go_simp; try with_reducible rfl)
      refine anyC_skip (i := 13) (a' := ?a13_51) rfl (by kernel_rfl) (by kernel_rfl) (by kernel_rfl) (fun _ _ _ h => h) hC3 (by kernel_rfl) ?f13_51 ?r13_51
      case f13_51 => (go_simp; try with_reducible rfl)
      refine anyC_skip (i := 14) (a' := ?a14_52) rfl (by kernel_rfl) (by kernel_rfl) (by kernel_rfl) (fun _ _ _ h => h) hC3 (by kernel_rfl) ?f14_52 ?r14_52
      case f14_52 => (go_simp; try with_reducible rfl)
      refine anyC_skip (i := 15) (a' := ?a15_53) rfl (by kernel_rfl) (by kernel_rfl) (by kernel_rfl) (fun _ _ _ h => h) hC3 (by kernel_rfl) ?f15_53 ?r15_53
      case f15_53 => (go_simp; try with_reducible rfl)
      refine anyC_skip (i := 16) (a' := ?a16_54) rfl (by kernel_rfl) (by kernel_rfl) (by kernel_rfl) (fun _ _ _ h => h) hC3 (by kernel_rfl) ?f16_54 ?r16_54
      case f16_54 => (go_simp; try with_reducible rfl)
      refine anyC_skip (i := 17) (a' := ?a17_55) rfl (by kernel_rfl) (by kernel_rfl) (by kernel_rfl) (fun _ _ _ h => h) hC3 (by kernel_rfl) ?f17_55 ?r17_55
      case f17_55 => (go_simp; try with_reducible rfl)
      refine anyC_take (i := 18) (v := ?v18_56) (a' := ?a18_56) rfl (by kernel_rfl) (by kernel_rfl) (by kernel_rfl) (fun _ _ _ h => h) hC3 ?w18_56 ?y18_56 ?f18_56 ?r18_56
      case w18_56 => kernel_rfl
      case y18_56 => (intro w hC; go_simp; try with_reducible rfl)
      case f18_56 => (go_simp; try with_reducible rfl)
      refine anyC_take (i := 19) (v := ?v19_57) (a' := ?a19_57) rfl (by kernel_rfl) (by kernel_rfl) (by kernel_rfl) (fun _ _ _ h => h) hC3 ?w19_57 ?y19_57 ?f19_57 ?r19_57
      case w19_57 => kernel_rfl
      case y19_57 => (intro w hC; go_simp; try with_reducible rfl)
      case f19_57 => (go_simp; try with_reducible rfl)
      refine anyC_done (by kernel_rfl) ?_
      go_wp2
      go_ret
      exact ⟨ret_bool HF.out.symm, hbw⟩
  · have hbe : (xs == ys) = false := by rw [beq_eq_false_iff_ne]; exact e1
    rw [hbe] at hEN
    have HF : Hid (Pm.same x y = false) := HS.out.trans (Pm.ask_no (fun h => e1 h.1))
    clear hbe e1
    refine anyC_take (i := 4) (v := ?v4_58) (a' := ?a4_58) rfl (by kernel_rfl) (by kernel_rfl) (by kernel_rfl) (fun _ _ _ h => h) hC3 ?w4_58 ?y4_58 ?f4_58 ?r4_58
    case w4_58 => kernel_rfl
    case y4_58 => (intro w hC; have h4 := hEN.out w; go_simp; try with_reducible rfl)
    case f4_58 => (go_simp; try with_reducible rfl)
    refine anyC_take (i := 5) (v := ?v5_59) (a' := ?a5_59) rfl (by kernel_rfl) (by kernel_rfl) (by kernel_rfl) (fun _ _ _ h => h) hC3 ?w5_59 ?y5_59 ?f5_59 ?r5_59
    case w5_59 => kernel_rfl
    case y5_59 => (intro w hC; go_simp; try with_reducible rfl)
    case f5_59 => (go_simp; try with_reducible rfl)
    refine anyC_skip (i := 6) (a' := ?a6_60) rfl (by kernel_rfl) (by kernel_rfl) (by kernel_rfl) (fun _ _ _ h => h) hC3 (by kernel_rfl) ?f6_60 ?r6_60
    case f6_60 => (go_simp; try with_reducible rfl)
    refine anyC_skip (i := 7) (a' := ?a7_61) rfl (by kernel_rfl) (by kernel_rfl) (by kernel_rfl) (fun _ _ _ h => h) hC3 (by kernel_rfl) ?f7_61 ?r7_61
    case f7_61 => (go_simp; try with_reducible rfl)
    refine anyC_skip (i := 8) (a' := ?a8_62) rfl (by kernel_rfl) (by kernel_rfl) (by kernel_rfl) (fun _ _ _ h => h) hC3 (by kernel_rfl) ?f8_62 ?r8_62
    case f8_62 => (go_simp; try with_reducible rfl)
    refine anyC_skip (i := 9) (a' := ?a9_63) rfl (by kernel_rfl) (by kernel_rfl) (by kernel_rfl) (fun _ _ _ h => h) hC3 (by kernel_rfl) ?f9_63 ?r9_63
    case f9_63 => (go_simp; try with_reducible rfl)
    refine anyC_skip (i := 10) (a' := ?a10_64) rfl (by kernel_rfl) (by kernel_rfl) (by kernel_rfl) (fun _ _ _ h => h) hC3 (by kernel_rfl) ?f10_64 ?r10_64
    case f10_64 => (go_simp; try with_reducible rfl)
    refine anyC_take (i := 11) (v := ?v11_65) (a' := ?a11_65) rfl (by kernel_rfl) (by kernel_rfl) (by kernel_rfl) (fun _ _ _ h => h) hC3 ?w11_65 ?y11_65 ?f11_65 ?r11_65
    case w11_65 => kernel_rfl
    case y11_65 => (intro w hC; go_simp; try with_reducible rfl)
    case f11_65 => (go_simp; try with_reducible rfl)
    refine anyC_take (i := 12) (v := ?v12_66) (a' := ?a12_66) rfl (by kernel_rfl) (by kernel_rfl) (by kernel_rfl) (fun _ _ _ h => h) hC3 ?w12_66 ?y12_66 ?f12_66 ?r12_66
    case w12_66 => kernel_rfl
    case y12_66 => (intro w hC; go_simp; try with_reducible rfl)
    case f12_66 => (go_simp; try with_reducible rfl)
    refine anyC_skip (i := 13) (a' := ?a13_67) rfl (by kernel_rfl) (by kernel_rfl) (by kernel_rfl) (fun _ _ _ h => h) hC3 (by kernel_rfl) ?f13_67 ?r13_67
    case f13_67 => (go_simp; try with_reducible rfl)
    refine anyC_skip (i := 14) (a' := ?a14_68) rfl (by kernel_rfl) (by kernel_rfl) (by kernel_rfl) (fun _ _ _ h => h) hC3 (by kernel_rfl) ?f14_68 ?r14_68
    case f14_68 => (go_simp; try with_reducible rfl)
    refine anyC_skip (i := 15) (a' := ?a15_69) rfl (by kernel_rfl) (by kernel_rfl) (by kernel_rfl) (fun _ _ _ h => h) hC3 (by kernel_rfl) ?f15_69 ?r15_69
    case f15_69 => (go_simp; try with_reducible rfl)
    refine anyC_skip (i := 16) (a' := ?a16_70) rfl (by kernel_rfl) (by kernel_rfl) (by kernel_rfl) (fun _ _ _ h => h) hC3 (by kernel_rfl) ?f16_70 ?r16_70
    case f16_70 => (go_simp; try with_reducible rfl)
    refine anyC_skip (i := 17) (a' := ?a17_71) rfl (by kernel_rfl) (by kernel_rfl) (by kernel_rfl) (fun _ _ _ h => h) hC3 (by kernel_rfl) ?f17_71 ?r17_71
    case f17_71 => (go_simp; try with_reducible rfl)
    refine anyC_take (i := 18) (v := ?v18_72) (a' := ?a18_72) rfl (by kernel_rfl) (by kernel_rfl) (by kernel_rfl) (fun _ _ _ h => h) hC3 ?w18_72 ?y18_72 ?f18_72 ?r18_72
    case w18_72 => kernel_rfl
    case y18_72 => (intro w hC; go_simp; try with_reducible rfl)
    case f18_72 => (go_simp; try with_reducible rfl)
    refine anyC_take (i := 19) (v := ?v19_73) (a' := ?a19_73) rfl (by kernel_rfl) (by kernel_rfl) (by kernel_rfl) (fun _ _ _ h => h) hC3 ?w19_73 ?y19_73 ?f19_73 ?r19_73
    case w19_73 => kernel_rfl
    case y19_73 => (intro w hC; go_simp; try with_reducible rfl)
    case f19_73 => (go_simp; try with_reducible rfl)
    refine anyC_done (by kernel_rfl) ?_
    go_wp2
    go_ret
    exact ⟨ret_bool HF.out.symm, hbw⟩
end Go.Proofs.YtdcdlnmgbgeeeaaDoor
