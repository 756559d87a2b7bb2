/- Whether two plans are alike: the program's. -/
import Derived.Test.YtbkdenlhfigjhaaDoorBPa
import Derived.Laws.StructEq
import Derived.Laws.Cover3
namespace Go.Proofs.YtbkdenlhfigjhaaDoor
open Go.RowKit Go.Shelf

theorem all_range_eqI : ∀ (xs ys : List Int), xs.length = ys.length → ((List.range xs.length).all fun i => xs.getD i 0 == ys.getD i 0) = (xs == ys)
  | [], [], _ => rfl
  | x :: xs, y :: ys, h => by
    have ih := all_range_eqI xs ys (by simpa using h)
    rw [List.length_cons, List.range_succ_eq_map, List.all_cons, List.all_map]
    simp only [List.getD_cons_zero, Function.comp_def, List.getD_cons_succ, ih]
    simp [List.cons_beq_cons]
  | [], _ :: _, h => by simp at h
  | _ :: _, [], h => by simp at h

/-- an array of numbers compared -/
theorem run_equalIn_ints {P : Program} (w : World) (d : Nat) (t e : TypeId) (n : Nat) (ht : P.underlying t = some (.array n e)) (he : P.underlying e = some (.int .i64)) (hsz : ∀ w, (sizeOf e).run P w = .ok 1 w)
    (xs ys : List Int) (hx : xs.length = n) (hy : ys.length = n) :
    (Op.equalIn (d + 2) t (.agg (i64s xs).toArray) (.agg (i64s ys).toArray)).run P w = .ok (xs == ys) w := by
  rw [← all_range_eqI xs ys (hx.trans hy.symm), hx, List.range_eq_range', Op.equalIn]
  simp only [Sem.run_bind, run_underlying ht, Result.andThen_ok, hsz, Std.Legacy.Range.forIn_eq_forIn_range', Std.Legacy.Range.size, Nat.sub_zero, Nat.add_sub_cancel, Nat.div_one]
  have hl : ∀ i ∈ List.range' 0 n 1, i < n := fun i hi => by simpa using (List.mem_range'_1.1 hi).2
  generalize List.range' 0 n 1 = l at hl ⊢
  induction l with
  | nil => simp
  | cons i l ih =>
    have hi : i < n := hl i (by simp)
    have px : (part e (i64s xs).toArray (i * 1)).run P w = .ok (.int .i64 (xs.getD i 0)) w := by
      simp [part, isAgg, run_underlying he, List.getD, List.getElem?_eq_getElem (show i < xs.length by omega)]
    have py : (part e (i64s ys).toArray (i * 1)).run P w = .ok (.int .i64 (ys.getD i 0)) w := by
      simp [part, isAgg, run_underlying he, List.getD, List.getElem?_eq_getElem (show i < ys.length by omega)]
    have pe : (Op.equalIn (d + 1) e (.int .i64 (xs.getD i 0)) (.int .i64 (ys.getD i 0))).run P w = .ok (xs.getD i 0 == ys.getD i 0) w := run_equalIn_int w d e .i64 .i64 _ _ he
    simp only [List.forIn_cons, Sem.run_bind, px, py, pe, Result.andThen_ok, List.all_cons]
    cases hb : (xs.getD i 0 == ys.getD i 0)
    · simp
    · simp only [Bool.not_true, Bool.false_eq_true, if_false, Sem.run_pure, Result.andThen_ok, Bool.true_and]
      exact ih fun j hj => hl j (by simp [hj])

theorem guard_nums : Tryd.prog.eqGuardType Tryd.prog.depth 80 = false := by kernel_rfl
theorem nums_equal (xs ys : List Int) (hx : xs.length = 10) (hy : ys.length = 10) (w : World) : (Op.equalIn 10000 80 (.agg (i64s xs).toArray) (.agg (i64s ys).toArray)).run Tryd.prog w = .ok (xs == ys) w := by
  obtain ⟨i0, hi, _, hz1, _⟩ := info_parts info_i64
  exact run_equalIn_ints w 9998 80 2 10 Tryd.underlying80 Tryd.underlying2 (size_of_info hi hz1) xs ys hx hy

set_option maxRecDepth 100000 in
set_option maxHeartbeats 4000000 in
theorem Same_p_any (x y : Pm.Pl) (A : Option Addr) (n c : Nat) (A' : Option Addr) (n' c' : Nat) (B : Nat) (D : Option Addr) (m d : Nat) (D' : Option Addr) (m' d' : Nat) (B2 : Nat) (w : World)
    (hp : PlAt w B x A n c A' n' c') (hq : PlAt w B2 y D m d D' m' d') (hB : B ≤ w.heap.size) (hB2 : B2 ≤ w.heap.size) :
    Calls Tryd.prog 49 #[pv x A n c A' n' c', pv y D m d D' m' d'] w fun e w' => e = .returned (.bool (Pm.same x y)) ∧ Below w.heap.size w w' := by
  have HP := Lib.hid hp
  have HQ := Lib.hid hq
  have b0 := Bx.new w x A n c A' n' c' 36
  have hb0 : Below w.heap.size w (w.alloc (.cells (pvs x A n c A' n' c').toArray 36)) := (Below.refl _ w).alloc (Nat.le_refl _) _
  have hNX := Lib.hid (fun W => numbersOf_any x A n c A' n' c' W HP.out.ok)
  have hNY := Lib.hid (fun W => numbersOf_any y D m d D' m' d' W HQ.out.ok)
  clear hp hq
  rw [pv_eq] at hNX hNY
  rw [pv_eq, pv_eq]
  have hz1 : (w.alloc (.cells (pvs x A n c A' n' c').toArray 36)).heap.size = w.heap.size + 1 := World.size_alloc ..
  generalize hw1 : w.alloc (.cells (pvs x A n c A' n' c').toArray 36) = w1 at *
  have b1 := Bx.new w1 y D m d D' m' d' 36
  have b0' : Bx (w1.alloc (.cells (pvs y D m d D' m' d').toArray 36)) w.heap.size x A n c A' n' c' := b0.below (B := w.heap.size + 1) ((Below.refl _ w1).alloc (by omega) _) (Nat.lt_succ_self _)
  have hb1 : Below w.heap.size w (w1.alloc (.cells (pvs y D m d D' m' d').toArray 36)) := hb0.alloc (by omega) _
  rw [hz1] at b1
  have hz2 : (w1.alloc (.cells (pvs y D m d D' m' d').toArray 36)).heap.size = w.heap.size + 2 := by rw [World.size_alloc, hz1]
  subst hw1
  have HX := Lib.hid (fun (W : World) (h : Below (w.heap.size + 2) ((w.alloc (.cells (pvs x A n c A' n' c').toArray 36)).alloc (.cells (pvs y D m d D' m' d').toArray 36)) W) => (b0'.below h (by omega) : Bx W w.heap.size x A n c A' n' c'))
  have HY := Lib.hid (fun (W : World) (h : Below (w.heap.size + 2) ((w.alloc (.cells (pvs x A n c A' n' c').toArray 36)).alloc (.cells (pvs y D m d D' m' d').toArray 36)) W) => (b1.below h (by omega) : Bx W (w.heap.size + 1) y D m d D' m' d'))
  have HRX : Hid (∀ (W : World), Below (w.heap.size + 2) ((w.alloc (.cells (pvs x A n c A' n' c').toArray 36)).alloc (.cells (pvs y D m d D' m' d').toArray 36)) W → W.rangeAt w.heap.size 0 (pvs x A n c A' n' c')) := HX.out
  have HRY : Hid (∀ (W : World), Below (w.heap.size + 2) ((w.alloc (.cells (pvs x A n c A' n' c').toArray 36)).alloc (.cells (pvs y D m d D' m' d').toArray 36)) W → W.rangeAt (w.heap.size + 1) 0 (pvs y D m d D' m' d')) := HY.out
  have hl1 : Hid ((Tryd.prog.info? 36).map (·.size) = some (pvs x A n c A' n' c').length) := info_plan
  have hl2 : Hid ((Tryd.prog.info? 36).map (·.size) = some (pvs y D m d D' m' d').length) := info_plan
  generalize pvs x A n c A' n' c' = L at *
  generalize pvs y D m d D' m' d' = M at *
  have HB1 := Lib.hid hb1
  have HZ2 := Lib.hid hz2
  clear b0 b0' b1 hb0 hb1 hz1 hz2
  have hEN := Lib.hid (fun W => nums_equal x.nums y.nums rfl rfl W)
  have HS : Hid (Pm.same x y = Pm.ask (x.nums = y.nums ∧ x.pen = y.pen ∧ x.ch = y.ch)) := by
    by_cases e : x = y
    · rw [show Pm.same x y = true from Pm.ask_yes e, Pm.ask_yes ⟨by rw [e], by rw [e], by rw [e]⟩]; exact Lib.hid rfl
    · rw [show Pm.same x y = false from Pm.ask_no e, Pm.ask_no (fun h => e (Pm.nums_inj HP.out.ok HQ.out.ok h.1 h.2.1 h.2.2))]; exact Lib.hid rfl
  have hgd := guard_nums
  go_enter Tryd.func49, Tryd.ntmps49
  go_wp2_with fail
  refine region_C (fun W => Below (w.heap.size + 2) ((w.alloc (.cells L.toArray 36)).alloc (.cells M.toArray 36)) W) (by kernel_rfl) ?_
  have hC : Below (w.heap.size + 2) ((w.alloc (.cells L.toArray 36)).alloc (.cells M.toArray 36)) ((w.alloc (.cells L.toArray 36)).alloc (.cells M.toArray 36)).drew := (Below.refl _ _).drew
  refine anyC_take (i := 0) (v := ?v0_14) (a' := ?a0_14) rfl (by kernel_rfl) (by kernel_rfl) (by kernel_rfl) (fun _ _ _ h => h) hC ?w0_14 ?y0_14 ?f0_14 ?r0_14
  case w0_14 => kernel_rfl
  case y0_14 => (intro W hW; exact by refine exec_load 36 (.tmp 2) ?_ w.heap.size ?_ L _ (HRX.out _ hW) Tryd.underlying36 rfl hl1.out <;> rfl)
  case f0_14 => (go_simp; try with_reducible rfl)
  refine anyC_take (i := 2) (v := ?v2_15) (a' := ?a2_15) rfl (by kernel_rfl) (by kernel_rfl) (by kernel_rfl) (fun _ _ _ h => h) hC ?w2_15 ?y2_15 ?f2_15 ?r2_15
  case w2_15 => kernel_rfl
  case y2_15 => (intro W hW; exact by refine exec_load 36 (.tmp 3) ?_ (w.heap.size + 1) ?_ M _ (HRY.out _ hW) Tryd.underlying36 rfl hl2.out <;> rfl)
  case f2_15 => (go_simp; try with_reducible rfl)
  refine anyC_one (i := 1) rfl (by kernel_rfl) (by kernel_rfl) (fun K hK => ?_)
  go_simp
  refine (hNX.out _).mono ?_
  rintro e w2 ⟨rfl, hb2⟩
  have hC2 : Below (w.heap.size + 2) ((w.alloc (.cells L.toArray 36)).alloc (.cells M.toArray 36)) w2 := hC.trans (hb2.mono (by simp))
  refine hK _ _ ⟨hC2, ?_⟩
  clear hK K hb2 hC
  refine anyC_one (i := 3) rfl (by kernel_rfl) (by kernel_rfl) (fun K hK => ?_)
  go_simp
  refine (hNY.out _).mono ?_
  rintro e w3 ⟨rfl, hb3⟩
  have hz2 := hC2.size
  rw [HZ2.out] at hz2
  have hC3 : Below (w.heap.size + 2) ((w.alloc (.cells L.toArray 36)).alloc (.cells M.toArray 36)) w3 := hC2.trans (hb3.mono hz2)
  refine hK _ _ ⟨hC3, ?_⟩
  clear hK K hb3 hC2 hz2
  have hbw := HB1.out.trans (hC3.mono (by omega))
  have HE1 := Lib.hid (equalI_any A D n m c d B B2 x.pen y.pen w3 (HP.out.r1.below (hbw.mono hB)) (HQ.out.r1.below (hbw.mono hB2)) HP.out.l1 HQ.out.l1 (Nat.le_trans HP.out.c1 HP.out.m1))
  have HE2 := Lib.hid (equalL_any A' D' n' m' c' d' B B2 x.ch y.ch w3 (HP.out.r2.below (hbw.mono hB)) (HQ.out.r2.below (hbw.mono hB2)) HP.out.l2 HQ.out.l2 (Nat.le_trans HP.out.c2 HP.out.m2))
  generalize x.nums = xs at *
  generalize y.nums = ys at *
  by_cases e1 : xs = ys
  · have hbe : (xs == ys) = true := by rw [beq_iff_eq]; exact e1
    rw [hbe] at hEN
    have E1 := Lib.hid e1
    clear hbe e1
    refine anyC_take (i := 4) (v := ?v4_16) (a' := ?a4_16) rfl (by kernel_rfl) (by kernel_rfl) (by kernel_rfl) (fun _ _ _ h => h) hC3 ?w4_16 ?y4_16 ?f4_16 ?r4_16
    case w4_16 => kernel_rfl
    case y4_16 => (intro w hC; have h4 := hEN.out w; go_simp; try with_reducible rfl)
    case f4_16 => (go_simp; try with_reducible rfl)
    refine anyC_take (i := 5) (v := ?v5_17) (a' := ?a5_17) rfl (by kernel_rfl) (by kernel_rfl) (by kernel_rfl) (fun _ _ _ h => h) hC3 ?w5_17 ?y5_17 ?f5_17 ?r5_17
    case w5_17 => kernel_rfl
    case y5_17 => (intro w hC; go_simp; try with_reducible rfl)
    case f5_17 => (go_simp; try with_reducible rfl)
    refine anyC_take (i := 6) (v := ?v6_18) (a' := ?a6_18) rfl (by kernel_rfl) (by kernel_rfl) (by kernel_rfl) (fun _ _ _ h => h) hC3 ?w6_18 ?y6_18 ?f6_18 ?r6_18
    case w6_18 => kernel_rfl
    case y6_18 => (intro w hC; go_simp; try with_reducible rfl)
    case f6_18 => (go_simp; try with_reducible rfl)
    refine anyC_take (i := 8) (v := ?v8_19) (a' := ?a8_19) rfl (by kernel_rfl) (by kernel_rfl) (by kernel_rfl) (fun _ _ _ h => h) hC3 ?w8_19 ?y8_19 ?f8_19 ?r8_19
    case w8_19 => kernel_rfl
    case y8_19 => (intro w hC; go_simp; try with_reducible rfl)
    case f8_19 => (go_simp; try with_reducible rfl)
    refine anyC_take (i := 7) (v := ?v7_20) (a' := ?a7_20) rfl (by kernel_rfl) (by kernel_rfl) (by kernel_rfl) (fun _ _ _ h => h) hC3 ?w7_20 ?y7_20 ?f7_20 ?r7_20
    case w7_20 => kernel_rfl
    case y7_20 => (intro w hC; have h4 := (HX.out w hC).pen; go_simp; try with_reducible rfl)
    case f7_20 => (go_simp; try with_reducible rfl)
    refine anyC_take (i := 9) (v := ?v9_21) (a' := ?a9_21) rfl (by kernel_rfl) (by kernel_rfl) (by kernel_rfl) (fun _ _ _ h => h) hC3 ?w9_21 ?y9_21 ?f9_21 ?r9_21
    case w9_21 => kernel_rfl
    case y9_21 => (intro w hC; have h4 := (HY.out w hC).pen; go_simp; try with_reducible rfl)
    case f9_21 => (go_simp; try with_reducible rfl)
    refine anyC_one (i := 10) rfl (by kernel_rfl) (by kernel_rfl) (fun K hK => ?_)
    go_simp
    refine HE1.out.mono ?_
    rintro e w4 ⟨rfl, rfl⟩
    refine hK _ _ ⟨hC3, ?_⟩
    clear hK K
    by_cases p1 : x.pen = y.pen
    · have HS2 : Hid (Pm.same x y = Pm.ask (x.ch = y.ch)) := by
        by_cases p2 : x.ch = y.ch
        · rw [Pm.ask_yes p2]; exact HS.out.trans (Pm.ask_yes ⟨E1.out, p1, p2⟩)
        · rw [Pm.ask_no p2]; exact HS.out.trans (Pm.ask_no (fun h => p2 h.2.2))
      rw [Pm.ask_yes p1]
      clear p1
      generalize Pm.ask (x.ch = y.ch) = bq at *
      refine anyC_take (i := 11) (v := ?v11_22) (a' := ?a11_22) rfl (by kernel_rfl) (by kernel_rfl) (by kernel_rfl) (fun _ _ _ h => h) hC3 ?w11_22 ?y11_22 ?f11_22 ?r11_22
      case w11_22 => kernel_rfl
      case y11_22 => (intro w hC; go_simp; try with_reducible rfl)
      case f11_22 => (go_simp; try with_reducible rfl)
      refine anyC_take (i := 12) (v := ?v12_23) (a' := ?a12_23) rfl (by kernel_rfl) (by kernel_rfl) (by kernel_rfl) (fun _ _ _ h => h) hC3 ?w12_23 ?y12_23 ?f12_23 ?r12_23
      case w12_23 => kernel_rfl
      case y12_23 => (intro w hC; go_simp; try with_reducible rfl)
      case f12_23 => (go_simp; try with_reducible rfl)
      refine anyC_take (i := 13) (v := ?v13_24) (a' := ?a13_24) rfl (by kernel_rfl) (by kernel_rfl) (by kernel_rfl) (fun _ _ _ h => h) hC3 ?w13_24 ?y13_24 ?f13_24 ?r13_24
      case w13_24 => kernel_rfl
      case y13_24 => (intro w hC; go_simp; try with_reducible rfl)
      case f13_24 => (go_simp; try with_reducible rfl)
      refine anyC_take (i := 15) (v := ?v15_25) (a' := ?a15_25) rfl (by kernel_rfl) (by kernel_rfl) (by kernel_rfl) (fun _ _ _ h => h) hC3 ?w15_25 ?y15_25 ?f15_25 ?r15_25
      case w15_25 => kernel_rfl
      case y15_25 => (intro w hC; go_simp; try with_reducible rfl)
      case f15_25 => (go_simp; try with_reducible rfl)
      refine anyC_take (i := 14) (v := ?v14_26) (a' := ?a14_26) rfl (by kernel_rfl) (by kernel_rfl) (by kernel_rfl) (fun _ _ _ h => h) hC3 ?w14_26 ?y14_26 ?f14_26 ?r14_26
      case w14_26 => kernel_rfl
      case y14_26 => (intro w hC; have h4 := (HX.out w hC).ch; go_simp; try with_reducible rfl)
      case f14_26 => (go_simp; try with_reducible rfl)
      refine anyC_take (i := 16) (v := ?v16_27) (a' := ?a16_27) rfl (by kernel_rfl) (by kernel_rfl) (by kernel_rfl) (fun _ _ _ h => h) hC3 ?w16_27 ?y16_27 ?f16_27 ?r16_27
      case w16_27 => kernel_rfl
      case y16_27 => (intro w hC; have h4 := (HY.out w hC).ch; go_simp; try with_reducible rfl)
      case f16_27 => (go_simp; try with_reducible rfl)
      refine anyC_one (i := 17) rfl (by kernel_rfl) (by kernel_rfl) (fun K hK => ?_)
      go_simp
      refine HE2.out.mono ?_
      rintro e w5 ⟨rfl, rfl⟩
      refine hK _ _ ⟨hC3, ?_⟩
      clear hK K
      refine anyC_take (i := 18) (v := ?v18_28) (a' := ?a18_28) rfl (by kernel_rfl) (by kernel_rfl) (by kernel_rfl) (fun _ _ _ h => h) hC3 ?w18_28 ?y18_28 ?f18_28 ?r18_28
      case w18_28 => kernel_rfl
      case y18_28 => (intro w hC; go_simp; try with_reducible rfl)
      case f18_28 => (go_simp; try with_reducible rfl)
      refine anyC_take (i := 19) (v := ?v19_29) (a' := ?a19_29) rfl (by kernel_rfl) (by kernel_rfl) (by kernel_rfl) (fun _ _ _ h => h) hC3 ?w19_29 ?y19_29 ?f19_29 ?r19_29
      case w19_29 => kernel_rfl
      case y19_29 => (intro w hC; go_simp; try with_reducible rfl)
      case f19_29 => (go_simp; try with_reducible rfl)
      refine anyC_done (by kernel_rfl) ?_
      go_wp2
      go_ret
      exact ⟨ret_bool HS2.out.symm, hbw⟩
    · have HF : Hid (Pm.same x y = false) := HS.out.trans (Pm.ask_no (fun h => p1 h.2.1))
      rw [Pm.ask_no p1]
      clear p1
      refine anyC_take (i := 11) (v := ?v11_30) (a' := ?a11_30) rfl (by kernel_rfl) (by kernel_rfl) (by kernel_rfl) (fun _ _ _ h => h) hC3 ?w11_30 ?y11_30 ?f11_30 ?r11_30
      case w11_30 => kernel_rfl
      case y11_30 => (intro w hC; go_simp; try with_reducible rfl)
      case f11_30 => (go_simp; try with_reducible rfl)
      refine anyC_take (i := 12) (v := ?v12_31) (a' := ?a12_31) rfl (by kernel_rfl) (by kernel_rfl) (by kernel_rfl) (fun _ _ _ h => h) hC3 ?w12_31 ?y12_31 ?f12_31 ?r12_31
      case w12_31 => kernel_rfl
      case y12_31 => (intro w hC; go_simp; try with_reducible rfl)
      case f12_31 => (go_simp; try with_reducible rfl)
      refine anyC_skip (i := 13) (a' := ?a13_32) rfl (by kernel_rfl) (by kernel_rfl) (by kernel_rfl) (fun _ _ _ h => h) hC3 (by kernel_rfl) ?f13_32 ?r13_32
      case f13_32 => (go_simp; try with_reducible rfl)
      refine anyC_skip (i := 14) (a' := ?a14_33) rfl (by kernel_rfl) (by kernel_rfl) (by kernel_rfl) (fun _ _ _ h => h) hC3 (by kernel_rfl) ?f14_33 ?r14_33
      case f14_33 => (go_simp; try with_reducible rfl)
      refine anyC_skip (i := 15) (a' := ?a15_34) rfl (by kernel_rfl) (by kernel_rfl) (by kernel_rfl) (fun _ _ _ h => h) hC3 (by kernel_rfl) ?f15_34 ?r15_34
      case f15_34 => (go_simp; try with_reducible rfl)
      refine anyC_skip (i := 16) (a' := ?a16_35) rfl (by kernel_rfl) (by kernel_rfl) (by kernel_rfl) (fun _ _ _ h => h) hC3 (by kernel_rfl) ?f16_35 ?r16_35
      case f16_35 => (go_simp; try with_reducible rfl)
      refine anyC_skip (i := 17) (a' := ?a17_36) rfl (by kernel_rfl) (by kernel_rfl) (by kernel_rfl) (fun _ _ _ h => h) hC3 (by kernel_rfl) ?f17_36 ?r17_36
      case f17_36 => (go_simp; try with_reducible rfl)
      refine anyC_take (i := 18) (v := ?v18_37) (a' := ?a18_37) rfl (by kernel_rfl) (by kernel_rfl) (by kernel_rfl) (fun _ _ _ h => h) hC3 ?w18_37 ?y18_37 ?f18_37 ?r18_37
      case w18_37 => kernel_rfl
      case y18_37 => (intro w hC; go_simp; try with_reducible rfl)
      case f18_37 => (go_simp; try with_reducible rfl)
      refine anyC_take (i := 19) (v := ?v19_38) (a' := ?a19_38) rfl (by kernel_rfl) (by kernel_rfl) (by kernel_rfl) (fun _ _ _ h => h) hC3 ?w19_38 ?y19_38 ?f19_38 ?r19_38
      case w19_38 => kernel_rfl
      case y19_38 => (intro w hC; go_simp; try with_reducible rfl)
      case f19_38 => (go_simp; try with_reducible rfl)
      refine anyC_done (by kernel_rfl) ?_
      go_wp2
      go_ret
      exact ⟨ret_bool HF.out.symm, hbw⟩
  · have hbe : (xs == ys) = false := by rw [beq_eq_false_iff_ne]; exact e1
    rw [hbe] at hEN
    have HF : Hid (Pm.same x y = false) := HS.out.trans (Pm.ask_no (fun h => e1 h.1))
    clear hbe e1
    refine anyC_take (i := 4) (v := ?v4_39) (a' := ?a4_39) rfl (by kernel_rfl) (by kernel_rfl) (by kernel_rfl) (fun _ _ _ h => h) hC3 ?w4_39 ?y4_39 ?f4_39 ?r4_39
    case w4_39 => kernel_rfl
    case y4_39 => (intro w hC; have h4 := hEN.out w; go_simp; try with_reducible rfl)
    case f4_39 => (go_simp; try with_reducible rfl)
    refine anyC_take (i := 5) (v := ?v5_40) (a' := ?a5_40) rfl (by kernel_rfl) (by kernel_rfl) (by kernel_rfl) (fun _ _ _ h => h) hC3 ?w5_40 ?y5_40 ?f5_40 ?r5_40
    case w5_40 => kernel_rfl
    case y5_40 => (intro w hC; go_simp; try with_reducible rfl)
    case f5_40 => (go_simp; try with_reducible rfl)
    refine anyC_skip (i := 6) (a' := ?a6_41) rfl (by kernel_rfl) (by kernel_rfl) (by kernel_rfl) (fun _ _ _ h => h) hC3 (by kernel_rfl) ?f6_41 ?r6_41
    case f6_41 => (go_simp; try with_reducible rfl)
    refine anyC_skip (i := 7) (a' := ?a7_42) rfl (by kernel_rfl) (by kernel_rfl) (by kernel_rfl) (fun _ _ _ h => h) hC3 (by kernel_rfl) ?f7_42 ?r7_42
    case f7_42 => (go_simp; try with_reducible rfl)
    refine anyC_skip (i := 8) (a' := ?a8_43) rfl (by kernel_rfl) (by kernel_rfl) (by kernel_rfl) (fun _ _ _ h => h) hC3 (by kernel_rfl) ?f8_43 ?r8_43
    case f8_43 => (go_simp; try with_reducible rfl)
    refine anyC_skip (i := 9) (a' := ?a9_44) rfl (by kernel_rfl) (by kernel_rfl) (by kernel_rfl) (fun _ _ _ h => h) hC3 (by kernel_rfl) ?f9_44 ?r9_44
    case f9_44 => (go_simp; try with_reducible rfl)
    refine anyC_skip (i := 10) (a' := ?a10_45) rfl (by kernel_rfl) (by kernel_rfl) (by kernel_rfl) (fun _ _ _ h => h) hC3 (by kernel_rfl) ?f10_45 ?r10_45
    case f10_45 => (go_simp; try with_reducible rfl)
    refine anyC_take (i := 11) (v := ?v11_46) (a' := ?a11_46) rfl (by kernel_rfl) (by kernel_rfl) (by kernel_rfl) (fun _ _ _ h => h) hC3 ?w11_46 ?y11_46 ?f11_46 ?r11_46
    case w11_46 => kernel_rfl
    case y11_46 => (intro w hC; go_simp; try with_reducible rfl)
    case f11_46 => (go_simp; try with_reducible rfl)
    refine anyC_take (i := 12) (v := ?v12_47) (a' := ?a12_47) rfl (by kernel_rfl) (by kernel_rfl) (by kernel_rfl) (fun _ _ _ h => h) hC3 ?w12_47 ?y12_47 ?f12_47 ?r12_47
    case w12_47 => kernel_rfl
    case y12_47 => (intro w hC; go_simp; try with_reducible rfl)
    case f12_47 => (go_simp; try with_reducible rfl)
    refine anyC_skip (i := 13) (a' := ?a13_48) rfl (by kernel_rfl) (by kernel_rfl) (by kernel_rfl) (fun _ _ _ h => h) hC3 (by kernel_rfl) ?f13_48 ?r13_48
    case f13_48 => (go_simp; try with_reducible rfl)
    refine anyC_skip (i := 14) (a' := ?a14_49) rfl (by kernel_rfl) (by kernel_rfl) (by kernel_rfl) (fun _ _ _ h => h) hC3 (by kernel_rfl) ?f14_49 ?r14_49
    case f14_49 => (go_simp; try with_reducible rfl)
    refine anyC_skip (i := 15) (a' := ?a15_50) rfl (by kernel_rfl) (by kernel_rfl) (by kernel_rfl) (fun _ _ _ h => h) hC3 (by kernel_rfl) ?f15_50 ?r15_50
    case f15_50 => (go_simp; try with_reducible rfl)
    refine anyC_skip (i := 16) (a' := ?a16_51) rfl (by kernel_rfl) (by kernel_rfl) (by kernel_rfl) (fun _ _ _ h => h) hC3 (by kernel_rfl) ?f16_51 ?r16_51
    case f16_51 => (go_simp; try with_reducible rfl)
    refine anyC_skip (i := 17) (a' := ?a17_52) rfl (by kernel_rfl) (by kernel_rfl) (by kernel_rfl) (fun _ _ _ h => h) hC3 (by kernel_rfl) ?f17_52 ?r17_52
    case f17_52 => (go_simp; try with_reducible rfl)
    refine anyC_take (i := 18) (v := ?v18_53) (a' := ?a18_53) rfl (by kernel_rfl) (by kernel_rfl) (by kernel_rfl) (fun _ _ _ h => h) hC3 ?w18_53 ?y18_53 ?f18_53 ?r18_53
    case w18_53 => kernel_rfl
    case y18_53 => (intro w hC; go_simp; try with_reducible rfl)
    case f18_53 => (go_simp; try with_reducible rfl)
    refine anyC_take (i := 19) (v := ?v19_54) (a' := ?a19_54) rfl (by kernel_rfl) (by kernel_rfl) (by kernel_rfl) (fun _ _ _ h => h) hC3 ?w19_54 ?y19_54 ?f19_54 ?r19_54
    case w19_54 => kernel_rfl
    case y19_54 => (intro w hC; go_simp; try with_reducible rfl)
    case f19_54 => (go_simp; try with_reducible rfl)
    refine anyC_done (by kernel_rfl) ?_
    go_wp2
    go_ret
    exact ⟨ret_bool HF.out.symm, hbw⟩
end Go.Proofs.YtbkdenlhfigjhaaDoor

/- Three lists read one behind the other: the program's. -/
namespace Go.Proofs.YtbkdenlhfigjhaaDoor
open Go.RowKit Go.Shelf

theorem grown_set (b : Nat) : ∀ (vs : List Value) (o : Nat) (W : World), W.grownBy (W.setCells b o vs) (some b)
  | [], _, W => ⟨rfl, rfl, rfl, Nat.le_refl _, fun _ _ _ => rfl⟩
  | v :: r, o, W => by
    rw [World.setCells]
    have h1 : W.grownBy (W.setCell ⟨b, o, none⟩ v) (some b) := ⟨rfl, rfl, rfl, (KeepsWalks.setCell W _ v).size, fun k _ hk => Below.heap_setCell _ _ _ k (fun e => hk (by rw [e]))⟩
    exact h1.trans (grown_set b r (o + 1) _)
theorem grown_set1 (b o : Nat) (v : Value) (W : World) : W.grownBy (W.setCell ⟨b, o, none⟩ v) (some b) :=
  ⟨rfl, rfl, rfl, (KeepsWalks.setCell W _ v).size, fun k _ hk => Below.heap_setCell _ _ _ k (fun e => hk (by rw [e]))⟩
theorem own_grown {w w' : World} {base : Nat} {e : TypeId} {v : Value} {n b : Nat} {xs : List Value} (h : w.ownsRow base e 1 v n xs) (hg : w.grownBy w' (some b)) (hb : b < base) : w'.ownsRow base e 1 v n xs := by
  refine h.kept hg ?_
  cases hv : v.ownBlock with
  | none => exact .inl rfl
  | some k => exact .inr (fun e => by injection e with e; have := (h.lt k hv).1; omega)
theorem below_grown {B b : Nat} {w0 w w' : World} (h : Below B w0 w) (hg : w.grownBy w' (some b)) (hb : B ≤ b) (hB : B ≤ w.heap.size) : Below B w0 w' :=
  h.grown hg hB (fun k hk => by injection hk with hk; omega)

namespace Pm
/-- the lists that stand one behind the other from the beginning on, and where the last one ends -/
def Reads (b : List Int) : List (List Int) → Nat → Prop
  | [], to => to = 0
  | [l], to => Wm.rints b 0 = (l, (to : Int), 0)
  | [l, m], to => ∃ n : Nat, Wm.rints b 0 = (l, (n : Int), 0) ∧ Wm.rints b (n : Int) = (m, (to : Int), 0)
  | [l, m, o], to => ∃ n k : Nat, Wm.rints b 0 = (l, (n : Int), 0) ∧ Wm.rints b (n : Int) = (m, (k : Int), 0) ∧ Wm.rints b (k : Int) = (o, (to : Int), 0)
  | _, _ => False
theorem Reads.err {b : List Int} {ls : List (List Int)} {to : Nat} (h : Reads b ls to) (hl : ls.length < 3) (he : (Wm.rints b (to : Int)).2.2 ≠ 0) : get3 b = none := by
  match ls, hl with
  | [], _ => cases h; exact get3_err0 he
  | [l], _ => exact get3_err1 h he
  | [l, m], _ =>
    obtain ⟨n, h0, h1⟩ := h
    exact get3_err2 h0 h1 he
theorem Reads.more {b : List Int} {ls : List (List Int)} {to to' : Nat} {l : List Int} (h : Reads b ls to) (hl : ls.length < 3) (he : Wm.rints b (to : Int) = (l, (to' : Int), 0)) : Reads b (ls ++ [l]) to' := by
  match ls, hl with
  | [], _ => cases h; exact he
  | [m], _ => exact ⟨to, h, he⟩
  | [m, o], _ =>
    obtain ⟨n, h0, h1⟩ := h
    exact ⟨n, to, h0, h1, he⟩
theorem Reads.done {b : List Int} {ls : List (List Int)} {to : Nat} (h : Reads b ls to) (hl : ls.length = 3) : ∃ l m o, ls = [l, m, o] ∧ (to = b.length → get3 b = some (l, m, o)) ∧ (to ≠ b.length → get3 b = none) := by
  match ls, hl with
  | [l, m, o], _ =>
    obtain ⟨n, k, h0, h1, h2⟩ := h
    exact ⟨l, m, o, rfl, fun e => get3_ok h0 h1 h2 e, fun e => get3_more h0 h1 h2 e⟩
end Pm

theorem frozen_new (w : World) (cs : Array Value) (t : TypeId) {b j : Nat} (hb : b = w.heap.size) : (w.alloc (.cells cs t)).frozen? ⟨b, j, none⟩ = false := by
  subst hb
  unfold World.frozen?
  rw [heap_alloc_new]
  simp

/-- three slices in block b; the first ones are rows of their own with these numbers -/
structure Lst (w : World) (b : Nat) (ls : List (List Int)) (vs : List Value) : Prop where
  len : vs.length = 3
  lay : w.rangeAt b 0 vs
  free : ∀ j, j < 3 → w.frozen? ⟨b, j, none⟩ = false
  form : ∀ j, j < 3 → ∃ A n c, vs[j]? = some (.slice A n c)
  own : ∀ (j : Nat) (l : List Int), ls[j]? = some l → ∃ v, vs[j]? = some v ∧ w.ownsRow (b + 1) 2 1 v l.length (i64s l)

theorem frozen_below {B : Nat} {w w' : World} (hb : Below B w w') {a : Addr} (ha : a.block < B) : w'.frozen? a = w.frozen? a := hb.frozen ha

theorem Lst.below {w w' : World} {b : Nat} {ls : List (List Int)} {vs : List Value} (h : Lst w b ls vs) (hb : Below w.heap.size w w') (hlt : b < w.heap.size) : Lst w' b ls vs :=
  ⟨h.len, fun j v hv => by rw [hb.cell (by exact hlt)]; exact h.lay j v hv, fun j hj => by rw [frozen_below hb (by exact hlt)]; exact h.free j hj, h.form,
    fun j l hl => by
      obtain ⟨v, hv, ho⟩ := h.own j l hl
      exact ⟨v, hv, own_below ho hb (Nat.le_refl _)⟩⟩
theorem Lst.other {w w' : World} {b b2 : Nat} {ls : List (List Int)} {vs : List Value} (h : Lst w b ls vs) (hg : w.grownBy w' (some b2)) (hne : b2 < b) (hlt : b < w.heap.size) : Lst w' b ls vs := by
  have hblk : w'.heap[b]? = w.heap[b]? := hg.block b hlt (fun e => by injection e with e; omega)
  exact ⟨h.len, fun j v hv => by rw [World.cell?_of_block hblk]; exact h.lay j v hv, fun j hj => by rw [World.frozen?_of_block hblk]; exact h.free j hj, h.form,
    fun j l hl => by
      obtain ⟨v, hv, ho⟩ := h.own j l hl
      exact ⟨v, hv, own_grown ho hg (by omega)⟩⟩
theorem Lst.cell {w : World} {b : Nat} {ls : List (List Int)} {vs : List Value} (h : Lst w b ls vs) {j : Nat} (hj : j < 3) : ∃ v, w.cell? ⟨b, j, none⟩ = some v := by
  obtain ⟨A, n, c, hv⟩ := h.form j hj
  have := h.lay j _ hv
  rw [Nat.zero_add] at this
  exact ⟨_, this⟩
theorem Lst.set {w : World} {b : Nat} {ls : List (List Int)} {vs : List Value} (h : Lst w b ls vs) {A : Option Addr} {c : Nat} {l : List Int} (hk : ls.length < 3) (ho : w.ownsRow (b + 1) 2 1 (.slice A l.length c) l.length (i64s l)) :
    Lst (w.setCell ⟨b, ls.length, none⟩ (.slice A l.length c)) b (ls ++ [l]) (vs.set ls.length (.slice A l.length c)) := by
  have hg := grown_set1 b ls.length (.slice A l.length c) w
  refine ⟨by rw [List.length_set]; exact h.len, fun j v hv => ?_, fun j hj => by rw [World.frozen?_setCell]; exact h.free j hj, fun j hj => ?_, fun j m hm => ?_⟩
  · rw [List.getElem?_set] at hv
    obtain ⟨u, hu⟩ := h.cell hk
    by_cases e : ls.length = j
    · subst e
      rw [if_pos rfl, if_pos (by rw [h.len]; exact hk)] at hv
      rw [Nat.zero_add, World.cell?_setCell_same _ _ _ hu]
      exact hv
    · rw [if_neg e] at hv
      rw [World.cell?_setCell_other _ _ _ _ (fun q => e (by injection q with _ q; omega))]
      exact h.lay j v hv
  · rw [List.getElem?_set]
    by_cases e : ls.length = j
    · rw [if_pos e, if_pos (by rw [h.len]; exact hk)]; exact ⟨_, _, _, rfl⟩
    · rw [if_neg e]; exact h.form j hj
  · rw [List.getElem?_set]
    by_cases e : ls.length = j
    · subst e
      rw [List.getElem?_append_right (Nat.le_refl _), Nat.sub_self] at hm
      cases hm
      exact ⟨_, by rw [if_pos rfl, if_pos (by rw [h.len]; exact hk)], own_grown ho hg (Nat.lt_succ_self _)⟩
    · have hj : j < (ls ++ [l]).length := (List.getElem?_eq_some_iff.1 hm).1
      rw [List.length_append, List.length_singleton] at hj
      rw [List.getElem?_append_left (by omega)] at hm
      obtain ⟨v, hv, ho'⟩ := h.own j m hm
      exact ⟨v, by rw [if_neg e]; exact hv, own_grown ho' hg (Nat.lt_succ_self _)⟩

/-- what reading three lists gives -/
def Got3 (w0 w : World) (r : Option (List Int × List Int × List Int)) (v0 v1 v2 : Value) : Prop :=
  (∃ A n c, v0 = .slice A n c) ∧ (∃ A n c, v1 = .slice A n c) ∧ (∃ A n c, v2 = .slice A n c) ∧
  ∀ l m o, r = some (l, m, o) → w.ownsRow w0.heap.size 2 1 v0 l.length (i64s l) ∧ w.ownsRow w0.heap.size 2 1 v1 m.length (i64s m) ∧ w.ownsRow w0.heap.size 2 1 v2 o.length (i64s o)

theorem lst_three {w : World} {b : Nat} {ls : List (List Int)} {vs : List Value} (h : Lst w b ls vs) : ∃ v0 v1 v2, vs = [v0, v1, v2] ∧ (∃ A n c, v0 = .slice A n c) ∧ (∃ A n c, v1 = .slice A n c) ∧ (∃ A n c, v2 = .slice A n c) := by
  have hl := h.len
  match vs, hl with
  | [v0, v1, v2], _ =>
    obtain ⟨A0, n0, c0, h0⟩ := h.form 0 (by omega)
    obtain ⟨A1, n1, c1, h1⟩ := h.form 1 (by omega)
    obtain ⟨A2, n2, c2, h2⟩ := h.form 2 (by omega)
    cases h0; cases h1; cases h2
    exact ⟨_, _, _, rfl, ⟨_, _, _, rfl⟩, ⟨_, _, _, rfl⟩, ⟨_, _, _, rfl⟩⟩

theorem results_ct {P : Program} {fn : Func} {p u : Tmp} {ty : TypeId} (h : fn.results = #[.cell p ty, .tmp u]) (tmps : Array Value) (w : World) (b : Nat) (cs : List Value) (d : TypeDesc)
    (hp : tmps.getD p undef = .pointer (some ⟨b, 0, none⟩)) (hr : w.rangeAt b 0 cs) (hu : P.underlying ty = some d) (hd : d.isRow = true) (hi : (P.info? ty).map (·.size) = some cs.length) :
    (results fn tmps).run P w = .ok (.tuple #[.agg cs.toArray, tmps.getD u undef]) w := by
  have hp' : (asAddr (tmps.getD p undef)).run P w = .ok ⟨b, 0, none⟩ w := by rw [hp]; rfl
  rw [results_cell_tmp h, hp', Result.andThen_ok, run_loadVar_mid w b 0 ty cs d hr hu hd hi, Result.andThen_ok]

/-- the end of a reading: the three slices are handed out through the result's own block -/
theorem got_end {w w3 : World} {ls : List (List Int)} {vs : List Value} {r : Option (List Int × List Int × List Int)} (h : Lst w3 (w.heap.size + 1) ls vs) (hb : Below w.heap.size w w3) (hz : w.heap.size + 2 ≤ w3.heap.size)
    (hr : ∀ l m o, r = some (l, m, o) → ls = [l, m, o]) : ∃ v0 v1 v2, vs = [v0, v1, v2] ∧ Got3 w (w3.setCells w.heap.size 0 vs) r v0 v1 v2 ∧ Below w.heap.size w (w3.setCells w.heap.size 0 vs) := by
  obtain ⟨v0, v1, v2, hv, f0, f1, f2⟩ := lst_three h
  have h' := h.other (grown_set w.heap.size vs 0 w3) (Nat.lt_succ_self _) (by omega)
  refine ⟨v0, v1, v2, hv, ⟨f0, f1, f2, fun l m o e => ?_⟩, below_grown hb (grown_set w.heap.size vs 0 w3) (Nat.le_refl _) hb.size⟩
  have e2 := hr l m o e
  subst e2
  subst hv
  obtain ⟨u0, g0, o0⟩ := h'.own 0 l rfl
  obtain ⟨u1, g1, o1⟩ := h'.own 1 m rfl
  obtain ⟨u2, g2, o2⟩ := h'.own 2 o rfl
  cases g0; cases g1; cases g2
  exact ⟨own_mono o0 (by omega), own_mono o1 (by omega), own_mono o2 (by omega)⟩

theorem slices_one {w : World} {b : Nat} {ls : List (List Int)} {vs : List Value} (h : Lst w b ls vs) : vs.toArray.all (·.oneCell') = true := by
  obtain ⟨v0, v1, v2, rfl, ⟨_, _, _, rfl⟩, ⟨_, _, _, rfl⟩, ⟨_, _, _, rfl⟩⟩ := lst_three h
  simp [Value.oneCell']

end Go.Proofs.YtbkdenlhfigjhaaDoor

/- A plan read: the program's. -/
namespace Go.Proofs.YtbkdenlhfigjhaaDoor
open Go.RowKit Go.Shelf

theorem usw {n : Int} (h : Pm.I n) : n % 18446744073709551616 = Pm.us n := by
  unfold Pm.I at h
  unfold Pm.us
  split <;> omega

namespace Pm
theorem get3_some {b l m o : List Int} (hb : ∀ c ∈ b, 0 ≤ c ∧ c ≤ 255) (h : get3 b = some (l, m, o)) : (Wm.Fits l ∧ Wm.Fits m ∧ Wm.Fits o) ∧ l.length ≤ 64 ∧ m.length ≤ 64 ∧ o.length ≤ 64 := by
  rcases get3_cases hb with h3 | ⟨l', n, e0, n0, f0, s0, h3⟩
  · rw [h3.2] at h; cases h
  rcases h3 with h3 | ⟨m', i, e1, n1, f1, s1, h3⟩
  · rw [h3.2] at h; cases h
  rcases h3 with h3 | ⟨o', j, e2, n2, f2, s2, h3⟩
  · rw [h3.2] at h; cases h
  rcases h3 with h3 | ⟨hj, h4, hU⟩
  · rw [h3.2] at h; cases h
  rw [h4] at h
  injection h with h
  injection h with h5 h
  injection h with h6 h7
  subst h5 h6 h7
  exact ⟨⟨f0, f1, f2⟩, by omega, by omega, by omega⟩
end Pm
theorem there_below {w w' : World} {b o n B : Nat} (h : w.there b o n) (hb : Below B w w') (hlt : b < B) : w'.there b o n := fun j hj => by
  obtain ⟨t1, t2⟩ := h j hj
  have hl : (⟨b, o + j, none⟩ : Addr).block < B := hlt
  exact ⟨by rw [hb.cell hl]; exact t1, by rw [hb.frozen hl]; exact t2⟩
theorem there_new (w : World) (cs : List Value) (t : TypeId) : (w.alloc (.cells cs.toArray t)).there w.heap.size 0 cs.length := fun j hj => by
  obtain ⟨ad, e, _, hc⟩ := (Rd.new w (w.heap.size + 1) cs t (0, 0) (by omega)) j _ (List.getElem?_eq_getElem hj)
  cases e
  rw [Addr.add_mid] at hc
  exact ⟨by rw [hc]; rfl, frozen_new _ _ _ rfl⟩
theorem range_of_own {w : World} {base : Nat} {e : TypeId} {g n cap : Nat} {xs : List Value} (h : w.ownsRow base e 1 (.slice (some ⟨g, 0, none⟩) n cap) n xs) : w.rangeAt g 0 xs := fun j v hv => by
  have := h.cells (g := g) rfl j v hv
  rw [Addr.add_mid] at this
  exact this

theorem pvs_one (x : Pm.Pl) (A : Option Addr) (n c : Nat) (A' : Option Addr) (n' c' : Nat) : (pvs x A n c A' n' c').toArray.all (·.oneCell') = true := by simp [pvs, Value.oneCell']
theorem plAt_zero (w : World) (B : Nat) : PlAt w B Pm.zero none 0 0 none 0 0 := ⟨Pm.ok_zero, Rd.nil _ _ _, rfl, Nat.le_refl _, Nat.zero_le _, Rd.nil _ _ _, rfl, Nat.le_refl _, Nat.zero_le _⟩

/-- a whole value into the block made last, as one operation of a region -/
theorem op_store_new {P : Program} {op : Oper} {a : Act} {w : World} {K : Act → World → Prop} {Q : Exit → Act → World → Prop} (ty : TypeId) (x y : Operand) (ho : op.op = .store ty x y)
    (c c' : Array Value) (hx : a.eval x = .pointer (some ⟨w.heap.size, 0, none⟩)) (hy : a.eval y = .agg c') (hi : (P.info? ty).map (·.size) = some c'.size) (hs : c.size = c'.size) (h1 : c'.all (·.oneCell') = true)
    (h : K (a.put op.dst undef) (w.alloc (.cells c' ty))) : op.wp P a (w.alloc (.cells c ty)) K Q := by
  unfold Oper.wp execOp
  simp only [ho, hx, hy, Sem.run_bind, run_storeAt_new (P := P) w ty c c' hi hs h1, Result.andThen_ok, Sem.run_pure]
  exact h
theorem op_store_drew {P : Program} {op : Oper} {a : Act} {w : World} {K : Act → World → Prop} {Q : Exit → Act → World → Prop} (ty : TypeId) (x y : Operand) (ho : op.op = .store ty x y)
    (c c' : Array Value) (b : Nat) (hb : b = w.heap.size) (hx : a.eval x = .pointer (some ⟨b, 0, none⟩)) (hy : a.eval y = .agg c') (hi : (P.info? ty).map (·.size) = some c'.size) (hs : c.size = c'.size) (h1 : c'.all (·.oneCell') = true)
    (h : K (a.put op.dst undef) ((w.alloc (.cells c' ty)).drew)) : op.wp P a ((w.alloc (.cells c ty)).drew) K Q := by
  subst hb
  exact op_store_new (w := w.drew) ty x y ho c c' hx hy hi hs h1 h

end Go.Proofs.YtbkdenlhfigjhaaDoor
