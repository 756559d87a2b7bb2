/- Whether two plans are alike: the program's. -/
import Derived.Test.YtdcdlnmgbgeeeaaDoorPf
import Derived.Laws.StructEq
namespace Go.Proofs.YtdcdlnmgbgeeeaaDoor
open Go.RowKit Go.Shelf

theorem all_range_eqI : ∀ (xs ys : List Int), xs.length = ys.length → ((List.range xs.length).all fun i => xs.getD i 0 == ys.getD i 0) = (xs == ys)
  | [], [], _ => rfl
  | x :: xs, y :: ys, h => by
    have ih := all_range_eqI xs ys (by simpa using h)
    rw [List.length_cons, List.range_succ_eq_map, List.all_cons, List.all_map]
    simp only [List.getD_cons_zero, Function.comp_def, List.getD_cons_succ, ih]
    simp [List.cons_beq_cons]
  | [], _ :: _, h => by simp at h
  | _ :: _, [], h => by simp at h

/-- an array of numbers compared -/
theorem run_equalIn_ints {P : Program} (w : World) (d : Nat) (t e : TypeId) (n : Nat) (ht : P.underlying t = some (.array n e)) (he : P.underlying e = some (.int .i64)) (hsz : ∀ w, (sizeOf e).run P w = .ok 1 w)
    (xs ys : List Int) (hx : xs.length = n) (hy : ys.length = n) :
    (Op.equalIn (d + 2) t (.agg (i64s xs).toArray) (.agg (i64s ys).toArray)).run P w = .ok (xs == ys) w := by
  rw [← all_range_eqI xs ys (hx.trans hy.symm), hx, List.range_eq_range', Op.equalIn]
  simp only [Sem.run_bind, run_underlying ht, Result.andThen_ok, hsz, Std.Legacy.Range.forIn_eq_forIn_range', Std.Legacy.Range.size, Nat.sub_zero, Nat.add_sub_cancel, Nat.div_one]
  have hl : ∀ i ∈ List.range' 0 n 1, i < n := fun i hi => by simpa using (List.mem_range'_1.1 hi).2
  generalize List.range' 0 n 1 = l at hl ⊢
  induction l with
  | nil => simp
  | cons i l ih =>
    have hi : i < n := hl i (by simp)
    have px : (part e (i64s xs).toArray (i * 1)).run P w = .ok (.int .i64 (xs.getD i 0)) w := by
      simp [part, isAgg, run_underlying he, List.getD, List.getElem?_eq_getElem (show i < xs.length by omega)]
    have py : (part e (i64s ys).toArray (i * 1)).run P w = .ok (.int .i64 (ys.getD i 0)) w := by
      simp [part, isAgg, run_underlying he, List.getD, List.getElem?_eq_getElem (show i < ys.length by omega)]
    have pe : (Op.equalIn (d + 1) e (.int .i64 (xs.getD i 0)) (.int .i64 (ys.getD i 0))).run P w = .ok (xs.getD i 0 == ys.getD i 0) w := run_equalIn_int w d e .i64 .i64 _ _ he
    simp only [List.forIn_cons, Sem.run_bind, px, py, pe, Result.andThen_ok, List.all_cons]
    cases hb : (xs.getD i 0 == ys.getD i 0)
    · simp
    · simp only [Bool.not_true, Bool.false_eq_true, if_false, Sem.run_pure, Result.andThen_ok, Bool.true_and]
      exact ih fun j hj => hl j (by simp [hj])

theorem guard_nums : Tryd.prog.eqGuardType Tryd.prog.depth 44 = false := by kernel_rfl
theorem nums_equal (xs ys : List Int) (hx : xs.length = 10) (hy : ys.length = 10) (w : World) : (Op.equalIn 10000 44 (.agg (i64s xs).toArray) (.agg (i64s ys).toArray)).run Tryd.prog w = .ok (xs == ys) w := by
  obtain ⟨i0, hi, _, hz1, _⟩ := info_parts info_i64
  exact run_equalIn_ints w 9998 44 2 10 Tryd.underlying44 Tryd.underlying2 (size_of_info hi hz1) xs ys hx hy

set_option maxRecDepth 100000 in
set_option maxHeartbeats 4000000 in
theorem Same_p_any (x y : Pm.Pl) (A : Option Addr) (n c : Nat) (A' : Option Addr) (n' c' : Nat) (B : Nat) (D : Option Addr) (m d : Nat) (D' : Option Addr) (m' d' : Nat) (B2 : Nat) (w : World)
    (hp : PlAt w B x A n c A' n' c') (hq : PlAt w B2 y D m d D' m' d') (hB : B ≤ w.heap.size) (hB2 : B2 ≤ w.heap.size) :
    Calls Tryd.prog 20 #[pv x A n c A' n' c', pv y D m d D' m' d'] w fun e w' => e = .returned (.bool (Pm.same x y)) ∧ Below w.heap.size w w' := by
  have HP := Lib.hid hp
  have HQ := Lib.hid hq
  have b0 := Bx.new w x A n c A' n' c' 26
  have hb0 : Below w.heap.size w (w.alloc (.cells (pvs x A n c A' n' c').toArray 26)) := (Below.refl _ w).alloc (Nat.le_refl _) _
  have hNX := Lib.hid (fun W => numbersOf_any x A n c A' n' c' W HP.out.ok)
  have hNY := Lib.hid (fun W => numbersOf_any y D m d D' m' d' W HQ.out.ok)
  clear hp hq
  rw [pv_eq] at hNX hNY
  rw [pv_eq, pv_eq]
  have hz1 : (w.alloc (.cells (pvs x A n c A' n' c').toArray 26)).heap.size = w.heap.size + 1 := World.size_alloc ..
  generalize hw1 : w.alloc (.cells (pvs x A n c A' n' c').toArray 26) = w1 at *
  have b1 := Bx.new w1 y D m d D' m' d' 26
  have b0' : Bx (w1.alloc (.cells (pvs y D m d D' m' d').toArray 26)) w.heap.size x A n c A' n' c' := b0.below (B := w.heap.size + 1) ((Below.refl _ w1).alloc (by omega) _) (Nat.lt_succ_self _)
  have hb1 : Below w.heap.size w (w1.alloc (.cells (pvs y D m d D' m' d').toArray 26)) := hb0.alloc (by omega) _
  rw [hz1] at b1
  have hz2 : (w1.alloc (.cells (pvs y D m d D' m' d').toArray 26)).heap.size = w.heap.size + 2 := by rw [World.size_alloc, hz1]
  subst hw1
  have HX := Lib.hid (fun (W : World) (h : Below (w.heap.size + 2) ((w.alloc (.cells (pvs x A n c A' n' c').toArray 26)).alloc (.cells (pvs y D m d D' m' d').toArray 26)) W) => (b0'.below h (by omega) : Bx W w.heap.size x A n c A' n' c'))
  have HY := Lib.hid (fun (W : World) (h : Below (w.heap.size + 2) ((w.alloc (.cells (pvs x A n c A' n' c').toArray 26)).alloc (.cells (pvs y D m d D' m' d').toArray 26)) W) => (b1.below h (by omega) : Bx W (w.heap.size + 1) y D m d D' m' d'))
  have HRX : Hid (∀ (W : World), Below (w.heap.size + 2) ((w.alloc (.cells (pvs x A n c A' n' c').toArray 26)).alloc (.cells (pvs y D m d D' m' d').toArray 26)) W → W.rangeAt w.heap.size 0 (pvs x A n c A' n' c')) := HX.out
  have HRY : Hid (∀ (W : World), Below (w.heap.size + 2) ((w.alloc (.cells (pvs x A n c A' n' c').toArray 26)).alloc (.cells (pvs y D m d D' m' d').toArray 26)) W → W.rangeAt (w.heap.size + 1) 0 (pvs y D m d D' m' d')) := HY.out
  have hl1 : Hid ((Tryd.prog.info? 26).map (·.size) = some (pvs x A n c A' n' c').length) := info_plan
  have hl2 : Hid ((Tryd.prog.info? 26).map (·.size) = some (pvs y D m d D' m' d').length) := info_plan
  generalize pvs x A n c A' n' c' = L at *
  generalize pvs y D m d D' m' d' = M at *
  have HB1 := Lib.hid hb1
  have HZ2 := Lib.hid hz2
  clear b0 b0' b1 hb0 hb1 hz1 hz2
  have hEN := Lib.hid (fun W => nums_equal x.nums y.nums rfl rfl W)
  have HS : Hid (Pm.same x y = Pm.ask (x.nums = y.nums ∧ x.pen = y.pen ∧ x.ch = y.ch)) := by
    by_cases e : x = y
    · rw [show Pm.same x y = true from Pm.ask_yes e, Pm.ask_yes ⟨by rw [e], by rw [e], by rw [e]⟩]; exact Lib.hid rfl
    · rw [show Pm.same x y = false from Pm.ask_no e, Pm.ask_no (fun h => e (Pm.nums_inj HP.out.ok HQ.out.ok h.1 h.2.1 h.2.2))]; exact Lib.hid rfl
  have hgd := guard_nums
  go_enter Tryd.func20, Tryd.ntmps20
  go_wp2_with fail
  refine region_C (fun W => Below (w.heap.size + 2) ((w.alloc (.cells L.toArray 26)).alloc (.cells M.toArray 26)) W) (by kernel_rfl) ?_
  have hC : Below (w.heap.size + 2) ((w.alloc (.cells L.toArray 26)).alloc (.cells M.toArray 26)) ((w.alloc (.cells L.toArray 26)).alloc (.cells M.toArray 26)).drew := (Below.refl _ _).drew
  refine anyC_take (i := 0) (v := ?v0_53) (a' := ?a0_53) rfl (by kernel_rfl) (by kernel_rfl) (by kernel_rfl) (fun _ _ _ h => h) hC ?w0_53 ?y0_53 ?f0_53 ?r0_53
  case w0_53 => kernel_rfl
  case y0_53 => (intro W hW; exact by refine exec_load 26 (.tmp 2) ?_ w.heap.size ?_ L _ (HRX.out _ hW) Tryd.underlying26 rfl hl1.out <;> rfl)
  case f0_53 => (go_simp; try with_reducible rfl)
  refine anyC_take (i := 2) (v := ?v2_54) (a' := ?a2_54) rfl (by kernel_rfl) (by kernel_rfl) (by kernel_rfl) (fun _ _ _ h => h) hC ?w2_54 ?y2_54 ?f2_54 ?r2_54
  case w2_54 => kernel_rfl
  case y2_54 => (intro W hW; exact by refine exec_load 26 (.tmp 3) ?_ (w.heap.size + 1) ?_ M _ (HRY.out _ hW) Tryd.underlying26 rfl hl2.out <;> rfl)
  case f2_54 => (go_simp; try with_reducible rfl)
  refine anyC_one (i := 1) rfl (by kernel_rfl) (by kernel_rfl) (fun K hK => ?_)
  go_simp
  refine (hNX.out _).mono ?_
  rintro e w2 ⟨rfl, hb2⟩
  have hC2 : Below (w.heap.size + 2) ((w.alloc (.cells L.toArray 26)).alloc (.cells M.toArray 26)) w2 := hC.trans (hb2.mono (by simp))
  refine hK _ _ ⟨hC2, ?_⟩
  clear hK K hb2 hC
  refine anyC_one (i := 3) rfl (by kernel_rfl) (by kernel_rfl) (fun K hK => ?_)
  go_simp
  refine (hNY.out _).mono ?_
  rintro e w3 ⟨rfl, hb3⟩
  have hz2 := hC2.size
  rw [HZ2.out] at hz2
  have hC3 : Below (w.heap.size + 2) ((w.alloc (.cells L.toArray 26)).alloc (.cells M.toArray 26)) w3 := hC2.trans (hb3.mono hz2)
  refine hK _ _ ⟨hC3, ?_⟩
  clear hK K hb3 hC2 hz2
  have hbw := HB1.out.trans (hC3.mono (by omega))
  have HE1 := Lib.hid (equalI_any A D n m c d B B2 x.pen y.pen w3 (HP.out.r1.below (hbw.mono hB)) (HQ.out.r1.below (hbw.mono hB2)) HP.out.l1 HQ.out.l1 (Nat.le_trans HP.out.c1 HP.out.m1))
  have HE2 := Lib.hid (equalL_any A' D' n' m' c' d' B B2 x.ch y.ch w3 (HP.out.r2.below (hbw.mono hB)) (HQ.out.r2.below (hbw.mono hB2)) HP.out.l2 HQ.out.l2 (Nat.le_trans HP.out.c2 HP.out.m2))
  generalize x.nums = xs at *
  generalize y.nums = ys at *
  by_cases e1 : xs = ys
  · have hbe : (xs == ys) = true := by rw [beq_iff_eq]; exact e1
    rw [hbe] at hEN
    have E1 := Lib.hid e1
    clear hbe e1
    refine anyC_take (i := 4) (v := ?v4_55) (a' := ?a4_55) rfl (by kernel_rfl) (by kernel_rfl) (by kernel_rfl) (fun _ _ _ h => h) hC3 ?w4_55 ?y4_55 ?f4_55 ?r4_55
    case w4_55 => kernel_rfl
    case y4_55 => (intro w hC; have h4 := hEN.out w; go_simp; try with_reducible rfl)
    case f4_55 => (go_simp; try with_reducible rfl)
    refine anyC_take (i := 5) (v := ?v5_56) (a' := ?a5_56) rfl (by kernel_rfl) (by kernel_rfl) (by kernel_rfl) (fun _ _ _ h => h) hC3 ?w5_56 ?y5_56 ?f5_56 ?r5_56
    case w5_56 => kernel_rfl
    case y5_56 => (intro w hC; go_simp; try with_reducible rfl)
    case f5_56 => (go_simp; try with_reducible rfl)
    refine anyC_take (i := 6) (v := ?v6_57) (a' := ?a6_57) rfl (by kernel_rfl) (by kernel_rfl) (by kernel_rfl) (fun _ _ _ h => h) hC3 ?w6_57 ?y6_57 ?f6_57 ?r6_57
    case w6_57 => kernel_rfl
    case y6_57 => (intro w hC; go_simp; try with_reducible rfl)
    case f6_57 => (go_simp; try with_reducible rfl)
    refine anyC_take (i := 8) (v := ?v8_58) (a' := ?a8_58) rfl (by kernel_rfl) (by kernel_rfl) (by kernel_rfl) (fun _ _ _ h => h) hC3 ?w8_58 ?y8_58 ?f8_58 ?r8_58
    case w8_58 => kernel_rfl
    case y8_58 => (intro w hC; go_simp; try with_reducible rfl)
    case f8_58 => (go_simp; try with_reducible rfl)
    refine anyC_take (i := 7) (v := ?v7_59) (a' := ?a7_59) rfl (by kernel_rfl) (by kernel_rfl) (by kernel_rfl) (fun _ _ _ h => h) hC3 ?w7_59 ?y7_59 ?f7_59 ?r7_59
    case w7_59 => kernel_rfl
    case y7_59 => (intro w hC; have h4 := (HX.out w hC).pen; go_simp; try with_reducible rfl)
    case f7_59 => (go_simp; try with_reducible rfl)
    refine anyC_take (i := 9) (v := ?v9_60) (a' := ?a9_60) rfl (by kernel_rfl) (by kernel_rfl) (by kernel_rfl) (fun _ _ _ h => h) hC3 ?w9_60 ?y9_60 ?f9_60 ?r9_60
    case w9_60 => kernel_rfl
    case y9_60 => (intro w hC; have h4 := (HY.out w hC).pen; go_simp; try with_reducible rfl)
    case f9_60 => (go_simp; try with_reducible rfl)
    refine anyC_one (i := 10) rfl (by kernel_rfl) (by kernel_rfl) (fun K hK => ?_)
    go_simp
    refine HE1.out.mono ?_
    rintro e w4 ⟨rfl, rfl⟩
    refine hK _ _ ⟨hC3, ?_⟩
    clear hK K
    by_cases p1 : x.pen = y.pen
    · have HS2 : Hid (Pm.same x y = Pm.ask (x.ch = y.ch)) := by
        by_cases p2 : x.ch = y.ch
        · rw [Pm.ask_yes p2]; exact HS.out.trans (Pm.ask_yes ⟨E1.out, p1, p2⟩)
        · rw [Pm.ask_no p2]; exact HS.out.trans (Pm.ask_no (fun h => p2 h.2.2))
      rw [Pm.ask_yes p1]
      clear p1
      generalize Pm.ask (x.ch = y.ch) = bq at *
      refine anyC_take (i := 11) (v := ?v11_61) (a' := ?a11_61) rfl (by kernel_rfl) (by kernel_rfl) (by kernel_rfl) (fun _ _ _ h => h) hC3 ?w11_61 ?y11_61 ?f11_61 ?r11_61
      case w11_61 => kernel_rfl
      case y11_61 => (intro w hC; go_simp; try with_reducible rfl)
      case f11_61 => (go_simp; try with_reducible rfl)
      refine anyC_take (i := 12) (v := ?v12_62) (a' := ?a12_62) rfl (by kernel_rfl) (by kernel_rfl) (by kernel_rfl) (fun _ _ _ h => h) hC3 ?w12_62 ?y12_62 ?f12_62 ?r12_62
      case w12_62 => kernel_rfl
      case y12_62 => (intro w hC; go_simp; try with_reducible rfl)
      case f12_62 => (go_simp; try with_reducible rfl)
      refine anyC_take (i := 13) (v := ?v13_63) (a' := ?a13_63) rfl (by kernel_rfl) (by kernel_rfl) (by kernel_rfl) (fun _ _ _ h => h) hC3 ?w13_63 ?y13_63 ?f13_63 ?r13_63
      case w13_63 => kernel_rfl
      case y13_63 => (intro w hC; go_simp; try with_reducible rfl)
      case f13_63 => (go_simp; try with_reducible rfl)
      refine anyC_take (i := 15) (v := ?v15_64) (a' := ?a15_64) rfl (by kernel_rfl) (by kernel_rfl) (by kernel_rfl) (fun _ _ _ h => h) hC3 ?w15_64 ?y15_64 ?f15_64 ?r15_64
      case w15_64 => kernel_rfl
      case y15_64 => (intro w hC; go_simp; try with_reducible rfl)
      case f15_64 => (go_simp; try with_reducible rfl)
      refine anyC_take (i := 14) (v := ?v14_65) (a' := ?a14_65) rfl (by kernel_rfl) (by kernel_rfl) (by kernel_rfl) (fun _ _ _ h => h) hC3 ?w14_65 ?y14_65 ?f14_65 ?r14_65
      case w14_65 => kernel_rfl
      case y14_65 => (intro w hC; have h4 := (HX.out w hC).ch; go_simp; try with_reducible rfl)
      case f14_65 => (go_simp; try with_reducible rfl)
      refine anyC_take (i := 16) (v := ?v16_66) (a' := ?a16_66) rfl (by kernel_rfl) (by kernel_rfl) (by kernel_rfl) (fun _ _ _ h => h) hC3 ?w16_66 ?y16_66 ?f16_66 ?r16_66
      case w16_66 => kernel_rfl
      case y16_66 => (intro w hC; have h4 := (HY.out w hC).ch; go_simp; try with_reducible rfl)
      case f16_66 => (go_simp; try with_reducible rfl)
      refine anyC_one (i := 17) rfl (by kernel_rfl) (by kernel_rfl) (fun K hK => ?_)
      go_simp
      refine HE2.out.mono ?_
      rintro e w5 ⟨rfl, rfl⟩
      refine hK _ _ ⟨hC3, ?_⟩
      clear hK K
      refine anyC_take (i := 18) (v := ?v18_67) (a' := ?a18_67) rfl (by kernel_rfl) (by kernel_rfl) (by kernel_rfl) (fun _ _ _ h => h) hC3 ?w18_67 ?y18_67 ?f18_67 ?r18_67
      case w18_67 => kernel_rfl
      case y18_67 => (intro w hC; go_simp; try with_reducible rfl)
      case f18_67 => (go_simp; try with_reducible rfl)
      refine anyC_take (i := 19) (v := ?v19_68) (a' := ?a19_68) rfl (by kernel_rfl) (by kernel_rfl) (by kernel_rfl) (fun _ _ _ h => h) hC3 ?w19_68 ?y19_68 ?f19_68 ?r19_68
      case w19_68 => kernel_rfl
      case y19_68 => (intro w hC; go_simp; try with_reducible rfl)
      case f19_68 => (go_simp; try with_reducible rfl)
      refine anyC_done (by kernel_rfl) ?_
      go_wp2
      go_ret
      exact ⟨ret_bool HS2.out.symm, hbw⟩
    · have HF : Hid (Pm.same x y = false) := HS.out.trans (Pm.ask_no (fun h => p1 h.2.1))
      rw [Pm.ask_no p1]
      clear p1
      refine anyC_take (i := 11) (v := ?v11_69) (a' := ?a11_69) rfl (by kernel_rfl) (by kernel_rfl) (by kernel_rfl) (fun _ _ _ h => h) hC3 ?w11_69 ?y11_69 ?f11_69 ?r11_69
      case w11_69 => kernel_rfl
      case y11_69 => (intro w hC; go_simp; try with_reducible rfl)
      case f11_69 => (go_simp; try with_reducible rfl)
      refine anyC_take (i := 12) (v := ?v12_70) (a' := ?a12_70) rfl (by kernel_rfl) (by kernel_rfl) (by kernel_rfl) (fun _ _ _ h => h) hC3 ?w12_70 ?y12_70 ?f12_70 ?r12_70
      case w12_70 => kernel_rfl
      case y12_70 => (intro w hC; go_simp; try with_reducible rfl)
      case f12_70 => (go_simp; try with_reducible rfl)
      refine anyC_skip (i := 13) (a' := ?a13_71) rfl (by kernel_rfl) (by kernel_rfl) (by kernel_rfl) (fun _ _ _ h => h) hC3 (by kernel_rfl) ?f13_71 ?r13_71
      case f13_71 => (go_simp; try with_reducible rfl)
      refine anyC_skip (i := 14) (a' := ?a14_72) rfl (by kernel_rfl) (by kernel_rfl) (by kernel_rfl) (fun _ _ _ h => h) hC3 (by kernel_rfl) ?f14_72 ?r14_72
      case f14_72 => (go_simp; try with_reducible rfl)
      refine anyC_skip (i := 15) (a' := ?a15_73) rfl (by kernel_rfl) (by kernel_rfl) (by kernel_rfl) (fun _ _ _ h => h) hC3 (by kernel_rfl) ?f15_73 ?r15_73
      case f15_73 => (go_simp; try with_reducible rfl)
      refine anyC_skip (i := 16) (a' := ?a16_74) rfl (by kernel_rfl) (by kernel_rfl) (by kernel_rfl) (fun _ _ _ h => h) hC3 (by kernel_rfl) ?f16_74 ?r16_74
      case f16_74 => (go_simp; try with_reducible rfl)
      refine anyC_skip (i := 17) (a' := ?a17_75) rfl (by kernel_rfl) (by kernel_rfl) (by kernel_rfl) (fun _ _ _ h => h) hC3 (by kernel_rfl) ?f17_75 ?r17_75
      case f17_75 => (go_simp; try with_reducible rfl)
      refine anyC_take (i := 18) (v := ?v18_76) (a' := ?a18_76) rfl (by kernel_rfl) (by kernel_rfl) (by kernel_rfl) (fun _ _ _ h => h) hC3 ?w18_76 ?y18_76 ?f18_76 ?r18_76
      case w18_76 => kernel_rfl
      case y18_76 => (intro w hC; go_simp; try with_reducible rfl)
      case f18_76 => (go_simp; try with_reducible rfl)
      refine anyC_take (i := 19) (v := ?v19_77) (a' := ?a19_77) rfl (by kernel_rfl) (by kernel_rfl) (by kernel_rfl) (fun _ _ _ h => h) hC3 ?w19_77 ?y19_77 ?f19_77 ?r19_77
      case w19_77 => kernel_rfl
      case y19_77 => (intro w hC; go_simp; try with_reducible rfl)
      case f19_77 => (go_simp; try with_reducible rfl)
      refine anyC_done (by kernel_rfl) ?_
      go_wp2
      go_ret
      exact ⟨ret_bool HF.out.symm, hbw⟩
  · have hbe : (xs == ys) = false := by rw [beq_eq_false_iff_ne]; exact e1
    rw [hbe] at hEN
    have HF : Hid (Pm.same x y = false) := HS.out.trans (Pm.ask_no (fun h => e1 h.1))
    clear hbe e1
    refine anyC_take (i := 4) (v := ?v4_78) (a' := ?a4_78) rfl (by kernel_rfl) (by kernel_rfl) (by kernel_rfl) (fun _ _ _ h => h) hC3 ?w4_78 ?y4_78 ?f4_78 ?r4_78
    case w4_78 => kernel_rfl
    case y4_78 => (intro w hC; have h4 := hEN.out w; go_simp; try with_reducible rfl)
    case f4_78 => (go_simp; try with_reducible rfl)
    refine anyC_take (i := 5) (v := ?v5_79) (a' := ?a5_79) rfl (by kernel_rfl) (by kernel_rfl) (by kernel_rfl) (fun _ _ _ h => h) hC3 ?w5_79 ?y5_79 ?f5_79 ?r5_79
    case w5_79 => kernel_rfl
    case y5_79 => (intro w hC; go_simp; try with_reducible rfl)
    case f5_79 => (go_simp; try with_reducible rfl)
    refine anyC_skip (i := 6) (a' := ?a6_80) rfl (by kernel_rfl) (by kernel_rfl) (by kernel_rfl) (fun _ _ _ h => h) hC3 (by kernel_rfl) ?f6_80 ?r6_80
    case f6_80 => (go_simp; try with_reducible rfl)
    refine anyC_skip (i := 7) (a' := ?a7_81) rfl (by kernel_rfl) (by kernel_rfl) (by kernel_rfl) (fun _ _ _ h => h) hC3 (by kernel_rfl) ?f7_81 ?r7_81
    case f7_81 => (go_simp; try with_reducible rfl)
    refine anyC_skip (i := 8) (a' := ?a8_82) rfl (by kernel_rfl) (by kernel_rfl) (by kernel_rfl) (fun _ _ _ h => h) hC3 (by kernel_rfl) ?f8_82 ?r8_82
    case f8_82 => (go_simp; try with_reducible rfl)
    refine anyC_skip (i := 9) (a' := ?a9_83) rfl (by kernel_rfl) (by kernel_rfl) (by kernel_rfl) (fun _ _ _ h => h) hC3 (by kernel_rfl) ?f9_83 ?r9_83
    case f9_83 => (go_simp; try with_reducible rfl)
    refine anyC_skip (i := 10) (a' := ?a10_84) rfl (by kernel_rfl) (by kernel_rfl) (by kernel_rfl) (fun _ _ _ h => h) hC3 (by kernel_rfl) ?f10_84 ?r10_84
    case f10_84 => (go_simp; try with_reducible rfl)
    refine anyC_take (i := 11) (v := ?v11_85) (a' := ?a11_85) rfl (by kernel_rfl) (by kernel_rfl) (by kernel_rfl) (fun _ _ _ h => h) hC3 ?w11_85 ?y11_85 ?f11_85 ?r11_85
    case w11_85 => kernel_rfl
    case y11_85 => (intro w hC; go_simp; try with_reducible rfl)
    case f11_85 => (go_simp; try with_reducible rfl)
    refine anyC_take (i := 12) (v := ?v12_86) (a' := ?a12_86) rfl (by kernel_rfl) (by kernel_rfl) (by kernel_rfl) (fun _ _ _ h => h) hC3 ?w12_86 ?y12_86 ?f12_86 ?r12_86
    case w12_86 => kernel_rfl
    case y12_86 => (intro w hC; go_simp; try with_reducible rfl)
    case f12_86 => (go_simp; try with_reducible rfl)
    refine anyC_skip (i := 13) (a' := ?a13_87) rfl (by kernel_rfl) (by kernel_rfl) (by kernel_rfl) (fun _ _ _ h => h) hC3 (by kernel_rfl) ?f13_87 ?r13_87
    case f13_87 => (go_simp; try with_reducible rfl)
    refine anyC_skip (i := 14) (a' := ?a14_88) rfl (by kernel_rfl) (by kernel_rfl) (by kernel_rfl) (fun _ _ _ h => h) hC3 (by kernel_rfl) ?f14_88 ?r14_88
    case f14_88 => (go_simp; try with_reducible rfl)
    refine anyC_skip (i := 15) (a' := ?a15_89) rfl (by kernel_rfl) (by kernel_rfl) (by kernel_rfl) (fun _ _ _ h => h) hC3 (by kernel_rfl) ?f15_89 ?r15_89
    case f15_89 => (go_simp; try with_reducible rfl)
    refine anyC_skip (i := 16) (a' := ?a16_90) rfl (by kernel_rfl) (by kernel_rfl) (by kernel_rfl) (fun _ _ _ h => h) hC3 (by kernel_rfl) ?f16_90 ?r16_90
    case f16_90 => (go_simp; try with_reducible rfl)
    refine anyC_skip (i := 17) (a' := ?a17_91) rfl (by kernel_rfl) (by kernel_rfl) (by kernel_rfl) (fun _ _ _ h => h) hC3 (by kernel_rfl) ?f17_91 ?r17_91
    case f17_91 => (go_simp; try with_reducible rfl)
    refine anyC_take (i := 18) (v := ?v18_92) (a' := ?a18_92) rfl (by kernel_rfl) (by kernel_rfl) (by kernel_rfl) (fun _ _ _ h => h) hC3 ?w18_92 ?y18_92 ?f18_92 ?r18_92
    case w18_92 => kernel_rfl
    case y18_92 => (intro w hC; go_simp; try with_reducible rfl)
    case f18_92 => (go_simp; try with_reducible rfl)
    refine anyC_take (i := 19) (v := ?v19_93) (a' := ?a19_93) rfl (by kernel_rfl) (by kernel_rfl) (by kernel_rfl) (fun _ _ _ h => h) hC3 ?w19_93 ?y19_93 ?f19_93 ?r19_93
    case w19_93 => kernel_rfl
    case y19_93 => (intro w hC; go_simp; try with_reducible rfl)
    case f19_93 => (go_simp; try with_reducible rfl)
    refine anyC_done (by kernel_rfl) ?_
    go_wp2
    go_ret
    exact ⟨ret_bool HF.out.symm, hbw⟩
end Go.Proofs.YtdcdlnmgbgeeeaaDoor
