import Derived.Test.YtpgfnhdaembhmaaDoorBPa
import Derived.Laws.StructEq
import Derived.Laws.Cover3

/- Whether two plans are alike: the program's. -/
namespace Go.Proofs.YtpgfnhdaembhmaaDoor
open Go.RowKit Go.Shelf

theorem all_range_eqI : ∀ (xs ys : List Int), xs.length = ys.length → ((List.range xs.length).all fun i => xs.getD i 0 == ys.getD i 0) = (xs == ys)
  | [], [], _ => rfl
  | x :: xs, y :: ys, h => by
    have ih := all_range_eqI xs ys (by simpa using h)
    rw [List.length_cons, List.range_succ_eq_map, List.all_cons, List.all_map]
    simp only [List.getD_cons_zero, Function.comp_def, List.getD_cons_succ, ih]
    simp [List.cons_beq_cons]
  | [], _ :: _, h => by simp at h
  | _ :: _, [], h => by simp at h

/-- an array of numbers compared -/
theorem run_equalIn_ints {P : Program} (w : World) (d : Nat) (t e : TypeId) (n : Nat) (ht : P.underlying t = some (.array n e)) (he : P.underlying e = some (.int .i64)) (hsz : ∀ w, (sizeOf e).run P w = .ok 1 w)
    (xs ys : List Int) (hx : xs.length = n) (hy : ys.length = n) :
    (Op.equalIn (d + 2) t (.agg (i64s xs).toArray) (.agg (i64s ys).toArray)).run P w = .ok (xs == ys) w := by
  rw [← all_range_eqI xs ys (hx.trans hy.symm), hx, List.range_eq_range', Op.equalIn]
  simp only [Sem.run_bind, run_underlying ht, Result.andThen_ok, hsz, Std.Legacy.Range.forIn_eq_forIn_range', Std.Legacy.Range.size, Nat.sub_zero, Nat.add_sub_cancel, Nat.div_one]
  have hl : ∀ i ∈ List.range' 0 n 1, i < n := fun i hi => by simpa using (List.mem_range'_1.1 hi).2
  generalize List.range' 0 n 1 = l at hl ⊢
  induction l with
  | nil => simp
  | cons i l ih =>
    have hi : i < n := hl i (by simp)
    have px : (part e (i64s xs).toArray (i * 1)).run P w = .ok (.int .i64 (xs.getD i 0)) w := by
      simp [part, isAgg, run_underlying he, List.getD, List.getElem?_eq_getElem (show i < xs.length by omega)]
    have py : (part e (i64s ys).toArray (i * 1)).run P w = .ok (.int .i64 (ys.getD i 0)) w := by
      simp [part, isAgg, run_underlying he, List.getD, List.getElem?_eq_getElem (show i < ys.length by omega)]
    have pe : (Op.equalIn (d + 1) e (.int .i64 (xs.getD i 0)) (.int .i64 (ys.getD i 0))).run P w = .ok (xs.getD i 0 == ys.getD i 0) w := run_equalIn_int w d e .i64 .i64 _ _ he
    simp only [List.forIn_cons, Sem.run_bind, px, py, pe, Result.andThen_ok, List.all_cons]
    cases hb : (xs.getD i 0 == ys.getD i 0)
    · simp
    · simp only [Bool.not_true, Bool.false_eq_true, if_false, Sem.run_pure, Result.andThen_ok, Bool.true_and]
      exact ih fun j hj => hl j (by simp [hj])

theorem guard_nums : Tryd.prog.eqGuardType Tryd.prog.depth 100 = false := by kernel_rfl
theorem nums_equal (xs ys : List Int) (hx : xs.length = 10) (hy : ys.length = 10) (w : World) : (Op.equalIn 10000 100 (.agg (i64s xs).toArray) (.agg (i64s ys).toArray)).run Tryd.prog w = .ok (xs == ys) w := by
  obtain ⟨i0, hi, _, hz1, _⟩ := info_parts info_i64
  exact run_equalIn_ints w 9998 100 2 10 Tryd.underlying100 Tryd.underlying2 (size_of_info hi hz1) xs ys hx hy

set_option maxRecDepth 100000 in
set_option maxHeartbeats 4000000 in
theorem Same_p_any (x y : Pm.Pl) (A : Option Addr) (n c : Nat) (A' : Option Addr) (n' c' : Nat) (B : Nat) (D : Option Addr) (m d : Nat) (D' : Option Addr) (m' d' : Nat) (B2 : Nat) (w : World)
    (hp : PlAt w B x A n c A' n' c') (hq : PlAt w B2 y D m d D' m' d') (hB : B ≤ w.heap.size) (hB2 : B2 ≤ w.heap.size) :
    Calls Tryd.prog 53 #[pv x A n c A' n' c', pv y D m d D' m' d'] w fun e w' => e = .returned (.bool (Pm.same x y)) ∧ Below w.heap.size w w' := by
  have HP := Lib.hid hp
  have HQ := Lib.hid hq
  have b0 := Bx.new w x A n c A' n' c' 27
  have hb0 : Below w.heap.size w (w.alloc (.cells (pvs x A n c A' n' c').toArray 27)) := (Below.refl _ w).alloc (Nat.le_refl _) _
  have hNX := Lib.hid (fun W => numbersOf_any x A n c A' n' c' W HP.out.ok)
  have hNY := Lib.hid (fun W => numbersOf_any y D m d D' m' d' W HQ.out.ok)
  clear hp hq
  rw [pv_eq] at hNX hNY
  rw [pv_eq, pv_eq]
  have hz1 : (w.alloc (.cells (pvs x A n c A' n' c').toArray 27)).heap.size = w.heap.size + 1 := World.size_alloc ..
  generalize hw1 : w.alloc (.cells (pvs x A n c A' n' c').toArray 27) = w1 at *
  have b1 := Bx.new w1 y D m d D' m' d' 27
  have b0' : Bx (w1.alloc (.cells (pvs y D m d D' m' d').toArray 27)) w.heap.size x A n c A' n' c' := b0.below (B := w.heap.size + 1) ((Below.refl _ w1).alloc (by omega) _) (Nat.lt_succ_self _)
  have hb1 : Below w.heap.size w (w1.alloc (.cells (pvs y D m d D' m' d').toArray 27)) := hb0.alloc (by omega) _
  rw [hz1] at b1
  have hz2 : (w1.alloc (.cells (pvs y D m d D' m' d').toArray 27)).heap.size = w.heap.size + 2 := by rw [World.size_alloc, hz1]
  subst hw1
  have HX := Lib.hid (fun (W : World) (h : Below (w.heap.size + 2) ((w.alloc (.cells (pvs x A n c A' n' c').toArray 27)).alloc (.cells (pvs y D m d D' m' d').toArray 27)) W) => (b0'.below h (by omega) : Bx W w.heap.size x A n c A' n' c'))
  have HY := Lib.hid (fun (W : World) (h : Below (w.heap.size + 2) ((w.alloc (.cells (pvs x A n c A' n' c').toArray 27)).alloc (.cells (pvs y D m d D' m' d').toArray 27)) W) => (b1.below h (by omega) : Bx W (w.heap.size + 1) y D m d D' m' d'))
  have HRX : Hid (∀ (W : World), Below (w.heap.size + 2) ((w.alloc (.cells (pvs x A n c A' n' c').toArray 27)).alloc (.cells (pvs y D m d D' m' d').toArray 27)) W → W.rangeAt w.heap.size 0 (pvs x A n c A' n' c')) := HX.out
  have HRY : Hid (∀ (W : World), Below (w.heap.size + 2) ((w.alloc (.cells (pvs x A n c A' n' c').toArray 27)).alloc (.cells (pvs y D m d D' m' d').toArray 27)) W → W.rangeAt (w.heap.size + 1) 0 (pvs y D m d D' m' d')) := HY.out
  have hl1 : Hid ((Tryd.prog.info? 27).map (·.size) = some (pvs x A n c A' n' c').length) := info_plan
  have hl2 : Hid ((Tryd.prog.info? 27).map (·.size) = some (pvs y D m d D' m' d').length) := info_plan
  generalize pvs x A n c A' n' c' = L at *
  generalize pvs y D m d D' m' d' = M at *
  have HB1 := Lib.hid hb1
  have HZ2 := Lib.hid hz2
  clear b0 b0' b1 hb0 hb1 hz1 hz2
  have hEN := Lib.hid (fun W => nums_equal x.nums y.nums rfl rfl W)
  have HS : Hid (Pm.same x y = Pm.ask (x.nums = y.nums ∧ x.pen = y.pen ∧ x.ch = y.ch)) := by
    by_cases e : x = y
    · rw [show Pm.same x y = true from Pm.ask_yes e, Pm.ask_yes ⟨by rw [e], by rw [e], by rw [e]⟩]; exact Lib.hid rfl
    · rw [show Pm.same x y = false from Pm.ask_no e, Pm.ask_no (fun h => e (Pm.nums_inj HP.out.ok HQ.out.ok h.1 h.2.1 h.2.2))]; exact Lib.hid rfl
  have hgd := guard_nums
  go_enter Tryd.func53, Tryd.ntmps53
  go_wp2_with fail
  refine region_C (fun W => Below (w.heap.size + 2) ((w.alloc (.cells L.toArray 27)).alloc (.cells M.toArray 27)) W) (by kernel_rfl) ?_
  have hC : Below (w.heap.size + 2) ((w.alloc (.cells L.toArray 27)).alloc (.cells M.toArray 27)) ((w.alloc (.cells L.toArray 27)).alloc (.cells M.toArray 27)).drew := (Below.refl _ _).drew
  refine anyC_take (i := 0) (v := ?v0_56) (a' := ?a0_56) rfl (by kernel_rfl) (by kernel_rfl) (by kernel_rfl) (fun _ _ _ h => h) hC ?w0_56 ?y0_56 ?f0_56 ?r0_56
  case w0_56 => kernel_rfl
  case y0_56 => (intro W hW; exact by refine exec_load 27 (.tmp 2) ?_ w.heap.size ?_ L _ (HRX.out _ hW) Tryd.underlying27 rfl hl1.out <;> rfl)
  case f0_56 => (go_simp; try with_reducible rfl)
  refine anyC_take (i := 2) (v := ?v2_57) (a' := ?a2_57) rfl (by kernel_rfl) (by kernel_rfl) (by kernel_rfl) (fun _ _ _ h => h) hC ?w2_57 ?y2_57 ?f2_57 ?r2_57
  case w2_57 => kernel_rfl
  case y2_57 => (intro W hW; exact by refine exec_load 27 (.tmp 3) ?_ (w.heap.size + 1) ?_ M _ (HRY.out _ hW) Tryd.underlying27 rfl hl2.out <;> rfl)
  case f2_57 => (go_simp; try with_reducible rfl)
  refine anyC_one (i := 1) rfl (by kernel_rfl) (by kernel_rfl) (fun K hK => ?_)
  go_simp
  refine (hNX.out _).mono ?_
  rintro e w2 ⟨rfl, hb2⟩
  have hC2 : Below (w.heap.size + 2) ((w.alloc (.cells L.toArray 27)).alloc (.cells M.toArray 27)) w2 := hC.trans (hb2.mono (by simp))
  refine hK _ _ ⟨hC2, ?_⟩
  clear hK K hb2 hC
  refine anyC_one (i := 3) rfl (by kernel_rfl) (by kernel_rfl) (fun K hK => ?_)
  go_simp
  refine (hNY.out _).mono ?_
  rintro e w3 ⟨rfl, hb3⟩
  have hz2 := hC2.size
  rw [HZ2.out] at hz2
  have hC3 : Below (w.heap.size + 2) ((w.alloc (.cells L.toArray 27)).alloc (.cells M.toArray 27)) w3 := hC2.trans (hb3.mono hz2)
  refine hK _ _ ⟨hC3, ?_⟩
  clear hK K hb3 hC2 hz2
  have hbw := HB1.out.trans (hC3.mono (by omega))
  have HE1 := Lib.hid (equalI_any A D n m c d B B2 x.pen y.pen w3 (HP.out.r1.below (hbw.mono hB)) (HQ.out.r1.below (hbw.mono hB2)) HP.out.l1 HQ.out.l1 (Nat.le_trans HP.out.c1 HP.out.m1))
  have HE2 := Lib.hid (equalL_any A' D' n' m' c' d' B B2 x.ch y.ch w3 (HP.out.r2.below (hbw.mono hB)) (HQ.out.r2.below (hbw.mono hB2)) HP.out.l2 HQ.out.l2 (Nat.le_trans HP.out.c2 HP.out.m2))
  generalize x.nums = xs at *
  generalize y.nums = ys at *
  by_cases e1 : xs = ys
  · have hbe : (xs == ys) = true := by rw [beq_iff_eq]; exact e1
    rw [hbe] at hEN
    have E1 := Lib.hid e1
    clear hbe e1
    refine anyC_take (i := 4) (v := ?v4_58) (a' := ?a4_58) rfl (by kernel_rfl) (by kernel_rfl) (by kernel_rfl) (fun _ _ _ h => h) hC3 ?w4_58 ?y4_58 ?f4_58 ?r4_58
    case w4_58 => kernel_rfl
    case y4_58 => (intro w hC; have h4 := hEN.out w; go_simp; try with_reducible rfl)
    case f4_58 => (go_simp; try with_reducible rfl)
    refine anyC_take (i := 5) (v := ?v5_59) (a' := ?a5_59) rfl (by kernel_rfl) (by kernel_rfl) (by kernel_rfl) (fun _ _ _ h => h) hC3 ?w5_59 ?y5_59 ?f5_59 ?r5_59
    case w5_59 => kernel_rfl
    case y5_59 => (intro w hC; go_simp; try with_reducible rfl)
    case f5_59 => (go_simp; try with_reducible rfl)
    refine anyC_take (i := 6) (v := ?v6_60) (a' := ?a6_60) rfl (by kernel_rfl) (by kernel_rfl) (by kernel_rfl) (fun _ _ _ h => h) hC3 ?w6_60 ?y6_60 ?f6_60 ?r6_60
    case w6_60 => kernel_rfl
    case y6_60 => (intro w hC; go_simp; try with_reducible rfl)
    case f6_60 => (go_simp; try with_reducible rfl)
    refine anyC_take (i := 8) (v := ?v8_61) (a' := ?a8_61) rfl (by kernel_rfl) (by kernel_rfl) (by kernel_rfl) (fun _ _ _ h => h) hC3 ?w8_61 ?y8_61 ?f8_61 ?r8_61
    case w8_61 => kernel_rfl
    case y8_61 => (intro w hC; go_simp; try with_reducible rfl)
    case f8_61 => (go_simp; try with_reducible rfl)
    refine anyC_take (i := 7) (v := ?v7_62) (a' := ?a7_62) rfl (by kernel_rfl) (by kernel_rfl) (by kernel_rfl) (fun _ _ _ h => h) hC3 ?w7_62 ?y7_62 ?f7_62 ?r7_62
    case w7_62 => kernel_rfl
    case y7_62 => (intro w hC; have h4 := (HX.out w hC).pen; go_simp; try with_reducible rfl)
    case f7_62 => (go_simp; try with_reducible rfl)
    refine anyC_take (i := 9) (v := ?v9_63) (a' := ?a9_63) rfl (by kernel_rfl) (by kernel_rfl) (by kernel_rfl) (fun _ _ _ h => h) hC3 ?w9_63 ?y9_63 ?f9_63 ?r9_63
    case w9_63 => kernel_rfl
    case y9_63 => (intro w hC; have h4 := (HY.out w hC).pen; go_simp; try with_reducible rfl)
    case f9_63 => (go_simp; try with_reducible rfl)
    refine anyC_one (i := 10) rfl (by kernel_rfl) (by kernel_rfl) (fun K hK => ?_)
    go_simp
    refine HE1.out.mono ?_
    rintro e w4 ⟨rfl, rfl⟩
    refine hK _ _ ⟨hC3, ?_⟩
    clear hK K
    by_cases p1 : x.pen = y.pen
    · have HS2 : Hid (Pm.same x y = Pm.ask (x.ch = y.ch)) := by
        by_cases p2 : x.ch = y.ch
        · rw [Pm.ask_yes p2]; exact HS.out.trans (Pm.ask_yes ⟨E1.out, p1, p2⟩)
        · rw [Pm.ask_no p2]; exact HS.out.trans (Pm.ask_no (fun h => p2 h.2.2))
      rw [Pm.ask_yes p1]
      clear p1
      generalize Pm.ask (x.ch = y.ch) = bq at *
      refine anyC_take (i := 11) (v := ?v11_64) (a' := ?a11_64) rfl (by kernel_rfl) (by kernel_rfl) (by kernel_rfl) (fun _ _ _ h => h) hC3 ?w11_64 ?y11_64 ?f11_64 ?r11_64
      case w11_64 => kernel_rfl
      case y11_64 => (intro w hC; go_simp; try with_reducible rfl)
      case f11_64 => (go_simp; try with_reducible rfl)
      refine anyC_take (i := 12) (v := ?v12_65) (a' := ?a12_65) rfl (by kernel_rfl) (by kernel_rfl) (by kernel_rfl) (fun _ _ _ h => h) hC3 ?w12_65 ?y12_65 ?f12_65 ?r12_65
      case w12_65 => kernel_rfl
      case y12_65 => (intro w hC; go_simp; try with_reducible rfl)
      case f12_65 => (go_simp; try with_reducible rfl)
      refine anyC_take (i := 13) (v := ?v13_66) (a' := ?a13_66) rfl (by kernel_rfl) (by kernel_rfl) (by kernel_rfl) (fun _ _ _ h => h) hC3 ?w13_66 ?y13_66 ?f13_66 ?r13_66
      case w13_66 => kernel_rfl
      case y13_66 => (intro w hC; go_simp; try with_reducible rfl)
      case f13_66 => (go_simp; try with_reducible rfl)
      refine anyC_take (i := 15) (v := ?v15_67) (a' := ?a15_67) rfl (by kernel_rfl) (by kernel_rfl) (by kernel_rfl) (fun _ _ _ h => h) hC3 ?w15_67 ?y15_67 ?f15_67 ?r15_67
      case w15_67 => kernel_rfl
      case y15_67 => (intro w hC; go_simp; try with_reducible rfl)
      case f15_67 => (go_simp; try with_reducible rfl)
      refine anyC_take (i := 14) (v := ?v14_68) (a' := ?a14_68) rfl (by kernel_rfl) (by kernel_rfl) (by kernel_rfl) (fun _ _ _ h => h) hC3 ?w14_68 ?y14_68 ?f14_68 ?r14_68
      case w14_68 => kernel_rfl
      case y14_68 => (intro w hC; have h4 := (HX.out w hC).ch; go_simp; try with_reducible rfl)
      case f14_68 => (go_simp; try with_reducible rfl)
      refine anyC_take (i := 16) (v := ?v16_69) (a' := ?a16_69) rfl (by kernel_rfl) (by kernel_rfl) (by kernel_rfl) (fun _ _ _ h => h) hC3 ?w16_69 ?y16_69 ?f16_69 ?r16_69
      case w16_69 => kernel_rfl
      case y16_69 => (intro w hC; have h4 := (HY.out w hC).ch; go_simp; try with_reducible rfl)
      case f16_69 => (go_simp; try with_reducible rfl)
      refine anyC_one (i := 17) rfl (by kernel_rfl) (by kernel_rfl) (fun K hK => ?_)
      go_simp
      refine HE2.out.mono ?_
      rintro e w5 ⟨rfl, rfl⟩
      refine hK _ _ ⟨hC3, ?_⟩
      clear hK K
      refine anyC_take (i := 18) (v := ?v18_70) (a' := ?a18_70) rfl (by kernel_rfl) (by kernel_rfl) (by kernel_rfl) (fun _ _ _ h => h) hC3 ?w18_70 ?y18_70 ?f18_70 ?r18_70
      case w18_70 => kernel_rfl
      case y18_70 => (intro w hC; go_simp; try with_reducible rfl)
      case f18_70 => (go_simp; try with_reducible rfl)
      refine anyC_take (i := 19) (v := ?v19_71) (a' := ?a19_71) rfl (by kernel_rfl) (by kernel_rfl) (by kernel_rfl) (fun _ _ _ h => h) hC3 ?w19_71 ?y19_71 ?f19_71 ?r19_71
      case w19_71 => kernel_rfl
      case y19_71 => (intro w hC; go_simp; try with_reducible rfl)
      case f19_71 => (go_simp; try with_reducible rfl)
      refine anyC_done (by kernel_rfl) ?_
      go_wp2
      go_ret
      exact ⟨ret_bool HS2.out.symm, hbw⟩
    · have HF : Hid (Pm.same x y = false) := HS.out.trans (Pm.ask_no (fun h => p1 h.2.1))
      rw [Pm.ask_no p1]
      clear p1
      refine anyC_take (i := 11) (v := ?v11_72) (a' := ?a11_72) rfl (by kernel_rfl) (by kernel_rfl) (by kernel_rfl) (fun _ _ _ h => h) hC3 ?w11_72 ?y11_72 ?f11_72 ?r11_72
      case w11_72 => kernel_rfl
      case y11_72 => (intro w hC; go_simp; try with_reducible rfl)
      case f11_72 => (go_simp; try with_reducible rfl)
      refine anyC_take (i := 12) (v := ?v12_73) (a' := ?a12_73) rfl (by kernel_rfl) (by kernel_rfl) (by kernel_rfl) (fun _ _ _ h => h) hC3 ?w12_73 ?y12_73 ?f12_73 ?r12_73
      case w12_73 => kernel_rfl
      case y12_73 => (intro w hC; go_simp; try with_reducible rfl)
      case f12_73 => (go_simp; try with_reducible rfl)
      refine anyC_skip (i := 13) (a' := ?a13_74) rfl (by kernel_rfl) (by kernel_rfl) (by kernel_rfl) (fun _ _ _ h => h) hC3 (by kernel_rfl) ?f13_74 ?r13_74
      case f13_74 => (go_simp; try with_reducible rfl)
      refine anyC_skip (i := 14) (a' := ?a14_75) rfl (by kernel_rfl) (by kernel_rfl) (by kernel_rfl) (fun _ _ _ h => h) hC3 (by kernel_rfl) ?f14_75 ?r14_75
      case f14_75 => (go_simp; try with_reducible rfl)
      refine anyC_skip (i := 15) (a' := ?a15_76) rfl (by kernel_rfl) (by kernel_rfl) (by kernel_rfl) (fun _ _ _ h => h) hC3 (by kernel_rfl) ?f15_76 ?r15_76
      case f15_76 => (go_simp; try with_reducible rfl)
      refine anyC_skip (i := 16) (a' := ?a16_77) rfl (by kernel_rfl) (by kernel_rfl) (by kernel_rfl) (fun _ _ _ h => h) hC3 (by kernel_rfl) ?f16_77 ?r16_77
      case f16_77 => (go_simp; try with_reducible rfl)
      refine anyC_skip (i := 17) (a' := ?a17_78) rfl (by kernel_rfl) (by kernel_rfl) (by kernel_rfl) (fun _ _ _ h => h) hC3 (by kernel_rfl) ?f17_78 ?r17_78
      case f17_78 => (go_simp; try with_reducible rfl)
      refine anyC_take (i := 18) (v := ?v18_79) (a' := ?a18_79) rfl (by kernel_rfl) (by kernel_rfl) (by kernel_rfl) (fun _ _ _ h => h) hC3 ?w18_79 ?y18_79 ?f18_79 ?r18_79
      case w18_79 => kernel_rfl
      case y18_79 => (intro w hC; go_simp; try with_reducible rfl)
      case f18_79 => (go_simp; try with_reducible rfl)
      refine anyC_take (i := 19) (v := ?v19_80) (a' := ?a19_80) rfl (by kernel_rfl) (by kernel_rfl) (by kernel_rfl) (fun _ _ _ h => h) hC3 ?w19_80 ?y19_80 ?f19_80 ?r19_80
      case w19_80 => kernel_rfl
      case y19_80 => (intro w hC; go_simp; try with_reducible rfl)
      case f19_80 => (go_simp; try with_reducible rfl)
      refine anyC_done (by kernel_rfl) ?_
      go_wp2
      go_ret
      exact ⟨ret_bool HF.out.symm, hbw⟩
  · have hbe : (xs == ys) = false := by rw [beq_eq_false_iff_ne]; exact e1
    rw [hbe] at hEN
    have HF : Hid (Pm.same x y = false) := HS.out.trans (Pm.ask_no (fun h => e1 h.1))
    clear hbe e1
    refine anyC_take (i := 4) (v := ?v4_81) (a' := ?a4_81) rfl (by kernel_rfl) (by kernel_rfl) (by kernel_rfl) (fun _ _ _ h => h) hC3 ?w4_81 ?y4_81 ?f4_81 ?r4_81
    case w4_81 => kernel_rfl
    case y4_81 => (intro w hC; have h4 := hEN.out w; go_simp; try with_reducible rfl)
    case f4_81 => (go_simp; try with_reducible rfl)
    refine anyC_take (i := 5) (v := ?v5_82) (a' := ?a5_82) rfl (by kernel_rfl) (by kernel_rfl) (by kernel_rfl) (fun _ _ _ h => h) hC3 ?w5_82 ?y5_82 ?f5_82 ?r5_82
    case w5_82 => kernel_rfl
    case y5_82 => (intro w hC; go_simp; try with_reducible rfl)
    case f5_82 => (go_simp; try with_reducible rfl)
    refine anyC_skip (i := 6) (a' := ?a6_83) rfl (by kernel_rfl) (by kernel_rfl) (by kernel_rfl) (fun _ _ _ h => h) hC3 (by kernel_rfl) ?f6_83 ?r6_83
    case f6_83 => (go_simp; try with_reducible rfl)
    refine anyC_skip (i := 7) (a' := ?a7_84) rfl (by kernel_rfl) (by kernel_rfl) (by kernel_rfl) (fun _ _ _ h => h) hC3 (by kernel_rfl) ?f7_84 ?r7_84
    case f7_84 => (go_simp; try with_reducible rfl)
    refine anyC_skip (i := 8) (a' := ?a8_85) rfl (by kernel_rfl) (by kernel_rfl) (by kernel_rfl) (fun _ _ _ h => h) hC3 (by kernel_rfl) ?f8_85 ?r8_85
    case f8_85 => (go_simp; try with_reducible rfl)
    refine anyC_skip (i := 9) (a' := ?a9_86) rfl (by kernel_rfl) (by kernel_rfl) (by kernel_rfl) (fun _ _ _ h => h) hC3 (by kernel_rfl) ?f9_86 ?r9_86
    case f9_86 => (go_simp; try with_reducible rfl)
    refine anyC_skip (i := 10) (a' := ?a10_87) rfl (by kernel_rfl) (by kernel_rfl) (by kernel_rfl) (fun _ _ _ h => h) hC3 (by kernel_rfl) ?f10_87 ?r10_87
    case f10_87 => (go_simp; try with_reducible rfl)
    refine anyC_take (i := 11) (v := ?v11_88) (a' := ?a11_88) rfl (by kernel_rfl) (by kernel_rfl) (by kernel_rfl) (fun _ _ _ h => h) hC3 ?w11_88 ?y11_88 ?f11_88 ?r11_88
    case w11_88 => kernel_rfl
    case y11_88 => (intro w hC; go_simp; try with_reducible rfl)
    case f11_88 => (go_simp; try with_reducible rfl)
    refine anyC_take (i := 12) (v := ?v12_89) (a' := ?a12_89) rfl (by kernel_rfl) (by kernel_rfl) (by kernel_rfl) (fun _ _ _ h => h) hC3 ?w12_89 ?y12_89 ?f12_89 ?r12_89
    case w12_89 => kernel_rfl
    case y12_89 => (intro w hC; go_simp; try with_reducible rfl)
    case f12_89 => (go_simp; try with_reducible rfl)
    refine anyC_skip (i := 13) (a' := ?a13_90) rfl (by kernel_rfl) (by kernel_rfl) (by kernel_rfl) (fun _ _ _ h => h) hC3 (by kernel_rfl) ?f13_90 ?r13_90
    case f13_90 => (go_simp; try with_reducible rfl)
    refine anyC_skip (i := 14) (a' := ?a14_91) rfl (by kernel_rfl) (by kernel_rfl) (by kernel_rfl) (fun _ _ _ h => h) hC3 (by kernel_rfl) ?f14_91 ?r14_91
    case f14_91 => (go_simp; try with_reducible rfl)
    refine anyC_skip (i := 15) (a' := ?a15_92) rfl (by kernel_rfl) (by kernel_rfl) (by kernel_rfl) (fun _ _ _ h => h) hC3 (by kernel_rfl) ?f15_92 ?r15_92
    case f15_92 => (go_simp; try with_reducible rfl)
    refine anyC_skip (i := 16) (a' := ?a16_93) rfl (by kernel_rfl) (by kernel_rfl) (by kernel_rfl) (fun _ _ _ h => h) hC3 (by kernel_rfl) ?f16_93 ?r16_93
    case f16_93 => (go_simp; try with_reducible rfl)
    refine anyC_skip (i := 17) (a' := ?a17_94) rfl (by kernel_rfl) (by kernel_rfl) (by kernel_rfl) (fun _ _ _ h => h) hC3 (by kernel_rfl) ?f17_94 ?r17_94
    case f17_94 => (go_simp; try with_reducible rfl)
    refine anyC_take (i := 18) (v := ?v18_95) (a' := ?a18_95) rfl (by kernel_rfl) (by kernel_rfl) (by kernel_rfl) (fun _ _ _ h => h) hC3 ?w18_95 ?y18_95 ?f18_95 ?r18_95
    case w18_95 => kernel_rfl
    case y18_95 => (intro w hC; go_simp; try with_reducible rfl)
    case f18_95 => (go_simp; try with_reducible rfl)
    refine anyC_take (i := 19) (v := ?v19_96) (a' := ?a19_96) rfl (by kernel_rfl) (by kernel_rfl) (by kernel_rfl) (fun _ _ _ h => h) hC3 ?w19_96 ?y19_96 ?f19_96 ?r19_96
    case w19_96 => kernel_rfl
    case y19_96 => (intro w hC; go_simp; try with_reducible rfl)
    case f19_96 => (go_simp; try with_reducible rfl)
    refine anyC_done (by kernel_rfl) ?_
    go_wp2
    go_ret
    exact ⟨ret_bool HF.out.symm, hbw⟩
end Go.Proofs.YtpgfnhdaembhmaaDoor

/- Three lists read one behind the other: the program's. -/
namespace Go.Proofs.YtpgfnhdaembhmaaDoor
open Go.RowKit Go.Shelf

theorem grown_set (b : Nat) : ∀ (vs : List Value) (o : Nat) (W : World), W.grownBy (W.setCells b o vs) (some b)
  | [], _, W => ⟨rfl, rfl, rfl, Nat.le_refl _, fun _ _ _ => rfl⟩
  | v :: r, o, W => by
    rw [World.setCells]
    have h1 : W.grownBy (W.setCell ⟨b, o, none⟩ v) (some b) := ⟨rfl, rfl, rfl, (KeepsWalks.setCell W _ v).size, fun k _ hk => Below.heap_setCell _ _ _ k (fun e => hk (by rw [e]))⟩
    exact h1.trans (grown_set b r (o + 1) _)
theorem grown_set1 (b o : Nat) (v : Value) (W : World) : W.grownBy (W.setCell ⟨b, o, none⟩ v) (some b) :=
  ⟨rfl, rfl, rfl, (KeepsWalks.setCell W _ v).size, fun k _ hk => Below.heap_setCell _ _ _ k (fun e => hk (by rw [e]))⟩
theorem own_grown {w w' : World} {base : Nat} {e : TypeId} {v : Value} {n b : Nat} {xs : List Value} (h : w.ownsRow base e 1 v n xs) (hg : w.grownBy w' (some b)) (hb : b < base) : w'.ownsRow base e 1 v n xs := by
  refine h.kept hg ?_
  cases hv : v.ownBlock with
  | none => exact .inl rfl
  | some k => exact .inr (fun e => by injection e with e; have := (h.lt k hv).1; omega)
theorem below_grown {B b : Nat} {w0 w w' : World} (h : Below B w0 w) (hg : w.grownBy w' (some b)) (hb : B ≤ b) (hB : B ≤ w.heap.size) : Below B w0 w' :=
  h.grown hg hB (fun k hk => by injection hk with hk; omega)

namespace Pm
/-- the lists that stand one behind the other from the beginning on, and where the last one ends -/
def Reads (b : List Int) : List (List Int) → Nat → Prop
  | [], to => to = 0
  | [l], to => Wm.rints b 0 = (l, (to : Int), 0)
  | [l, m], to => ∃ n : Nat, Wm.rints b 0 = (l, (n : Int), 0) ∧ Wm.rints b (n : Int) = (m, (to : Int), 0)
  | [l, m, o], to => ∃ n k : Nat, Wm.rints b 0 = (l, (n : Int), 0) ∧ Wm.rints b (n : Int) = (m, (k : Int), 0) ∧ Wm.rints b (k : Int) = (o, (to : Int), 0)
  | _, _ => False
theorem Reads.err {b : List Int} {ls : List (List Int)} {to : Nat} (h : Reads b ls to) (hl : ls.length < 3) (he : (Wm.rints b (to : Int)).2.2 ≠ 0) : get3 b = none := by
  match ls, hl with
  | [], _ => cases h; exact get3_err0 he
  | [l], _ => exact get3_err1 h he
  | [l, m], _ =>
    obtain ⟨n, h0, h1⟩ := h
    exact get3_err2 h0 h1 he
theorem Reads.more {b : List Int} {ls : List (List Int)} {to to' : Nat} {l : List Int} (h : Reads b ls to) (hl : ls.length < 3) (he : Wm.rints b (to : Int) = (l, (to' : Int), 0)) : Reads b (ls ++ [l]) to' := by
  match ls, hl with
  | [], _ => cases h; exact he
  | [m], _ => exact ⟨to, h, he⟩
  | [m, o], _ =>
    obtain ⟨n, h0, h1⟩ := h
    exact ⟨n, to, h0, h1, he⟩
theorem Reads.done {b : List Int} {ls : List (List Int)} {to : Nat} (h : Reads b ls to) (hl : ls.length = 3) : ∃ l m o, ls = [l, m, o] ∧ (to = b.length → get3 b = some (l, m, o)) ∧ (to ≠ b.length → get3 b = none) := by
  match ls, hl with
  | [l, m, o], _ =>
    obtain ⟨n, k, h0, h1, h2⟩ := h
    exact ⟨l, m, o, rfl, fun e => get3_ok h0 h1 h2 e, fun e => get3_more h0 h1 h2 e⟩
end Pm

theorem frozen_new (w : World) (cs : Array Value) (t : TypeId) {b j : Nat} (hb : b = w.heap.size) : (w.alloc (.cells cs t)).frozen? ⟨b, j, none⟩ = false := by
  subst hb
  unfold World.frozen?
  rw [heap_alloc_new]
  simp

/-- three slices in block b; the first ones are rows of their own with these numbers -/
structure Lst (w : World) (b : Nat) (ls : List (List Int)) (vs : List Value) : Prop where
  len : vs.length = 3
  lay : w.rangeAt b 0 vs
  free : ∀ j, j < 3 → w.frozen? ⟨b, j, none⟩ = false
  form : ∀ j, j < 3 → ∃ A n c, vs[j]? = some (.slice A n c)
  own : ∀ (j : Nat) (l : List Int), ls[j]? = some l → ∃ v, vs[j]? = some v ∧ w.ownsRow (b + 1) 2 1 v l.length (i64s l)

theorem frozen_below {B : Nat} {w w' : World} (hb : Below B w w') {a : Addr} (ha : a.block < B) : w'.frozen? a = w.frozen? a := hb.frozen ha

theorem Lst.below {w w' : World} {b : Nat} {ls : List (List Int)} {vs : List Value} (h : Lst w b ls vs) (hb : Below w.heap.size w w') (hlt : b < w.heap.size) : Lst w' b ls vs :=
  ⟨h.len, fun j v hv => by rw [hb.cell (by exact hlt)]; exact h.lay j v hv, fun j hj => by rw [frozen_below hb (by exact hlt)]; exact h.free j hj, h.form,
    fun j l hl => by
      obtain ⟨v, hv, ho⟩ := h.own j l hl
      exact ⟨v, hv, own_below ho hb (Nat.le_refl _)⟩⟩
theorem Lst.other {w w' : World} {b b2 : Nat} {ls : List (List Int)} {vs : List Value} (h : Lst w b ls vs) (hg : w.grownBy w' (some b2)) (hne : b2 < b) (hlt : b < w.heap.size) : Lst w' b ls vs := by
  have hblk : w'.heap[b]? = w.heap[b]? := hg.block b hlt (fun e => by injection e with e; omega)
  exact ⟨h.len, fun j v hv => by rw [World.cell?_of_block hblk]; exact h.lay j v hv, fun j hj => by rw [World.frozen?_of_block hblk]; exact h.free j hj, h.form,
    fun j l hl => by
      obtain ⟨v, hv, ho⟩ := h.own j l hl
      exact ⟨v, hv, own_grown ho hg (by omega)⟩⟩
theorem Lst.cell {w : World} {b : Nat} {ls : List (List Int)} {vs : List Value} (h : Lst w b ls vs) {j : Nat} (hj : j < 3) : ∃ v, w.cell? ⟨b, j, none⟩ = some v := by
  obtain ⟨A, n, c, hv⟩ := h.form j hj
  have := h.lay j _ hv
  rw [Nat.zero_add] at this
  exact ⟨_, this⟩
theorem Lst.set {w : World} {b : Nat} {ls : List (List Int)} {vs : List Value} (h : Lst w b ls vs) {A : Option Addr} {c : Nat} {l : List Int} (hk : ls.length < 3) (ho : w.ownsRow (b + 1) 2 1 (.slice A l.length c) l.length (i64s l)) :
    Lst (w.setCell ⟨b, ls.length, none⟩ (.slice A l.length c)) b (ls ++ [l]) (vs.set ls.length (.slice A l.length c)) := by
  have hg := grown_set1 b ls.length (.slice A l.length c) w
  refine ⟨by rw [List.length_set]; exact h.len, fun j v hv => ?_, fun j hj => by rw [World.frozen?_setCell]; exact h.free j hj, fun j hj => ?_, fun j m hm => ?_⟩
  · rw [List.getElem?_set] at hv
    obtain ⟨u, hu⟩ := h.cell hk
    by_cases e : ls.length = j
    · subst e
      rw [if_pos rfl, if_pos (by rw [h.len]; exact hk)] at hv
      rw [Nat.zero_add, World.cell?_setCell_same _ _ _ hu]
      exact hv
    · rw [if_neg e] at hv
      rw [World.cell?_setCell_other _ _ _ _ (fun q => e (by injection q with _ q; omega))]
      exact h.lay j v hv
  · rw [List.getElem?_set]
    by_cases e : ls.length = j
    · rw [if_pos e, if_pos (by rw [h.len]; exact hk)]; exact ⟨_, _, _, rfl⟩
    · rw [if_neg e]; exact h.form j hj
  · rw [List.getElem?_set]
    by_cases e : ls.length = j
    · subst e
      rw [List.getElem?_append_right (Nat.le_refl _), Nat.sub_self] at hm
      cases hm
      exact ⟨_, by rw [if_pos rfl, if_pos (by rw [h.len]; exact hk)], own_grown ho hg (Nat.lt_succ_self _)⟩
    · have hj : j < (ls ++ [l]).length := (List.getElem?_eq_some_iff.1 hm).1
      rw [List.length_append, List.length_singleton] at hj
      rw [List.getElem?_append_left (by omega)] at hm
      obtain ⟨v, hv, ho'⟩ := h.own j m hm
      exact ⟨v, by rw [if_neg e]; exact hv, own_grown ho' hg (Nat.lt_succ_self _)⟩

theorem info_three : (Tryd.prog.info? 107).map (·.size) = some 3 := by kernel_rfl

/-- what reading three lists gives -/
def Got3 (w0 w : World) (r : Option (List Int × List Int × List Int)) (v0 v1 v2 : Value) : Prop :=
  (∃ A n c, v0 = .slice A n c) ∧ (∃ A n c, v1 = .slice A n c) ∧ (∃ A n c, v2 = .slice A n c) ∧
  ∀ l m o, r = some (l, m, o) → w.ownsRow w0.heap.size 2 1 v0 l.length (i64s l) ∧ w.ownsRow w0.heap.size 2 1 v1 m.length (i64s m) ∧ w.ownsRow w0.heap.size 2 1 v2 o.length (i64s o)

theorem lst_three {w : World} {b : Nat} {ls : List (List Int)} {vs : List Value} (h : Lst w b ls vs) : ∃ v0 v1 v2, vs = [v0, v1, v2] ∧ (∃ A n c, v0 = .slice A n c) ∧ (∃ A n c, v1 = .slice A n c) ∧ (∃ A n c, v2 = .slice A n c) := by
  have hl := h.len
  match vs, hl with
  | [v0, v1, v2], _ =>
    obtain ⟨A0, n0, c0, h0⟩ := h.form 0 (by omega)
    obtain ⟨A1, n1, c1, h1⟩ := h.form 1 (by omega)
    obtain ⟨A2, n2, c2, h2⟩ := h.form 2 (by omega)
    cases h0; cases h1; cases h2
    exact ⟨_, _, _, rfl, ⟨_, _, _, rfl⟩, ⟨_, _, _, rfl⟩, ⟨_, _, _, rfl⟩⟩

theorem results_ct {P : Program} {fn : Func} {p u : Tmp} {ty : TypeId} (h : fn.results = #[.cell p ty, .tmp u]) (tmps : Array Value) (w : World) (b : Nat) (cs : List Value) (d : TypeDesc)
    (hp : tmps.getD p undef = .pointer (some ⟨b, 0, none⟩)) (hr : w.rangeAt b 0 cs) (hu : P.underlying ty = some d) (hd : d.isRow = true) (hi : (P.info? ty).map (·.size) = some cs.length) :
    (results fn tmps).run P w = .ok (.tuple #[.agg cs.toArray, tmps.getD u undef]) w := by
  have hp' : (asAddr (tmps.getD p undef)).run P w = .ok ⟨b, 0, none⟩ w := by rw [hp]; rfl
  rw [results_cell_tmp h, hp', Result.andThen_ok, run_loadVar_mid w b 0 ty cs d hr hu hd hi, Result.andThen_ok]

/-- the end of a reading: the three slices are handed out through the result's own block -/
theorem got_end {w w3 : World} {ls : List (List Int)} {vs : List Value} {r : Option (List Int × List Int × List Int)} (h : Lst w3 (w.heap.size + 1) ls vs) (hb : Below w.heap.size w w3) (hz : w.heap.size + 2 ≤ w3.heap.size)
    (hr : ∀ l m o, r = some (l, m, o) → ls = [l, m, o]) : ∃ v0 v1 v2, vs = [v0, v1, v2] ∧ Got3 w (w3.setCells w.heap.size 0 vs) r v0 v1 v2 ∧ Below w.heap.size w (w3.setCells w.heap.size 0 vs) := by
  obtain ⟨v0, v1, v2, hv, f0, f1, f2⟩ := lst_three h
  have h' := h.other (grown_set w.heap.size vs 0 w3) (Nat.lt_succ_self _) (by omega)
  refine ⟨v0, v1, v2, hv, ⟨f0, f1, f2, fun l m o e => ?_⟩, below_grown hb (grown_set w.heap.size vs 0 w3) (Nat.le_refl _) hb.size⟩
  have e2 := hr l m o e
  subst e2
  subst hv
  obtain ⟨u0, g0, o0⟩ := h'.own 0 l rfl
  obtain ⟨u1, g1, o1⟩ := h'.own 1 m rfl
  obtain ⟨u2, g2, o2⟩ := h'.own 2 o rfl
  cases g0; cases g1; cases g2
  exact ⟨own_mono o0 (by omega), own_mono o1 (by omega), own_mono o2 (by omega)⟩

theorem slices_one {w : World} {b : Nat} {ls : List (List Int)} {vs : List Value} (h : Lst w b ls vs) : vs.toArray.all (·.oneCell') = true := by
  obtain ⟨v0, v1, v2, rfl, ⟨_, _, _, rfl⟩, ⟨_, _, _, rfl⟩, ⟨_, _, _, rfl⟩⟩ := lst_three h
  simp [Value.oneCell']

set_option maxRecDepth 100000 in
set_option maxHeartbeats 4000000 in
theorem threeLists_any (A : Option Addr) (n cap B : Nat) (xs : List Int) (w : World) (hx : Rd w B A (u8s xs)) (hn : xs.length = n) (hnc : n ≤ cap) (hcap : cap ≤ maxLen) (hB : B ≤ w.heap.size) (hb : ∀ x ∈ xs, 0 ≤ x ∧ x ≤ 255) :
    Calls Tryd.prog 80 #[.slice A n cap] w fun e w' => ∃ v0 v1 v2, e = .returned (.tuple #[.agg #[v0, v1, v2], .bool (Pm.get3 xs).isSome]) ∧ Got3 w w' (Pm.get3 xs) v0 v1 v2 ∧ Below w.heap.size w w' := by
  have HX := Lib.hid hx
  have HN := Lib.hid hn
  have HB := Lib.hid hb
  have hcap' := hcap
  unfold maxLen at hcap'
  clear hx hb hn
  go_enter Tryd.func80, Tryd.ntmps80
  go_wp2
  have hb0 : Hid (Below w.heap.size w ((w.alloc (.cells #[.slice none 0 0, .slice none 0 0, .slice none 0 0] 107)).alloc (.cells #[.slice none 0 0, .slice none 0 0, .slice none 0 0] 107))) := ((Below.refl _ w).alloc (Nat.le_refl _) _).alloc (by simp) _
  have hz0 : Hid (w.heap.size + 2 ≤ ((w.alloc (.cells #[.slice none 0 0, .slice none 0 0, .slice none 0 0] 107)).alloc (.cells #[.slice none 0 0, .slice none 0 0, .slice none 0 0] 107)).heap.size) := by
    show _ ≤ _
    rw [World.size_alloc, World.size_alloc]; exact Nat.le_refl _
  have ht0 : Hid (((w.alloc (.cells #[.slice none 0 0, .slice none 0 0, .slice none 0 0] 107)).alloc (.cells #[.slice none 0 0, .slice none 0 0, .slice none 0 0] 107)).there w.heap.size 0 3) := by
    refine World.there_alloc (fun j hj => ?_) _
    match j, hj with
    | 0, _ => exact ⟨by rw [World.cell?_alloc_at (hn := rfl)]; rfl, frozen_new _ _ _ rfl⟩
    | 1, _ => exact ⟨by rw [World.cell?_alloc_at (hn := rfl)]; rfl, frozen_new _ _ _ rfl⟩
    | 2, _ => exact ⟨by rw [World.cell?_alloc_at (hn := rfl)]; rfl, frozen_new _ _ _ rfl⟩
  have hl0 : Hid (Lst ((w.alloc (.cells #[.slice none 0 0, .slice none 0 0, .slice none 0 0] 107)).alloc (.cells #[.slice none 0 0, .slice none 0 0, .slice none 0 0] 107)) (w.heap.size + 1) [] [.slice none 0 0, .slice none 0 0, .slice none 0 0]) := by
    refine ⟨rfl, fun j v hv => ?_, fun j hj => frozen_new _ _ _ (World.size_alloc ..).symm, fun j hj => ?_, fun j l hl => by cases hl⟩
    · have h := Rd.new (w.alloc (.cells #[.slice none 0 0, .slice none 0 0, .slice none 0 0] 107)) (w.heap.size + 2) [.slice none 0 0, .slice none 0 0, .slice none 0 0] 107 (0, 0) (by simp)
      obtain ⟨ad, e, _, hc⟩ := h j v hv
      cases e
      rw [Addr.add_mid, World.size_alloc] at hc
      exact hc
    · match j, hj with
      | 0, _ => exact ⟨_, _, _, rfl⟩
      | 1, _ => exact ⟨_, _, _, rfl⟩
      | 2, _ => exact ⟨_, _, _, rfl⟩
  go_loopw [5, 10] (fun ax ix wr => ∃ (ls : List (List Int)) (vs : List Value) (k to : Nat), ix = .int .i64 (k : Int) ∧ k ≤ 3 ∧ ax = .int .i64 (to : Int) ∧ to ≤ n ∧ Hid (ls.length = k) ∧ Hid (Pm.Reads xs ls to) ∧ Hid (Lst wr (w.heap.size + 1) ls vs) ∧ Hid (wr.there w.heap.size 0 3) ∧ Hid (Below w.heap.size w wr) ∧ Hid (w.heap.size + 2 ≤ wr.heap.size))
    (fun _ ix _ => 3 - (intOf ix).toNat)
  case atStart => exact ⟨[], _, 0, 0, rfl, by omega, rfl, by omega, Lib.hid rfl, Lib.hid rfl, hl0, ht0, hb0, hz0⟩
  case round =>
    obtain ⟨ls, vs, k, to, rfl, hk, rfl, hto, hlk, hR, hL, hT, hBw, hz⟩ := hrel
    clear hb0 hz0 ht0 hl0
    by_cases hlt : k < 3
    · have HI := Lib.hid (Ints_any A n cap B xs (to : Int) wr (HX.out.below (hBw.out.mono hB)) HN.out hnc hcap (Nat.le_trans hB hBw.out.size) HB.out (by omega) (by omega))
      by_cases he : (Wm.rints xs (to : Int)).2.2 = 0
      · obtain ⟨l, to', e0⟩ := Pm.rints_num he HB.out
        obtain ⟨_, _, _, hle, _⟩ := Pm.rints_at e0 HB.out
        rw [HN.out] at hle
        rw [e0] at HI
        have HR2 := Lib.hid (hR.out.more (by rw [hlk.out]; exact hlt) e0)
        clear he e0 hR
        go_wp2_with (go_at_call 44; fail)
        refine HI.out.mono ?_
        rintro e w3 ⟨v3, rfl, hown3, hb3⟩
        obtain ⟨A3, c3, rfl, hcp3, hcm3, -⟩ := own_view hown3
        have hL3 := hL.out.below hb3 (by have := hz.out; omega)
        have hB3 := Lib.hid (hBw.out.trans (hb3.mono hBw.out.size))
        have hT3 : Hid (w3.there w.heap.size 0 3) := fun j hj => by
          obtain ⟨t1, t2⟩ := hT.out j hj
          have hlt : (⟨w.heap.size, 0 + j, none⟩ : Addr).block < wr.heap.size := by have := hz.out; show w.heap.size < _; omega
          exact ⟨by rw [hb3.cell hlt]; exact t1, by rw [hb3.frozen hlt]; exact t2⟩
        have hz3 := Lib.hid (Nat.le_trans hz.out hb3.size)
        obtain ⟨u, hcl⟩ := hL3.cell hlt
        have hfz := hL3.free k hlt
        have hLs := Lib.hid (hL3.set (A := A3) (c := c3) (l := l) (by rw [hlk.out]; exact hlt) (own_mono hown3 (by have := hz.out; omega)))
        rw [hlk.out] at hLs
        have hg := grown_set1 (w.heap.size + 1) k (.slice A3 l.length c3) w3
        have hBs := Lib.hid (below_grown hB3.out hg (by omega) hB3.out.size)
        have hTs : Hid ((w3.setCell ⟨w.heap.size + 1, k, none⟩ (.slice A3 l.length c3)).there w.heap.size 0 3) := World.there_setCells hT3.out (w.heap.size + 1) k [.slice A3 l.length c3]
        have hzs := Lib.hid (Nat.le_trans hz3.out hg.size)
        have hlk2 : Hid ((ls ++ [l]).length = k + 1) := by show _ = _; rw [List.length_append, hlk.out]; rfl
        clear hL3 hg hown3 hb3 HI hL hT hBw hz hcp3
        go_wp2
        go_roundw
        case rel => exact ⟨ls ++ [l], _, k + 1, to', by go_num, by omega, rfl, hle, hlk2, HR2, hLs, hTs, hBs, hzs⟩
        case measure => simp [intOf]; omega
      · have hG := Lib.hid (hR.out.err (by rw [hlk.out]; exact hlt) he)
        generalize Wm.rints xs (to : Int) = q at *
        obtain ⟨q1, q2, q3⟩ := q
        dsimp only at *
        have hq : (q3 != 0) = true := by rw [bne_iff_ne]; exact he
        clear he
        go_wp2_with (go_at_call 44; fail)
        refine HI.out.mono ?_
        rintro e w3 ⟨v3, rfl, -, hb3⟩
        have hL3 := Lib.hid (hL.out.below hb3 (by have := hz.out; omega))
        have hB3 := Lib.hid (hBw.out.trans (hb3.mono hBw.out.size))
        have hT3 : Hid (w3.there w.heap.size 0 3) := fun j hj => by
          obtain ⟨t1, t2⟩ := hT.out j hj
          have hlt : (⟨w.heap.size, 0 + j, none⟩ : Addr).block < wr.heap.size := by have := hz.out; show w.heap.size < _; omega
          exact ⟨by rw [hb3.cell hlt]; exact t1, by rw [hb3.frozen hlt]; exact t2⟩
        have hz3 := Lib.hid (Nat.le_trans hz.out hb3.size)
        obtain ⟨z0, z1, z2, ev, hgot, hbe⟩ := got_end (r := Pm.get3 xs) hL3.out hB3.out hz3.out (fun l m o e => by rw [hG.out] at e; cases e)
        have hvl : Hid ((Tryd.prog.info? 107).map (·.size) = some vs.length) := by rw [hL3.out.len]; exact info_three
        have hone := Lib.hid (slices_one hL3.out)
        have hth : Hid (w3.there w.heap.size 0 vs.toArray.size) := by
          have h1 : vs.toArray.size = 3 := hL3.out.len
          rw [h1]; exact hT3
        have hrng := Lib.hid (World.rangeAt_setCells_same w3 w.heap.size 0 vs (by rw [hL3.out.len]; exact hT3.out))
        have HG := Lib.hid hgot
        have HBE := Lib.hid hbe
        have HEV := Lib.hid ev
        clear hgot hbe ev hb3 HI hL hT hBw hz
        go_wp2_with (first | (refine wpList_load_mid rfl 107 _ rfl (w.heap.size + 1) 0 rfl vs _ hL3.out.lay Tryd.underlying107 rfl hvl.out ?_) | (refine wpList_store_mid rfl 107 _ _ rfl w.heap.size 0 vs.toArray rfl rfl hth.out hvl.out hone.out ?_))
        refine bodyPost_ret (results_ct rfl _ _ w.heap.size vs _ rfl hrng.out Tryd.underlying107 rfl hvl.out) rfl ?_
        exact ⟨z0, z1, z2, by rw [hG.out, HEV.out]; rfl, HG.out, HBE.out⟩
    · obtain rfl : k = 3 := by omega
      obtain ⟨l, m, o, rfl, h1, h2⟩ := hR.out.done hlk.out
      have hr : ∀ l' m' o', Pm.get3 xs = some (l', m', o') → [l, m, o] = [l', m', o'] := fun l' m' o' e => by
        by_cases hto2 : to = xs.length
        · rw [h1 hto2] at e; cases e; rfl
        · rw [h2 hto2] at e; cases e
      obtain ⟨z0, z1, z2, ev, hgot, hbe⟩ := got_end (r := Pm.get3 xs) hL.out hBw.out hz.out hr
      have hvl : Hid ((Tryd.prog.info? 107).map (·.size) = some vs.length) := by rw [hL.out.len]; exact info_three
      have hone := Lib.hid (slices_one hL.out)
      have hth : Hid (wr.there w.heap.size 0 vs.toArray.size) := by
        have h1 : vs.toArray.size = 3 := hL.out.len
        rw [h1]; exact hT
      have hrng := Lib.hid (World.rangeAt_setCells_same wr w.heap.size 0 vs (by rw [hL.out.len]; exact hT.out))
      have HG := Lib.hid hgot
      have HBE := Lib.hid hbe
      have HEV := Lib.hid ev
      have hOK : Hid ((Pm.get3 xs).isSome = ((to : Int) == (n : Int))) := by
        by_cases hto2 : to = xs.length
        · rw [h1 hto2, show ((to : Int) == (n : Int)) = true from by rw [beq_iff_eq, hto2, HN.out]]; exact Lib.hid rfl
        · rw [h2 hto2, show ((to : Int) == (n : Int)) = false from by rw [beq_eq_false_iff_ne]; intro e; apply hto2; rw [HN.out]; omega]; exact Lib.hid rfl
      clear hgot hbe ev h1 h2 hr hR hlk
      go_wp2_with (first | (refine wpList_load_mid rfl 107 _ rfl (w.heap.size + 1) 0 rfl vs _ hL.out.lay Tryd.underlying107 rfl hvl.out ?_) | (refine wpList_store_mid rfl 107 _ _ rfl w.heap.size 0 vs.toArray rfl rfl hth.out hvl.out hone.out ?_))
      refine bodyPost_ret (results_ct rfl _ _ w.heap.size vs _ rfl hrng.out Tryd.underlying107 rfl hvl.out) rfl ?_
      exact ⟨z0, z1, z2, by rw [hOK.out, HEV.out]; rfl, HG.out, HBE.out⟩
end Go.Proofs.YtpgfnhdaembhmaaDoor

/- A plan read: the program's. -/
namespace Go.Proofs.YtpgfnhdaembhmaaDoor
open Go.RowKit Go.Shelf

theorem usw {n : Int} (h : Pm.I n) : n % 18446744073709551616 = Pm.us n := by
  unfold Pm.I at h
  unfold Pm.us
  split <;> omega

set_option maxRecDepth 100000 in
set_option maxHeartbeats 4000000 in
theorem planOf_ten (a0 a1 a2 a3 a4 a5 a6 a7 a8 a9 : Int) (A : Option Addr) (n c : Nat) (A' : Option Addr) (n' c' : Nat) (w : World) :
    Calls Tryd.prog 82 #[.agg #[.int .i64 a0, .int .i64 a1, .int .i64 a2, .int .i64 a3, .int .i64 a4, .int .i64 a5, .int .i64 a6, .int .i64 a7, .int .i64 a8, .int .i64 a9], .slice A n c, .slice A' n' c'] w fun e w' =>
      e = .returned (.agg #[.int .i64 a0, .int .i64 a1, .int .i64 a2, .int .i64 a3, .int .i64 a4, .int .i64 a5, .int .i64 a6, .int .i64 a7, .int .u64 (a8 % 18446744073709551616), .int .u64 (a9 % 18446744073709551616), .slice A n c, .slice A' n' c']) ∧ Below w.heap.size w w' := by
  go_enter Tryd.func82, Tryd.ntmps82
  go_wp2
  refine bodyPost_ret (results_cell_row rfl _ _ (w.heap.size + 1) _ _ (0, 0) _ rfl (last_block _ _ (by simp)) Tryd.underlying27 rfl info_plan) rfl ?_
  exact ⟨rfl, (((Below.refl _ w).alloc (Nat.le_refl _) _).alloc (by simp) _)⟩

theorem planOf_any (ns pen ch : List Int) (hns : ns.length = 10) (hf : Wm.Fits ns) (A : Option Addr) (n c : Nat) (A' : Option Addr) (n' c' : Nat) (w : World) :
    Calls Tryd.prog 82 #[.agg (i64s ns).toArray, .slice A n c, .slice A' n' c'] w fun e w' => e = .returned (pv (Pm.plOf ns pen ch) A n c A' n' c') ∧ Below w.heap.size w w' := by
  have h := planOf_ten (ns.getD 0 0) (ns.getD 1 0) (ns.getD 2 0) (ns.getD 3 0) (ns.getD 4 0) (ns.getD 5 0) (ns.getD 6 0) (ns.getD 7 0) (ns.getD 8 0) (ns.getD 9 0) A n c A' n' c' w
  have e : (i64s ns).toArray = #[.int .i64 (ns.getD 0 0), .int .i64 (ns.getD 1 0), .int .i64 (ns.getD 2 0), .int .i64 (ns.getD 3 0), .int .i64 (ns.getD 4 0), .int .i64 (ns.getD 5 0), .int .i64 (ns.getD 6 0), .int .i64 (ns.getD 7 0), .int .i64 (ns.getD 8 0), .int .i64 (ns.getD 9 0)] := by
    conv => lhs; rw [Pm.len10 hns]
    rfl
  rw [e]
  refine h.mono ?_
  rintro e' w' ⟨rfl, hb⟩
  refine ⟨?_, hb⟩
  rw [usw (Pm.fit_at hf 8), usw (Pm.fit_at hf 9)]
  rfl

namespace Pm
theorem get3_some {b l m o : List Int} (hb : ∀ c ∈ b, 0 ≤ c ∧ c ≤ 255) (h : get3 b = some (l, m, o)) : (Wm.Fits l ∧ Wm.Fits m ∧ Wm.Fits o) ∧ l.length ≤ 64 ∧ m.length ≤ 64 ∧ o.length ≤ 64 := by
  rcases get3_cases hb with h3 | ⟨l', n, e0, n0, f0, s0, h3⟩
  · rw [h3.2] at h; cases h
  rcases h3 with h3 | ⟨m', i, e1, n1, f1, s1, h3⟩
  · rw [h3.2] at h; cases h
  rcases h3 with h3 | ⟨o', j, e2, n2, f2, s2, h3⟩
  · rw [h3.2] at h; cases h
  rcases h3 with h3 | ⟨hj, h4, hU⟩
  · rw [h3.2] at h; cases h
  rw [h4] at h
  injection h with h
  injection h with h5 h
  injection h with h6 h7
  subst h5 h6 h7
  exact ⟨⟨f0, f1, f2⟩, by omega, by omega, by omega⟩
end Pm
theorem there_below {w w' : World} {b o n B : Nat} (h : w.there b o n) (hb : Below B w w') (hlt : b < B) : w'.there b o n := fun j hj => by
  obtain ⟨t1, t2⟩ := h j hj
  have hl : (⟨b, o + j, none⟩ : Addr).block < B := hlt
  exact ⟨by rw [hb.cell hl]; exact t1, by rw [hb.frozen hl]; exact t2⟩
theorem there_new (w : World) (cs : List Value) (t : TypeId) : (w.alloc (.cells cs.toArray t)).there w.heap.size 0 cs.length := fun j hj => by
  obtain ⟨ad, e, _, hc⟩ := (Rd.new w (w.heap.size + 1) cs t (0, 0) (by omega)) j _ (List.getElem?_eq_getElem hj)
  cases e
  rw [Addr.add_mid] at hc
  exact ⟨by rw [hc]; rfl, frozen_new _ _ _ rfl⟩
theorem range_of_own {w : World} {base : Nat} {e : TypeId} {g n cap : Nat} {xs : List Value} (h : w.ownsRow base e 1 (.slice (some ⟨g, 0, none⟩) n cap) n xs) : w.rangeAt g 0 xs := fun j v hv => by
  have := h.cells (g := g) rfl j v hv
  rw [Addr.add_mid] at this
  exact this

theorem pvs_one (x : Pm.Pl) (A : Option Addr) (n c : Nat) (A' : Option Addr) (n' c' : Nat) : (pvs x A n c A' n' c').toArray.all (·.oneCell') = true := by simp [pvs, Value.oneCell']
theorem plAt_zero (w : World) (B : Nat) : PlAt w B Pm.zero none 0 0 none 0 0 := ⟨Pm.ok_zero, Rd.nil _ _ _, rfl, Nat.le_refl _, Nat.zero_le _, Rd.nil _ _ _, rfl, Nat.le_refl _, Nat.zero_le _⟩

/-- a whole value into the block made last, as one operation of a region -/
theorem op_store_new {P : Program} {op : Oper} {a : Act} {w : World} {K : Act → World → Prop} {Q : Exit → Act → World → Prop} (ty : TypeId) (x y : Operand) (ho : op.op = .store ty x y)
    (c c' : Array Value) (hx : a.eval x = .pointer (some ⟨w.heap.size, 0, none⟩)) (hy : a.eval y = .agg c') (hi : (P.info? ty).map (·.size) = some c'.size) (hs : c.size = c'.size) (h1 : c'.all (·.oneCell') = true)
    (h : K (a.put op.dst undef) (w.alloc (.cells c' ty))) : op.wp P a (w.alloc (.cells c ty)) K Q := by
  unfold Oper.wp execOp
  simp only [ho, hx, hy, Sem.run_bind, run_storeAt_new (P := P) w ty c c' hi hs h1, Result.andThen_ok, Sem.run_pure]
  exact h
theorem op_store_drew {P : Program} {op : Oper} {a : Act} {w : World} {K : Act → World → Prop} {Q : Exit → Act → World → Prop} (ty : TypeId) (x y : Operand) (ho : op.op = .store ty x y)
    (c c' : Array Value) (b : Nat) (hb : b = w.heap.size) (hx : a.eval x = .pointer (some ⟨b, 0, none⟩)) (hy : a.eval y = .agg c') (hi : (P.info? ty).map (·.size) = some c'.size) (hs : c.size = c'.size) (h1 : c'.all (·.oneCell') = true)
    (h : K (a.put op.dst undef) ((w.alloc (.cells c' ty)).drew)) : op.wp P a ((w.alloc (.cells c ty)).drew) K Q := by
  subst hb
  exact op_store_new (w := w.drew) ty x y ho c c' hx hy hi hs h1 h

set_option maxRecDepth 100000 in
set_option maxHeartbeats 4000000 in
theorem Get_all (A : Option Addr) (n cap B : Nat) (xs : List Int) (w : World) (hx : Rd w B A (u8s xs)) (hn : xs.length = n) (hnc : n ≤ cap) (hcap : cap ≤ maxLen) (hB : B ≤ w.heap.size) (hb : ∀ x ∈ xs, 0 ≤ x ∧ x ≤ 255) (ht : Tab w) :
    Calls Tryd.prog 67 #[.slice A n cap] w fun e w' => ∃ A1 n1 c1 A2 n2 c2, e = .returned (.tuple #[pv (Pm.get xs).1 A1 n1 c1 A2 n2 c2, .int .i64 (Pm.get xs).2]) ∧ PlAt w' w'.heap.size (Pm.get xs).1 A1 n1 c1 A2 n2 c2 ∧ Fr w.heap.size A1 ∧ Fr w.heap.size A2 ∧ Below w.heap.size w w' := by
  have hz1 : (w.alloc (.cells (pvs Pm.zero none 0 0 none 0 0).toArray 27)).heap.size = w.heap.size + 1 := World.size_alloc ..
  have hb1 := Lib.hid ((Below.refl w.heap.size w).alloc (Nat.le_refl _) (.cells (pvs Pm.zero none 0 0 none 0 0).toArray 27))
  have hth1 := Lib.hid (there_new w (pvs Pm.zero none 0 0 none 0 0) 27)
  have HT3 := Lib.hid (threeLists_any A n cap B xs (w.alloc (.cells (pvs Pm.zero none 0 0 none 0 0).toArray 27)) (hx.below (hb1.out.mono hB)) hn hnc hcap (Nat.le_trans hB hb1.out.size) hb)
  have HT := Lib.hid (ht.below hb1.out (Nat.le_refl _))
  have HZ1 := Lib.hid hz1
  have HB := Lib.hid hb
  clear hx hn hb ht hz1
  go_enter Tryd.func67, Tryd.ntmps67
  go_wp2_with (go_at_call 80; fail)
  refine HT3.out.mono ?_
  rintro e w2 ⟨v0, v1, v2, rfl, ⟨⟨A0, n0, c0, rfl⟩, ⟨A1, n1, c1, rfl⟩, ⟨A2, n2, c2, rfl⟩, hrow⟩, hb2'⟩
  rw [HZ1.out] at hb2' hrow
  have hb2 := Lib.hid hb2'
  have hz2 : w.heap.size + 1 ≤ w2.heap.size := by have := hb2'.size; rw [HZ1.out] at this; exact this
  have hbw2 := Lib.hid (hb1.out.trans (hb2'.mono (Nat.le_succ _)))
  clear hb2' HT3
  cases hg : Pm.get3 xs with
  | none =>
    have HE := Lib.hid (Pm.get_none hg)
    clear hrow hg
    dsimp only [Option.isSome]
    have hth3 : Hid ((w2.alloc (.cells #[.slice A0 n0 c0, .slice A1 n1 c1, .slice A2 n2 c2] 107)).there w.heap.size 0 12) := World.there_alloc (there_below hth1.out hb2.out (Nat.lt_succ_self _)) _
    have hrng := Lib.hid (World.rangeAt_setCells_same (w2.alloc (.cells #[.slice A0 n0 c0, .slice A1 n1 c1, .slice A2 n2 c2] 107)) w.heap.size 0 (pvs Pm.zero none 0 0 none 0 0) hth3.out)
    have hbe := Lib.hid (below_grown (hbw2.out.alloc (by omega) (.cells #[.slice A0 n0 c0, .slice A1 n1 c1, .slice A2 n2 c2] 107)) (grown_set w.heap.size (pvs Pm.zero none 0 0 none 0 0) 0 _) (Nat.le_refl _) (by rw [World.size_alloc]; omega))
    go_wp2_with (refine wpList_store_mid rfl 27 _ _ rfl w.heap.size 0 (pvs Pm.zero none 0 0 none 0 0).toArray rfl rfl hth3.out info_plan (pvs_one _ _ _ _ _ _ _) ?_)
    refine bodyPost_ret (results_ct rfl _ _ w.heap.size (pvs Pm.zero none 0 0 none 0 0) _ rfl hrng.out Tryd.underlying27 rfl info_plan) rfl ?_
    exact ⟨none, 0, 0, none, 0, 0, by rw [HE.out]; rfl, by rw [HE.out]; exact plAt_zero _ _, Fr.none, Fr.none, hbe.out⟩
  | some q =>
    obtain ⟨l, m, o⟩ := q
    obtain ⟨hfit, hl0, hl1, hl2⟩ := Pm.get3_some HB.out hg
    have HF := Lib.hid hfit
    have HG := Lib.hid hg
    obtain ⟨o0, o1, o2⟩ := hrow l m o hg
    clear hrow hg hfit
    dsimp only [Option.isSome]
    obtain ⟨_, _, e, hcp0, hcm0, hr0⟩ := own_view o0
    obtain ⟨_, _, e', hcp1, hcm1, hr1⟩ := own_view o1
    obtain ⟨_, _, e'', hcp2, hcm2, hr2⟩ := own_view o2
    injection e with ea en ec
    injection e' with ea' en' ec'
    injection e'' with ea'' en'' ec''
    subst ea ec ea' ec' ea'' ec''
    have HO0 := Lib.hid o0
    have HO1 := Lib.hid o1
    have HO2 := Lib.hid o2
    have hR1 := Lib.hid hr1
    have hR2 := Lib.hid hr2
    rw [← en] at hcp0
    rw [← en'] at hcp1
    rw [← en''] at hcp2
    have EN0 := Lib.hid en
    have EN1 := Lib.hid en'
    have EN2 := Lib.hid en''
    have hm1 : n1 ≤ 64 := by omega
    have hm2 : n2 ≤ 64 := by omega
    clear o0 o1 o2 hr0 hr1 hr2 en en' en'' hl0 hl1 hl2
    have hth3 : Hid ((w2.alloc (.cells #[.slice A0 n0 c0, .slice A1 n1 c1, .slice A2 n2 c2] 107)).there w.heap.size 0 12) := World.there_alloc (there_below hth1.out hb2.out (Nat.lt_succ_self _)) _
    by_cases h10 : n0 = 10
    · subst h10
      obtain ⟨g, cg, eg, -, -⟩ := HO0.out.form (by have := EN0.out; omega)
      injection eg with eg elen ec
      subst eg ec
      clear elen
      have hb3 := Lib.hid (hbw2.out.alloc (o := .cells #[.slice (some ⟨g, 0, none⟩) 10 c0, .slice A1 n1 c1, .slice A2 n2 c2] 107) (by omega))
      have hk3 : Hid (Below w2.heap.size w2 (w2.alloc (.cells #[.slice (some ⟨g, 0, none⟩) 10 c0, .slice A1 n1 c1, .slice A2 n2 c2] 107))) := (Below.refl _ _).alloc (Nat.le_refl _) _
      have hz3 : Hid ((w2.alloc (.cells #[.slice (some ⟨g, 0, none⟩) 10 c0, .slice A1 n1 c1, .slice A2 n2 c2] 107)).heap.size = w2.heap.size + 1) := World.size_alloc ..
      have hgl : g < w2.heap.size := (HO0.out.lt g rfl).2
      have HR0 : Hid (∀ (W : World), Below (w2.heap.size + 1) (w2.alloc (.cells #[.slice (some ⟨g, 0, none⟩) 10 c0, .slice A1 n1 c1, .slice A2 n2 c2] 107)) W → W.rangeAt g 0 (i64s l)) := fun W h j v hv => by
        have h0 : w2.ownsRow (w.heap.size + 1) 2 1 (.slice (some ⟨g, 0, none⟩) l.length c0) l.length (i64s l) := by rw [← EN0.out]; have := HO0.out; rw [← EN0.out] at this; exact this
        have hc := range_of_own h0 j v hv
        rw [h.cell (by show g < _; omega), hk3.out.cell (by exact hgl)]
        exact hc
      have HC3 : Hid (∀ (W : World), Below (w2.heap.size + 1) (w2.alloc (.cells #[.slice (some ⟨g, 0, none⟩) 10 c0, .slice A1 n1 c1, .slice A2 n2 c2] 107)) W → W.cell? ⟨w2.heap.size, 0, none⟩ = some (.slice (some ⟨g, 0, none⟩) 10 c0) ∧ W.cell? ⟨w2.heap.size, 1, none⟩ = some (.slice A1 n1 c1) ∧ W.cell? ⟨w2.heap.size, 2, none⟩ = some (.slice A2 n2 c2)) := fun W h => by
        have hlt : ∀ j, (⟨w2.heap.size, j, none⟩ : Addr).block < w2.heap.size + 1 := fun j => Nat.lt_succ_self _
        refine ⟨?_, ?_, ?_⟩
        · rw [h.cell (hlt 0), World.cell?_alloc_at (hn := rfl)]; rfl
        · rw [h.cell (hlt 1), World.cell?_alloc_at (hn := rfl)]; rfl
        · rw [h.cell (hlt 2), World.cell?_alloc_at (hn := rfl)]; rfl
      have hln : Hid ((Tryd.prog.info? 100).map (·.size) = some (i64s l).length) := by rw [List.length_map, ← EN0.out]; exact info_nums
      go_wp2_with fail
      refine region_C (fun W => Below (w2.heap.size + 1) (w2.alloc (.cells #[.slice (some ⟨g, 0, none⟩) 10 c0, .slice A1 n1 c1, .slice A2 n2 c2] 107)) W) (by kernel_rfl) ?_
      have hC : Below (w2.heap.size + 1) (w2.alloc (.cells #[.slice (some ⟨g, 0, none⟩) 10 c0, .slice A1 n1 c1, .slice A2 n2 c2] 107)) (w2.alloc (.cells #[.slice (some ⟨g, 0, none⟩) 10 c0, .slice A1 n1 c1, .slice A2 n2 c2] 107)).drew := (Below.refl _ _).drew
      refine anyC_take (i := 0) (v := ?v0_97) (a' := ?a0_97) rfl (by kernel_rfl) (by kernel_rfl) (by kernel_rfl) (fun _ _ _ h => h) hC ?w0_97 ?y0_97 ?f0_97 ?r0_97
      case w0_97 => kernel_rfl
      case y0_97 => (intro w hC; go_simp; try with_reducible rfl)
      case f0_97 => (go_simp; try with_reducible rfl)
      refine anyC_take (i := 4) (v := ?v4_98) (a' := ?a4_98) rfl (by kernel_rfl) (by kernel_rfl) (by kernel_rfl) (fun _ _ _ h => h) hC ?w4_98 ?y4_98 ?f4_98 ?r4_98
      case w4_98 => kernel_rfl
      case y4_98 => (intro w hC; go_simp; try with_reducible rfl)
      case f4_98 => (go_simp; try with_reducible rfl)
      refine anyC_take (i := 6) (v := ?v6_99) (a' := ?a6_99) rfl (by kernel_rfl) (by kernel_rfl) (by kernel_rfl) (fun _ _ _ h => h) hC ?w6_99 ?y6_99 ?f6_99 ?r6_99
      case w6_99 => kernel_rfl
      case y6_99 => (intro w hC; go_simp; try with_reducible rfl)
      case f6_99 => (go_simp; try with_reducible rfl)
      refine anyC_take (i := 1) (v := ?v1_100) (a' := ?a1_100) rfl (by kernel_rfl) (by kernel_rfl) (by kernel_rfl) (fun _ _ _ h => h) hC ?w1_100 ?y1_100 ?f1_100 ?r1_100
      case w1_100 => kernel_rfl
      case y1_100 => (intro w hC; have h4 := (HC3.out w hC).1; go_simp; try with_reducible rfl)
      case f1_100 => (go_simp; try with_reducible rfl)
      refine anyC_take (i := 5) (v := ?v5_101) (a' := ?a5_101) rfl (by kernel_rfl) (by kernel_rfl) (by kernel_rfl) (fun _ _ _ h => h) hC ?w5_101 ?y5_101 ?f5_101 ?r5_101
      case w5_101 => kernel_rfl
      case y5_101 => (intro w hC; have h4 := (HC3.out w hC).2.1; go_simp; try with_reducible rfl)
      case f5_101 => (go_simp; try with_reducible rfl)
      refine anyC_take (i := 7) (v := ?v7_102) (a' := ?a7_102) rfl (by kernel_rfl) (by kernel_rfl) (by kernel_rfl) (fun _ _ _ h => h) hC ?w7_102 ?y7_102 ?f7_102 ?r7_102
      case w7_102 => kernel_rfl
      case y7_102 => (intro w hC; have h4 := (HC3.out w hC).2.2; go_simp; try with_reducible rfl)
      case f7_102 => (go_simp; try with_reducible rfl)
      refine anyC_take (i := 2) (v := ?v2_103) (a' := ?a2_103) rfl (by kernel_rfl) (by kernel_rfl) (by kernel_rfl) (fun _ _ _ h => h) hC ?w2_103 ?y2_103 ?f2_103 ?r2_103
      case w2_103 => kernel_rfl
      case y2_103 => (intro w hC; have h4 := run_arrayAt (P := Tryd.prog) w 100 _ 10 (some ⟨g, 0, none⟩) 10 c0 Tryd.underlying100 (Nat.le_refl _); go_simp; try with_reducible rfl)
      case f2_103 => (go_simp; try with_reducible rfl)
      refine anyC_take (i := 3) (v := ?v3_104) (a' := ?a3_104) rfl (by kernel_rfl) (by kernel_rfl) (by kernel_rfl) (fun _ _ _ h => h) hC ?w3_104 ?y3_104 ?f3_104 ?r3_104
      case w3_104 => kernel_rfl
      case y3_104 => (intro W hW; exact by refine exec_load 100 (.tmp 25) ?_ g ?_ (i64s l) _ (HR0.out _ hW) Tryd.underlying100 rfl hln.out <;> rfl)
      case f3_104 => (go_simp; try with_reducible rfl)
      refine anyC_one (i := 8) rfl (by kernel_rfl) (by kernel_rfl) (fun K hK => ?_)
      go_simp
      have hC5 : Below (w2.heap.size + 1) (w2.alloc (.cells #[.slice (some ⟨g, 0, none⟩) 10 c0, .slice A1 n1 c1, .slice A2 n2 c2] 107)) ((w2.alloc (.cells #[.slice (some ⟨g, 0, none⟩) 10 c0, .slice A1 n1 c1, .slice A2 n2 c2] 107)).alloc (.cells #[.int .i64 0, .int .i64 0, .int .i64 0, .int .i64 0, .int .i64 0, .int .i64 0, .int .i64 0, .int .i64 0, .int .i64 0, .int .i64 0] 100)).drew := ((Below.refl _ _).alloc (by rw [hz3.out]; exact Nat.le_refl _) _).drew
      refine hK _ _ ⟨hC5, ?_⟩
      clear hK K
      refine anyC_one (i := 9) rfl (by kernel_rfl) (by kernel_rfl) (fun K hK => ?_)
      refine op_store_drew 100 (.tmp 6) (.tmp 26) rfl _ (i64s l).toArray (w2.heap.size + 1) hz3.out.symm rfl rfl hln.out (by show 10 = (i64s l).length; rw [List.length_map]; exact EN0.out) (i64s_one _) ?_
      have hC6 : Below (w2.heap.size + 1) (w2.alloc (.cells #[.slice (some ⟨g, 0, none⟩) 10 c0, .slice A1 n1 c1, .slice A2 n2 c2] 107)) ((w2.alloc (.cells #[.slice (some ⟨g, 0, none⟩) 10 c0, .slice A1 n1 c1, .slice A2 n2 c2] 107)).alloc (.cells (i64s l).toArray 100)).drew := ((Below.refl _ _).alloc (by rw [hz3.out]; exact Nat.le_refl _) _).drew
      refine hK _ _ ⟨hC6, ?_⟩
      clear hK K
      go_simp
      refine anyC_take (i := 10) (v := ?v10_105) (a' := ?a10_105) rfl (by kernel_rfl) (by kernel_rfl) (by kernel_rfl) (fun _ _ _ h => h) hC6 ?w10_105 ?y10_105 ?f10_105 ?r10_105
      case w10_105 => kernel_rfl
      case y10_105 => (intro w hC; go_simp; try with_reducible rfl)
      case f10_105 => (go_simp; try with_reducible rfl)
      refine anyC_take (i := 11) (v := ?v11_106) (a' := ?a11_106) rfl (by kernel_rfl) (by kernel_rfl) (by kernel_rfl) (fun _ _ _ h => h) hC6 ?w11_106 ?y11_106 ?f11_106 ?r11_106
      case w11_106 => kernel_rfl
      case y11_106 => (intro w hC; go_simp; try with_reducible rfl)
      case f11_106 => (go_simp; try with_reducible rfl)
      refine anyC_done (by kernel_rfl) ?_
      have hk6 : Below w2.heap.size w2 ((w2.alloc (.cells #[.slice (some ⟨g, 0, none⟩) 10 c0, .slice A1 n1 c1, .slice A2 n2 c2] 107)).alloc (.cells (i64s l).toArray 100)).drew := hk3.out.trans (hC6.mono (Nat.le_succ _))
      have hr6 : ((w2.alloc (.cells #[.slice (some ⟨g, 0, none⟩) 10 c0, .slice A1 n1 c1, .slice A2 n2 c2] 107)).alloc (.cells (i64s l).toArray 100)).drew.rangeAt (w2.heap.size + 1) 0 (i64s l) := by
        rw [World.rangeAt_drew]
        intro j v hv
        obtain ⟨ad, e, _, hc⟩ := (Rd.new (w2.alloc (.cells #[.slice (some ⟨g, 0, none⟩) 10 c0, .slice A1 n1 c1, .slice A2 n2 c2] 107)) (w2.heap.size + 2) (i64s l) 100 (0, 0) (by rw [hz3.out]; omega)) j v hv
        cases e
        rw [Addr.add_mid, hz3.out] at hc
        exact hc
      have hz6 : w2.heap.size + 2 ≤ ((w2.alloc (.cells #[.slice (some ⟨g, 0, none⟩) 10 c0, .slice A1 n1 c1, .slice A2 n2 c2] 107)).alloc (.cells (i64s l).toArray 100)).drew.heap.size := by
        show _ ≤ ((w2.alloc _).alloc _).heap.size
        rw [World.size_alloc, hz3.out]; exact Nat.le_refl _
      clear hC hC5 hC6 HR0 HC3 hb3 hk3 hz3 hth3
      generalize ((w2.alloc (.cells #[.slice (some ⟨g, 0, none⟩) 10 c0, .slice A1 n1 c1, .slice A2 n2 c2] 107)).alloc (.cells (i64s l).toArray 100)).drew = w6 at *
      have HK6 := Lib.hid hk6
      have HR6 := Lib.hid hr6
      have hb6 := Lib.hid (hbw2.out.trans (hk6.mono (by omega)))
      have hth6 : Hid (w6.there w.heap.size 0 12) := there_below (there_below hth1.out hb2.out (Nat.lt_succ_self _)) hk6 (by omega)
      have hT6 := Lib.hid ((HT.out.below hb2.out (by rw [HZ1.out]; exact Nat.le_refl _)).below hk6 (Nat.le_refl _))
      have HRT := Lib.hid (rightL_any l A1 A2 n1 n2 c1 c2 w2.heap.size m o w6 EN0.out.symm (hR1.out.below hk6) EN1.out.symm (by unfold maxLen; omega) (hR2.out.below hk6) EN2.out.symm (by unfold maxLen; omega) (by omega) hT6.out)
      have hln' := hln
      clear hk6 hr6 hgl
      go_wp2_with (first | (refine wpList_load_mid rfl 100 _ rfl (w2.heap.size + 1) 0 rfl (i64s l) _ HR6.out Tryd.underlying100 rfl hln.out ?_) | (go_at_call 81; fail))
      refine HRT.out.mono ?_
      rintro e w7 ⟨rfl, hb7'⟩
      have hb7 := Lib.hid (hb6.out.trans (hb7'.mono hb6.out.size))
      have hk7 := Lib.hid (HK6.out.trans (hb7'.mono (by omega)))
      have hth7 : Hid (w7.there w.heap.size 0 12) := there_below hth6.out hb7' (by omega)
      have hr7 : Hid (w7.rangeAt (w2.heap.size + 1) 0 (i64s l)) := fun j v hv => by rw [hb7'.cell (by show w2.heap.size + 1 < _; omega)]; exact HR6.out j v hv
      have hz7 := Nat.le_trans hz6 hb7'.size
      clear hb7' hb6 hth6 HRT HR6 HK6 hT6
      by_cases hrt : Pm.Rt l m o
      · have hyes := Pm.ask_yes hrt
        have HE := Lib.hid (Pm.get_ok HG.out EN0.out.symm hyes)
        rw [hyes]
        clear hrt hyes
        go_wp2_with fail
        refine region_C (fun W => W.rangeAt (w2.heap.size + 1) 0 (i64s l)) (by kernel_rfl) ?_
        have hC : w7.drew.rangeAt (w2.heap.size + 1) 0 (i64s l) := by rw [World.rangeAt_drew]; exact hr7.out
        refine anyC_take (i := 0) (v := ?v0_107) (a' := ?a0_107) rfl (by kernel_rfl) (by kernel_rfl) (by kernel_rfl) (fun _ _ _ h => h) hC ?w0_107 ?y0_107 ?f0_107 ?r0_107
        case w0_107 => kernel_rfl
        case y0_107 => (intro W hW; exact by refine exec_load 100 (.tmp 6) ?_ (w2.heap.size + 1) ?_ (i64s l) _ hW Tryd.underlying100 rfl hln.out <;> rfl)
        case f0_107 => (go_simp; try with_reducible rfl)
        refine anyC_take (i := 1) (v := ?v1_108) (a' := ?a1_108) rfl (by kernel_rfl) (by kernel_rfl) (by kernel_rfl) (fun _ _ _ h => h) hC ?w1_108 ?y1_108 ?f1_108 ?r1_108
        case w1_108 => kernel_rfl
        case y1_108 => (intro w hC; go_simp; try with_reducible rfl)
        case f1_108 => (go_simp; try with_reducible rfl)
        refine anyC_take (i := 3) (v := ?v3_109) (a' := ?a3_109) rfl (by kernel_rfl) (by kernel_rfl) (by kernel_rfl) (fun _ _ _ h => h) hC ?w3_109 ?y3_109 ?f3_109 ?r3_109
        case w3_109 => kernel_rfl
        case y3_109 => (intro w hC; go_simp; try with_reducible rfl)
        case f3_109 => (go_simp; try with_reducible rfl)
        refine anyC_one (i := 2) rfl (by kernel_rfl) (by kernel_rfl) (fun K hK => ?_)
        go_simp
        refine (convI_any A1 n1 c1 w2.heap.size m w7.drew (hR1.out.below hk7.out.drew) EN1.out.symm (by show _ ≤ w7.heap.size; omega) hm1).mono ?_
        rintro e w8 ⟨v8, rfl, hown8, hb8'⟩
        have hb8 : Below w7.heap.size w7 w8 := (Below.refl _ w7).drew.trans hb8'
        have hown8' : w8.ownsRow w7.heap.size 3 1 v8 m.length (i64s m) := hown8
        obtain ⟨A8, c8, rfl, hcp8, hcm8, -⟩ := own_view hown8
        have hC8 : w8.rangeAt (w2.heap.size + 1) 0 (i64s l) := fun j v hv => by rw [hb8.cell (by show w2.heap.size + 1 < _; omega)]; exact hr7.out j v hv
        refine hK _ _ ⟨hC8, ?_⟩
        clear hK K hown8 hb8' hC
        have HO8 := Lib.hid hown8'
        have HB8 := Lib.hid hb8
        have hz8 := hb8.size
        clear hown8' hb8
        refine anyC_one (i := 4) rfl (by kernel_rfl) (by kernel_rfl) (fun K hK => ?_)
        go_simp
        refine (planOf_any l m o EN0.out.symm HF.out.1 A8 m.length c8 A2 n2 c2 w8).mono ?_
        rintro e w9 ⟨rfl, hb9⟩
        have hb79 := Lib.hid (HB8.out.trans (hb9.mono hz8))
        have hC9 : w9.rangeAt (w2.heap.size + 1) 0 (i64s l) := fun j v hv => by rw [hb79.out.cell (by show w2.heap.size + 1 < _; omega)]; exact hr7.out j v hv
        have HO9 := Lib.hid (own_below HO8.out hb9 (Nat.le_refl _))
        have hz9 := Nat.le_trans hz8 hb9.size
        refine hK _ _ ⟨hC9, ?_⟩
        clear hK K hC8 hb9
        have hth9 : Hid (w9.there w.heap.size 0 12) := there_below hth7.out hb79.out (by omega)
        refine anyC_one (i := 5) rfl (by kernel_rfl) (by kernel_rfl) (fun K hK => ?_)
        refine wp_store_mid 27 (.tmp 2) (.tmp 41) rfl w.heap.size 0 (pvs (Pm.plOf l m o) A8 m.length c8 A2 n2 c2).toArray rfl rfl hth9.out info_plan (pvs_one _ _ _ _ _ _ _) ?_
        have hg9 := grown_set w.heap.size (pvs (Pm.plOf l m o) A8 m.length c8 A2 n2 c2) 0 w9
        have hrng := Lib.hid (World.rangeAt_setCells_same w9 w.heap.size 0 (pvs (Pm.plOf l m o) A8 m.length c8 A2 n2 c2) hth9.out)
        have hC10 : (w9.setCells w.heap.size 0 (pvs (Pm.plOf l m o) A8 m.length c8 A2 n2 c2)).rangeAt (w2.heap.size + 1) 0 (i64s l) := World.rangeAt_setCells_apart hC9 w.heap.size 0 _ (.inl (by omega))
        refine hK _ _ ⟨hC10, ?_⟩
        clear hK K
        go_simp
        refine anyC_take (i := 6) (v := ?v6_110) (a' := ?a6_110) rfl (by kernel_rfl) (by kernel_rfl) (by kernel_rfl) (fun _ _ _ h => h) hC10 ?w6_110 ?y6_110 ?f6_110 ?r6_110
        case w6_110 => kernel_rfl
        case y6_110 => (intro w hC; go_simp; try with_reducible rfl)
        case f6_110 => (go_simp; try with_reducible rfl)
        refine anyC_done (by kernel_rfl) ?_
        have hbe := Lib.hid (below_grown (hb7.out.trans (hb79.out.mono (by omega))) hg9 (Nat.le_refl _) (by omega))
        have own8 := own_grown HO9.out hg9 (by omega)
        have own2 := own_grown (own_below (own_below HO2.out hk7.out (Nat.le_refl _)) hb79.out (Nat.le_refl _)) hg9 (Nat.lt_succ_self _)
        obtain ⟨_, _, e8, -, -, rd8⟩ := own_view own8
        injection e8 with e8
        subst e8
        obtain ⟨_, _, e2, -, -, rd2⟩ := own_view own2
        injection e2 with e2
        subst e2
        have hF8 : Hid (Fr w.heap.size A8) := fun ad e => Nat.le_trans (by omega) (own_fr own8 ad e)
        have hF2 : Hid (Fr w.heap.size A2) := fun ad e => Nat.le_trans (by omega) (own_fr own2 ad e)
        have hPA : Hid (PlAt (w9.setCells w.heap.size 0 (pvs (Pm.plOf l m o) A8 m.length c8 A2 n2 c2)) (w9.setCells w.heap.size 0 (pvs (Pm.plOf l m o) A8 m.length c8 A2 n2 c2)).heap.size (Pm.plOf l m o) A8 m.length c8 A2 n2 c2) :=
          ⟨Pm.ok_plOf HF.out.1 HF.out.2.1 HF.out.2.2, rd8, rfl, hcp8, hcm8, rd2, EN2.out.symm, hcp2, hcm2⟩
        generalize w9.setCells w.heap.size 0 (pvs (Pm.plOf l m o) A8 m.length c8 A2 n2 c2) = wz at *
        clear own8 own2 rd8 rd2 hg9 hC10 hC9
        go_wp2
        refine bodyPost_ret (results_ct rfl _ _ w.heap.size (pvs (Pm.plOf l m o) A8 m.length c8 A2 n2 c2) _ rfl hrng.out Tryd.underlying27 rfl info_plan) rfl ?_
        exact ⟨A8, m.length, c8, A2, n2, c2, by rw [HE.out]; rfl, by rw [HE.out]; exact hPA.out, hF8.out, hF2.out, hbe.out⟩
      · have hno := Pm.ask_no hrt
        have HE := Lib.hid (Pm.get_no HG.out (fun h => by have := h.2; rw [hno] at this; cases this))
        rw [hno]
        clear hrt hno
        have hrng := Lib.hid (World.rangeAt_setCells_same w7 w.heap.size 0 (pvs Pm.zero none 0 0 none 0 0) hth7.out)
        have hbe := Lib.hid (below_grown hb7.out (grown_set w.heap.size (pvs Pm.zero none 0 0 none 0 0) 0 _) (Nat.le_refl _) (by omega))
        go_wp2_with (refine wpList_store_mid rfl 27 _ _ rfl w.heap.size 0 (pvs Pm.zero none 0 0 none 0 0).toArray rfl rfl hth7.out info_plan (pvs_one _ _ _ _ _ _ _) ?_)
        refine bodyPost_ret (results_ct rfl _ _ w.heap.size (pvs Pm.zero none 0 0 none 0 0) _ rfl hrng.out Tryd.underlying27 rfl info_plan) rfl ?_
        exact ⟨none, 0, 0, none, 0, 0, by rw [HE.out]; rfl, by rw [HE.out]; exact plAt_zero _ _, Fr.none, Fr.none, hbe.out⟩
    · have hq : ((n0 : Int) != 10) = true := by rw [bne_iff_ne]; omega
      have HE := Lib.hid (Pm.get_no HG.out (fun h => h10 (by have := EN0.out; have := h.1; omega)))
      have hrng := Lib.hid (World.rangeAt_setCells_same (w2.alloc (.cells #[.slice A0 n0 c0, .slice A1 n1 c1, .slice A2 n2 c2] 107)) w.heap.size 0 (pvs Pm.zero none 0 0 none 0 0) hth3.out)
      have hbe := Lib.hid (below_grown (hbw2.out.alloc (by omega) (.cells #[.slice A0 n0 c0, .slice A1 n1 c1, .slice A2 n2 c2] 107)) (grown_set w.heap.size (pvs Pm.zero none 0 0 none 0 0) 0 _) (Nat.le_refl _) (by rw [World.size_alloc]; omega))
      go_wp2_with (refine wpList_store_mid rfl 27 _ _ rfl w.heap.size 0 (pvs Pm.zero none 0 0 none 0 0).toArray rfl rfl hth3.out info_plan (pvs_one _ _ _ _ _ _ _) ?_)
      refine bodyPost_ret (results_ct rfl _ _ w.heap.size (pvs Pm.zero none 0 0 none 0 0) _ rfl hrng.out Tryd.underlying27 rfl info_plan) rfl ?_
      exact ⟨none, 0, 0, none, 0, 0, by rw [HE.out]; rfl, by rw [HE.out]; exact plAt_zero _ _, Fr.none, Fr.none, hbe.out⟩

theorem Get_any (A : Option Addr) (n cap B : Nat) (xs : List Int) (w : World) (hx : Rd w B A (u8s xs)) (hn : xs.length = n) (hnc : n ≤ cap) (hcap : cap ≤ maxLen) (hB : B ≤ w.heap.size) (hb : ∀ x ∈ xs, 0 ≤ x ∧ x ≤ 255) (ht : Tab w) :
    Calls Tryd.prog 67 #[.slice A n cap] w fun e w' => ∃ A1 n1 c1 A2 n2 c2, e = .returned (.tuple #[pv (Pm.get xs).1 A1 n1 c1 A2 n2 c2, .int .i64 (Pm.get xs).2]) ∧ PlAt w' w'.heap.size (Pm.get xs).1 A1 n1 c1 A2 n2 c2 ∧ Below w.heap.size w w' := by
  refine (Get_all A n cap B xs w hx hn hnc hcap hB hb ht).mono ?_
  rintro e w' ⟨A1, n1, c1, A2, n2, c2, he, hp, -, -, hb⟩
  exact ⟨A1, n1, c1, A2, n2, c2, he, hp, hb⟩
end Go.Proofs.YtpgfnhdaembhmaaDoor
