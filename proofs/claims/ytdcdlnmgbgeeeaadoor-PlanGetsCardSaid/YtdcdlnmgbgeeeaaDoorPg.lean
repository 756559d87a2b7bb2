/- Whether two plans are alike: the program's. -/
import Derived.Test.YtdcdlnmgbgeeeaaDoorPf
import Derived.Laws.StructEq
namespace Go.Proofs.YtdcdlnmgbgeeeaaDoor
open Go.RowKit Go.Shelf

theorem all_range_eqI : ∀ (xs ys : List Int), xs.length = ys.length → ((List.range xs.length).all fun i => xs.getD i 0 == ys.getD i 0) = (xs == ys)
  | [], [], _ => rfl
  | x :: xs, y :: ys, h => by
    have ih := all_range_eqI xs ys (by simpa using h)
    rw [List.length_cons, List.range_succ_eq_map, List.all_cons, List.all_map]
    simp only [List.getD_cons_zero, Function.comp_def, List.getD_cons_succ, ih]
    simp [List.cons_beq_cons]
  | [], _ :: _, h => by simp at h
  | _ :: _, [], h => by simp at h

/-- an array of numbers compared -/
theorem run_equalIn_ints {P : Program} (w : World) (d : Nat) (t e : TypeId) (n : Nat) (ht : P.underlying t = some (.array n e)) (he : P.underlying e = some (.int .i64)) (hsz : ∀ w, (sizeOf e).run P w = .ok 1 w)
    (xs ys : List Int) (hx : xs.length = n) (hy : ys.length = n) :
    (Op.equalIn (d + 2) t (.agg (i64s xs).toArray) (.agg (i64s ys).toArray)).run P w = .ok (xs == ys) w := by
  rw [← all_range_eqI xs ys (hx.trans hy.symm), hx, List.range_eq_range', Op.equalIn]
  simp only [Sem.run_bind, run_underlying ht, Result.andThen_ok, hsz, Std.Legacy.Range.forIn_eq_forIn_range', Std.Legacy.Range.size, Nat.sub_zero, Nat.add_sub_cancel, Nat.div_one]
  have hl : ∀ i ∈ List.range' 0 n 1, i < n := fun i hi => by simpa using (List.mem_range'_1.1 hi).2
  generalize List.range' 0 n 1 = l at hl ⊢
  induction l with
  | nil => simp
  | cons i l ih =>
    have hi : i < n := hl i (by simp)
    have px : (part e (i64s xs).toArray (i * 1)).run P w = .ok (.int .i64 (xs.getD i 0)) w := by
      simp [part, isAgg, run_underlying he, List.getD, List.getElem?_eq_getElem (show i < xs.length by omega)]
    have py : (part e (i64s ys).toArray (i * 1)).run P w = .ok (.int .i64 (ys.getD i 0)) w := by
      simp [part, isAgg, run_underlying he, List.getD, List.getElem?_eq_getElem (show i < ys.length by omega)]
    have pe : (Op.equalIn (d + 1) e (.int .i64 (xs.getD i 0)) (.int .i64 (ys.getD i 0))).run P w = .ok (xs.getD i 0 == ys.getD i 0) w := run_equalIn_int w d e .i64 .i64 _ _ he
    simp only [List.forIn_cons, Sem.run_bind, px, py, pe, Result.andThen_ok, List.all_cons]
    cases hb : (xs.getD i 0 == ys.getD i 0)
    · simp
    · simp only [Bool.not_true, Bool.false_eq_true, if_false, Sem.run_pure, Result.andThen_ok, Bool.true_and]
      exact ih fun j hj => hl j (by simp [hj])

theorem guard_nums : Tryd.prog.eqGuardType Tryd.prog.depth 44 = false := by kernel_rfl
theorem nums_equal (xs ys : List Int) (hx : xs.length = 10) (hy : ys.length = 10) (w : World) : (Op.equalIn 10000 44 (.agg (i64s xs).toArray) (.agg (i64s ys).toArray)).run Tryd.prog w = .ok (xs == ys) w := by
  obtain ⟨i0, hi, _, hz1, _⟩ := info_parts info_i64
  exact run_equalIn_ints w 9998 44 2 10 Tryd.underlying44 Tryd.underlying2 (size_of_info hi hz1) xs ys hx hy

set_option maxRecDepth 100000 in
set_option maxHeartbeats 4000000 in
theorem Same_p_any (x y : Pm.Pl) (A : Option Addr) (n c : Nat) (A' : Option Addr) (n' c' : Nat) (B : Nat) (D : Option Addr) (m d : Nat) (D' : Option Addr) (m' d' : Nat) (B2 : Nat) (w : World)
    (hp : PlAt w B x A n c A' n' c') (hq : PlAt w B2 y D m d D' m' d') (hB : B ≤ w.heap.size) (hB2 : B2 ≤ w.heap.size) :
    Calls Tryd.prog 20 #[pv x A n c A' n' c', pv y D m d D' m' d'] w fun e w' => e = .returned (.bool (Pm.same x y)) ∧ Below w.heap.size w w' := by
  have HP := Lib.hid hp
  have HQ := Lib.hid hq
  have b0 := Bx.new w x A n c A' n' c' 26
  have hb0 : Below w.heap.size w (w.alloc (.cells (pvs x A n c A' n' c').toArray 26)) := (Below.refl _ w).alloc (Nat.le_refl _) _
  have hNX := Lib.hid (fun W => numbersOf_any x A n c A' n' c' W HP.out.ok)
  have hNY := Lib.hid (fun W => numbersOf_any y D m d D' m' d' W HQ.out.ok)
  clear hp hq
  rw [pv_eq] at hNX hNY
  rw [pv_eq, pv_eq]
  have hz1 : (w.alloc (.cells (pvs x A n c A' n' c').toArray 26)).heap.size = w.heap.size + 1 := World.size_alloc ..
  generalize hw1 : w.alloc (.cells (pvs x A n c A' n' c').toArray 26) = w1 at *
  have b1 := Bx.new w1 y D m d D' m' d' 26
  have b0' : Bx (w1.alloc (.cells (pvs y D m d D' m' d').toArray 26)) w.heap.size x A n c A' n' c' := b0.below (B := w.heap.size + 1) ((Below.refl _ w1).alloc (by omega) _) (Nat.lt_succ_self _)
  have hb1 : Below w.heap.size w (w1.alloc (.cells (pvs y D m d D' m' d').toArray 26)) := hb0.alloc (by omega) _
  rw [hz1] at b1
  have hz2 : (w1.alloc (.cells (pvs y D m d D' m' d').toArray 26)).heap.size = w.heap.size + 2 := by rw [World.size_alloc, hz1]
  subst hw1
  have HX := Lib.hid (fun (W : World) (h : Below (w.heap.size + 2) ((w.alloc (.cells (pvs x A n c A' n' c').toArray 26)).alloc (.cells (pvs y D m d D' m' d').toArray 26)) W) => (b0'.below h (by omega) : Bx W w.heap.size x A n c A' n' c'))
  have HY := Lib.hid (fun (W : World) (h : Below (w.heap.size + 2) ((w.alloc (.cells (pvs x A n c A' n' c').toArray 26)).alloc (.cells (pvs y D m d D' m' d').toArray 26)) W) => (b1.below h (by omega) : Bx W (w.heap.size + 1) y D m d D' m' d'))
  have HRX : Hid (∀ (W : World), Below (w.heap.size + 2) ((w.alloc (.cells (pvs x A n c A' n' c').toArray 26)).alloc (.cells (pvs y D m d D' m' d').toArray 26)) W → W.rangeAt w.heap.size 0 (pvs x A n c A' n' c')) := HX.out
  have HRY : Hid (∀ (W : World), Below (w.heap.size + 2) ((w.alloc (.cells (pvs x A n c A' n' c').toArray 26)).alloc (.cells (pvs y D m d D' m' d').toArray 26)) W → W.rangeAt (w.heap.size + 1) 0 (pvs y D m d D' m' d')) := HY.out
  have hl1 : Hid ((Tryd.prog.info? 26).map (·.size) = some (pvs x A n c A' n' c').length) := info_plan
  have hl2 : Hid ((Tryd.prog.info? 26).map (·.size) = some (pvs y D m d D' m' d').length) := info_plan
  generalize pvs x A n c A' n' c' = L at *
  generalize pvs y D m d D' m' d' = M at *
  have HB1 := Lib.hid hb1
  have HZ2 := Lib.hid hz2
  clear b0 b0' b1 hb0 hb1 hz1 hz2
  have hEN := Lib.hid (fun W => nums_equal x.nums y.nums rfl rfl W)
  have HS : Hid (Pm.same x y = Pm.ask (x.nums = y.nums ∧ x.pen = y.pen ∧ x.ch = y.ch)) := by
    by_cases e : x = y
    · rw [show Pm.same x y = true from Pm.ask_yes e, Pm.ask_yes ⟨by rw [e], by rw [e], by rw [e]⟩]; exact Lib.hid rfl
    · rw [show Pm.same x y = false from Pm.ask_no e, Pm.ask_no (fun h => e (Pm.nums_inj HP.out.ok HQ.out.ok h.1 h.2.1 h.2.2))]; exact Lib.hid rfl
  have hgd := guard_nums
  go_enter Tryd.func20, Tryd.ntmps20
  go_wp2_with fail
  refine region_C (fun W => Below (w.heap.size + 2) ((w.alloc (.cells L.toArray 26)).alloc (.cells M.toArray 26)) W) (by kernel_rfl) ?_
  have hC : Below (w.heap.size + 2) ((w.alloc (.cells L.toArray 26)).alloc (.cells M.toArray 26)) ((w.alloc (.cells L.toArray 26)).alloc (.cells M.toArray 26)).drew := (Below.refl _ _).drew
  refine anyC_take (i := 0) (v := ?v0_103) (a' := ?a0_103) rfl (by kernel_rfl) (by kernel_rfl) (by kernel_rfl) (fun _ _ _ h => h) hC ?w0_103 ?y0_103 ?f0_103 ?r0_103
  case w0_103 => kernel_rfl
  case y0_103 => (intro W hW; exact by refine exec_load 26 (.tmp 2) ?_ w.heap.size ?_ L _ (HRX.out _ hW) Tryd.underlying26 rfl hl1.out <;> rfl)
  case f0_103 => (go_simp; try with_reducible rfl)
  refine anyC_take (i := 2) (v := ?v2_104) (a' := ?a2_104) rfl (by kernel_rfl) (by kernel_rfl) (by kernel_rfl) (fun _ _ _ h => h) hC ?w2_104 ?y2_104 ?f2_104 ?r2_104
  case w2_104 => kernel_rfl
  case y2_104 => (intro W hW; exact by refine exec_load 26 (.tmp 3) ?_ (w.heap.size + 1) ?_ M _ (HRY.out _ hW) Tryd.underlying26 rfl hl2.out <;> rfl)
  case f2_104 => (go_simp; try with_reducible rfl)
  refine anyC_one (i := 1) rfl (by kernel_rfl) (by kernel_rfl) (fun K hK => ?_)
  go_simp
  refine (hNX.out _).mono ?_
  rintro e w2 ⟨rfl, hb2⟩
  have hC2 : Below (w.heap.size + 2) ((w.alloc (.cells L.toArray 26)).alloc (.cells M.toArray 26)) w2 := hC.trans (hb2.mono (by simp))
  refine hK _ _ ⟨hC2, ?_⟩
  clear hK K hb2 hC
  refine anyC_one (i := 3) rfl (by kernel_rfl) (by kernel_rfl) (fun K hK => ?_)
  go_simp
  refine (hNY.out _).mono ?_
  rintro e w3 ⟨rfl, hb3⟩
  have hz2 := hC2.size
  rw [HZ2.out] at hz2
  have hC3 : Below (w.heap.size + 2) ((w.alloc (.cells L.toArray 26)).alloc (.cells M.toArray 26)) w3 := hC2.trans (hb3.mono hz2)
  refine hK _ _ ⟨hC3, ?_⟩
  clear hK K hb3 hC2 hz2
  have hbw := HB1.out.trans (hC3.mono (by omega))
  have HE1 := Lib.hid (equalI_any A D n m c d B B2 x.pen y.pen w3 (HP.out.r1.below (hbw.mono hB)) (HQ.out.r1.below (hbw.mono hB2)) HP.out.l1 HQ.out.l1 (Nat.le_trans HP.out.c1 HP.out.m1))
  have HE2 := Lib.hid (equalL_any A' D' n' m' c' d' B B2 x.ch y.ch w3 (HP.out.r2.below (hbw.mono hB)) (HQ.out.r2.below (hbw.mono hB2)) HP.out.l2 HQ.out.l2 (Nat.le_trans HP.out.c2 HP.out.m2))
  generalize x.nums = xs at *
  generalize y.nums = ys at *
  by_cases e1 : xs = ys
  · have hbe : (xs == ys) = true := by rw [beq_iff_eq]; exact e1
    rw [hbe] at hEN
    have E1 := Lib.hid e1
    clear hbe e1
    refine anyC_take (i := 4) (v := ?v4_105) (a' := ?a4_105) rfl (by kernel_rfl) (by kernel_rfl) (by kernel_rfl) (fun _ _ _ h => h) hC3 ?w4_105 ?y4_105 ?f4_105 ?r4_105
    case w4_105 => kernel_rfl
    case y4_105 => (intro w hC; have h4 := hEN.out w; go_simp; try with_reducible rfl)
    case f4_105 => (go_simp; try with_reducible rfl)
    refine anyC_take (i := 5) (v := ?v5_106) (a' := ?a5_106) rfl (by kernel_rfl) (by kernel_rfl) (by kernel_rfl) (fun _ _ _ h => h) hC3 ?w5_106 ?y5_106 ?f5_106 ?r5_106
    case w5_106 => kernel_rfl
    case y5_106 => (intro w hC; go_simp; try with_reducible rfl)
    case f5_106 => (go_simp; try with_reducible rfl)
    refine anyC_take (i := 6) (v := ?v6_107) (a' := ?a6_107) rfl (by kernel_rfl) (by kernel_rfl) (by kernel_rfl) (fun _ _ _ h => h) hC3 ?w6_107 ?y6_107 ?f6_107 ?r6_107
    case w6_107 => kernel_rfl
    case y6_107 => (intro w hC; go_simp; try with_reducible rfl)
    case f6_107 => (go_simp; try with_reducible rfl)
    refine anyC_take (i := 8) (v := ?v8_108) (a' := ?a8_108) rfl (by kernel_rfl) (by kernel_rfl) (by kernel_rfl) (fun _ _ _ h => h) hC3 ?w8_108 ?y8_108 ?f8_108 ?r8_108
    case w8_108 => kernel_rfl
    case y8_108 => (intro w hC; go_simp; try with_reducible rfl)
    case f8_108 => (go_simp; try with_reducible rfl)
    refine anyC_take (i := 7) (v := ?v7_109) (a' := ?a7_109) rfl (by kernel_rfl) (by kernel_rfl) (by kernel_rfl) (fun _ _ _ h => h) hC3 ?w7_109 ?y7_109 ?f7_109 ?r7_109
    case w7_109 => kernel_rfl
    case y7_109 => (intro w hC; have h4 := (HX.out w hC).pen; go_simp; try with_reducible rfl)
    case f7_109 => (go_simp; try with_reducible rfl)
    refine anyC_take (i := 9) (v := ?v9_110) (a' := ?a9_110) rfl (by kernel_rfl) (by kernel_rfl) (by kernel_rfl) (fun _ _ _ h => h) hC3 ?w9_110 ?y9_110 ?f9_110 ?r9_110
    case w9_110 => kernel_rfl
    case y9_110 => (intro w hC; have h4 := (HY.out w hC).pen; go_simp; try with_reducible rfl)
    case f9_110 => (go_simp; try with_reducible rfl)
    refine anyC_one (i := 10) rfl (by kernel_rfl) (by kernel_rfl) (fun K hK => ?_)
    go_simp
    refine HE1.out.mono ?_
    rintro e w4 ⟨rfl, rfl⟩
    refine hK _ _ ⟨hC3, ?_⟩
    clear hK K
    by_cases p1 : x.pen = y.pen
    · have HS2 : Hid (Pm.same x y = Pm.ask (x.ch = y.ch)) := by
        by_cases p2 : x.ch = y.ch
        · rw [Pm.ask_yes p2]; exact HS.out.trans (Pm.ask_yes ⟨E1.out, p1, p2⟩)
        · rw [Pm.ask_no p2]; exact HS.out.trans (Pm.ask_no (fun h => p2 h.2.2))
      rw [Pm.ask_yes p1]
      clear p1
      generalize Pm.ask (x.ch = y.ch) = bq at *
      refine anyC_take (i := 11) (v := ?v11_111) (a' := ?a11_111) rfl (by kernel_rfl) (by kernel_rfl) (by kernel_rfl) (fun _ _ _ h => h) hC3 ?w11_111 ?y11_111 ?f11_111 ?r11_111
      case w11_111 => kernel_rfl
      case y11_111 => (intro w hC; go_simp; try with_reducible rfl)
      case f11_111 => (go_simp; try with_reducible rfl)
      refine anyC_take (i := 12) (v := ?v12_112) (a' := ?a12_112) rfl (by kernel_rfl) (by kernel_rfl) (by kernel_rfl) (fun _ _ _ h => h) hC3 ?w12_112 ?y12_112 ?f12_112 ?r12_112
      case w12_112 => kernel_rfl
      case y12_112 => (intro w hC; go_simp; try with_reducible rfl)
      case f12_112 => (go_simp; try with_reducible rfl)
      refine anyC_take (i := 13) (v := ?v13_113) (a' := ?a13_113) rfl (by kernel_rfl) (by kernel_rfl) (by kernel_rfl) (fun _ _ _ h => h) hC3 ?w13_113 ?y13_113 ?f13_113 ?r13_113
      case w13_113 => kernel_rfl
      case y13_113 => (intro w hC; go_simp; try with_reducible rfl)
      case f13_113 => (go_simp; try with_reducible rfl)
      refine anyC_take (i := 15) (v := ?v15_114) (a' := ?a15_114) rfl (by kernel_rfl) (by kernel_rfl) (by kernel_rfl) (fun _ _ _ h => h) hC3 ?w15_114 ?y15_114 ?f15_114 ?r15_114
      case w15_114 => kernel_rfl
      case y15_114 => (intro w hC; go_simp; try with_reducible rfl)
      case f15_114 => (go_simp; try with_reducible rfl)
      refine anyC_take (i := 14) (v := ?v14_115) (a' := ?a14_115) rfl (by kernel_rfl) (by kernel_rfl) (by kernel_rfl) (fun _ _ _ h => h) hC3 ?w14_115 ?y14_115 ?f14_115 ?r14_115
      case w14_115 => kernel_rfl
      case y14_115 => (intro w hC; have h4 := (HX.out w hC).ch; go_simp; try with_reducible rfl)
      case f14_115 => (go_simp; try with_reducible rfl)
      refine anyC_take (i := 16) (v := ?v16_116) (a' := ?a16_116) rfl (by kernel_rfl) (by kernel_rfl) (by kernel_rfl) (fun _ _ _ h => h) hC3 ?w16_116 ?y16_116 ?f16_116 ?r16_116
      case w16_116 => kernel_rfl
      case y16_116 => (intro w hC; have h4 := (HY.out w hC).ch; go_simp; try with_reducible rfl)
      case f16_116 => (go_simp; try with_reducible rfl)
      refine anyC_one (i := 17) rfl (by kernel_rfl) (by kernel_rfl) (fun K hK => ?_)
      go_simp
      refine HE2.out.mono ?_
      rintro e w5 ⟨rfl, rfl⟩
      refine hK _ _ ⟨hC3, ?_⟩
      clear hK K
      refine anyC_take (i := 18) (v := ?v18_117) (a' := ?a18_117) rfl (by kernel_rfl) (by kernel_rfl) (by kernel_rfl) (fun _ _ _ h => h) hC3 ?w18_117 ?y18_117 ?f18_117 ?r18_117
      case w18_117 => kernel_rfl
      case y18_117 => (intro w hC; go_simp; try with_reducible rfl)
      case f18_117 => (go_simp; try with_reducible rfl)
      refine anyC_take (i := 19) (v := ?v19_118) (a' := ?a19_118) rfl (by kernel_rfl) (by kernel_rfl) (by kernel_rfl) (fun _ _ _ h => h) hC3 ?w19_118 ?y19_118 ?f19_118 ?r19_118
      case w19_118 => kernel_rfl
      case y19_118 => (intro w hC; go_simp; try with_reducible rfl)
      case f19_118 => (go_simp; try with_reducible rfl)
      refine anyC_done (by kernel_rfl) ?_
      go_wp2
      go_ret
      exact ⟨ret_bool HS2.out.symm, hbw⟩
    · have HF : Hid (Pm.same x y = false) := HS.out.trans (Pm.ask_no (fun h => p1 h.2.1))
      rw [Pm.ask_no p1]
      clear p1
      refine anyC_take (i := 11) (v := ?v11_119) (a' := ?a11_119) rfl (by kernel_rfl) (by kernel_rfl) (by kernel_rfl) (fun _ _ _ h => h) hC3 ?w11_119 ?y11_119 ?f11_119 ?r11_119
      case w11_119 => kernel_rfl
      case y11_119 => (intro w hC; go_simp; try with_reducible rfl)
      case f11_119 => (go_simp; try with_reducible rfl)
      refine anyC_take (i := 12) (v := ?v12_120) (a' := ?a12_120) rfl (by kernel_rfl) (by kernel_rfl) (by kernel_rfl) (fun _ _ _ h => h) hC3 ?w12_120 ?y12_120 ?f12_120 ?r12_120
      case w12_120 => kernel_rfl
      case y12_120 => (intro w hC; go_simp; try with_reducible rfl)
      case f12_120 => (go_simp; try with_reducible rfl)
      refine anyC_skip (i := 13) (a' := ?a13_121) rfl (by kernel_rfl) (by kernel_rfl) (by kernel_rfl) (fun _ _ _ h => h) hC3 (by kernel_rfl) ?f13_121 ?r13_121
      case f13_121 => (go_simp; try with_reducible rfl)
      refine anyC_skip (i := 14) (a' := ?a14_122) rfl (by kernel_rfl) (by kernel_rfl) (by kernel_rfl) (fun _ _ _ h => h) hC3 (by kernel_rfl) ?f14_122 ?r14_122
      case f14_122 => (go_simp; try with_reducible rfl)
      refine anyC_skip (i := 15) (a' := ?a15_123) rfl (by kernel_rfl) (by kernel_rfl) (by kernel_rfl) (fun _ _ _ h => h) hC3 (by kernel_rfl) ?f15_123 ?r15_123
      case f15_123 => (go_simp; try with_reducible rfl)
      refine anyC_skip (i := 16) (a' := ?a16_124) rfl (by kernel_rfl) (by kernel_rfl) (by kernel_rfl) (fun _ _ _ h => h) hC3 (by kernel_rfl) ?f16_124 ?r16_124
      case f16_124 => (go_simp; try with_reducible rfl)
      refine anyC_skip (i := 17) (a' := ?a17_125) rfl (by kernel_rfl) (by kernel_rfl) (by kernel_rfl) (fun _ _ _ h => h) hC3 (by kernel_rfl) ?f17_125 ?r17_125
      case f17_125 => (go_simp; try with_reducible rfl)
      refine anyC_take (i := 18) (v := ?v18_126) (a' := ?a18_126) rfl (by kernel_rfl) (by kernel_rfl) (by kernel_rfl) (fun _ _ _ h => h) hC3 ?w18_126 ?y18_126 ?f18_126 ?r18_126
      case w18_126 => kernel_rfl
      case y18_126 => (intro w hC; go_simp; try with_reducible rfl)
      case f18_126 => (go_simp; try with_reducible rfl)
      refine anyC_take (i := 19) (v := ?v19_127) (a' := ?a19_127) rfl (by kernel_rfl) (by kernel_rfl) (by kernel_rfl) (fun _ _ _ h => h) hC3 ?w19_127 ?y19_127 ?f19_127 ?r19_127
      case w19_127 => kernel_rfl
      case y19_127 => (intro w hC; go_simp; try with_reducible rfl)
      case f19_127 => (go_simp; try with_reducible rfl)
      refine anyC_done (by kernel_rfl) ?_
      go_wp2
      go_ret
      exact ⟨ret_bool HF.out.symm, hbw⟩
  · have hbe : (xs == ys) = false := by rw [beq_eq_false_iff_ne]; exact e1
    rw [hbe] at hEN
    have HF : Hid (Pm.same x y = false) := HS.out.trans (Pm.ask_no (fun h => e1 h.1))
    clear hbe e1
    refine anyC_take (i := 4) (v := ?v4_128) (a' := ?a4_128) rfl (by kernel_rfl) (by kernel_rfl) (by kernel_rfl) (fun _ _ _ h => h) hC3 ?w4_128 ?y4_128 ?f4_128 ?r4_128
    case w4_128 => kernel_rfl
    case y4_128 => (intro w hC; have h4 := hEN.out w; go_simp; try with_reducible rfl)
    case f4_128 => (go_simp; try with_reducible rfl)
    refine anyC_take (i := 5) (v := ?v5_129) (a' := ?a5_129) rfl (by kernel_rfl) (by kernel_rfl) (by kernel_rfl) (fun _ _ _ h => h) hC3 ?w5_129 ?y5_129 ?f5_129 ?r5_129
    case w5_129 => kernel_rfl
    case y5_129 => (intro w hC; go_simp; try with_reducible rfl)
    case f5_129 => (go_simp; try with_reducible rfl)
    refine anyC_skip (i := 6) (a' := ?a6_130) rfl (by kernel_rfl) (by kernel_rfl) (by kernel_rfl) (fun _ _ _ h => h) hC3 (by kernel_rfl) ?f6_130 ?r6_130
    case f6_130 => (go_simp; try with_reducible rfl)
    refine anyC_skip (i := 7) (a' := ?a7_131) rfl (by kernel_rfl) (by kernel_rfl) (by kernel_rfl) (fun _ _ _ h => h) hC3 (by kernel_rfl) ?f7_131 ?r7_131
    case f7_131 => (go_simp; try with_reducible rfl)
    refine anyC_skip (i := 8) (a' := ?a8_132) rfl (by kernel_rfl) (by kernel_rfl) (by kernel_rfl) (fun _ _ _ h => h) hC3 (by kernel_rfl) ?f8_132 ?r8_132
    case f8_132 => (go_simp; try with_reducible rfl)
    refine anyC_skip (i := 9) (a' := ?a9_133) rfl (by kernel_rfl) (by kernel_rfl) (by kernel_rfl) (fun _ _ _ h => h) hC3 (by kernel_rfl) ?f9_133 ?r9_133
    case f9_133 => (go_simp; try with_reducible rfl)
    refine anyC_skip (i := 10) (a' := ?a10_134) rfl (by kernel_rfl) (by kernel_rfl) (by kernel_rfl) (fun _ _ _ h => h) hC3 (by kernel_rfl) ?f10_134 ?r10_134
    case f10_134 => (go_simp; try with_reducible rfl)
    refine anyC_take (i := 11) (v := ?v11_135) (a' := ?a11_135) rfl (by kernel_rfl) (by kernel_rfl) (by kernel_rfl) (fun _ _ _ h => h) hC3 ?w11_135 ?y11_135 ?f11_135 ?r11_135
    case w11_135 => kernel_rfl
    case y11_135 => (intro w hC; go_simp; try with_reducible rfl)
    case f11_135 => (go_simp; try with_reducible rfl)
    refine anyC_take (i := 12) (v := ?v12_136) (a' := ?a12_136) rfl (by kernel_rfl) (by kernel_rfl) (by kernel_rfl) (fun _ _ _ h => h) hC3 ?w12_136 ?y12_136 ?f12_136 ?r12_136
    case w12_136 => kernel_rfl
    case y12_136 => (intro w hC; go_simp; try with_reducible rfl)
    case f12_136 => (go_simp; try with_reducible rfl)
    refine anyC_skip (i := 13) (a' := ?a13_137) rfl (by kernel_rfl) (by kernel_rfl) (by kernel_rfl) (fun _ _ _ h => h) hC3 (by kernel_rfl) ?f13_137 ?r13_137
    case f13_137 => (go_simp; try with_reducible rfl)
    refine anyC_skip (i := 14) (a' := ?a14_138) rfl (by kernel_rfl) (by kernel_rfl) (by kernel_rfl) (fun _ _ _ h => h) hC3 (by kernel_rfl) ?f14_138 ?r14_138
    case f14_138 => (go_simp; try with_reducible rfl)
    refine anyC_skip (i := 15) (a' := ?a15_139) rfl (by kernel_rfl) (by kernel_rfl) (by kernel_rfl) (fun _ _ _ h => h) hC3 (by kernel_rfl) ?f15_139 ?r15_139
    case f15_139 => (go_simp; try with_reducible rfl)
    refine anyC_skip (i := 16) (a' := ?a16_140) rfl (by kernel_rfl) (by kernel_rfl) (by kernel_rfl) (fun _ _ _ h => h) hC3 (by kernel_rfl) ?f16_140 ?r16_140
    case f16_140 => (go_simp; try with_reducible rfl)
    refine anyC_skip (i := 17) (a' := ?a17_141) rfl (by kernel_rfl) (by kernel_rfl) (by kernel_rfl) (fun _ _ _ h => h) hC3 (by kernel_rfl) ?f17_141 ?r17_141
    case f17_141 => (go_simp; try with_reducible rfl)
    refine anyC_take (i := 18) (v := ?v18_142) (a' := ?a18_142) rfl (by kernel_rfl) (by kernel_rfl) (by kernel_rfl) (fun _ _ _ h => h) hC3 ?w18_142 ?y18_142 ?f18_142 ?r18_142
    case w18_142 => kernel_rfl
    case y18_142 => (intro w hC; go_simp; try with_reducible rfl)
    case f18_142 => (go_simp; try with_reducible rfl)
    refine anyC_take (i := 19) (v := ?v19_143) (a' := ?a19_143) rfl (by kernel_rfl) (by kernel_rfl) (by kernel_rfl) (fun _ _ _ h => h) hC3 ?w19_143 ?y19_143 ?f19_143 ?r19_143
    case w19_143 => kernel_rfl
    case y19_143 => (intro w hC; go_simp; try with_reducible rfl)
    case f19_143 => (go_simp; try with_reducible rfl)
    refine anyC_done (by kernel_rfl) ?_
    go_wp2
    go_ret
    exact ⟨ret_bool HF.out.symm, hbw⟩
end Go.Proofs.YtdcdlnmgbgeeeaaDoor
