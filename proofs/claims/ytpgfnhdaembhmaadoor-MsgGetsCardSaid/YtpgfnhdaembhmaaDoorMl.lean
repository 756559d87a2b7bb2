/- Whether two messages are alike: the program's. -/
import Derived.Test.YtpgfnhdaembhmaaDoorMa
namespace Go.Proofs.YtpgfnhdaembhmaaDoor
open Go.RowKit Go.Shelf

set_option maxRecDepth 100000 in
set_option maxHeartbeats 1000000 in
theorem SEqual_any (A1 A2 : Option Addr) (n1 n2 c1 c2 B1 B2 : Nat) (xs ys : List Int) (w : World) (hx : Rd w B1 A1 (i64s xs)) (hy : Rd w B2 A2 (i64s ys)) (hn1 : xs.length = n1) (hn2 : ys.length = n2)
    (hm1 : n1 ≤ maxLen) :
    Calls Tryd.prog 54 #[.slice A1 n1 c1, .slice A2 n2 c2] w fun e w' => e = .returned (.bool (decide (xs = ys))) ∧ ∃ n, w' = w.drewN n := by
  unfold maxLen at hm1
  by_cases hne : n1 = n2
  · subst hne
    go_enter Tryd.func54, Tryd.ntmps54
    go_wp2
    go_loopw [13] (fun ix wr => ∃ (k : Nat) (nd : Nat), ix = .int .i64 (k : Int) ∧ k ≤ n1 ∧ Hid (xs.take k = ys.take k) ∧ Hid (wr = w.drewN nd)) (fun ix _ => n1 - (intOf ix).toNat)
    case atStart => exact ⟨0, 0, rfl, by omega, Lib.hid rfl, Lib.hid rfl⟩
    case round =>
      obtain ⟨k, nd, rfl, hk, hT, hW⟩ := hrel
      have hx' : Rd wr B1 A1 (i64s xs) := by rw [hW.out]; exact hx
      have hy' : Rd wr B2 A2 (i64s ys) := by rw [hW.out]; exact hy
      by_cases hlt : k < n1
      · obtain ⟨x, hxk⟩ : ∃ x, xs[k]? = some x := ⟨xs[k], List.getElem?_eq_getElem (by omega)⟩
        obtain ⟨y, hyk⟩ : ∃ y, ys[k]? = some y := ⟨ys[k], List.getElem?_eq_getElem (by omega)⟩
        obtain ⟨ad1, rfl, _, hc1⟩ := hx'.getU hxk
        obtain ⟨ad2, rfl, _, hc2⟩ := hy'.getU hyk
        have HX := Lib.hid hxk
        have HY := Lib.hid hyk
        clear hxk hyk hx hy hx' hy'
        have hr : decide ((k : Int) < (n1 : Int)) = true := by simp; omega
        by_cases hxy : x = y
        · subst hxy
          go_wp2_with fail
          go_quiet (fail)
          go_wp2
          go_roundw
          case rel => exact ⟨k + 1, nd + _, by go_num, by omega, Lib.hid (take_step hT.out HX.out HY.out), Lib.hid (by rw [hW.out, World.drewN_drewN])⟩
          case measure => simp [intOf]; omega
        · have hb : (x != y) = true := by rw [bne_iff_ne]; exact hxy
          have hne : xs ≠ ys := by
            intro e
            have h1 := HX.out
            rw [e, HY.out] at h1
            exact hxy (by injection h1 with h1; exact h1.symm)
          have HE := Lib.hid (show decide (xs = ys) = false by simpa using hne)
          clear hne hxy
          go_wp2_with fail
          go_quiet (fail)
          go_wp2
          go_ret
          exact ⟨ret_bool HE.out.symm, nd + _, by rw [hW.out, World.drewN_drewN]⟩
      · have HE : Hid (decide (xs = ys) = true) := by
          have h := hT.out
          rw [List.take_of_length_le (by omega), List.take_of_length_le (by omega)] at h
          exact Lib.hid (by simpa using h)
        clear hx hy hx' hy'
        go_wp2
        go_ret
        exact ⟨ret_bool HE.out.symm, nd, hW.out⟩
  · have HE : Hid (decide (xs = ys) = false) := by
      have : xs ≠ ys := by intro e; apply hne; rw [← hn1, ← hn2, e]
      exact Lib.hid (by simpa using this)
    have hb : ((n1 : Int) != (n2 : Int)) = true := by rw [bne_iff_ne]; omega
    clear hx hy
    go_enter Tryd.func54, Tryd.ntmps54
    go_wp2
    go_ret
    exact ⟨ret_bool HE.out.symm, 0, rfl⟩

theorem exec_load_at {P : Program} {a : Act} {o : Oper} {w : World} (ty : TypeId) (x : Operand) (ho : o.op = .load ty x) (b k : Nat) (hx : a.eval x = .pointer (some ⟨b, k, none⟩)) (cs : List Value) (d : TypeDesc) (hr : w.rangeAt b k cs)
    (hu : P.underlying ty = some d) (hd : d.isRow = true) (hi : (P.info? ty).map (·.size) = some cs.length) : (execOp a.eval o).run P w = .ok (.value (.agg cs.toArray)) w := by
  unfold execOp
  simp only [ho, hx, Instr.loadAt, Instr.sureAddr, Sem.run_bind, Sem.run_pure, Result.andThen_ok, run_loadVar_mid w b k ty cs d hr hu hd hi]
theorem mguard_nums : Tryd.prog.eqGuardType Tryd.prog.depth 49 = false := by kernel_rfl
theorem mnums_equal (xs ys : List Int) (hx : xs.length = 10) (hy : ys.length = 10) (w : World) : (Op.equalIn 10000 49 (.agg (i64s xs).toArray) (.agg (i64s ys).toArray)).run Tryd.prog w = .ok (xs == ys) w := by
  obtain ⟨i0, hi, _, hz1, _⟩ := info_parts info_i64
  exact run_equalIn_ints w 9998 49 2 10 Tryd.underlying49 Tryd.underlying2 (size_of_info hi hz1) xs ys hx hy

set_option maxRecDepth 100000 in
set_option maxHeartbeats 8000000 in
theorem MSame_any (x y : Mm.Ms) (l m : Lo) (B B2 : Nat) (w : World) (hp : MsAt w B x l) (hq : MsAt w B2 y m) (hB : B ≤ w.heap.size) (hB2 : B2 ≤ w.heap.size) :
    Calls Tryd.prog 21 #[mv x l, mv y m] w fun e w' => e = .returned (.bool (Mm.same x y)) ∧ Below w.heap.size w w' := by
  have hz1 : (w.alloc (.cells (mvs x l).toArray 30)).heap.size = w.heap.size + 1 := World.size_alloc ..
  have hx0 := Mx.new w x l 30
  have hx1 := hx0.below (B := w.heap.size + 1) ((Below.refl _ (w.alloc (.cells (mvs x l).toArray 30))).alloc (by omega) (.cells (mvs y m).toArray 30)) (Nat.lt_succ_self _)
  have hy1 := Mx.new (w.alloc (.cells (mvs x l).toArray 30)) y m 30
  have hbw : Hid (Below w.heap.size w ((w.alloc (.cells (mvs x l).toArray 30)).alloc (.cells (mvs y m).toArray 30))) := ((Below.refl _ w).alloc (Nat.le_refl _) _).alloc (by omega) _
  have hz2 : ((w.alloc (.cells (mvs x l).toArray 30)).alloc (.cells (mvs y m).toArray 30)).heap.size = w.heap.size + 2 := by rw [World.size_alloc, hz1]
  rw [hz1] at hy1
  have HX := Lib.hid (fun (W : World) (h : Below (w.heap.size + 2) ((w.alloc (.cells (mvs x l).toArray 30)).alloc (.cells (mvs y m).toArray 30)) W) => (hx1.below h (by omega) : Mx W w.heap.size x l))
  have HY := Lib.hid (fun (W : World) (h : Below (w.heap.size + 2) ((w.alloc (.cells (mvs x l).toArray 30)).alloc (.cells (mvs y m).toArray 30)) W) => (hy1.below h (Nat.lt_succ_self _) : Mx W (w.heap.size + 1) y m))
  have HRX : Hid (∀ (W : World), Below (w.heap.size + 2) ((w.alloc (.cells (mvs x l).toArray 30)).alloc (.cells (mvs y m).toArray 30)) W → W.rangeAt w.heap.size 0 (mvs x l)) := HX.out
  have HRY : Hid (∀ (W : World), Below (w.heap.size + 2) ((w.alloc (.cells (mvs x l).toArray 30)).alloc (.cells (mvs y m).toArray 30)) W → W.rangeAt (w.heap.size + 1) 0 (mvs y m)) := HY.out
  have HBW := Lib.hid (fun (W : World) (h : Below (w.heap.size + 2) ((w.alloc (.cells (mvs x l).toArray 30)).alloc (.cells (mvs y m).toArray 30)) W) => hbw.out.trans (h.mono (by omega)))
  have HNX := Lib.hid (fun W => mnums_any x l W hp.ok)
  have HNY := Lib.hid (fun W => mnums_any y m W hq.ok)
  have HS := Lib.hid (fun (W : World) (h : Below w.heap.size w W) => Same_p_any x.plan y.plan l.A1 l.n1 l.c1 l.A2 l.n2 l.c2 B m.A1 m.n1 m.c1 m.A2 m.n2 m.c2 B2 W (hp.pl.below h hB) (hq.pl.below h hB2) (Nat.le_trans hB h.size) (Nat.le_trans hB2 h.size))
  have HI := Lib.hid (fun (W : World) (h : Below w.heap.size w W) => SEqual_any l.A3 m.A3 l.n3 m.n3 l.c3 m.c3 B B2 x.id y.id W (hp.r3.below (h.mono hB)) (hq.r3.below (h.mono hB2)) hp.l3 hq.l3 (Nat.le_trans hp.c3 hp.m3))
  have HE4 := Lib.hid (fun (W : World) (h : Below w.heap.size w W) => Equal_any l.A4 l.n4 l.c4 B x.se m.A4 m.n4 m.c4 B2 y.se W (hp.r4.below (h.mono hB)) hp.l4 (hq.r4.below (h.mono hB2)) hq.l4 hp.ok.se hq.ok.se)
  have HE5 := Lib.hid (fun (W : World) (h : Below w.heap.size w W) => Equal_any l.A5 l.n5 l.c5 B x.pa m.A5 m.n5 m.c5 B2 y.pa W (hp.r5.below (h.mono hB)) hp.l5 (hq.r5.below (h.mono hB2)) hq.l5 hp.ok.pa hq.ok.pa)
  have hEN := Lib.hid (fun W => mnums_equal x.nums y.nums rfl rfl W)
  have NY := Lib.hid (fun a b c d e => Mm.same_nums (x := x) (y := y) hp.ok hq.ok a b c d e)
  have NK := Lib.hid (fun (h : x.k ≠ y.k) => Mm.same_no (x := x) (y := y) (fun q => h (by rw [q])))
  have NN := Lib.hid (fun (h : x.nums ≠ y.nums) => Mm.same_no (x := x) (y := y) (fun q => h (by rw [q])))
  have NP := Lib.hid (fun (h : Pm.same x.plan y.plan = false) => Mm.same_no (x := x) (y := y) (fun q => by rw [q, Mm.psame_yes] at h; cases h))
  have NI := Lib.hid (fun (h : x.id ≠ y.id) => Mm.same_no (x := x) (y := y) (fun q => h (by rw [q])))
  have NS := Lib.hid (fun (h : x.se ≠ y.se) => Mm.same_no (x := x) (y := y) (fun q => h (by rw [q])))
  have hl1 := Lib.hid (info_mv x l)
  have hl2 := Lib.hid (info_mv y m)
  have HZ2 := Lib.hid hz2
  have hgd := mguard_nums
  clear hx0 hx1 hy1 hz1 hz2 hp hq hB hB2
  unfold mv at HNX HNY ⊢
  generalize mvs x l = L at *
  generalize mvs y m = M at *
  generalize x.nums = xn at *
  generalize y.nums = yn at *
  go_enter Tryd.func21, Tryd.ntmps21
  go_wp2_with fail
  refine region_C (fun W => Below (w.heap.size + 2) ((w.alloc (.cells L.toArray 30)).alloc (.cells M.toArray 30)) W) (by kernel_rfl) ?_
  have hC : Below (w.heap.size + 2) ((w.alloc (.cells L.toArray 30)).alloc (.cells M.toArray 30)) (World.drew ((w.alloc (.cells L.toArray 30)).alloc (.cells M.toArray 30))) := (Below.refl _ _).drew
  refine anyC_take (i := 0) (v := ?v0_319) (a' := ?a0_319) rfl (by kernel_rfl) (by kernel_rfl) (by kernel_rfl) (fun _ _ _ h => h) hC ?w0_319 ?y0_319 ?f0_319 ?r0_319
  case w0_319 => kernel_rfl
  case y0_319 => (intro w hC; go_simp; try with_reducible rfl)
  case f0_319 => (go_simp; try with_reducible rfl)
  refine anyC_take (i := 2) (v := ?v2_320) (a' := ?a2_320) rfl (by kernel_rfl) (by kernel_rfl) (by kernel_rfl) (fun _ _ _ h => h) hC ?w2_320 ?y2_320 ?f2_320 ?r2_320
  case w2_320 => kernel_rfl
  case y2_320 => (intro w hC; go_simp; try with_reducible rfl)
  case f2_320 => (go_simp; try with_reducible rfl)
  refine anyC_take (i := 1) (v := ?v1_321) (a' := ?a1_321) rfl (by kernel_rfl) (by kernel_rfl) (by kernel_rfl) (fun _ _ _ h => h) hC ?w1_321 ?y1_321 ?f1_321 ?r1_321
  case w1_321 => kernel_rfl
  case y1_321 => (intro w hC; have h4 := (HX.out w hC).at 0 rfl; go_simp; try with_reducible rfl)
  case f1_321 => (go_simp; try with_reducible rfl)
  refine anyC_take (i := 3) (v := ?v3_322) (a' := ?a3_322) rfl (by kernel_rfl) (by kernel_rfl) (by kernel_rfl) (fun _ _ _ h => h) hC ?w3_322 ?y3_322 ?f3_322 ?r3_322
  case w3_322 => kernel_rfl
  case y3_322 => (intro w hC; have h4 := (HY.out w hC).at 0 rfl; go_simp; try with_reducible rfl)
  case f3_322 => (go_simp; try with_reducible rfl)
  by_cases ek : x.k = y.k
  case neg =>
    have hbe : (x.k == y.k) = false := by rw [beq_eq_false_iff_ne]; exact ek
    have HF := Lib.hid (NK.out ek)
    clear ek
    refine anyC_take (i := 4) (v := ?v4_323) (a' := ?a4_323) rfl (by kernel_rfl) (by kernel_rfl) (by kernel_rfl) (fun _ _ _ h => h) hC ?w4_323 ?y4_323 ?f4_323 ?r4_323
    case w4_323 => kernel_rfl
    case y4_323 => (intro w hC; go_simp; try with_reducible rfl)
    case f4_323 => (go_simp; try with_reducible rfl)
    refine anyC_take (i := 5) (v := ?v5_324) (a' := ?a5_324) rfl (by kernel_rfl) (by kernel_rfl) (by kernel_rfl) (fun _ _ _ h => h) hC ?w5_324 ?y5_324 ?f5_324 ?r5_324
    case w5_324 => kernel_rfl
    case y5_324 => (intro w hC; go_simp; try with_reducible rfl)
    case f5_324 => (go_simp; try with_reducible rfl)
    refine anyC_skip (i := 6) (a' := ?a6_325) rfl (by kernel_rfl) (by kernel_rfl) (by kernel_rfl) (fun _ _ _ h => h) hC (by kernel_rfl) ?f6_325 ?r6_325
    case f6_325 => (go_simp; try with_reducible rfl)
    refine anyC_skip (i := 7) (a' := ?a7_326) rfl (by kernel_rfl) (by kernel_rfl) (by kernel_rfl) (fun _ _ _ h => h) hC (by kernel_rfl) ?f7_326 ?r7_326
    case f7_326 => (go_simp; try with_reducible rfl)
    refine anyC_skip (i := 8) (a' := ?a8_327) rfl (by kernel_rfl) (by kernel_rfl) (by kernel_rfl) (fun _ _ _ h => h) hC (by kernel_rfl) ?f8_327 ?r8_327
    case f8_327 => (go_simp; try with_reducible rfl)
    refine anyC_skip (i := 9) (a' := ?a9_328) rfl (by kernel_rfl) (by kernel_rfl) (by kernel_rfl) (fun _ _ _ h => h) hC (by kernel_rfl) ?f9_328 ?r9_328
    case f9_328 => (go_simp; try with_reducible rfl)
    refine anyC_skip (i := 10) (a' := ?a10_329) rfl (by kernel_rfl) (by kernel_rfl) (by kernel_rfl) (fun _ _ _ h => h) hC (by kernel_rfl) ?f10_329 ?r10_329
    case f10_329 => (go_simp; try with_reducible rfl)
    refine anyC_take (i := 11) (v := ?v11_330) (a' := ?a11_330) rfl (by kernel_rfl) (by kernel_rfl) (by kernel_rfl) (fun _ _ _ h => h) hC ?w11_330 ?y11_330 ?f11_330 ?r11_330
    case w11_330 => kernel_rfl
    case y11_330 => (intro w hC; go_simp; try with_reducible rfl)
    case f11_330 => (go_simp; try with_reducible rfl)
    refine anyC_take (i := 12) (v := ?v12_331) (a' := ?a12_331) rfl (by kernel_rfl) (by kernel_rfl) (by kernel_rfl) (fun _ _ _ h => h) hC ?w12_331 ?y12_331 ?f12_331 ?r12_331
    case w12_331 => kernel_rfl
    case y12_331 => (intro w hC; go_simp; try with_reducible rfl)
    case f12_331 => (go_simp; try with_reducible rfl)
    refine anyC_skip (i := 13) (a' := ?a13_332) rfl (by kernel_rfl) (by kernel_rfl) (by kernel_rfl) (fun _ _ _ h => h) hC (by kernel_rfl) ?f13_332 ?r13_332
    case f13_332 => (go_simp; try with_reducible rfl)
    refine anyC_skip (i := 14) (a' := ?a14_333) rfl (by kernel_rfl) (by kernel_rfl) (by kernel_rfl) (fun _ _ _ h => h) hC (by kernel_rfl) ?f14_333 ?r14_333
    case f14_333 => (go_simp; try with_reducible rfl)
    refine anyC_skip (i := 15) (a' := ?a15_334) rfl (by kernel_rfl) (by kernel_rfl) (by kernel_rfl) (fun _ _ _ h => h) hC (by kernel_rfl) ?f15_334 ?r15_334
    case f15_334 => (go_simp; try with_reducible rfl)
    refine anyC_skip (i := 16) (a' := ?a16_335) rfl (by kernel_rfl) (by kernel_rfl) (by kernel_rfl) (fun _ _ _ h => h) hC (by kernel_rfl) ?f16_335 ?r16_335
    case f16_335 => (go_simp; try with_reducible rfl)
    refine anyC_skip (i := 17) (a' := ?a17_336) rfl (by kernel_rfl) (by kernel_rfl) (by kernel_rfl) (fun _ _ _ h => h) hC (by kernel_rfl) ?f17_336 ?r17_336
    case f17_336 => (go_simp; try with_reducible rfl)
    refine anyC_take (i := 18) (v := ?v18_337) (a' := ?a18_337) rfl (by kernel_rfl) (by kernel_rfl) (by kernel_rfl) (fun _ _ _ h => h) hC ?w18_337 ?y18_337 ?f18_337 ?r18_337
    case w18_337 => kernel_rfl
    case y18_337 => (intro w hC; go_simp; try with_reducible rfl)
    case f18_337 => (go_simp; try with_reducible rfl)
    refine anyC_take (i := 19) (v := ?v19_338) (a' := ?a19_338) rfl (by kernel_rfl) (by kernel_rfl) (by kernel_rfl) (fun _ _ _ h => h) hC ?w19_338 ?y19_338 ?f19_338 ?r19_338
    case w19_338 => kernel_rfl
    case y19_338 => (intro w hC; go_simp; try with_reducible rfl)
    case f19_338 => (go_simp; try with_reducible rfl)
    refine anyC_skip (i := 20) (a' := ?a20_339) rfl (by kernel_rfl) (by kernel_rfl) (by kernel_rfl) (fun _ _ _ h => h) hC (by kernel_rfl) ?f20_339 ?r20_339
    case f20_339 => (go_simp; try with_reducible rfl)
    refine anyC_skip (i := 21) (a' := ?a21_340) rfl (by kernel_rfl) (by kernel_rfl) (by kernel_rfl) (fun _ _ _ h => h) hC (by kernel_rfl) ?f21_340 ?r21_340
    case f21_340 => (go_simp; try with_reducible rfl)
    refine anyC_skip (i := 22) (a' := ?a22_341) rfl (by kernel_rfl) (by kernel_rfl) (by kernel_rfl) (fun _ _ _ h => h) hC (by kernel_rfl) ?f22_341 ?r22_341
    case f22_341 => (go_simp; try with_reducible rfl)
    refine anyC_skip (i := 23) (a' := ?a23_342) rfl (by kernel_rfl) (by kernel_rfl) (by kernel_rfl) (fun _ _ _ h => h) hC (by kernel_rfl) ?f23_342 ?r23_342
    case f23_342 => (go_simp; try with_reducible rfl)
    refine anyC_skip (i := 24) (a' := ?a24_343) rfl (by kernel_rfl) (by kernel_rfl) (by kernel_rfl) (fun _ _ _ h => h) hC (by kernel_rfl) ?f24_343 ?r24_343
    case f24_343 => (go_simp; try with_reducible rfl)
    refine anyC_take (i := 25) (v := ?v25_344) (a' := ?a25_344) rfl (by kernel_rfl) (by kernel_rfl) (by kernel_rfl) (fun _ _ _ h => h) hC ?w25_344 ?y25_344 ?f25_344 ?r25_344
    case w25_344 => kernel_rfl
    case y25_344 => (intro w hC; go_simp; try with_reducible rfl)
    case f25_344 => (go_simp; try with_reducible rfl)
    refine anyC_take (i := 26) (v := ?v26_345) (a' := ?a26_345) rfl (by kernel_rfl) (by kernel_rfl) (by kernel_rfl) (fun _ _ _ h => h) hC ?w26_345 ?y26_345 ?f26_345 ?r26_345
    case w26_345 => kernel_rfl
    case y26_345 => (intro w hC; go_simp; try with_reducible rfl)
    case f26_345 => (go_simp; try with_reducible rfl)
    refine anyC_skip (i := 27) (a' := ?a27_346) rfl (by kernel_rfl) (by kernel_rfl) (by kernel_rfl) (fun _ _ _ h => h) hC (by kernel_rfl) ?f27_346 ?r27_346
    case f27_346 => (go_simp; try with_reducible rfl)
    refine anyC_skip (i := 28) (a' := ?a28_347) rfl (by kernel_rfl) (by kernel_rfl) (by kernel_rfl) (fun _ _ _ h => h) hC (by kernel_rfl) ?f28_347 ?r28_347
    case f28_347 => (go_simp; try with_reducible rfl)
    refine anyC_skip (i := 29) (a' := ?a29_348) rfl (by kernel_rfl) (by kernel_rfl) (by kernel_rfl) (fun _ _ _ h => h) hC (by kernel_rfl) ?f29_348 ?r29_348
    case f29_348 => (go_simp; try with_reducible rfl)
    refine anyC_skip (i := 30) (a' := ?a30_349) rfl (by kernel_rfl) (by kernel_rfl) (by kernel_rfl) (fun _ _ _ h => h) hC (by kernel_rfl) ?f30_349 ?r30_349
    case f30_349 => (go_simp; try with_reducible rfl)
    refine anyC_skip (i := 31) (a' := ?a31_350) rfl (by kernel_rfl) (by kernel_rfl) (by kernel_rfl) (fun _ _ _ h => h) hC (by kernel_rfl) ?f31_350 ?r31_350
    case f31_350 => (go_simp; try with_reducible rfl)
    refine anyC_take (i := 32) (v := ?v32_351) (a' := ?a32_351) rfl (by kernel_rfl) (by kernel_rfl) (by kernel_rfl) (fun _ _ _ h => h) hC ?w32_351 ?y32_351 ?f32_351 ?r32_351
    case w32_351 => kernel_rfl
    case y32_351 => (intro w hC; go_simp; try with_reducible rfl)
    case f32_351 => (go_simp; try with_reducible rfl)
    refine anyC_take (i := 33) (v := ?v33_352) (a' := ?a33_352) rfl (by kernel_rfl) (by kernel_rfl) (by kernel_rfl) (fun _ _ _ h => h) hC ?w33_352 ?y33_352 ?f33_352 ?r33_352
    case w33_352 => kernel_rfl
    case y33_352 => (intro w hC; go_simp; try with_reducible rfl)
    case f33_352 => (go_simp; try with_reducible rfl)
    refine anyC_skip (i := 34) (a' := ?a34_353) rfl (by kernel_rfl) (by kernel_rfl) (by kernel_rfl) (fun _ _ _ h => h) hC (by kernel_rfl) ?f34_353 ?r34_353
    case f34_353 => (go_simp; try with_reducible rfl)
    refine anyC_skip (i := 35) (a' := ?a35_354) rfl (by kernel_rfl) (by kernel_rfl) (by kernel_rfl) (fun _ _ _ h => h) hC (by kernel_rfl) ?f35_354 ?r35_354
    case f35_354 => (go_simp; try with_reducible rfl)
    refine anyC_skip (i := 36) (a' := ?a36_355) rfl (by kernel_rfl) (by kernel_rfl) (by kernel_rfl) (fun _ _ _ h => h) hC (by kernel_rfl) ?f36_355 ?r36_355
    case f36_355 => (go_simp; try with_reducible rfl)
    refine anyC_skip (i := 37) (a' := ?a37_356) rfl (by kernel_rfl) (by kernel_rfl) (by kernel_rfl) (fun _ _ _ h => h) hC (by kernel_rfl) ?f37_356 ?r37_356
    case f37_356 => (go_simp; try with_reducible rfl)
    refine anyC_skip (i := 38) (a' := ?a38_357) rfl (by kernel_rfl) (by kernel_rfl) (by kernel_rfl) (fun _ _ _ h => h) hC (by kernel_rfl) ?f38_357 ?r38_357
    case f38_357 => (go_simp; try with_reducible rfl)
    refine anyC_take (i := 39) (v := ?v39_358) (a' := ?a39_358) rfl (by kernel_rfl) (by kernel_rfl) (by kernel_rfl) (fun _ _ _ h => h) hC ?w39_358 ?y39_358 ?f39_358 ?r39_358
    case w39_358 => kernel_rfl
    case y39_358 => (intro w hC; go_simp; try with_reducible rfl)
    case f39_358 => (go_simp; try with_reducible rfl)
    refine anyC_take (i := 40) (v := ?v40_359) (a' := ?a40_359) rfl (by kernel_rfl) (by kernel_rfl) (by kernel_rfl) (fun _ _ _ h => h) hC ?w40_359 ?y40_359 ?f40_359 ?r40_359
    case w40_359 => kernel_rfl
    case y40_359 => (intro w hC; go_simp; try with_reducible rfl)
    case f40_359 => (go_simp; try with_reducible rfl)
    refine anyC_done (by kernel_rfl) ?_
    go_wp2
    go_ret
    exact ⟨ret_bool (HF.out).symm, HBW.out _ hC⟩
  have hbe : (x.k == y.k) = true := by rw [beq_iff_eq]; exact ek
  have EK := Lib.hid ek
  refine anyC_take (i := 4) (v := ?v4_360) (a' := ?a4_360) rfl (by kernel_rfl) (by kernel_rfl) (by kernel_rfl) (fun _ _ _ h => h) hC ?w4_360 ?y4_360 ?f4_360 ?r4_360
  case w4_360 => kernel_rfl
  case y4_360 => (intro w hC; go_simp; try with_reducible rfl)
  case f4_360 => (go_simp; try with_reducible rfl)
  refine anyC_take (i := 5) (v := ?v5_361) (a' := ?a5_361) rfl (by kernel_rfl) (by kernel_rfl) (by kernel_rfl) (fun _ _ _ h => h) hC ?w5_361 ?y5_361 ?f5_361 ?r5_361
  case w5_361 => kernel_rfl
  case y5_361 => (intro w hC; go_simp; try with_reducible rfl)
  case f5_361 => (go_simp; try with_reducible rfl)
  clear hbe ek
  refine anyC_take (i := 6) (v := ?v6_362) (a' := ?a6_362) rfl (by kernel_rfl) (by kernel_rfl) (by kernel_rfl) (fun _ _ _ h => h) hC ?w6_362 ?y6_362 ?f6_362 ?r6_362
  case w6_362 => kernel_rfl
  case y6_362 => (intro W hW; exact by refine exec_load 30 (.tmp 2) ?_ w.heap.size ?_ L _ (HRX.out _ hW) Tryd.underlying30 rfl hl1.out <;> rfl)
  case f6_362 => (go_simp; try with_reducible rfl)
  refine anyC_take (i := 8) (v := ?v8_363) (a' := ?a8_363) rfl (by kernel_rfl) (by kernel_rfl) (by kernel_rfl) (fun _ _ _ h => h) hC ?w8_363 ?y8_363 ?f8_363 ?r8_363
  case w8_363 => kernel_rfl
  case y8_363 => (intro W hW; exact by refine exec_load 30 (.tmp 3) ?_ (w.heap.size + 1) ?_ M _ (HRY.out _ hW) Tryd.underlying30 rfl hl2.out <;> rfl)
  case f8_363 => (go_simp; try with_reducible rfl)
  refine anyC_one (i := 7) rfl (by kernel_rfl) (by kernel_rfl) (fun K hK => ?_)
  go_simp
  refine (HNX.out _).mono ?_
  rintro e w3 ⟨rfl, hb⟩
  have hC3 : Below (w.heap.size + 2) ((w.alloc (.cells L.toArray 30)).alloc (.cells M.toArray 30)) w3 := hC.trans (hb.mono (by have := hC.size; rwa [HZ2.out] at this))
  refine hK _ _ ⟨hC3, ?_⟩
  clear hK K hb
  refine anyC_one (i := 9) rfl (by kernel_rfl) (by kernel_rfl) (fun K hK => ?_)
  go_simp
  refine (HNY.out _).mono ?_
  rintro e w4 ⟨rfl, hb⟩
  have hC4 : Below (w.heap.size + 2) ((w.alloc (.cells L.toArray 30)).alloc (.cells M.toArray 30)) w4 := hC3.trans (hb.mono (by have := hC3.size; rwa [HZ2.out] at this))
  refine hK _ _ ⟨hC4, ?_⟩
  clear hK K hb
  by_cases en : xn = yn
  case neg =>
    have hbe : (xn == yn) = false := by rw [beq_eq_false_iff_ne]; exact en
    have HF := Lib.hid (NN.out en)
    rw [hbe] at hEN
    clear en hbe
    refine anyC_take (i := 10) (v := ?v10_364) (a' := ?a10_364) rfl (by kernel_rfl) (by kernel_rfl) (by kernel_rfl) (fun _ _ _ h => h) hC4 ?w10_364 ?y10_364 ?f10_364 ?r10_364
    case w10_364 => kernel_rfl
    case y10_364 => (intro w hC; have h4 := hEN.out w; go_simp; try with_reducible rfl)
    case f10_364 => (go_simp; try with_reducible rfl)
    refine anyC_take (i := 11) (v := ?v11_365) (a' := ?a11_365) rfl (by kernel_rfl) (by kernel_rfl) (by kernel_rfl) (fun _ _ _ h => h) hC4 ?w11_365 ?y11_365 ?f11_365 ?r11_365
    case w11_365 => kernel_rfl
    case y11_365 => (intro w hC; go_simp; try with_reducible rfl)
    case f11_365 => (go_simp; try with_reducible rfl)
    refine anyC_take (i := 12) (v := ?v12_366) (a' := ?a12_366) rfl (by kernel_rfl) (by kernel_rfl) (by kernel_rfl) (fun _ _ _ h => h) hC4 ?w12_366 ?y12_366 ?f12_366 ?r12_366
    case w12_366 => kernel_rfl
    case y12_366 => (intro w hC; go_simp; try with_reducible rfl)
    case f12_366 => (go_simp; try with_reducible rfl)
    refine anyC_skip (i := 13) (a' := ?a13_367) rfl (by kernel_rfl) (by kernel_rfl) (by kernel_rfl) (fun _ _ _ h => h) hC4 (by kernel_rfl) ?f13_367 ?r13_367
    case f13_367 => (go_simp; try with_reducible rfl)
    refine anyC_skip (i := 14) (a' := ?a14_368) rfl (by kernel_rfl) (by kernel_rfl) (by kernel_rfl) (fun _ _ _ h => h) hC4 (by kernel_rfl) ?f14_368 ?r14_368
    case f14_368 => (go_simp; try with_reducible rfl)
    refine anyC_skip (i := 15) (a' := ?a15_369) rfl (by kernel_rfl) (by kernel_rfl) (by kernel_rfl) (fun _ _ _ h => h) hC4 (by kernel_rfl) ?f15_369 ?r15_369
    case f15_369 => (go_simp; try with_reducible rfl)
    refine anyC_skip (i := 16) (a' := ?a16_370) rfl (by kernel_rfl) (by kernel_rfl) (by kernel_rfl) (fun _ _ _ h => h) hC4 (by kernel_rfl) ?f16_370 ?r16_370
    case f16_370 => (go_simp; try with_reducible rfl)
    refine anyC_skip (i := 17) (a' := ?a17_371) rfl (by kernel_rfl) (by kernel_rfl) (by kernel_rfl) (fun _ _ _ h => h) hC4 (by kernel_rfl) ?f17_371 ?r17_371
    case f17_371 => (go_simp; try with_reducible rfl)
    refine anyC_take (i := 18) (v := ?v18_372) (a' := ?a18_372) rfl (by kernel_rfl) (by kernel_rfl) (by kernel_rfl) (fun _ _ _ h => h) hC4 ?w18_372 ?y18_372 ?f18_372 ?r18_372
    case w18_372 => kernel_rfl
    case y18_372 => (intro w hC; go_simp; try with_reducible rfl)
    case f18_372 => (go_simp; try with_reducible rfl)
    refine anyC_take (i := 19) (v := ?v19_373) (a' := ?a19_373) rfl (by kernel_rfl) (by kernel_rfl) (by kernel_rfl) (fun _ _ _ h => h) hC4 ?w19_373 ?y19_373 ?f19_373 ?r19_373
    case w19_373 => kernel_rfl
    case y19_373 => (intro w hC; go_simp; try with_reducible rfl)
    case f19_373 => (go_simp; try with_reducible rfl)
    refine anyC_skip (i := 20) (a' := ?a20_374) rfl (by kernel_rfl) (by kernel_rfl) (by kernel_rfl) (fun _ _ _ h => h) hC4 (by kernel_rfl) ?f20_374 ?r20_374
    case f20_374 => (go_simp; try with_reducible rfl)
    refine anyC_skip (i := 21) (a' := ?a21_375) rfl (by kernel_rfl) (by kernel_rfl) (by kernel_rfl) (fun _ _ _ h => h) hC4 (by kernel_rfl) ?f21_375 ?r21_375
    case f21_375 => (go_simp; try with_reducible rfl)
    refine anyC_skip (i := 22) (a' := ?a22_376) rfl (by kernel_rfl) (by kernel_rfl) (by kernel_rfl) (fun _ _ _ h => h) hC4 (by kernel_rfl) ?f22_376 ?r22_376
    case f22_376 => (go_simp; try with_reducible rfl)
    refine anyC_skip (i := 23) (a' := ?a23_377) rfl (by kernel_rfl) (by kernel_rfl) (by kernel_rfl) (fun _ _ _ h => h) hC4 (by kernel_rfl) ?f23_377 ?r23_377
    case f23_377 => (go_simp; try with_reducible rfl)
    refine anyC_skip (i := 24) (a' := ?a24_378) rfl (by kernel_rfl) (by kernel_rfl) (by kernel_rfl) (fun _ _ _ h => h) hC4 (by kernel_rfl) ?f24_378 ?r24_378
    case f24_378 => (go_simp; try with_reducible rfl)
    refine anyC_take (i := 25) (v := ?v25_379) (a' := ?a25_379) rfl (by kernel_rfl) (by kernel_rfl) (by kernel_rfl) (fun _ _ _ h => h) hC4 ?w25_379 ?y25_379 ?f25_379 ?r25_379
    case w25_379 => kernel_rfl
    case y25_379 => (intro w hC; go_simp; try with_reducible rfl)
    case f25_379 => (go_simp; try with_reducible rfl)
    refine anyC_take (i := 26) (v := ?v26_380) (a' := ?a26_380) rfl (by kernel_rfl) (by kernel_rfl) (by kernel_rfl) (fun _ _ _ h => h) hC4 ?w26_380 ?y26_380 ?f26_380 ?r26_380
    case w26_380 => kernel_rfl
    case y26_380 => (intro w hC; go_simp; try with_reducible rfl)
    case f26_380 => (go_simp; try with_reducible rfl)
    refine anyC_skip (i := 27) (a' := ?a27_381) rfl (by kernel_rfl) (by kernel_rfl) (by kernel_rfl) (fun _ _ _ h => h) hC4 (by kernel_rfl) ?f27_381 ?r27_381
    case f27_381 => (go_simp; try with_reducible rfl)
    refine anyC_skip (i := 28) (a' := ?a28_382) rfl (by kernel_rfl) (by kernel_rfl) (by kernel_rfl) (fun _ _ _ h => h) hC4 (by kernel_rfl) ?f28_382 ?r28_382
    case f28_382 => (go_simp; try with_reducible rfl)
    refine anyC_skip (i := 29) (a' := ?a29_383) rfl (by kernel_rfl) (by kernel_rfl) (by kernel_rfl) (fun _ _ _ h => h) hC4 (by kernel_rfl) ?f29_383 ?r29_383
    case f29_383 => (go_simp; try with_reducible rfl)
    refine anyC_skip (i := 30) (a' := ?a30_384) rfl (by kernel_rfl) (by kernel_rfl) (by kernel_rfl) (fun _ _ _ h => h) hC4 (by kernel_rfl) ?f30_384 ?r30_384
    case f30_384 => (go_simp; try with_reducible rfl)
    refine anyC_skip (i := 31) (a' := ?a31_385) rfl (by kernel_rfl) (by kernel_rfl) (by kernel_rfl) (fun _ _ _ h => h) hC4 (by kernel_rfl) ?f31_385 ?r31_385
    case f31_385 => (go_simp; try with_reducible rfl)
    refine anyC_take (i := 32) (v := ?v32_386) (a' := ?a32_386) rfl (by kernel_rfl) (by kernel_rfl) (by kernel_rfl) (fun _ _ _ h => h) hC4 ?w32_386 ?y32_386 ?f32_386 ?r32_386
    case w32_386 => kernel_rfl
    case y32_386 => (intro w hC; go_simp; try with_reducible rfl)
    case f32_386 => (go_simp; try with_reducible rfl)
    refine anyC_take (i := 33) (v := ?v33_387) (a' := ?a33_387) rfl (by kernel_rfl) (by kernel_rfl) (by kernel_rfl) (fun _ _ _ h => h) hC4 ?w33_387 ?y33_387 ?f33_387 ?r33_387
    case w33_387 => kernel_rfl
    case y33_387 => (intro w hC; go_simp; try with_reducible rfl)
    case f33_387 => (go_simp; try with_reducible rfl)
    refine anyC_skip (i := 34) (a' := ?a34_388) rfl (by kernel_rfl) (by kernel_rfl) (by kernel_rfl) (fun _ _ _ h => h) hC4 (by kernel_rfl) ?f34_388 ?r34_388
    case f34_388 => (go_simp; try with_reducible rfl)
    refine anyC_skip (i := 35) (a' := ?a35_389) rfl (by kernel_rfl) (by kernel_rfl) (by kernel_rfl) (fun _ _ _ h => h) hC4 (by kernel_rfl) ?f35_389 ?r35_389
    case f35_389 => (go_simp; try with_reducible rfl)
    refine anyC_skip (i := 36) (a' := ?a36_390) rfl (by kernel_rfl) (by kernel_rfl) (by kernel_rfl) (fun _ _ _ h => h) hC4 (by kernel_rfl) ?f36_390 ?r36_390
    case f36_390 => (go_simp; try with_reducible rfl)
    refine anyC_skip (i := 37) (a' := ?a37_391) rfl (by kernel_rfl) (by kernel_rfl) (by kernel_rfl) (fun _ _ _ h => h) hC4 (by kernel_rfl) ?f37_391 ?r37_391
    case f37_391 => (go_simp; try with_reducible rfl)
    refine anyC_skip (i := 38) (a' := ?a38_392) rfl (by kernel_rfl) (by kernel_rfl) (by kernel_rfl) (fun _ _ _ h => h) hC4 (by kernel_rfl) ?f38_392 ?r38_392
    case f38_392 => (go_simp; try with_reducible rfl)
    refine anyC_take (i := 39) (v := ?v39_393) (a' := ?a39_393) rfl (by kernel_rfl) (by kernel_rfl) (by kernel_rfl) (fun _ _ _ h => h) hC4 ?w39_393 ?y39_393 ?f39_393 ?r39_393
    case w39_393 => kernel_rfl
    case y39_393 => (intro w hC; go_simp; try with_reducible rfl)
    case f39_393 => (go_simp; try with_reducible rfl)
    refine anyC_take (i := 40) (v := ?v40_394) (a' := ?a40_394) rfl (by kernel_rfl) (by kernel_rfl) (by kernel_rfl) (fun _ _ _ h => h) hC4 ?w40_394 ?y40_394 ?f40_394 ?r40_394
    case w40_394 => kernel_rfl
    case y40_394 => (intro w hC; go_simp; try with_reducible rfl)
    case f40_394 => (go_simp; try with_reducible rfl)
    refine anyC_done (by kernel_rfl) ?_
    go_wp2
    go_ret
    exact ⟨ret_bool (HF.out).symm, HBW.out _ hC4⟩
  have hbe : (xn == yn) = true := by rw [beq_iff_eq]; exact en
  rw [hbe] at hEN
  have EN := Lib.hid en
  clear en hbe
  refine anyC_take (i := 10) (v := ?v10_395) (a' := ?a10_395) rfl (by kernel_rfl) (by kernel_rfl) (by kernel_rfl) (fun _ _ _ h => h) hC4 ?w10_395 ?y10_395 ?f10_395 ?r10_395
  case w10_395 => kernel_rfl
  case y10_395 => (intro w hC; have h4 := hEN.out w; go_simp; try with_reducible rfl)
  case f10_395 => (go_simp; try with_reducible rfl)
  refine anyC_take (i := 11) (v := ?v11_396) (a' := ?a11_396) rfl (by kernel_rfl) (by kernel_rfl) (by kernel_rfl) (fun _ _ _ h => h) hC4 ?w11_396 ?y11_396 ?f11_396 ?r11_396
  case w11_396 => kernel_rfl
  case y11_396 => (intro w hC; go_simp; try with_reducible rfl)
  case f11_396 => (go_simp; try with_reducible rfl)
  refine anyC_take (i := 12) (v := ?v12_397) (a' := ?a12_397) rfl (by kernel_rfl) (by kernel_rfl) (by kernel_rfl) (fun _ _ _ h => h) hC4 ?w12_397 ?y12_397 ?f12_397 ?r12_397
  case w12_397 => kernel_rfl
  case y12_397 => (intro w hC; go_simp; try with_reducible rfl)
  case f12_397 => (go_simp; try with_reducible rfl)
  refine anyC_take (i := 13) (v := ?v13_398) (a' := ?a13_398) rfl (by kernel_rfl) (by kernel_rfl) (by kernel_rfl) (fun _ _ _ h => h) hC4 ?w13_398 ?y13_398 ?f13_398 ?r13_398
  case w13_398 => kernel_rfl
  case y13_398 => (intro w hC; go_simp; try with_reducible rfl)
  case f13_398 => (go_simp; try with_reducible rfl)
  refine anyC_take (i := 15) (v := ?v15_399) (a' := ?a15_399) rfl (by kernel_rfl) (by kernel_rfl) (by kernel_rfl) (fun _ _ _ h => h) hC4 ?w15_399 ?y15_399 ?f15_399 ?r15_399
  case w15_399 => kernel_rfl
  case y15_399 => (intro w hC; go_simp; try with_reducible rfl)
  case f15_399 => (go_simp; try with_reducible rfl)
  refine anyC_take (i := 14) (v := ?v14_400) (a' := ?a14_400) rfl (by kernel_rfl) (by kernel_rfl) (by kernel_rfl) (fun _ _ _ h => h) hC4 ?w14_400 ?y14_400 ?f14_400 ?r14_400
  case w14_400 => kernel_rfl
  case y14_400 => (intro W hW; exact by refine exec_load_at 27 (.tmp 18) ?_ w.heap.size 11 ?_ _ _ (HX.out _ hW).plan Tryd.underlying27 rfl info_plan <;> rfl)
  case f14_400 => (go_simp; try with_reducible rfl)
  refine anyC_take (i := 16) (v := ?v16_401) (a' := ?a16_401) rfl (by kernel_rfl) (by kernel_rfl) (by kernel_rfl) (fun _ _ _ h => h) hC4 ?w16_401 ?y16_401 ?f16_401 ?r16_401
  case w16_401 => kernel_rfl
  case y16_401 => (intro W hW; exact by refine exec_load_at 27 (.tmp 20) ?_ (w.heap.size + 1) 11 ?_ _ _ (HY.out _ hW).plan Tryd.underlying27 rfl info_plan <;> rfl)
  case f16_401 => (go_simp; try with_reducible rfl)
  refine anyC_one (i := 17) rfl (by kernel_rfl) (by kernel_rfl) (fun K hK => ?_)
  go_simp
  refine (HS.out _ (HBW.out _ hC4)).mono ?_
  rintro e w5 ⟨rfl, hb⟩
  have hC5 : Below (w.heap.size + 2) ((w.alloc (.cells L.toArray 30)).alloc (.cells M.toArray 30)) w5 := hC4.trans (hb.mono (by have := hC4.size; rwa [HZ2.out] at this))
  refine hK _ _ ⟨hC5, ?_⟩
  clear hK K hb
  cases hps : Pm.same x.plan y.plan
  case false =>
    have HF := Lib.hid (NP.out hps)
    refine anyC_take (i := 18) (v := ?v18_402) (a' := ?a18_402) rfl (by kernel_rfl) (by kernel_rfl) (by kernel_rfl) (fun _ _ _ h => h) hC5 ?w18_402 ?y18_402 ?f18_402 ?r18_402
    case w18_402 => kernel_rfl
    case y18_402 => (intro w hC; go_simp; try with_reducible rfl)
    case f18_402 => (go_simp; try with_reducible rfl)
    refine anyC_take (i := 19) (v := ?v19_403) (a' := ?a19_403) rfl (by kernel_rfl) (by kernel_rfl) (by kernel_rfl) (fun _ _ _ h => h) hC5 ?w19_403 ?y19_403 ?f19_403 ?r19_403
    case w19_403 => kernel_rfl
    case y19_403 => (intro w hC; go_simp; try with_reducible rfl)
    case f19_403 => (go_simp; try with_reducible rfl)
    refine anyC_skip (i := 20) (a' := ?a20_404) rfl (by kernel_rfl) (by kernel_rfl) (by kernel_rfl) (fun _ _ _ h => h) hC5 (by kernel_rfl) ?f20_404 ?r20_404
    case f20_404 => (go_simp; try with_reducible rfl)
    refine anyC_skip (i := 21) (a' := ?a21_405) rfl (by kernel_rfl) (by kernel_rfl) (by kernel_rfl) (fun _ _ _ h => h) hC5 (by kernel_rfl) ?f21_405 ?r21_405
    case f21_405 => (go_simp; try with_reducible rfl)
    refine anyC_skip (i := 22) (a' := ?a22_406) rfl (by kernel_rfl) (by kernel_rfl) (by kernel_rfl) (fun _ _ _ h => h) hC5 (by kernel_rfl) ?f22_406 ?r22_406
    case f22_406 => (go_simp; try with_reducible rfl)
    refine anyC_skip (i := 23) (a' := ?a23_407) rfl (by kernel_rfl) (by kernel_rfl) (by kernel_rfl) (fun _ _ _ h => h) hC5 (by kernel_rfl) ?f23_407 ?r23_407
    case f23_407 => (go_simp; try with_reducible rfl)
    refine anyC_skip (i := 24) (a' := ?a24_408) rfl (by kernel_rfl) (by kernel_rfl) (by kernel_rfl) (fun _ _ _ h => h) hC5 (by kernel_rfl) ?f24_408 ?r24_408
    case f24_408 => (go_simp; try with_reducible rfl)
    refine anyC_take (i := 25) (v := ?v25_409) (a' := ?a25_409) rfl (by kernel_rfl) (by kernel_rfl) (by kernel_rfl) (fun _ _ _ h => h) hC5 ?w25_409 ?y25_409 ?f25_409 ?r25_409
    case w25_409 => kernel_rfl
    case y25_409 => (intro w hC; go_simp; try with_reducible rfl)
    case f25_409 => (go_simp; try with_reducible rfl)
    refine anyC_take (i := 26) (v := ?v26_410) (a' := ?a26_410) rfl (by kernel_rfl) (by kernel_rfl) (by kernel_rfl) (fun _ _ _ h => h) hC5 ?w26_410 ?y26_410 ?f26_410 ?r26_410
    case w26_410 => kernel_rfl
    case y26_410 => (intro w hC; go_simp; try with_reducible rfl)
    case f26_410 => (go_simp; try with_reducible rfl)
    refine anyC_skip (i := 27) (a' := ?a27_411) rfl (by kernel_rfl) (by kernel_rfl) (by kernel_rfl) (fun _ _ _ h => h) hC5 (by kernel_rfl) ?f27_411 ?r27_411
    case f27_411 => (go_simp; try with_reducible rfl)
    refine anyC_skip (i := 28) (a' := ?a28_412) rfl (by kernel_rfl) (by kernel_rfl) (by kernel_rfl) (fun _ _ _ h => h) hC5 (by kernel_rfl) ?f28_412 ?r28_412
    case f28_412 => (go_simp; try with_reducible rfl)
    refine anyC_skip (i := 29) (a' := ?a29_413) rfl (by kernel_rfl) (by kernel_rfl) (by kernel_rfl) (fun _ _ _ h => h) hC5 (by kernel_rfl) ?f29_413 ?r29_413
    case f29_413 => (go_simp; try with_reducible rfl)
    refine anyC_skip (i := 30) (a' := ?a30_414) rfl (by kernel_rfl) (by kernel_rfl) (by kernel_rfl) (fun _ _ _ h => h) hC5 (by kernel_rfl) ?f30_414 ?r30_414
    case f30_414 => (go_simp; try with_reducible rfl)
    refine anyC_skip (i := 31) (a' := ?a31_415) rfl (by kernel_rfl) (by kernel_rfl) (by kernel_rfl) (fun _ _ _ h => h) hC5 (by kernel_rfl) ?f31_415 ?r31_415
    case f31_415 => (go_simp; try with_reducible rfl)
    refine anyC_take (i := 32) (v := ?v32_416) (a' := ?a32_416) rfl (by kernel_rfl) (by kernel_rfl) (by kernel_rfl) (fun _ _ _ h => h) hC5 ?w32_416 ?y32_416 ?f32_416 ?r32_416
    case w32_416 => kernel_rfl
    case y32_416 => (intro w hC; go_simp; try with_reducible rfl)
    case f32_416 => (go_simp; try with_reducible rfl)
    refine anyC_take (i := 33) (v := ?v33_417) (a' := ?a33_417) rfl (by kernel_rfl) (by kernel_rfl) (by kernel_rfl) (fun _ _ _ h => h) hC5 ?w33_417 ?y33_417 ?f33_417 ?r33_417
    case w33_417 => kernel_rfl
    case y33_417 => (intro w hC; go_simp; try with_reducible rfl)
    case f33_417 => (go_simp; try with_reducible rfl)
    refine anyC_skip (i := 34) (a' := ?a34_418) rfl (by kernel_rfl) (by kernel_rfl) (by kernel_rfl) (fun _ _ _ h => h) hC5 (by kernel_rfl) ?f34_418 ?r34_418
    case f34_418 => (go_simp; try with_reducible rfl)
    refine anyC_skip (i := 35) (a' := ?a35_419) rfl (by kernel_rfl) (by kernel_rfl) (by kernel_rfl) (fun _ _ _ h => h) hC5 (by kernel_rfl) ?f35_419 ?r35_419
    case f35_419 => (go_simp; try with_reducible rfl)
    refine anyC_skip (i := 36) (a' := ?a36_420) rfl (by kernel_rfl) (by kernel_rfl) (by kernel_rfl) (fun _ _ _ h => h) hC5 (by kernel_rfl) ?f36_420 ?r36_420
    case f36_420 => (go_simp; try with_reducible rfl)
    refine anyC_skip (i := 37) (a' := ?a37_421) rfl (by kernel_rfl) (by kernel_rfl) (by kernel_rfl) (fun _ _ _ h => h) hC5 (by kernel_rfl) ?f37_421 ?r37_421
    case f37_421 => (go_simp; try with_reducible rfl)
    refine anyC_skip (i := 38) (a' := ?a38_422) rfl (by kernel_rfl) (by kernel_rfl) (by kernel_rfl) (fun _ _ _ h => h) hC5 (by kernel_rfl) ?f38_422 ?r38_422
    case f38_422 => (go_simp; try with_reducible rfl)
    refine anyC_take (i := 39) (v := ?v39_423) (a' := ?a39_423) rfl (by kernel_rfl) (by kernel_rfl) (by kernel_rfl) (fun _ _ _ h => h) hC5 ?w39_423 ?y39_423 ?f39_423 ?r39_423
    case w39_423 => kernel_rfl
    case y39_423 => (intro w hC; go_simp; try with_reducible rfl)
    case f39_423 => (go_simp; try with_reducible rfl)
    refine anyC_take (i := 40) (v := ?v40_424) (a' := ?a40_424) rfl (by kernel_rfl) (by kernel_rfl) (by kernel_rfl) (fun _ _ _ h => h) hC5 ?w40_424 ?y40_424 ?f40_424 ?r40_424
    case w40_424 => kernel_rfl
    case y40_424 => (intro w hC; go_simp; try with_reducible rfl)
    case f40_424 => (go_simp; try with_reducible rfl)
    refine anyC_done (by kernel_rfl) ?_
    go_wp2
    go_ret
    exact ⟨ret_bool (HF.out).symm, HBW.out _ hC5⟩
  have EP := Lib.hid hps
  clear hps
  refine anyC_take (i := 18) (v := ?v18_425) (a' := ?a18_425) rfl (by kernel_rfl) (by kernel_rfl) (by kernel_rfl) (fun _ _ _ h => h) hC5 ?w18_425 ?y18_425 ?f18_425 ?r18_425
  case w18_425 => kernel_rfl
  case y18_425 => (intro w hC; go_simp; try with_reducible rfl)
  case f18_425 => (go_simp; try with_reducible rfl)
  refine anyC_take (i := 19) (v := ?v19_426) (a' := ?a19_426) rfl (by kernel_rfl) (by kernel_rfl) (by kernel_rfl) (fun _ _ _ h => h) hC5 ?w19_426 ?y19_426 ?f19_426 ?r19_426
  case w19_426 => kernel_rfl
  case y19_426 => (intro w hC; go_simp; try with_reducible rfl)
  case f19_426 => (go_simp; try with_reducible rfl)
  refine anyC_take (i := 20) (v := ?v20_427) (a' := ?a20_427) rfl (by kernel_rfl) (by kernel_rfl) (by kernel_rfl) (fun _ _ _ h => h) hC5 ?w20_427 ?y20_427 ?f20_427 ?r20_427
  case w20_427 => kernel_rfl
  case y20_427 => (intro w hC; go_simp; try with_reducible rfl)
  case f20_427 => (go_simp; try with_reducible rfl)
  refine anyC_take (i := 22) (v := ?v22_428) (a' := ?a22_428) rfl (by kernel_rfl) (by kernel_rfl) (by kernel_rfl) (fun _ _ _ h => h) hC5 ?w22_428 ?y22_428 ?f22_428 ?r22_428
  case w22_428 => kernel_rfl
  case y22_428 => (intro w hC; go_simp; try with_reducible rfl)
  case f22_428 => (go_simp; try with_reducible rfl)
  refine anyC_take (i := 21) (v := ?v21_429) (a' := ?a21_429) rfl (by kernel_rfl) (by kernel_rfl) (by kernel_rfl) (fun _ _ _ h => h) hC5 ?w21_429 ?y21_429 ?f21_429 ?r21_429
  case w21_429 => kernel_rfl
  case y21_429 => (intro w hC; have h4 := (HX.out w hC).id; go_simp; try with_reducible rfl)
  case f21_429 => (go_simp; try with_reducible rfl)
  refine anyC_take (i := 23) (v := ?v23_430) (a' := ?a23_430) rfl (by kernel_rfl) (by kernel_rfl) (by kernel_rfl) (fun _ _ _ h => h) hC5 ?w23_430 ?y23_430 ?f23_430 ?r23_430
  case w23_430 => kernel_rfl
  case y23_430 => (intro w hC; have h4 := (HY.out w hC).id; go_simp; try with_reducible rfl)
  case f23_430 => (go_simp; try with_reducible rfl)
  refine anyC_one (i := 24) rfl (by kernel_rfl) (by kernel_rfl) (fun K hK => ?_)
  go_simp
  refine (HI.out _ (HBW.out _ hC5)).mono ?_
  rintro e w6 ⟨rfl, nd, rfl⟩
  have hC6 := below_drawn hC5 nd
  refine hK _ _ ⟨hC6, ?_⟩
  clear hK K
  by_cases ei : x.id = y.id
  case neg =>
    rw [decide_eq_false ei]
    have HF := Lib.hid (NI.out ei)
    clear ei
    refine anyC_take (i := 25) (v := ?v25_431) (a' := ?a25_431) rfl (by kernel_rfl) (by kernel_rfl) (by kernel_rfl) (fun _ _ _ h => h) hC6 ?w25_431 ?y25_431 ?f25_431 ?r25_431
    case w25_431 => kernel_rfl
    case y25_431 => (intro w hC; go_simp; try with_reducible rfl)
    case f25_431 => (go_simp; try with_reducible rfl)
    refine anyC_take (i := 26) (v := ?v26_432) (a' := ?a26_432) rfl (by kernel_rfl) (by kernel_rfl) (by kernel_rfl) (fun _ _ _ h => h) hC6 ?w26_432 ?y26_432 ?f26_432 ?r26_432
    case w26_432 => kernel_rfl
    case y26_432 => (intro w hC; go_simp; try with_reducible rfl)
    case f26_432 => (go_simp; try with_reducible rfl)
    refine anyC_skip (i := 27) (a' := ?a27_433) rfl (by kernel_rfl) (by kernel_rfl) (by kernel_rfl) (fun _ _ _ h => h) hC6 (by kernel_rfl) ?f27_433 ?r27_433
    case f27_433 => (go_simp; try with_reducible rfl)
    refine anyC_skip (i := 28) (a' := ?a28_434) rfl (by kernel_rfl) (by kernel_rfl) (by kernel_rfl) (fun _ _ _ h => h) hC6 (by kernel_rfl) ?f28_434 ?r28_434
    case f28_434 => (go_simp; try with_reducible rfl)
    refine anyC_skip (i := 29) (a' := ?a29_435) rfl (by kernel_rfl) (by kernel_rfl) (by kernel_rfl) (fun _ _ _ h => h) hC6 (by kernel_rfl) ?f29_435 ?r29_435
    case f29_435 => (go_simp; try with_reducible rfl)
    refine anyC_skip (i := 30) (a' := ?a30_436) rfl (by kernel_rfl) (by kernel_rfl) (by kernel_rfl) (fun _ _ _ h => h) hC6 (by kernel_rfl) ?f30_436 ?r30_436
    case f30_436 => (go_simp; try with_reducible rfl)
    refine anyC_skip (i := 31) (a' := ?a31_437) rfl (by kernel_rfl) (by kernel_rfl) (by kernel_rfl) (fun _ _ _ h => h) hC6 (by kernel_rfl) ?f31_437 ?r31_437
    case f31_437 => (go_simp; try with_reducible rfl)
    refine anyC_take (i := 32) (v := ?v32_438) (a' := ?a32_438) rfl (by kernel_rfl) (by kernel_rfl) (by kernel_rfl) (fun _ _ _ h => h) hC6 ?w32_438 ?y32_438 ?f32_438 ?r32_438
    case w32_438 => kernel_rfl
    case y32_438 => (intro w hC; go_simp; try with_reducible rfl)
    case f32_438 => (go_simp; try with_reducible rfl)
    refine anyC_take (i := 33) (v := ?v33_439) (a' := ?a33_439) rfl (by kernel_rfl) (by kernel_rfl) (by kernel_rfl) (fun _ _ _ h => h) hC6 ?w33_439 ?y33_439 ?f33_439 ?r33_439
    case w33_439 => kernel_rfl
    case y33_439 => (intro w hC; go_simp; try with_reducible rfl)
    case f33_439 => (go_simp; try with_reducible rfl)
    refine anyC_skip (i := 34) (a' := ?a34_440) rfl (by kernel_rfl) (by kernel_rfl) (by kernel_rfl) (fun _ _ _ h => h) hC6 (by kernel_rfl) ?f34_440 ?r34_440
    case f34_440 => (go_simp; try with_reducible rfl)
    refine anyC_skip (i := 35) (a' := ?a35_441) rfl (by kernel_rfl) (by kernel_rfl) (by kernel_rfl) (fun _ _ _ h => h) hC6 (by kernel_rfl) ?f35_441 ?r35_441
    case f35_441 => (go_simp; try with_reducible rfl)
    refine anyC_skip (i := 36) (a' := ?a36_442) rfl (by kernel_rfl) (by kernel_rfl) (by kernel_rfl) (fun _ _ _ h => h) hC6 (by kernel_rfl) ?f36_442 ?r36_442
    case f36_442 => (go_simp; try with_reducible rfl)
    refine anyC_skip (i := 37) (a' := ?a37_443) rfl (by kernel_rfl) (by kernel_rfl) (by kernel_rfl) (fun _ _ _ h => h) hC6 (by kernel_rfl) ?f37_443 ?r37_443
    case f37_443 => (go_simp; try with_reducible rfl)
    refine anyC_skip (i := 38) (a' := ?a38_444) rfl (by kernel_rfl) (by kernel_rfl) (by kernel_rfl) (fun _ _ _ h => h) hC6 (by kernel_rfl) ?f38_444 ?r38_444
    case f38_444 => (go_simp; try with_reducible rfl)
    refine anyC_take (i := 39) (v := ?v39_445) (a' := ?a39_445) rfl (by kernel_rfl) (by kernel_rfl) (by kernel_rfl) (fun _ _ _ h => h) hC6 ?w39_445 ?y39_445 ?f39_445 ?r39_445
    case w39_445 => kernel_rfl
    case y39_445 => (intro w hC; go_simp; try with_reducible rfl)
    case f39_445 => (go_simp; try with_reducible rfl)
    refine anyC_take (i := 40) (v := ?v40_446) (a' := ?a40_446) rfl (by kernel_rfl) (by kernel_rfl) (by kernel_rfl) (fun _ _ _ h => h) hC6 ?w40_446 ?y40_446 ?f40_446 ?r40_446
    case w40_446 => kernel_rfl
    case y40_446 => (intro w hC; go_simp; try with_reducible rfl)
    case f40_446 => (go_simp; try with_reducible rfl)
    refine anyC_done (by kernel_rfl) ?_
    go_wp2
    go_ret
    exact ⟨ret_bool (HF.out).symm, HBW.out _ hC6⟩
  rw [decide_eq_true ei]
  have EI := Lib.hid ei
  clear ei
  refine anyC_take (i := 25) (v := ?v25_447) (a' := ?a25_447) rfl (by kernel_rfl) (by kernel_rfl) (by kernel_rfl) (fun _ _ _ h => h) hC6 ?w25_447 ?y25_447 ?f25_447 ?r25_447
  case w25_447 => kernel_rfl
  case y25_447 => (intro w hC; go_simp; try with_reducible rfl)
  case f25_447 => (go_simp; try with_reducible rfl)
  refine anyC_take (i := 26) (v := ?v26_448) (a' := ?a26_448) rfl (by kernel_rfl) (by kernel_rfl) (by kernel_rfl) (fun _ _ _ h => h) hC6 ?w26_448 ?y26_448 ?f26_448 ?r26_448
  case w26_448 => kernel_rfl
  case y26_448 => (intro w hC; go_simp; try with_reducible rfl)
  case f26_448 => (go_simp; try with_reducible rfl)
  refine anyC_take (i := 27) (v := ?v27_449) (a' := ?a27_449) rfl (by kernel_rfl) (by kernel_rfl) (by kernel_rfl) (fun _ _ _ h => h) hC6 ?w27_449 ?y27_449 ?f27_449 ?r27_449
  case w27_449 => kernel_rfl
  case y27_449 => (intro w hC; go_simp; try with_reducible rfl)
  case f27_449 => (go_simp; try with_reducible rfl)
  refine anyC_take (i := 29) (v := ?v29_450) (a' := ?a29_450) rfl (by kernel_rfl) (by kernel_rfl) (by kernel_rfl) (fun _ _ _ h => h) hC6 ?w29_450 ?y29_450 ?f29_450 ?r29_450
  case w29_450 => kernel_rfl
  case y29_450 => (intro w hC; go_simp; try with_reducible rfl)
  case f29_450 => (go_simp; try with_reducible rfl)
  refine anyC_take (i := 28) (v := ?v28_451) (a' := ?a28_451) rfl (by kernel_rfl) (by kernel_rfl) (by kernel_rfl) (fun _ _ _ h => h) hC6 ?w28_451 ?y28_451 ?f28_451 ?r28_451
  case w28_451 => kernel_rfl
  case y28_451 => (intro w hC; have h4 := (HX.out w hC).se; go_simp; try with_reducible rfl)
  case f28_451 => (go_simp; try with_reducible rfl)
  refine anyC_take (i := 30) (v := ?v30_452) (a' := ?a30_452) rfl (by kernel_rfl) (by kernel_rfl) (by kernel_rfl) (fun _ _ _ h => h) hC6 ?w30_452 ?y30_452 ?f30_452 ?r30_452
  case w30_452 => kernel_rfl
  case y30_452 => (intro w hC; have h4 := (HY.out w hC).se; go_simp; try with_reducible rfl)
  case f30_452 => (go_simp; try with_reducible rfl)
  refine anyC_one (i := 31) rfl (by kernel_rfl) (by kernel_rfl) (fun K hK => ?_)
  go_simp
  refine (HE4.out _ (HBW.out _ hC6)).mono ?_
  rintro e w7 ⟨rfl, rfl⟩
  refine hK _ _ ⟨hC6, ?_⟩
  clear hK K
  by_cases es : x.se = y.se
  case neg =>
    rw [decide_eq_false es]
    have HF := Lib.hid (NS.out es)
    clear es
    refine anyC_take (i := 32) (v := ?v32_453) (a' := ?a32_453) rfl (by kernel_rfl) (by kernel_rfl) (by kernel_rfl) (fun _ _ _ h => h) hC6 ?w32_453 ?y32_453 ?f32_453 ?r32_453
    case w32_453 => kernel_rfl
    case y32_453 => (intro w hC; go_simp; try with_reducible rfl)
    case f32_453 => (go_simp; try with_reducible rfl)
    refine anyC_take (i := 33) (v := ?v33_454) (a' := ?a33_454) rfl (by kernel_rfl) (by kernel_rfl) (by kernel_rfl) (fun _ _ _ h => h) hC6 ?w33_454 ?y33_454 ?f33_454 ?r33_454
    case w33_454 => kernel_rfl
    case y33_454 => (intro w hC; go_simp; try with_reducible rfl)
    case f33_454 => (go_simp; try with_reducible rfl)
    refine anyC_skip (i := 34) (a' := ?a34_455) rfl (by kernel_rfl) (by kernel_rfl) (by kernel_rfl) (fun _ _ _ h => h) hC6 (by kernel_rfl) ?f34_455 ?r34_455
    case f34_455 => (go_simp; try with_reducible rfl)
    refine anyC_skip (i := 35) (a' := ?a35_456) rfl (by kernel_rfl) (by kernel_rfl) (by kernel_rfl) (fun _ _ _ h => h) hC6 (by kernel_rfl) ?f35_456 ?r35_456
    case f35_456 => (go_simp; try with_reducible rfl)
    refine anyC_skip (i := 36) (a' := ?a36_457) rfl (by kernel_rfl) (by kernel_rfl) (by kernel_rfl) (fun _ _ _ h => h) hC6 (by kernel_rfl) ?f36_457 ?r36_457
    case f36_457 => (go_simp; try with_reducible rfl)
    refine anyC_skip (i := 37) (a' := ?a37_458) rfl (by kernel_rfl) (by kernel_rfl) (by kernel_rfl) (fun _ _ _ h => h) hC6 (by kernel_rfl) ?f37_458 ?r37_458
    case f37_458 => (go_simp; try with_reducible rfl)
    refine anyC_skip (i := 38) (a' := ?a38_459) rfl (by kernel_rfl) (by kernel_rfl) (by kernel_rfl) (fun _ _ _ h => h) hC6 (by kernel_rfl) ?f38_459 ?r38_459
    case f38_459 => (go_simp; try with_reducible rfl)
    refine anyC_take (i := 39) (v := ?v39_460) (a' := ?a39_460) rfl (by kernel_rfl) (by kernel_rfl) (by kernel_rfl) (fun _ _ _ h => h) hC6 ?w39_460 ?y39_460 ?f39_460 ?r39_460
    case w39_460 => kernel_rfl
    case y39_460 => (intro w hC; go_simp; try with_reducible rfl)
    case f39_460 => (go_simp; try with_reducible rfl)
    refine anyC_take (i := 40) (v := ?v40_461) (a' := ?a40_461) rfl (by kernel_rfl) (by kernel_rfl) (by kernel_rfl) (fun _ _ _ h => h) hC6 ?w40_461 ?y40_461 ?f40_461 ?r40_461
    case w40_461 => kernel_rfl
    case y40_461 => (intro w hC; go_simp; try with_reducible rfl)
    case f40_461 => (go_simp; try with_reducible rfl)
    refine anyC_done (by kernel_rfl) ?_
    go_wp2
    go_ret
    exact ⟨ret_bool (HF.out).symm, HBW.out _ hC6⟩
  rw [decide_eq_true es]
  have ES := Lib.hid es
  clear es
  refine anyC_take (i := 32) (v := ?v32_462) (a' := ?a32_462) rfl (by kernel_rfl) (by kernel_rfl) (by kernel_rfl) (fun _ _ _ h => h) hC6 ?w32_462 ?y32_462 ?f32_462 ?r32_462
  case w32_462 => kernel_rfl
  case y32_462 => (intro w hC; go_simp; try with_reducible rfl)
  case f32_462 => (go_simp; try with_reducible rfl)
  refine anyC_take (i := 33) (v := ?v33_463) (a' := ?a33_463) rfl (by kernel_rfl) (by kernel_rfl) (by kernel_rfl) (fun _ _ _ h => h) hC6 ?w33_463 ?y33_463 ?f33_463 ?r33_463
  case w33_463 => kernel_rfl
  case y33_463 => (intro w hC; go_simp; try with_reducible rfl)
  case f33_463 => (go_simp; try with_reducible rfl)
  refine anyC_take (i := 34) (v := ?v34_464) (a' := ?a34_464) rfl (by kernel_rfl) (by kernel_rfl) (by kernel_rfl) (fun _ _ _ h => h) hC6 ?w34_464 ?y34_464 ?f34_464 ?r34_464
  case w34_464 => kernel_rfl
  case y34_464 => (intro w hC; go_simp; try with_reducible rfl)
  case f34_464 => (go_simp; try with_reducible rfl)
  refine anyC_take (i := 36) (v := ?v36_465) (a' := ?a36_465) rfl (by kernel_rfl) (by kernel_rfl) (by kernel_rfl) (fun _ _ _ h => h) hC6 ?w36_465 ?y36_465 ?f36_465 ?r36_465
  case w36_465 => kernel_rfl
  case y36_465 => (intro w hC; go_simp; try with_reducible rfl)
  case f36_465 => (go_simp; try with_reducible rfl)
  refine anyC_take (i := 35) (v := ?v35_466) (a' := ?a35_466) rfl (by kernel_rfl) (by kernel_rfl) (by kernel_rfl) (fun _ _ _ h => h) hC6 ?w35_466 ?y35_466 ?f35_466 ?r35_466
  case w35_466 => kernel_rfl
  case y35_466 => (intro w hC; have h4 := (HX.out w hC).pa; go_simp; try with_reducible rfl)
  case f35_466 => (go_simp; try with_reducible rfl)
  refine anyC_take (i := 37) (v := ?v37_467) (a' := ?a37_467) rfl (by kernel_rfl) (by kernel_rfl) (by kernel_rfl) (fun _ _ _ h => h) hC6 ?w37_467 ?y37_467 ?f37_467 ?r37_467
  case w37_467 => kernel_rfl
  case y37_467 => (intro w hC; have h4 := (HY.out w hC).pa; go_simp; try with_reducible rfl)
  case f37_467 => (go_simp; try with_reducible rfl)
  refine anyC_one (i := 38) rfl (by kernel_rfl) (by kernel_rfl) (fun K hK => ?_)
  go_simp
  refine (HE5.out _ (HBW.out _ hC6)).mono ?_
  rintro e w7 ⟨rfl, rfl⟩
  refine hK _ _ ⟨hC6, ?_⟩
  clear hK K
  have HFIN := Lib.hid (NY.out EK.out EN.out EP.out EI.out ES.out)
  generalize decide (x.pa = y.pa) = bq at *
  refine anyC_take (i := 39) (v := ?v39_468) (a' := ?a39_468) rfl (by kernel_rfl) (by kernel_rfl) (by kernel_rfl) (fun _ _ _ h => h) hC6 ?w39_468 ?y39_468 ?f39_468 ?r39_468
  case w39_468 => kernel_rfl
  case y39_468 => (intro w hC; go_simp; try with_reducible rfl)
  case f39_468 => (go_simp; try with_reducible rfl)
  refine anyC_take (i := 40) (v := ?v40_469) (a' := ?a40_469) rfl (by kernel_rfl) (by kernel_rfl) (by kernel_rfl) (fun _ _ _ h => h) hC6 ?w40_469 ?y40_469 ?f40_469 ?r40_469
  case w40_469 => kernel_rfl
  case y40_469 => (intro w hC; go_simp; try with_reducible rfl)
  case f40_469 => (go_simp; try with_reducible rfl)
  refine anyC_done (by kernel_rfl) ?_
  go_wp2
  go_ret
  exact ⟨ret_bool HFIN.out.symm, HBW.out _ hC6⟩
end Go.Proofs.YtpgfnhdaembhmaaDoor
