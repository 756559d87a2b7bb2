/- PolicyRamp, walked. -/
import Derived.Test.YtnljpopjhjcocaaDoorHq
import Derived.Deep.CutBlock
import Derived.Deep.DeepCutAuto
namespace Go.Proofs.YtnljpopjhjcocaaDoor
open Go.RowKit Go.Shelf Km Kx Kc Kt
set_option linter.unusedVariables false

theorem pt_of {x : Gm.Pl} (h : x.Ok) : ∃ p : Pt, p.Ok ∧ p.x = x := ⟨⟨x, none, x.pen.length, 0, none, x.ch.length, x.ch.length⟩, ⟨h, rfl, rfl, Nat.le_refl _⟩, rfl⟩
set_option maxRecDepth 100000 in
set_option maxHeartbeats 8000000 in
theorem ramp_walk (a0 a1 a2 : Int) (w : World) (wf0 : (Lit.int .u8 a0).wf = true) (wf1 : (Lit.int .u8 a1).wf = true) (wf2 : (Lit.int .u8 a2).wf = true) (ht : Tabs w) :
    Calls Tryd.prog 6 #[.int .u8 a0, .int .u8 a1, .int .u8 a2] w fun e w' => e = .returned (.bool true) ∧ Below w.heap.size w w' := by
  obtain ⟨p0, q0⟩ := wf_one (lo := 0) (hi := 255) rfl rfl wf0
  obtain ⟨p1, q1⟩ := wf_one (lo := 0) (hi := 255) rfl rfl wf1
  obtain ⟨p2, q2⟩ := wf_one (lo := 0) (hi := 255) rfl rfl wf2
  have HB := Lib.hid (Bxs.start w)
  have HT := Lib.hid ht
  obtain ⟨r0, hr0⟩ : ∃ r : Int, a0 % 100 = r := ⟨_, rfl⟩
  obtain ⟨r1, hr1⟩ : ∃ r : Int, a1 % 100 = r := ⟨_, rfl⟩
  obtain ⟨r2, hr2⟩ : ∃ r : Int, a2 % 50 = r := ⟨_, rfl⟩
  have b0 : 0 ≤ r0 ∧ r0 ≤ 99 := by omega
  have b1 : 0 ≤ r1 ∧ r1 ≤ 99 := by omega
  have b2_ : 0 ≤ r2 ∧ r2 ≤ 49 := by omega
  obtain ⟨b01, b02⟩ := b0
  obtain ⟨b11_, b12⟩ := b1
  obtain ⟨b21, b22⟩ := b2_
  have f0 : a0.tmod 100 = r0 := by rw [Int.tmod_eq_emod_of_nonneg p0]; exact hr0
  have f1 : a1.tmod 100 = r1 := by rw [Int.tmod_eq_emod_of_nonneg p1]; exact hr1
  have f2 : a2.tmod 50 = r2 := by rw [Int.tmod_eq_emod_of_nonneg p2]; exact hr2
  clear ht wf0 wf1 wf2 hr0 hr1 hr2
  have HF := Lib.hid (⟨f0, f1, f2⟩ : _ ∧ _ ∧ _)
  clear f0 f1 f2
  have HOK0 : Hid (∀ A, ConfP (plainC A 1 1000 (1 + r0) (1 + r1) (1 + r2)) [1, 0]) := Lib.hid (fun A => plainC_ok A ⟨by decide, by decide⟩ ⟨by decide, by decide⟩ ⟨by omega, by omega⟩ ⟨by omega, by omega⟩ ⟨by omega, by omega⟩)
  have HG : Hid ((Gm.plain 1 1000 (1 + r0) (1 + r1) (1 + r2)).Ok) := Lib.hid ((HOK0.out none).gok rfl)
  obtain ⟨f0, f1, f2⟩ := HF.out
  go_enter Tryd.func6, Tryd.ntmps6
  go_wp2_with (first | (go_at_call 10; refine Calls.mono (head_any _ (HT.out.below HB.out.below (Nat.le_refl _))) ?_; rintro e w_ ⟨rfl, hb_⟩; replace HB := Lib.hid (HB.out.call hb_); clear hb_) | (go_at_call 20; fail) | (first | ((with_reducible refine Kx.absorb HB ?_); clear HB; intro w_ HB) | ((with_reducible refine Kx.box_gate ?_); (first | refine Kx.boxa HB rfl ?_ | refine Kx.boxt HB rfl rfl ?_ | refine Kx.box1 HB rfl rfl ?_); clear HB; intro b_ w_ HB; refine Kx.fr ?_) | ((with_reducible refine Kx.alloc_gate ?_); (first | refine Kx.ala HB ?_ | refine Kx.al1 HB ?_); clear HB; intro b_ w_ HB; refine Kx.fr ?_) | ((with_reducible refine Kx.loads_gate ?_); first | refine Kx.l1 HB rfl rfl ?_ | refine Kx.la HB rfl ?_ | refine Kx.lo HB rfl HC.out ?_) | ((with_reducible refine Kx.loadg_gate ?_); first | refine Kx.l1g HB rfl rfl rfl ?_ | refine Kx.lag HB rfl rfl ?_ | refine Kx.log HB rfl HC.out rfl ?_) | ((with_reducible refine Kx.store_gate ?_); (first | refine Kx.stwa HB rfl rfl ?_ | refine Kx.sta HB rfl rfl ?_ | refine Kx.stc HB rfl rfl ?_ | refine Kx.stt HB rfl rfl rfl ?_ | refine Kx.st1 HB rfl rfl rfl ?_); clear HB; intro w_ HB)))
  refine (Plain_any _).mono ?_
  rintro e w1 ⟨A, rfl, hb_, hn_⟩
  replace HB := Lib.hid (HB.out.stayNew hb_ hn_ (fun q hq => by cases hq))
  clear hb_ hn_
  have HOK := Lib.hid (HOK0.out A)
  clear HOK0
  go_upto_region 3 with (first | ((with_reducible refine Kx.absorb HB ?_); clear HB; intro w_ HB) | ((with_reducible refine Kx.box_gate (d := some 8) ?_); (first | refine Kx.boxa HB rfl ?_ | refine Kx.boxt HB rfl rfl ?_ | refine Kx.box1 HB rfl rfl ?_); clear HB; intro b8 w_ HB; refine Kx.fr ?_) | ((with_reducible refine Kx.alloc_gate (d := some 8) ?_); (first | refine Kx.ala HB ?_ | refine Kx.al1 HB ?_); clear HB; intro b8 w_ HB; refine Kx.fr ?_) | ((with_reducible refine Kx.box_gate ?_); (first | refine Kx.boxa HB rfl ?_ | refine Kx.boxt HB rfl rfl ?_ | refine Kx.box1 HB rfl rfl ?_); clear HB; intro b_ w_ HB; refine Kx.fr ?_) | ((with_reducible refine Kx.alloc_gate ?_); (first | refine Kx.ala HB ?_ | refine Kx.al1 HB ?_); clear HB; intro b_ w_ HB; refine Kx.fr ?_) | ((with_reducible refine Kx.loads_gate ?_); first | refine Kx.l1 HB rfl rfl ?_ | refine Kx.la HB rfl ?_ | refine Kx.lo HB rfl HC.out ?_) | ((with_reducible refine Kx.loadg_gate ?_); first | refine Kx.l1g HB rfl rfl rfl ?_ | refine Kx.lag HB rfl rfl ?_ | refine Kx.log HB rfl HC.out rfl ?_) | ((with_reducible refine Kx.store_gate ?_); (first | refine Kx.stwa HB rfl rfl ?_ | refine Kx.sta HB rfl rfl ?_ | refine Kx.stc HB rfl rfl ?_ | refine Kx.stt HB rfl rfl rfl ?_ | refine Kx.st1 HB rfl rfl rfl ?_); clear HB; intro w_ HB))
  go_upto_region 7 with (first | ((with_reducible refine Kx.store_gate ?_); refine Kx.wpList_storet_x HB rfl rfl _ _ _ rfl b8 rfl _ rfl rfl (cf (plainC A 50 1000 20 40 5)) (cf (plainC A 50 1000 (1 + r0) 40 5)) (by rfl) (by show 21 < 30; decide) (Tryd.sizeOf3 _) ?_; clear HB; intro w_ HB) | ((with_reducible refine Kx.store_gate ?_); refine Kx.wpList_storet_x HB rfl rfl _ _ _ rfl b8 rfl _ rfl rfl (cf (plainC A 50 1000 (1 + r0) 40 5)) (cf (plainC A 50 1000 (1 + r0) (1 + r1) 5)) (by rfl) (by show 22 < 30; decide) (Tryd.sizeOf3 _) ?_; clear HB; intro w_ HB) | ((with_reducible refine Kx.store_gate ?_); refine Kx.wpList_storet_x HB rfl rfl _ _ _ rfl b8 rfl _ rfl rfl (cf (plainC A 50 1000 (1 + r0) (1 + r1) 5)) (cf (plainC A 50 1000 (1 + r0) (1 + r1) (1 + r2))) (by rfl) (by show 23 < 30; decide) (Tryd.sizeOf2 _) ?_; clear HB; intro w_ HB) | ((with_reducible refine Kx.store_gate ?_); refine Kx.wpList_storec_x HB rfl rfl _ _ _ rfl b8 rfl rfl (cf (plainC A 50 1000 (1 + r0) (1 + r1) (1 + r2))) (cf (plainC A 1 1000 (1 + r0) (1 + r1) (1 + r2))) (by rfl) (by show 15 < 30; decide) (Tryd.sizeOf2 _) ?_; clear HB; intro w_ HB) | (first | ((with_reducible refine Kx.absorb HB ?_); clear HB; intro w_ HB) | ((with_reducible refine Kx.box_gate ?_); (first | refine Kx.boxa HB rfl ?_ | refine Kx.boxt HB rfl rfl ?_ | refine Kx.box1 HB rfl rfl ?_); clear HB; intro b_ w_ HB; refine Kx.fr ?_) | ((with_reducible refine Kx.alloc_gate ?_); (first | refine Kx.ala HB ?_ | refine Kx.al1 HB ?_); clear HB; intro b_ w_ HB; refine Kx.fr ?_) | ((with_reducible refine Kx.loads_gate ?_); first | refine Kx.l1 HB rfl rfl ?_ | refine Kx.la HB rfl ?_ | refine Kx.lo HB rfl HC.out ?_) | ((with_reducible refine Kx.loadg_gate ?_); first | refine Kx.l1g HB rfl rfl rfl ?_ | refine Kx.lag HB rfl rfl ?_ | refine Kx.log HB rfl HC.out rfl ?_) | ((with_reducible refine Kx.store_gate ?_); (first | refine Kx.stwa HB rfl rfl ?_ | refine Kx.sta HB rfl rfl ?_ | refine Kx.stc HB rfl rfl ?_ | refine Kx.stt HB rfl rfl rfl ?_ | refine Kx.st1 HB rfl rfl rfl ?_); clear HB; intro w_ HB)))
  have HZO : Hid ((Gm.zero (gc (plainC A 1 1000 (1 + r0) (1 + r1) (1 + r2)) [1, 0])).Ok) := Lib.hid (fits_num HOK.out (Gm.zero_inv HG.out).fits (by show (0 : Int) ≤ _; decide))
  have HTE1 : Hid (tell (plainC A 1 1000 (1 + r0) (1 + r1) (1 + r2)) [1, 0] (Gm.zero (gc (plainC A 1 1000 (1 + r0) (1 + r1) (1 + r2)) [1, 0])) 1 5 = some ⟨1, 0, -1, -1, 100, 5, 5, 5, 1, 0, [0, 0], [5]⟩) := Lib.hid ((tell_next (p := (Gm.zero (gc (plainC A 1 1000 (1 + r0) (1 + r1) (1 + r2)) [1, 0]))) HOK.out (Gm.zero_inv HG.out).fits HZO.out (by show (0 : Int) < _; decide)).trans (Gm.ramp_one HG.out))
  have HI1 : Hid (Gm.Inv (gc (plainC A 1 1000 (1 + r0) (1 + r1) (1 + r2)) [1, 0]) ⟨1, 0, -1, -1, 100, 5, 5, 5, 1, 0, [0, 0], [5]⟩) := Lib.hid (Gm.step_inv HG.out (Gm.zero_inv HG.out) ⟨_, _, Gm.ramp_one HG.out⟩)
  have HO1 : Hid (Pm.Pl.Ok ⟨1, 0, -1, -1, 100, 5, 5, 5, 1, 0, [0, 0], [5]⟩) := Lib.hid (fits_num HOK.out HI1.out.fits (by show (1 : Int) ≤ _; decide))
  obtain ⟨z0, hz0⟩ := pt_of HZO.out
  obtain ⟨y0', hy0'⟩ := pt_of HO1.out
  obtain ⟨y0, hy0⟩ : ∃ y0 : Pt × Bool, y0.1.Ok ∧ y0.1.x = ⟨1, 0, -1, -1, 100, 5, 5, 5, 1, 0, [0, 0], [5]⟩ ∧ y0.2 = true := ⟨(y0', true), hy0'.1, hy0'.2, rfl⟩
  clear f0 f1 f2 hy0' y0'
  go_cut [9, 10] from 36 to 42 (fun bp iv wx => ∃ (y : Pt × Bool) (b9 : Nat), Hid (y.1.Ok ∧ y.1.x = ⟨1, 0, -1, -1, 100, 5, 5, 5, 1, 0, [0, 0], [5]⟩ ∧ y.2 = true) ∧ bp = .pointer (some ⟨b9, 0, none⟩) ∧ iv = .bool y.2 ∧ Hid (Bxs w wx [(b9, y.1.cells), (b8, cf (plainC A 1 1000 (1 + r0) (1 + r1) (1 + r2)))] [] (y.1.fz ++ [(A, i64s [1, 0])])))
  case first =>
    refine Kx.region_x HB (fun i => false) (by kernel_rfl) ?_
    first | refine Kx.xl1 0 rfl rfl rfl ?_ | refine Kx.xla 0 rfl rfl ?_ | refine Kx.xlo 0 rfl rfl HC.out ?_
    first | refine Kx.xl1 1 rfl rfl rfl ?_ | refine Kx.xla 1 rfl rfl ?_ | refine Kx.xlo 1 rfl rfl HC.out ?_
    refine anyW_two (i := 2) (j := 7) (by kernel_rfl) ?one ?two
    case one =>
      refine AtW.call (α := {z : Pt // z.Ok ∧ z.x = (Gm.zero (gc (plainC A 1 1000 (1 + r0) (1 + r1) (1 + r2)) [1, 0]))}) ⟨z0, hz0⟩ (fun z => .agg z.1.cells.toArray) (fun z w' => Bxs w w' [(b8, cf (plainC A 1 1000 (1 + r0) (1 + r1) (1 + r2)))] [] (z.1.fz ++ [(A, i64s [1, 0])])) (fun y => bears_x) (fun y W q => q.stayLess (fun z hz => List.mem_append_right _ hz)) rfl (by kernel_rfl) 39 rfl (f := ?g1) (args := ?s1) ?y1 ?c1 ?r1
      case y1 => (intro W hW; go_simp; first | (refine ⟨?_, ?_⟩ <;> with_reducible rfl) | with_reducible rfl)
      case c1 =>
        intro W hW
        refine (PZero_any (plainC A 1 1000 (1 + r0) (1 + r1) (1 + r2)) [1, 0] W (HT.out.below hW.below (Nat.le_refl _)) (hW.stayRdM (List.mem_cons_self ..)) rfl).mono ?_
        rintro e w' ⟨z, rfl, hb, n1, n2, ok, hz, -⟩
        exact ⟨⟨z, ok, hz HOK.out⟩, rfl, hW.stayNew2 hb n1 n2 (fun q hq => by cases hq)⟩
      case r1 =>
      intro z
      refine Kx.framedW (by simp only [Act.put, List.setIfInBounds_toArray, List.set_cons_succ, List.set_cons_zero] <;> rfl) ?_
      refine anyW_two (i := 3) (j := 7) (by kernel_rfl) ?three ?four
      case three =>
        refine AtW.call (α := {y : Pt × Bool // y.1.Ok ∧ y.1.x = ⟨1, 0, -1, -1, 100, 5, 5, 5, 1, 0, [0, 0], [5]⟩ ∧ y.2 = true}) ⟨y0, hy0⟩ (fun y => .tuple #[.agg y.1.1.cells.toArray, .bool y.1.2]) (fun y w' => Bxs w w' [(b8, cf (plainC A 1 1000 (1 + r0) (1 + r1) (1 + r2)))] [] (y.1.1.fz ++ (z.1.fz ++ [(A, i64s [1, 0])]))) (fun y => bears_x) (fun y W q => q.stayLess (fun z hz => List.mem_append_right _ hz)) rfl (by kernel_rfl) 40 rfl (f := ?g2) (args := ?s2) ?y2 ?c2 ?r2
        case y2 => (intro W hW; go_simp; first | (refine ⟨?_, ?_⟩ <;> with_reducible rfl) | with_reducible rfl)
        case c2 =>
          intro W hW
          refine (PNext_any (plainC A 1 1000 (1 + r0) (1 + r1) (1 + r2)) [1, 0] z.1 1 5 W (HT.out.below hW.below (Nat.le_refl _)) (hW.stayRdM (List.mem_append_right _ (List.mem_cons_self ..))) rfl (z.2.1.stays hW (fun q hq => List.mem_append_left _ hq)) (few HOK.out z.2.1 (by rw [z.2.2]; exact (Gm.zero_inv HG.out).fits)) (by decide) in64_5).mono ?_
          rintro e w' ⟨q2, b2, rfl, hb, n1, n2, ok, yes, no⟩
          have hsm := toldx (by rw [z.2.2]; exact HTE1.out) yes no
          exact ⟨⟨(q2, b2), ok, hsm.2, hsm.1⟩, rfl, hW.stayNew2 hb n1 n2 (fun q hq => List.mem_append_left _ hq)⟩
        case r2 =>
        intro y
        refine Kx.framedW (by simp only [Act.put, List.setIfInBounds_toArray, List.set_cons_succ, List.set_cons_zero] <;> rfl) ?_
        refine Kx.tk 4 rfl ?_
        refine Kx.tk 5 rfl ?_
        refine Kx.tk 6 rfl ?_
        refine anyW_at (i := 7) (by kernel_rfl) (AtW.allocU rfl (by kernel_rfl) 9 rfl 28 rfl 12 _ rfl (fun w => (Tryd.zeroValue28 w)) ?_)
        intro b9
        refine Kx.framedW (by simp only [Act.put, List.setIfInBounds_toArray, List.set_cons_succ, List.set_cons_zero] <;> rfl) ?_
        refine anyW_storeU (i := 8) rfl (by kernel_rfl) (by kernel_rfl) rfl _ _ _ rfl _ 12 rfl _ rfl rfl (fun w => (Tryd.sizeOf28 w)) (by rfl) ?_
        refine Kx.tk 9 rfl ?_
        refine anyW_done (by kernel_rfl) ?_
        clear HB
        intro w_ HB_
        have HB := Lib.hid HB_
        clear HB_
        go_wp2_with fail
        go_meet
        case rel => exact ⟨y.1, b9, Lib.hid y.2, rfl, rfl, Lib.hid (HB.out.stayLess (fun q hq => (List.mem_append.1 hq).elim (fun h => List.mem_append_left _ h) (fun h => List.mem_append_right _ (List.mem_append_right _ h))))⟩
      case four =>
        refine AtW.allocU rfl (by kernel_rfl) 9 rfl 28 rfl 12 _ rfl (fun w => (Tryd.zeroValue28 w)) ?_
        intro b9
        refine Kx.framedW (by simp only [Act.put, List.setIfInBounds_toArray, List.set_cons_succ, List.set_cons_zero] <;> rfl) ?_
        refine anyW_at (i := 3) (by kernel_rfl) ?five
        case five =>
        refine AtW.call (α := {y : Pt × Bool // y.1.Ok ∧ y.1.x = ⟨1, 0, -1, -1, 100, 5, 5, 5, 1, 0, [0, 0], [5]⟩ ∧ y.2 = true}) ⟨y0, hy0⟩ (fun y => .tuple #[.agg y.1.1.cells.toArray, .bool y.1.2]) (fun y => Cu w b9 12 [(b8, cf (plainC A 1 1000 (1 + r0) (1 + r1) (1 + r2)))] [] (y.1.1.fz ++ (z.1.fz ++ [(A, i64s [1, 0])]))) (fun y => bears_u) (fun y W q => by obtain ⟨cs, e, q⟩ := q; exact ⟨cs, e, q.stayLess (fun z hz => List.mem_append_right _ hz)⟩) rfl (by kernel_rfl) 40 rfl (f := ?g3) (args := ?s3) ?y3 ?c3 ?r3
        case y3 => (intro W hW; go_simp; first | (refine ⟨?_, ?_⟩ <;> with_reducible rfl) | with_reducible rfl)
        case c3 =>
          rintro W ⟨cs8, e8, hW⟩
          refine (PNext_any (plainC A 1 1000 (1 + r0) (1 + r1) (1 + r2)) [1, 0] z.1 1 5 W (HT.out.below hW.below (Nat.le_refl _)) (hW.stayRdM (List.mem_append_right _ (List.mem_cons_self ..))) rfl (z.2.1.stays hW (fun q hq => List.mem_append_left _ hq)) (few HOK.out z.2.1 (by rw [z.2.2]; exact (Gm.zero_inv HG.out).fits)) (by decide) in64_5).mono ?_
          rintro e w' ⟨q2, b2, rfl, hb, n1, n2, ok, yes, no⟩
          have hsm := toldx (by rw [z.2.2]; exact HTE1.out) yes no
          exact ⟨⟨(q2, b2), ok, hsm.2, hsm.1⟩, rfl, cs8, e8, hW.stayNew2 hb n1 n2 (fun q hq => List.mem_append_left _ hq)⟩
        case r3 =>
        intro y
        refine Kx.framedW (by simp only [Act.put, List.setIfInBounds_toArray, List.set_cons_succ, List.set_cons_zero] <;> rfl) ?_
        refine Kx.tk 4 rfl ?_
        refine Kx.tk 5 rfl ?_
        refine Kx.tk 6 rfl ?_
        refine anyW_storeU (i := 8) rfl (by kernel_rfl) (by kernel_rfl) rfl _ _ _ rfl _ 12 rfl _ rfl rfl (fun w => (Tryd.sizeOf28 w)) (by rfl) ?_
        refine Kx.tk 9 rfl ?_
        refine anyW_done (by kernel_rfl) ?_
        clear HB
        intro w_ HB_
        have HB := Lib.hid HB_
        clear HB_
        go_wp2_with fail
        go_meet
        case rel => exact ⟨y.1, b9, Lib.hid y.2, rfl, rfl, Lib.hid (HB.out.stayLess (fun q hq => (List.mem_append.1 hq).elim (fun h => List.mem_append_left _ h) (fun h => List.mem_append_right _ (List.mem_append_right _ h))))⟩
    case two =>
      refine AtW.allocU rfl (by kernel_rfl) 9 rfl 28 rfl 12 _ rfl (fun w => (Tryd.zeroValue28 w)) ?_
      intro b9
      refine Kx.framedW (by simp only [Act.put, List.setIfInBounds_toArray, List.set_cons_succ, List.set_cons_zero] <;> rfl) ?_
      refine anyW_at (i := 2) (by kernel_rfl) ?six
      case six =>
      refine AtW.call (α := {z : Pt // z.Ok ∧ z.x = (Gm.zero (gc (plainC A 1 1000 (1 + r0) (1 + r1) (1 + r2)) [1, 0]))}) ⟨z0, hz0⟩ (fun z => .agg z.1.cells.toArray) (fun z => Cu w b9 12 [(b8, cf (plainC A 1 1000 (1 + r0) (1 + r1) (1 + r2)))] [] (z.1.fz ++ [(A, i64s [1, 0])])) (fun y => bears_u) (fun y W q => by obtain ⟨cs, e, q⟩ := q; exact ⟨cs, e, q.stayLess (fun z hz => List.mem_append_right _ hz)⟩) rfl (by kernel_rfl) 39 rfl (f := ?g4) (args := ?s4) ?y4 ?c4 ?r4
      case y4 => (intro W hW; go_simp; first | (refine ⟨?_, ?_⟩ <;> with_reducible rfl) | with_reducible rfl)
      case c4 =>
        rintro W ⟨cs8, e8, hW⟩
        refine (PZero_any (plainC A 1 1000 (1 + r0) (1 + r1) (1 + r2)) [1, 0] W (HT.out.below hW.below (Nat.le_refl _)) (hW.stayRdM (List.mem_cons_self ..)) rfl).mono ?_
        rintro e w' ⟨z, rfl, hb, n1, n2, ok, hz, -⟩
        exact ⟨⟨z, ok, hz HOK.out⟩, rfl, cs8, e8, hW.stayNew2 hb n1 n2 (fun q hq => by cases hq)⟩
      case r4 =>
      intro z
      refine Kx.framedW (by simp only [Act.put, List.setIfInBounds_toArray, List.set_cons_succ, List.set_cons_zero] <;> rfl) ?_
      refine anyW_at (i := 3) (by kernel_rfl) ?seven
      case seven =>
      refine AtW.call (α := {y : Pt × Bool // y.1.Ok ∧ y.1.x = ⟨1, 0, -1, -1, 100, 5, 5, 5, 1, 0, [0, 0], [5]⟩ ∧ y.2 = true}) ⟨y0, hy0⟩ (fun y => .tuple #[.agg y.1.1.cells.toArray, .bool y.1.2]) (fun y => Cu w b9 12 [(b8, cf (plainC A 1 1000 (1 + r0) (1 + r1) (1 + r2)))] [] (y.1.1.fz ++ (z.1.fz ++ [(A, i64s [1, 0])]))) (fun y => bears_u) (fun y W q => by obtain ⟨cs, e, q⟩ := q; exact ⟨cs, e, q.stayLess (fun z hz => List.mem_append_right _ hz)⟩) rfl (by kernel_rfl) 40 rfl (f := ?g5) (args := ?s5) ?y5 ?c5 ?r5
      case y5 => (intro W hW; go_simp; first | (refine ⟨?_, ?_⟩ <;> with_reducible rfl) | with_reducible rfl)
      case c5 =>
        rintro W ⟨cs8, e8, hW⟩
        refine (PNext_any (plainC A 1 1000 (1 + r0) (1 + r1) (1 + r2)) [1, 0] z.1 1 5 W (HT.out.below hW.below (Nat.le_refl _)) (hW.stayRdM (List.mem_append_right _ (List.mem_cons_self ..))) rfl (z.2.1.stays hW (fun q hq => List.mem_append_left _ hq)) (few HOK.out z.2.1 (by rw [z.2.2]; exact (Gm.zero_inv HG.out).fits)) (by decide) in64_5).mono ?_
        rintro e w' ⟨q2, b2, rfl, hb, n1, n2, ok, yes, no⟩
        have hsm := toldx (by rw [z.2.2]; exact HTE1.out) yes no
        exact ⟨⟨(q2, b2), ok, hsm.2, hsm.1⟩, rfl, cs8, e8, hW.stayNew2 hb n1 n2 (fun q hq => List.mem_append_left _ hq)⟩
      case r5 =>
      intro y
      refine Kx.framedW (by simp only [Act.put, List.setIfInBounds_toArray, List.set_cons_succ, List.set_cons_zero] <;> rfl) ?_
      refine Kx.tk 4 rfl ?_
      refine Kx.tk 5 rfl ?_
      refine Kx.tk 6 rfl ?_
      refine anyW_storeU (i := 8) rfl (by kernel_rfl) (by kernel_rfl) rfl _ _ _ rfl _ 12 rfl _ rfl rfl (fun w => (Tryd.sizeOf28 w)) (by rfl) ?_
      refine Kx.tk 9 rfl ?_
      refine anyW_done (by kernel_rfl) ?_
      clear HB
      intro w_ HB_
      have HB := Lib.hid HB_
      clear HB_
      go_wp2_with fail
      go_meet
      case rel => exact ⟨y.1, b9, Lib.hid y.2, rfl, rfl, Lib.hid (HB.out.stayLess (fun q hq => (List.mem_append.1 hq).elim (fun h => List.mem_append_left _ h) (fun h => List.mem_append_right _ (List.mem_append_right _ h))))⟩
  case rest =>
    obtain ⟨⟨p, pb⟩, b9, HYY, rfl, rfl, HB⟩ := hcut
    obtain ⟨pok, px, pbb⟩ := HYY.out
    clear HYY
    dsimp only at pok px pbb HB ⊢
    subst pbb
    have HP := Lib.hid (⟨pok, px⟩ : _ ∧ _)
    have p1 : p.x.t = 0 := by rw [px]
    have HI1' : Hid (Gm.Inv (gc (plainC A 1 1000 (1 + r0) (1 + r1) (1 + r2)) [1, 0]) p.x) := Lib.hid (by rw [px]; exact HI1.out)
    have HPN := Lib.hid (few HOK.out pok HI1'.out.fits)
    have HTE2 : Hid (tell (plainC A 1 1000 (1 + r0) (1 + r1) (1 + r2)) [1, 0] p.x 3 15 = some (Gm.rp 2 (1 + r0) 15)) := Lib.hid (by
      rw [px]
      exact (tell_next (p := ⟨1, 0, -1, -1, 100, 5, 5, 5, 1, 0, [0, 0], [5]⟩) HOK.out HI1.out.fits HO1.out (by show (1 : Int) < _; decide)).trans (Gm.ramp_two HG.out))
    have hlp : p.cells.length = 12 := rfl
    have hc13 : (plainC A 1 1000 (1 + r0) (1 + r1) (1 + r2)).dwell = 10 := rfl
    have hc21 : (plainC A 1 1000 (1 + r0) (1 + r1) (1 + r2)).first = 1 + r0 := rfl
    have hc22 : (plainC A 1 1000 (1 + r0) (1 + r1) (1 + r2)).step = 1 + r1 := rfl
    have hc23 : (plainC A 1 1000 (1 + r0) (1 + r1) (1 + r2)).stepTime = 1 + r2 := rfl
    clear pok px
    go_wp2_with (first | (go_at_call 11; fail) | (first | ((with_reducible refine Kx.absorb HB ?_); clear HB; intro w_ HB) | ((with_reducible refine Kx.box_gate ?_); (first | refine Kx.boxa HB rfl ?_ | refine Kx.boxt HB rfl rfl ?_ | refine Kx.box1 HB rfl rfl ?_); clear HB; intro b_ w_ HB; refine Kx.fr ?_) | ((with_reducible refine Kx.alloc_gate ?_); (first | refine Kx.ala HB ?_ | refine Kx.al1 HB ?_); clear HB; intro b_ w_ HB; refine Kx.fr ?_) | ((with_reducible refine Kx.loads_gate ?_); first | refine Kx.l1 HB rfl rfl ?_ | refine Kx.la HB rfl ?_ | refine Kx.lo HB rfl HC.out ?_) | ((with_reducible refine Kx.loadg_gate ?_); first | refine Kx.l1g HB rfl rfl rfl ?_ | refine Kx.lag HB rfl rfl ?_ | refine Kx.log HB rfl HC.out rfl ?_) | ((with_reducible refine Kx.store_gate ?_); (first | refine Kx.stwa HB rfl rfl ?_ | refine Kx.sta HB rfl rfl ?_ | refine Kx.stc HB rfl rfl ?_ | refine Kx.stt HB rfl rfl rfl ?_ | refine Kx.st1 HB rfl rfl rfl ?_); clear HB; intro w_ HB)))
    refine (PNext_any (plainC A 1 1000 (1 + r0) (1 + r1) (1 + r2)) [1, 0] p 3 15 _ (HT.out.below HB.out.below (Nat.le_refl _)) (HB.out.stayRdM (List.mem_append_right p.fz (List.mem_cons_self ..))) rfl (HP.out.1.stays HB.out (fun q hq => List.mem_append_left _ hq)) HPN.out (by decide) ⟨by decide, by decide⟩).mono ?_
    rintro e w3 ⟨q, b, rfl, hb_, n1, n2, qok, yes, no⟩
    obtain ⟨rfl, hqx⟩ := toldx HTE2.out yes no
    replace HB := Lib.hid ((HB.out.stayNew2 hb_ n1 n2 (fun q hq => List.mem_append_left _ hq)).stayLess (F' := q.fz ++ [(A, i64s [1, 0])]) (fun z hz => (List.mem_append.1 hz).elim (fun h => List.mem_append_left _ h) (fun h => List.mem_append_right q.fz (List.mem_append_right p.fz h))))
    have HQ := Lib.hid (⟨qok, hqx⟩ : _ ∧ _)
    have q1' : q.x.t = 1 := by rw [hqx]; rfl
    have q2' : q.x.c = 1 + r0 := by rw [hqx]; rfl
    have q3' : q.x.p = 0 := by rw [hqx]; rfl
    have hlq : q.cells.length = 12 := rfl
    clear hb_ n1 n2 qok yes no hqx
    have HRP : Hid (∀ (e pc ra : Int), 0 ≤ e → e ≤ 1000 → 0 ≤ pc → pc ≤ 100 → 15 ≤ ra → ra ≤ 100000 → (Gm.rp e pc ra).Ok ∧ Gm.Inv (gc (plainC A 1 1000 (1 + r0) (1 + r1) (1 + r2)) [1, 0]) (Gm.rp e pc ra)) := Lib.hid (fun e pc ra h1 h2 h3 h4 h5 h6 => by
      have hi := Gm.rp_inv HG.out h1 ⟨h3, h4⟩ ⟨h5, by omega⟩
      exact ⟨fits_num HOK.out hi.fits (by show e ≤ _; omega), hi⟩)
    go_wp2_with (first | (first | ((with_reducible refine Kx.absorb HB ?_); clear HB; intro w_ HB) | ((with_reducible refine Kx.box_gate (d := some 11) ?_); (first | refine Kx.boxa HB rfl ?_ | refine Kx.boxt HB rfl rfl ?_ | refine Kx.box1 HB rfl rfl ?_); clear HB; intro b11 w_ HB; refine Kx.fr ?_) | ((with_reducible refine Kx.alloc_gate (d := some 11) ?_); (first | refine Kx.ala HB ?_ | refine Kx.al1 HB ?_); clear HB; intro b11 w_ HB; refine Kx.fr ?_) | ((with_reducible refine Kx.box_gate ?_); (first | refine Kx.boxa HB rfl ?_ | refine Kx.boxt HB rfl rfl ?_ | refine Kx.box1 HB rfl rfl ?_); clear HB; intro b_ w_ HB; refine Kx.fr ?_) | ((with_reducible refine Kx.alloc_gate ?_); (first | refine Kx.ala HB ?_ | refine Kx.al1 HB ?_); clear HB; intro b_ w_ HB; refine Kx.fr ?_) | ((with_reducible refine Kx.loads_gate ?_); first | refine Kx.l1 HB rfl rfl ?_ | refine Kx.la HB rfl ?_ | refine Kx.lo HB rfl HC.out ?_) | ((with_reducible refine Kx.loadg_gate ?_); first | refine Kx.l1g HB rfl rfl rfl ?_ | refine Kx.lag HB rfl rfl ?_ | refine Kx.log HB rfl HC.out rfl ?_) | ((with_reducible refine Kx.store_gate ?_); (first | refine Kx.stwa HB rfl rfl ?_ | refine Kx.sta HB rfl rfl ?_ | refine Kx.stc HB rfl rfl ?_ | refine Kx.stt HB rfl rfl rfl ?_ | refine Kx.st1 HB rfl rfl rfl ?_); clear HB; intro w_ HB)) | (first | ((with_reducible refine Kx.absorb HB ?_); clear HB; intro w_ HB) | ((with_reducible refine Kx.box_gate ?_); (first | refine Kx.boxa HB rfl ?_ | refine Kx.boxt HB rfl rfl ?_ | refine Kx.box1 HB rfl rfl ?_); clear HB; intro b_ w_ HB; refine Kx.fr ?_) | ((with_reducible refine Kx.alloc_gate ?_); (first | refine Kx.ala HB ?_ | refine Kx.al1 HB ?_); clear HB; intro b_ w_ HB; refine Kx.fr ?_) | ((with_reducible refine Kx.loads_gate ?_); first | refine Kx.l1 HB rfl rfl ?_ | refine Kx.la HB rfl ?_ | refine Kx.lo HB rfl HC.out ?_) | ((with_reducible refine Kx.loadg_gate ?_); first | refine Kx.l1g HB rfl rfl rfl ?_ | refine Kx.lag HB rfl rfl ?_ | refine Kx.log HB rfl HC.out rfl ?_) | ((with_reducible refine Kx.store_gate ?_); (first | refine Kx.stwa HB rfl rfl ?_ | refine Kx.sta HB rfl rfl ?_ | refine Kx.stc HB rfl rfl ?_ | refine Kx.stt HB rfl rfl rfl ?_ | refine Kx.st1 HB rfl rfl rfl ?_); clear HB; intro w_ HB)))
    clear q1' q2' q3' p1 hc13 hc21
    go_loopg [13] 99 (fun gh nx wr => ∃ (k : Nat) (q : Pt) (pc ra : Int), gh + k = 99 ∧ nx = .int .i64 (k : Int) ∧ Hid (q.Ok ∧ q.x = Gm.rp ((k : Int) + 2) pc ra) ∧ 0 ≤ pc ∧ pc ≤ 100 ∧ (1 + (k : Int) ≤ pc ∨ 100 ≤ pc) ∧ 15 ≤ ra ∧ ra ≤ 15 + 50 * (k : Int) ∧ Hid (Bxs w wr [(b11, q.cells), (b9, p.cells), (b8, cf (plainC A 1 1000 (1 + r0) (1 + r1) (1 + r2)))] [] (q.fz ++ [(A, i64s [1, 0])])))
    case atStart => exact ⟨0, q, 1 + r0, 15, by omega, rfl, HQ, by omega, by omega, .inl (by omega), by omega, by omega, HB⟩
    case round =>
      clear HB HQ hlq
      obtain ⟨k, q, pc, ra, hk, rfl, HQ, hp1, hp2, hp3, hr1, hr2, HB⟩ := hrel
      have q1' : q.x.t = 1 := by rw [HQ.out.2]; rfl
      have q2' : q.x.c = pc := by rw [HQ.out.2]; rfl
      have q3' : q.x.ra = ra := by rw [HQ.out.2]; rfl
      have hlq : q.cells.length = 12 := rfl
      by_cases hlt : pc < 100
      · have d1 : decide (pc < (100 : Int)) = true := by simp [hlt]
        have hk98 : k ≤ 98 := by omega
        obtain ⟨o1, o2⟩ := HRP.out ((k : Int) + 2) pc ra (by omega) (by omega) hp1 hp2 hr1 (by omega)
        have HQI : Hid (Gm.Inv (gc (plainC A 1 1000 (1 + r0) (1 + r1) (1 + r2)) [1, 0]) q.x) := Lib.hid (by rw [HQ.out.2]; exact o2)
        have HQN := Lib.hid (few HOK.out HQ.out.1 HQI.out.fits)
        have HTG : Hid (tell (plainC A 1 1000 (1 + r0) (1 + r1) (1 + r2)) [1, 0] q.x 3 (ra + (1 + r2)) = some (Gm.rp ((k : Int) + 2 + 1) (min 100 (pc + (1 + r1))) (ra + (1 + r2)))) := Lib.hid (by
          rw [HQ.out.2]
          exact (tell_next HOK.out o2.fits o1 (by show (k : Int) + 2 < _; omega)).trans (Gm.ramp_grow HG.out (by omega) ⟨hp1, hlt⟩ ⟨hr1, by omega⟩))
        have HTE : Hid (tell (plainC A 1 1000 (1 + r0) (1 + r1) (1 + r2)) [1, 0] q.x 3 (ra + (1 + r2) - 1) = none) := Lib.hid (by
          rw [HQ.out.2]
          exact (tell_next HOK.out o2.fits o1 (by show (k : Int) + 2 < _; omega)).trans (Gm.ramp_early HG.out (by omega) ⟨hp1, hp2⟩ ⟨hr1, by omega⟩))
        have HI1 : Hid (in64 (ra + (1 + r2)) ∧ in64 (ra + (1 + r2) - 1)) := Lib.hid ⟨⟨by omega, by omega⟩, ⟨by omega, by omega⟩⟩
        clear o1 o2
        go_wp2_with (first | (go_at_call 11; fail) | (first | ((with_reducible refine Kx.absorb HB ?_); clear HB; intro w_ HB) | ((with_reducible refine Kx.box_gate ?_); (first | refine Kx.boxa HB rfl ?_ | refine Kx.boxt HB rfl rfl ?_ | refine Kx.box1 HB rfl rfl ?_); clear HB; intro b_ w_ HB; refine Kx.fr ?_) | ((with_reducible refine Kx.alloc_gate ?_); (first | refine Kx.ala HB ?_ | refine Kx.al1 HB ?_); clear HB; intro b_ w_ HB; refine Kx.fr ?_) | ((with_reducible refine Kx.loads_gate ?_); first | refine Kx.l1 HB rfl rfl ?_ | refine Kx.la HB rfl ?_ | refine Kx.lo HB rfl HC.out ?_) | ((with_reducible refine Kx.loadg_gate ?_); first | refine Kx.l1g HB rfl rfl rfl ?_ | refine Kx.lag HB rfl rfl ?_ | refine Kx.log HB rfl HC.out rfl ?_) | ((with_reducible refine Kx.store_gate ?_); (first | refine Kx.stwa HB rfl rfl ?_ | refine Kx.sta HB rfl rfl ?_ | refine Kx.stc HB rfl rfl ?_ | refine Kx.stt HB rfl rfl rfl ?_ | refine Kx.st1 HB rfl rfl rfl ?_); clear HB; intro w_ HB)))
        refine (PNext_any (plainC A 1 1000 (1 + r0) (1 + r1) (1 + r2)) [1, 0] q 3 (ra + (1 + r2)) _ (HT.out.below HB.out.below (Nat.le_refl _)) (HB.out.stayRdM (List.mem_append_right q.fz (List.mem_cons_self ..))) rfl (HQ.out.1.stays HB.out (fun z hz => List.mem_append_left _ hz)) HQN.out (by decide) HI1.out.1).mono ?_
        rintro e w4 ⟨r, b, rfl, hb_, n1, n2, rok, yes, no⟩
        obtain ⟨rfl, hrx⟩ := toldx HTG.out yes no
        replace HB := Lib.hid (HB.out.stayNew2 hb_ n1 n2 (fun z hz => List.mem_append_left _ hz))
        have HR2 := Lib.hid (⟨rok, hrx⟩ : _ ∧ _)
        have r1' : r.x.t = 1 := by rw [hrx]; rfl
        have r2' : r.x.c = min 100 (pc + (1 + r1)) := by rw [hrx]; rfl
        have hlr : r.cells.length = 12 := rfl
        clear hb_ n1 n2 rok yes no hrx
        go_wp2_with (first | (go_at_call 11; fail) | (first | ((with_reducible refine Kx.absorb HB ?_); clear HB; intro w_ HB) | ((with_reducible refine Kx.box_gate (d := some 14) ?_); (first | refine Kx.boxa HB rfl ?_ | refine Kx.boxt HB rfl rfl ?_ | refine Kx.box1 HB rfl rfl ?_); clear HB; intro b14 w_ HB; refine Kx.fr ?_) | ((with_reducible refine Kx.alloc_gate (d := some 14) ?_); (first | refine Kx.ala HB ?_ | refine Kx.al1 HB ?_); clear HB; intro b14 w_ HB; refine Kx.fr ?_) | ((with_reducible refine Kx.box_gate ?_); (first | refine Kx.boxa HB rfl ?_ | refine Kx.boxt HB rfl rfl ?_ | refine Kx.box1 HB rfl rfl ?_); clear HB; intro b_ w_ HB; refine Kx.fr ?_) | ((with_reducible refine Kx.alloc_gate ?_); (first | refine Kx.ala HB ?_ | refine Kx.al1 HB ?_); clear HB; intro b_ w_ HB; refine Kx.fr ?_) | ((with_reducible refine Kx.loads_gate ?_); first | refine Kx.l1 HB rfl rfl ?_ | refine Kx.la HB rfl ?_ | refine Kx.lo HB rfl HC.out ?_) | ((with_reducible refine Kx.loadg_gate ?_); first | refine Kx.l1g HB rfl rfl rfl ?_ | refine Kx.lag HB rfl rfl ?_ | refine Kx.log HB rfl HC.out rfl ?_) | ((with_reducible refine Kx.store_gate ?_); (first | refine Kx.stwa HB rfl rfl ?_ | refine Kx.sta HB rfl rfl ?_ | refine Kx.stc HB rfl rfl ?_ | refine Kx.stt HB rfl rfl rfl ?_ | refine Kx.st1 HB rfl rfl rfl ?_); clear HB; intro w_ HB)) | (first | ((with_reducible refine Kx.absorb HB ?_); clear HB; intro w_ HB) | ((with_reducible refine Kx.box_gate ?_); (first | refine Kx.boxa HB rfl ?_ | refine Kx.boxt HB rfl rfl ?_ | refine Kx.box1 HB rfl rfl ?_); clear HB; intro b_ w_ HB; refine Kx.fr ?_) | ((with_reducible refine Kx.alloc_gate ?_); (first | refine Kx.ala HB ?_ | refine Kx.al1 HB ?_); clear HB; intro b_ w_ HB; refine Kx.fr ?_) | ((with_reducible refine Kx.loads_gate ?_); first | refine Kx.l1 HB rfl rfl ?_ | refine Kx.la HB rfl ?_ | refine Kx.lo HB rfl HC.out ?_) | ((with_reducible refine Kx.loadg_gate ?_); first | refine Kx.l1g HB rfl rfl rfl ?_ | refine Kx.lag HB rfl rfl ?_ | refine Kx.log HB rfl HC.out rfl ?_) | ((with_reducible refine Kx.store_gate ?_); (first | refine Kx.stwa HB rfl rfl ?_ | refine Kx.sta HB rfl rfl ?_ | refine Kx.stc HB rfl rfl ?_ | refine Kx.stt HB rfl rfl rfl ?_ | refine Kx.st1 HB rfl rfl rfl ?_); clear HB; intro w_ HB)))
        refine (PNext_any (plainC A 1 1000 (1 + r0) (1 + r1) (1 + r2)) [1, 0] q 3 (ra + (1 + r2) - 1) _ (HT.out.below HB.out.below (Nat.le_refl _)) (HB.out.stayRdM (List.mem_append_right r.fz (List.mem_append_right q.fz (List.mem_cons_self ..)))) rfl (HQ.out.1.stays HB.out (fun z hz => List.mem_append_right r.fz (List.mem_append_left _ hz))) HQN.out (by decide) HI1.out.2).mono ?_
        rintro e w5 ⟨s, b, rfl, hb_, n1, n2, sok, yes, no⟩
        obtain rfl := toldn HTE.out yes no
        replace HB := Lib.hid ((HB.out.stayNew2 hb_ n1 n2 (fun z hz => List.mem_append_right r.fz (List.mem_append_left _ hz))).stayLess (F' := r.fz ++ [(A, i64s [1, 0])]) (fun z hz => List.mem_append_right s.fz ((List.mem_append.1 hz).elim (fun h => List.mem_append_left _ h) (fun h => List.mem_append_right r.fz (List.mem_append_right q.fz h)))))
        have hls : s.cells.length = 12 := rfl
        clear hb_ n1 n2 sok yes no
        have dk : decide ((100 : Int) < (k : Int)) = false := by simp; omega
        by_cases hle : 100 ≤ pc + (1 + r1)
        · have r2'' : r.x.c = 100 := by rw [r2']; omega
          have hle2 : ¬ pc + (1 + r1) < 100 := by omega
          clear r2'
          go_wp2_with (first | ((with_reducible refine Kx.absorb HB ?_); clear HB; intro w_ HB) | ((with_reducible refine Kx.box_gate ?_); (first | refine Kx.boxa HB rfl ?_ | refine Kx.boxt HB rfl rfl ?_ | refine Kx.box1 HB rfl rfl ?_); clear HB; intro b_ w_ HB; refine Kx.fr ?_) | ((with_reducible refine Kx.alloc_gate ?_); (first | refine Kx.ala HB ?_ | refine Kx.al1 HB ?_); clear HB; intro b_ w_ HB; refine Kx.fr ?_) | ((with_reducible refine Kx.loads_gate ?_); first | refine Kx.l1 HB rfl rfl ?_ | refine Kx.la HB rfl ?_ | refine Kx.lo HB rfl HC.out ?_) | ((with_reducible refine Kx.loadg_gate ?_); first | refine Kx.l1g HB rfl rfl rfl ?_ | refine Kx.lag HB rfl rfl ?_ | refine Kx.log HB rfl HC.out rfl ?_) | ((with_reducible refine Kx.store_gate ?_); (first | refine Kx.stwa HB rfl rfl ?_ | refine Kx.sta HB rfl rfl ?_ | refine Kx.stc HB rfl rfl ?_ | refine Kx.stt HB rfl rfl rfl ?_ | refine Kx.st1 HB rfl rfl rfl ?_); clear HB; intro w_ HB))
          go_roundg (gk - 1)
          case measure => omega
          case rel => exact ⟨k + 1, r, 100, ra + (1 + r2), by omega, by go_num, by rw [show (min 100 (pc + (1 + r1))) = 100 by omega] at HR2; rw [show (((k + 1 : Nat) : Int) + 2) = (k : Int) + 2 + 1 by omega]; exact HR2, by omega, by omega, .inr (by omega), by omega, by omega, Lib.hid (HB.out.tail.tail)⟩
        · have r2'' : r.x.c = pc + (1 + r1) := by rw [r2']; omega
          have hle2 : pc + (1 + r1) < 100 := by omega
          clear r2'
          go_wp2_with (first | ((with_reducible refine Kx.absorb HB ?_); clear HB; intro w_ HB) | ((with_reducible refine Kx.box_gate ?_); (first | refine Kx.boxa HB rfl ?_ | refine Kx.boxt HB rfl rfl ?_ | refine Kx.box1 HB rfl rfl ?_); clear HB; intro b_ w_ HB; refine Kx.fr ?_) | ((with_reducible refine Kx.alloc_gate ?_); (first | refine Kx.ala HB ?_ | refine Kx.al1 HB ?_); clear HB; intro b_ w_ HB; refine Kx.fr ?_) | ((with_reducible refine Kx.loads_gate ?_); first | refine Kx.l1 HB rfl rfl ?_ | refine Kx.la HB rfl ?_ | refine Kx.lo HB rfl HC.out ?_) | ((with_reducible refine Kx.loadg_gate ?_); first | refine Kx.l1g HB rfl rfl rfl ?_ | refine Kx.lag HB rfl rfl ?_ | refine Kx.log HB rfl HC.out rfl ?_) | ((with_reducible refine Kx.store_gate ?_); (first | refine Kx.stwa HB rfl rfl ?_ | refine Kx.sta HB rfl rfl ?_ | refine Kx.stc HB rfl rfl ?_ | refine Kx.stt HB rfl rfl rfl ?_ | refine Kx.st1 HB rfl rfl rfl ?_); clear HB; intro w_ HB))
          go_roundg (gk - 1)
          case measure => omega
          case rel => exact ⟨k + 1, r, pc + (1 + r1), ra + (1 + r2), by omega, by go_num, by rw [show (min 100 (pc + (1 + r1))) = pc + (1 + r1) by omega] at HR2; rw [show (((k + 1 : Nat) : Int) + 2) = (k : Int) + 2 + 1 by omega]; exact HR2, by omega, by omega, .inl (by omega), by omega, by omega, Lib.hid (HB.out.tail.tail)⟩
      · have d1 : decide (pc < (100 : Int)) = false := by simp; omega
        go_wp2_with (first | ((with_reducible refine Kx.absorb HB ?_); clear HB; intro w_ HB) | ((with_reducible refine Kx.box_gate ?_); (first | refine Kx.boxa HB rfl ?_ | refine Kx.boxt HB rfl rfl ?_ | refine Kx.box1 HB rfl rfl ?_); clear HB; intro b_ w_ HB; refine Kx.fr ?_) | ((with_reducible refine Kx.alloc_gate ?_); (first | refine Kx.ala HB ?_ | refine Kx.al1 HB ?_); clear HB; intro b_ w_ HB; refine Kx.fr ?_) | ((with_reducible refine Kx.loads_gate ?_); first | refine Kx.l1 HB rfl rfl ?_ | refine Kx.la HB rfl ?_ | refine Kx.lo HB rfl HC.out ?_) | ((with_reducible refine Kx.loadg_gate ?_); first | refine Kx.l1g HB rfl rfl rfl ?_ | refine Kx.lag HB rfl rfl ?_ | refine Kx.log HB rfl HC.out rfl ?_) | ((with_reducible refine Kx.store_gate ?_); (first | refine Kx.stwa HB rfl rfl ?_ | refine Kx.sta HB rfl rfl ?_ | refine Kx.stc HB rfl rfl ?_ | refine Kx.stt HB rfl rfl rfl ?_ | refine Kx.st1 HB rfl rfl rfl ?_); clear HB; intro w_ HB))
        go_ret
        exact ⟨rfl, HB.out.below⟩
end Go.Proofs.YtnljpopjhjcocaaDoor
