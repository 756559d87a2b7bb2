/- AcceptorFirst: the law's walk. -/
import Derived.Test.YtbkdenlhfigjhaaDoorAk
import Derived.Test.YtbkdenlhfigjhaaDoorAo
namespace Go.Proofs.YtbkdenlhfigjhaaDoor
open Go.RowKit Go.Shelf Km Kx Kc Kt
set_option linter.unusedVariables false
set_option linter.unusedSimpArgs false

@[simp] theorem pt_set_e (p : Pt) (v : Int) : p.cells.set 0 (.int .i64 v) = ({ p with x := { p.x with e := v } } : Pt).cells := rfl
@[simp] theorem pt_set_st (p : Pt) (v : Int) : p.cells.set 5 (.int .i64 v) = ({ p with x := { p.x with st := v } } : Pt).cells := rfl
theorem m1_built (b : Int) (p : Pt) : Tryd.prog.built 39 [(0, .int .i64 4), (1, .int .i64 9), (3, .int .i64 1), (4, .int .i64 b), (10, .bool true), (11, .agg p.cells.toArray)] = some (mvs (pm 4 9 0 1 b p.x) (loOf p)).toArray := by kernel_rfl
theorem m2_built (b : Int) (p : Pt) : Tryd.prog.built 39 [(0, .int .i64 7), (1, .int .i64 9), (3, .int .i64 1), (4, .int .i64 b), (10, .bool true), (11, .agg p.cells.toArray)] = some (mvs (pm 7 9 0 1 b p.x) (loOf p)).toArray := by kernel_rfl
instance : Kx.OneC Tryd.prog 44 := ⟨Tryd.isAgg44⟩

set_option maxRecDepth 100000 in
set_option maxHeartbeats 4000000 in
theorem first_walk (y : Cf × List Int) (ballot now stamp : Int) (w : World) (hc : CfAt w y.1 y.2) (w1 : (Lit.int .i64 ballot).wf = true) (w2 : (Lit.int .u16 now).wf = true) (w3 : (Lit.int .u16 stamp).wf = true) (ht : Tbs w) :
    Calls Tryd.prog 4 #[.agg (cf y.1).toArray, .int .i64 ballot, .int .u16 now, .int .u16 stamp] w fun e w' => e = .returned (.bool true) ∧ Below w.heap.size w w' := by
  obtain ⟨c, xs⟩ := y
  dsimp only at hc ⊢
  have hnow : 0 ≤ now ∧ now ≤ 65535 := wf_one rfl rfl w2
  have hst : 0 ≤ stamp ∧ stamp ≤ 65535 := wf_one rfl rfl w3
  have hbal : -9223372036854775808 ≤ ballot ∧ ballot ≤ 9223372036854775807 := wf_one rfl rfl w1
  clear w1 w2 w3
  have HB := Lib.hid ((Bxs.start w).stayOld hc.rd)
  have HHd : Hid (∀ W, Below w.heap.size w W → Calls Tryd.prog 5 #[] W fun e w' => e = .returned (.bool true) ∧ Below W.heap.size W w') := Lib.hid (fun W hb => head_any W (ht.1.below hb (Nat.le_refl _)) (ht.2.below hb (Nat.le_refl _)))
  have HF : Hid (Within [(c.ta, i64s xs)] [(c.ta, i64s xs)]) := Lib.hid (fun q hq => .inr hq)
  have HL := Lib.hid hc.len
  by_cases hn : NewOk c xs 0
  · have e1 : decide (ballot < 1) = true ∨ decide (ballot < 1) = false := by cases decide (ballot < 1) <;> simp
    obtain ⟨N, hN⟩ : ∃ N : Nat, c.targets = (N : Int) := ⟨c.targets.toNat, by have := hn.1.targets; omega⟩
    have HNw := Lib.hid (fun (W : World) (L : List (Nat × List Value)) (r' : List Rw) (q : Bxs w W L r' [(c.ta, i64s xs)]) => New_x q c xs 0 N HF.out HL.out hn hN)
    have HN := Lib.hid hn
    have HNN := Lib.hid hN
    have HTab := Lib.hid ht
    have hN16 : N ≤ 16 := by have := hn.1.targets.2; omega
    have hlm := And.intro hn.1.l (And.intro hn.1.m hn.1.s)
    clear hc ht hn hN
    rcases e1 with e1 | e1
    · clear hbal
      go_enter Tryd.func4, Tryd.ntmps4
      go_wp2_with (first | (go_at_call 5; refine Calls.mono (HHd.out _ HB.out.below) ?_; rintro e w_ ⟨rfl, hb_⟩; replace HB := Lib.hid (HB.out.call hb_); clear hb_) | (go_at_call 6; fail) | (first | ((with_reducible refine Kx.absorb HB ?_); clear HB; intro w_ HB) | ((with_reducible refine Kx.box_gate ?_); (first | refine Kx.boxa HB rfl ?_ | refine Kx.boxt HB rfl rfl ?_ | refine Kx.box1 HB rfl rfl ?_); clear HB; intro b_ w_ HB; refine Kx.fr ?_) | ((with_reducible refine Kx.alloc_gate ?_); (first | refine Kx.ala HB ?_ | refine Kx.al1 HB ?_); clear HB; intro b_ w_ HB; refine Kx.fr ?_) | ((with_reducible refine Kx.loads_gate ?_); first | refine Kx.l1 HB rfl rfl ?_ | refine Kx.la HB rfl ?_ | refine Kx.lo HB rfl HC.out ?_) | ((with_reducible refine Kx.loadg_gate ?_); first | refine Kx.l1g HB rfl rfl rfl ?_ | refine Kx.lag HB rfl rfl ?_ | refine Kx.log HB rfl HC.out rfl ?_) | ((with_reducible refine Kx.store_gate ?_); (first | refine Kx.stwa HB rfl rfl ?_ | refine Kx.sta HB rfl rfl ?_ | refine Kx.stc HB rfl rfl ?_ | refine Kx.stt HB rfl rfl rfl ?_ | refine Kx.st1 HB rfl rfl rfl ?_); clear HB; intro w_ HB)))
      refine (HNw.out _ _ _ HB.out).mono ?_
      rintro e w2 ⟨⟨ga, g, A2, c2, p⟩, rfl, HJ, hx, hf⟩
      dsimp only at HJ hx hf
      obtain ⟨ok, KA, KC, RA, RC, HB2⟩ := HJ
      clear HB
      have HB := Lib.hid HB2
      clear HB2 hx hf ok
      go_wp2_with (first | ((with_reducible refine Kx.absorb HB ?_); clear HB; intro w_ HB) | ((with_reducible refine Kx.box_gate ?_); (first | refine Kx.boxa HB rfl ?_ | refine Kx.boxt HB rfl rfl ?_ | refine Kx.box1 HB rfl rfl ?_); clear HB; intro b_ w_ HB; refine Kx.fr ?_) | ((with_reducible refine Kx.alloc_gate ?_); (first | refine Kx.ala HB ?_ | refine Kx.al1 HB ?_); clear HB; intro b_ w_ HB; refine Kx.fr ?_) | ((with_reducible refine Kx.loads_gate ?_); first | refine Kx.l1 HB rfl rfl ?_ | refine Kx.la HB rfl ?_ | refine Kx.lo HB rfl HC.out ?_) | ((with_reducible refine Kx.loadg_gate ?_); first | refine Kx.l1g HB rfl rfl rfl ?_ | refine Kx.lag HB rfl rfl ?_ | refine Kx.log HB rfl HC.out rfl ?_) | ((with_reducible refine Kx.store_gate ?_); (first | refine Kx.stwa HB rfl rfl ?_ | refine Kx.sta HB rfl rfl ?_ | refine Kx.stc HB rfl rfl ?_ | refine Kx.stt HB rfl rfl rfl ?_ | refine Kx.st1 HB rfl rfl rfl ?_); clear HB; intro w_ HB))
      go_ret
      exact ⟨rfl, HB.out.below⟩
    have hb1 : 1 ≤ ballot := by have := of_decide_eq_false e1; omega
    go_enter Tryd.func4, Tryd.ntmps4
    go_wp2_with (first | (go_at_call 5; refine Calls.mono (HHd.out _ HB.out.below) ?_; rintro e w_ ⟨rfl, hb_⟩; replace HB := Lib.hid (HB.out.call hb_); clear hb_) | (go_at_call 6; fail) | (first | ((with_reducible refine Kx.absorb HB ?_); clear HB; intro w_ HB) | ((with_reducible refine Kx.box_gate ?_); (first | refine Kx.boxa HB rfl ?_ | refine Kx.boxt HB rfl rfl ?_ | refine Kx.box1 HB rfl rfl ?_); clear HB; intro b_ w_ HB; refine Kx.fr ?_) | ((with_reducible refine Kx.alloc_gate ?_); (first | refine Kx.ala HB ?_ | refine Kx.al1 HB ?_); clear HB; intro b_ w_ HB; refine Kx.fr ?_) | ((with_reducible refine Kx.loads_gate ?_); first | refine Kx.l1 HB rfl rfl ?_ | refine Kx.la HB rfl ?_ | refine Kx.lo HB rfl HC.out ?_) | ((with_reducible refine Kx.loadg_gate ?_); first | refine Kx.l1g HB rfl rfl rfl ?_ | refine Kx.lag HB rfl rfl ?_ | refine Kx.log HB rfl HC.out rfl ?_) | ((with_reducible refine Kx.store_gate ?_); (first | refine Kx.stwa HB rfl rfl ?_ | refine Kx.sta HB rfl rfl ?_ | refine Kx.stc HB rfl rfl ?_ | refine Kx.stt HB rfl rfl rfl ?_ | refine Kx.st1 HB rfl rfl rfl ?_); clear HB; intro w_ HB)))
    refine (HNw.out _ _ _ HB.out).mono ?_
    rintro e w2 ⟨⟨ga, g, A2, c2, p⟩, rfl, HJ, hx, hf⟩
    dsimp only at HJ hx hf
    obtain ⟨ok, KA, KC, RA, RC, HB2⟩ := HJ
    clear HB HHd HNw
    have HB := Lib.hid HB2
    have HP := Lib.hid (And.intro hx hf)
    have HOk := Lib.hid ok
    clear HB2 hx hf ok
    go_wp2_with (first | (go_at_call 10; fail) | (first | ((with_reducible refine Kx.absorb HB ?_); clear HB; intro w_ HB) | ((with_reducible refine Kx.box_gate ?_); (first | refine Kx.boxa HB rfl ?_ | refine Kx.boxt HB rfl rfl ?_ | refine Kx.box1 HB rfl rfl ?_); clear HB; intro b_ w_ HB; refine Kx.fr ?_) | ((with_reducible refine Kx.alloc_gate ?_); (first | refine Kx.ala HB ?_ | refine Kx.al1 HB ?_); clear HB; intro b_ w_ HB; refine Kx.fr ?_) | ((with_reducible refine Kx.loads_gate ?_); first | refine Kx.l1 HB rfl rfl ?_ | refine Kx.la HB rfl ?_ | refine Kx.lo HB rfl HC.out ?_) | ((with_reducible refine Kx.loadg_gate ?_); first | refine Kx.l1g HB rfl rfl rfl ?_ | refine Kx.lag HB rfl rfl ?_ | refine Kx.log HB rfl HC.out rfl ?_) | ((with_reducible refine Kx.store_gate ?_); (first | refine Kx.stwa HB rfl rfl ?_ | refine Kx.sta HB rfl rfl ?_ | refine Kx.stc HB rfl rfl ?_ | refine Kx.stt HB rfl rfl rfl ?_ | refine Kx.st1 HB rfl rfl rfl ?_); clear HB; intro w_ HB)))
    refine (RZero_x HB.out c xs N (HF.out.more fun _ k => List.mem_cons_of_mem _ k) HL.out HN.out.1 HNN.out).mono ?_
    rintro e w3 ⟨z, rfl, hb, hx, hf⟩
    replace HB := Lib.hid hb
    have HZ := Lib.hid (And.intro hx hf)
    clear hb hx hf HF HL HN HNN
    have HX := Lib.hid (m1_built ballot z)
    have hzr : z.x.right = true := by rw [HZ.out.1]; exact zq_right hN16 ⟨by decide, by decide⟩ ⟨by decide, by decide⟩
    obtain ⟨s1, hh1, hl1⟩ := first_handle (c := { c with ta := A2, tn := c.tn, tc := c2 }) (node := 0) (p := p) (f := 9) (t := 0) (b := ballot) (q := z.x) (lo := loOf z) (now := now) live_new hzr (by rw [HZ.out.1]; rfl) ⟨by decide, by decide⟩ ⟨by decide, by decide⟩ hb1 (by omega)
    have hmo : MsOk (pm 4 9 0 1 ballot z.x) (loOf z) := pm_ok HZ.out.2 ⟨by decide, by decide⟩ ⟨by decide, by decide⟩ I0 ⟨by decide, by decide⟩ hbal
    have hzi : Within z.fz ((z.A, i64s z.x.pen) :: (p.A, i64s p.x.pen) :: [(c.ta, i64s xs)]) := zfz_in HZ.out.1 (List.mem_cons_self ..)
    have hpi : Within p.fz ((z.A, i64s z.x.pen) :: (p.A, i64s p.x.pen) :: [(c.ta, i64s xs)]) := zfz_in HP.out.1 (List.mem_cons_of_mem _ (List.mem_cons_self ..))
    have hcl : 0 ≤ c.l ∧ c.l ≤ 1048576 := by omega
    have hcm : 0 ≤ c.m ∧ c.m ≤ 1048576 := hlm.2.1
    obtain ⟨a1, ha1⟩ : ∃ a, a = newA { c with ta := A2, tn := c.tn, tc := c2 } 0 p := ⟨_, rfl⟩
    obtain ⟨a2, ha2⟩ : ∃ a, a = mid { c with ta := A2, tn := c.tn, tc := c2 } 0 ballot (mpt (pm 4 9 0 1 ballot z.x) (loOf z)) := ⟨_, rfl⟩
    rw [← ha1] at HB
    have H1 : Hid (∀ {W : World} {l' : List (Nat × List Value)} {r' : List Rw}, Jbx w W g Jm.new ((ga, a1.cells g) :: l') r' ((z.A, i64s z.x.pen) :: (p.A, i64s p.x.pen) :: [(c.ta, i64s xs)]) → Calls Tryd.prog 8 #[.pointer (some ⟨ga, 0, none⟩), .agg (mvs (pm 4 9 0 1 ballot z.x) (loOf z)).toArray, .int .i64 now] W fun e w' => ∃ b, e = .returned (.slice (some ⟨b, 0, none⟩) 1 1) ∧ Jbx w w' g s1 ((b, mvs (promised a2 (pm 4 9 0 1 ballot z.x)) (loOf noPt)) :: (ga, a2.cells g) :: l') r' ((z.A, i64s z.x.pen) :: (p.A, i64s p.x.pen) :: [(c.ta, i64s xs)])) := Lib.hid (fun q => by
      rw [ha1] at q
      rw [ha2]
      have := handle_any q ⟨HP.out.2, hpi, hcl, hcm⟩ (pm 4 9 0 1 ballot z.x) (loOf z) now hmo (pm_in hzi) HTab.out.1 HTab.out.2 (by decide)
      rw [hh1] at this
      exact this)
    obtain ⟨z2, hz2⟩ : ∃ z2, z2 = ({ z with x := { z.x with e := 1, st := stamp } } : Pt) := ⟨_, rfl⟩
    have hz2r : z2.x.right = true := by rw [hz2]; show ({ z.x with e := 1, st := stamp } : Pm.Pl).right = true; rw [HZ.out.1]; exact zq_right hN16 ⟨by decide, by decide⟩ (by omega)
    have hz2f : z2.Fine := by
      have q := HZ.out.2
      rw [hz2]
      exact ⟨⟨(show Pm.I 1 from ⟨by decide, by decide⟩), q.ok.t, q.ok.p, q.ok.s, q.ok.c, ⟨by show _ ≤ stamp; omega, by show stamp ≤ _; omega⟩, q.ok.si, q.ok.ra, q.ok.up, q.ok.su, q.ok.pen, q.ok.ch⟩, q.l1, q.c1, q.m1, q.l2, q.c2, q.m2⟩
    have hac := accept_handle (c := { c with ta := A2, tn := c.tn, tc := c2 }) (node := 0) (p := mpt (pm 4 9 0 1 ballot z.x) (loOf z)) (f := 9) (t := 0) (b := ballot) (q := z2.x) (lo := loOf z2) (now := now) hl1 hz2r (by rw [hz2]) ⟨by decide, by decide⟩ ⟨by decide, by decide⟩ hb1 (by omega)
    rw [← ha2] at hac
    have hz2i : Within z2.fz ((z.A, i64s z.x.pen) :: (p.A, i64s p.x.pen) :: [(c.ta, i64s xs)]) := by rw [hz2]; exact hzi
    have hmo2 : MsOk (pm 7 9 0 1 ballot z2.x) (loOf z2) := pm_ok hz2f ⟨by decide, by decide⟩ ⟨by decide, by decide⟩ I0 ⟨by decide, by decide⟩ hbal
    have H2 : Hid (∀ {W : World} {l' : List (Nat × List Value)} {r' : List Rw}, Jbx w W g s1 ((ga, a2.cells g) :: l') r' ((z.A, i64s z.x.pen) :: (p.A, i64s p.x.pen) :: [(c.ta, i64s xs)]) → Calls Tryd.prog 8 #[.pointer (some ⟨ga, 0, none⟩), .agg (mvs (pm 7 9 0 1 ballot z2.x) (loOf z2)).toArray, .int .i64 now] W fun e w' => Outs w w' ga g l' r' ((z.A, i64s z.x.pen) :: (p.A, i64s p.x.pen) :: [(c.ta, i64s xs)]) (handle a2 s1 (pm 7 9 0 1 ballot z2.x) (loOf z2) now) e) := Lib.hid (fun q => by
      rw [ha2] at q ⊢
      exact handle_any q ⟨hmo.pt, hzi, hcl, hcm⟩ (pm 7 9 0 1 ballot z2.x) (loOf z2) now hmo2 (pm_in hz2i) HTab.out.1 HTab.out.2 (by have := hl1.len; omega))
    obtain ⟨y1, hy1⟩ : ∃ y, y = promised a2 (pm 4 9 0 1 ballot z.x) := ⟨_, rfl⟩
    have k1 : (y1.k != 5) = false := by rw [hy1]; rfl
    have k2 : (y1.b != ballot) = false := by rw [hy1, ha2]; show (ballot != ballot) = false; simp
    have k3 : y1.has = false := by rw [hy1, ha2]; rfl
    rw [← hy1] at H1
    have HX2 := Lib.hid (m2_built ballot z2)
    have hst2 : z2.x.st = stamp := by rw [hz2]
    rw [hst2] at hac
    replace hac := Lib.hid hac
    clear hy1 hh1 hl1 hmo hzi hpi hzr HP ha1 ha2 hz2r hz2f hz2i hmo2 hst2 hcl hcm hlm hN16 hb1 hbal HTab
    have c1 : IntKind.i64.wrap now = now := IntWalk.i64_in _ (by omega)
    have c2' : IntKind.i64.wrap stamp = stamp := IntWalk.i64_in _ (by omega)
    have d1 : wrap64 now = now := IntWalk.wrap64_in _ (by omega)
    have d2 : wrap64 stamp = stamp := IntWalk.wrap64_in _ (by omega)
    go_wp2_with (first | (go_at_call 8; fail) | ((with_reducible refine Kx.build_gate ?_); refine Km.wpList_build rfl 39 _ rfl #[(0, .int .i64 4), (1, .int .i64 9), (3, .int .i64 1), (4, .int .i64 ballot), (10, .bool true), (11, .agg z.cells.toArray)] (by first | rfl | (go_simp; try rfl)) (mvs (pm 4 9 0 1 ballot z.x) (loOf z)).toArray (HX.out) ?_; refine Kx.framed ?_ (by simp only [Act.put, List.setIfInBounds_toArray, List.set_cons_succ, List.set_cons_zero] <;> rfl)) | (first | ((with_reducible refine Kx.absorb HB ?_); clear HB; intro w_ HB) | ((with_reducible refine Kx.box_gate ?_); (first | refine Kx.boxa HB rfl ?_ | refine Kx.boxt HB rfl rfl ?_ | refine Kx.box1 HB rfl rfl ?_); clear HB; intro b_ w_ HB; refine Kx.fr ?_) | ((with_reducible refine Kx.alloc_gate ?_); (first | refine Kx.ala HB ?_ | refine Kx.al1 HB ?_); clear HB; intro b_ w_ HB; refine Kx.fr ?_) | ((with_reducible refine Kx.loads_gate ?_); first | refine Kx.l1 HB rfl rfl ?_ | refine Kx.la HB rfl ?_ | refine Kx.lo HB rfl HC.out ?_) | ((with_reducible refine Kx.loadg_gate ?_); first | refine Kx.l1g HB rfl rfl rfl ?_ | refine Kx.lag HB rfl rfl ?_ | refine Kx.log HB rfl HC.out rfl ?_) | ((with_reducible refine Kx.store_gate ?_); (first | refine Kx.stwa HB rfl rfl ?_ | refine Kx.sta HB rfl rfl ?_ | refine Kx.stc HB rfl rfl ?_ | refine Kx.stt HB rfl rfl rfl ?_ | refine Kx.st1 HB rfl rfl rfl ?_); clear HB; intro w_ HB)))
    subst hz2
    refine (H1.out (Jbx.front HB.out HOk.out).swap).mono ?_
    rintro e w4 ⟨bx, rfl, HJ⟩
    clear HB HOk H1 HX
    obtain ⟨ok, KA, KC, RA, RC, HB2⟩ := HJ
    have HB := Lib.hid HB2
    have HOk := Lib.hid ok
    clear HB2 ok
    go_wp2_with (first | (go_at_call 8; fail) | ((with_reducible refine Kx.build_gate ?_); refine Km.wpList_build rfl 39 _ rfl #[(0, .int .i64 7), (1, .int .i64 9), (3, .int .i64 1), (4, .int .i64 ballot), (10, .bool true), (11, .agg ({ z with x := { z.x with e := 1, st := stamp } } : Pt).cells.toArray)] (by first | rfl | (go_simp; try rfl)) (mvs (pm 7 9 0 1 ballot ({ z with x := { z.x with e := 1, st := stamp } } : Pt).x) (loOf ({ z with x := { z.x with e := 1, st := stamp } } : Pt))).toArray (HX2.out) ?_; refine Kx.framed ?_ (by simp only [Act.put, List.setIfInBounds_toArray, List.set_cons_succ, List.set_cons_zero] <;> rfl)) | (first | ((with_reducible refine Kx.absorb HB ?_); clear HB; intro w_ HB) | ((with_reducible refine Kx.box_gate ?_); (first | refine Kx.boxa HB rfl ?_ | refine Kx.boxt HB rfl rfl ?_ | refine Kx.box1 HB rfl rfl ?_); clear HB; intro b_ w_ HB; refine Kx.fr ?_) | ((with_reducible refine Kx.alloc_gate ?_); (first | refine Kx.ala HB ?_ | refine Kx.al1 HB ?_); clear HB; intro b_ w_ HB; refine Kx.fr ?_) | ((with_reducible refine Kx.loads_gate ?_); first | refine Kx.l1 HB rfl rfl ?_ | refine Kx.la HB rfl ?_ | refine Kx.lo HB rfl HC.out ?_) | ((with_reducible refine Kx.loadg_gate ?_); first | refine Kx.l1g HB rfl rfl rfl ?_ | refine Kx.lag HB rfl rfl ?_ | refine Kx.log HB rfl HC.out rfl ?_) | ((with_reducible refine Kx.store_gate ?_); (first | refine Kx.stwa HB rfl rfl ?_ | refine Kx.sta HB rfl rfl ?_ | refine Kx.stc HB rfl rfl ?_ | refine Kx.stt HB rfl rfl rfl ?_ | refine Kx.st1 HB rfl rfl rfl ?_); clear HB; intro w_ HB)))
    obtain ⟨d, hd⟩ : ∃ d, d = stamp - now := ⟨_, rfl⟩
    have f1 : IntKind.i64.wrap (stamp - now) = d := (IntWalk.i64_in _ (by omega)).trans hd.symm
    have f2 : wrap64 (stamp - now) = d := (IntWalk.wrap64_in _ (by omega)).trans hd.symm
    by_cases hle : c.s < d
    · have g1 : decide (c.s < d) = true := decide_eq_true hle
      have hq := hac.out.1 (by show c.s < stamp - now; omega)
      rw [hq] at H2
      clear hq hac hd hle
      refine (H2.out (Jbx.front HB.out HOk.out).third).mono ?_
      rintro e w5 ⟨rfl, HJ⟩
      clear HB HOk H2
      obtain ⟨ok, KA, KC, RA, RC, HB2⟩ := HJ
      have HB := Lib.hid HB2
      clear HB2 ok
      go_wp2_with (first | ((with_reducible refine Kx.absorb HB ?_); clear HB; intro w_ HB) | ((with_reducible refine Kx.box_gate ?_); (first | refine Kx.boxa HB rfl ?_ | refine Kx.boxt HB rfl rfl ?_ | refine Kx.box1 HB rfl rfl ?_); clear HB; intro b_ w_ HB; refine Kx.fr ?_) | ((with_reducible refine Kx.alloc_gate ?_); (first | refine Kx.ala HB ?_ | refine Kx.al1 HB ?_); clear HB; intro b_ w_ HB; refine Kx.fr ?_) | ((with_reducible refine Kx.loads_gate ?_); first | refine Kx.l1 HB rfl rfl ?_ | refine Kx.la HB rfl ?_ | refine Kx.lo HB rfl HC.out ?_) | ((with_reducible refine Kx.loadg_gate ?_); first | refine Kx.l1g HB rfl rfl rfl ?_ | refine Kx.lag HB rfl rfl ?_ | refine Kx.log HB rfl HC.out rfl ?_) | ((with_reducible refine Kx.store_gate ?_); (first | refine Kx.stwa HB rfl rfl ?_ | refine Kx.sta HB rfl rfl ?_ | refine Kx.stc HB rfl rfl ?_ | refine Kx.stt HB rfl rfl rfl ?_ | refine Kx.st1 HB rfl rfl rfl ?_); clear HB; intro w_ HB))
      go_ret
      exact ⟨rfl, HB.out.below⟩
    · have g1 : decide (c.s < d) = false := decide_eq_false hle
      obtain ⟨a3, s3, hq⟩ := hac.out.2 (by first | (show ¬ c.s < stamp - now; omega) | (show stamp - now ≤ c.s; omega))
      rw [hq] at H2
      clear hq hac hd hle
      refine (H2.out (Jbx.front HB.out HOk.out).third).mono ?_
      rintro e w5 ⟨bz, rfl, HJ⟩
      clear HB HOk H2
      obtain ⟨ok, KA, KC, RA, RC, HB2⟩ := HJ
      have HB := Lib.hid HB2
      clear HB2 ok
      dsimp only at HB
      obtain ⟨y3, hy3⟩ : ∃ y, y = accepted a3 (pm 7 9 0 1 ballot ({ z with x := { z.x with e := 1, st := stamp } } : Pt).x) := ⟨_, rfl⟩
      have k4 : (y3.k == 8) = true := by rw [hy3]; rfl
      have k5 : (y3.b == ballot) = true := by rw [hy3]; show (ballot == ballot) = true; simp
      rw [← hy3] at HB
      clear hy3
      go_wp2_with (first | ((with_reducible refine Kx.absorb HB ?_); clear HB; intro w_ HB) | ((with_reducible refine Kx.box_gate ?_); (first | refine Kx.boxa HB rfl ?_ | refine Kx.boxt HB rfl rfl ?_ | refine Kx.box1 HB rfl rfl ?_); clear HB; intro b_ w_ HB; refine Kx.fr ?_) | ((with_reducible refine Kx.alloc_gate ?_); (first | refine Kx.ala HB ?_ | refine Kx.al1 HB ?_); clear HB; intro b_ w_ HB; refine Kx.fr ?_) | ((with_reducible refine Kx.loads_gate ?_); first | refine Kx.l1 HB rfl rfl ?_ | refine Kx.la HB rfl ?_ | refine Kx.lo HB rfl HC.out ?_) | ((with_reducible refine Kx.loadg_gate ?_); first | refine Kx.l1g HB rfl rfl rfl ?_ | refine Kx.lag HB rfl rfl ?_ | refine Kx.log HB rfl HC.out rfl ?_) | ((with_reducible refine Kx.store_gate ?_); (first | refine Kx.stwa HB rfl rfl ?_ | refine Kx.sta HB rfl rfl ?_ | refine Kx.stc HB rfl rfl ?_ | refine Kx.stt HB rfl rfl rfl ?_ | refine Kx.st1 HB rfl rfl rfl ?_); clear HB; intro w_ HB))
      go_ret
      exact ⟨rfl, HB.out.below⟩
  · have HNo := Lib.hid (fun (W : World) (L : List (Nat × List Value)) (r' : List Rw) (q : Bxs w W L r' [(c.ta, i64s xs)]) => New_no q c xs 0 HF.out HL.out hn)
    clear hc ht hn
    go_enter Tryd.func4, Tryd.ntmps4
    go_wp2_with (first | (go_at_call 5; refine Calls.mono (HHd.out _ HB.out.below) ?_; rintro e w_ ⟨rfl, hb_⟩; replace HB := Lib.hid (HB.out.call hb_); clear hb_) | (go_at_call 6; refine (HNo.out _ _ _ HB.out).mono ?_; rintro e w_ ⟨rfl, hb_⟩; replace HB := Lib.hid hb_; clear hb_) | (first | ((with_reducible refine Kx.absorb HB ?_); clear HB; intro w_ HB) | ((with_reducible refine Kx.box_gate ?_); (first | refine Kx.boxa HB rfl ?_ | refine Kx.boxt HB rfl rfl ?_ | refine Kx.box1 HB rfl rfl ?_); clear HB; intro b_ w_ HB; refine Kx.fr ?_) | ((with_reducible refine Kx.alloc_gate ?_); (first | refine Kx.ala HB ?_ | refine Kx.al1 HB ?_); clear HB; intro b_ w_ HB; refine Kx.fr ?_) | ((with_reducible refine Kx.loads_gate ?_); first | refine Kx.l1 HB rfl rfl ?_ | refine Kx.la HB rfl ?_ | refine Kx.lo HB rfl HC.out ?_) | ((with_reducible refine Kx.loadg_gate ?_); first | refine Kx.l1g HB rfl rfl rfl ?_ | refine Kx.lag HB rfl rfl ?_ | refine Kx.log HB rfl HC.out rfl ?_) | ((with_reducible refine Kx.store_gate ?_); (first | refine Kx.stwa HB rfl rfl ?_ | refine Kx.sta HB rfl rfl ?_ | refine Kx.stc HB rfl rfl ?_ | refine Kx.stt HB rfl rfl rfl ?_ | refine Kx.st1 HB rfl rfl rfl ?_); clear HB; intro w_ HB)))
    go_ret
    exact ⟨rfl, HB.out.below⟩
end Go.Proofs.YtbkdenlhfigjhaaDoor
