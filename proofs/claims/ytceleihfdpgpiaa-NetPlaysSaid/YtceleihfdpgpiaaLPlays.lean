/- NetPlays, walked. -/
import Derived.Test.YtceleihfdpgpiaaNc
import Derived.Deep.CutBlock
import Derived.Deep.DeepCutAuto
import Derived.WalkSpells
namespace Go.Proofs.Ytceleihfdpgpiaa
open Go.RowKit Go.Shelf Km Kb Kz

theorem Two.cell_r {N : Nat → Prop} {w0 w : World} {g1 g2 : Nat} {l1 l2 : List (List Int)} (h : Two N w0 w g1 g2 l1 l2) : ∃ A c, w.cell? ⟨g2, 0, none⟩ = some (.slice A l2.length c) ∧ g2 < w.heap.size := by
  obtain ⟨S1, S2, -, ⟨ov, vs, h2⟩, -⟩ := h
  obtain ⟨A, c, rfl, -⟩ := h2.row.form
  exact ⟨A, c, h2.cell, h2.lt _ h2.sg⟩
theorem u8s_set' (us : List Int) (m : Nat) (y : Int) : (u8s us).set m (.int .u8 y) = u8s (us.set m y) := by unfold u8s; rw [List.map_set]

set_option maxRecDepth 100000 in
set_option maxHeartbeats 8000000 in
theorem plays_walk (a0 : Option Addr) (len0 cap0 : Nat) (os : List Cl) (w : World) (w1 : ClsAt w a0 len0 cap0 os) :
    Calls Try.prog 3 #[.slice a0 len0 cap0] w fun e w' => e = .returned (.bool true) ∧ Below w.heap.size w w' := by
  have HC := Lib.hid w1
  have hN := w1.1
  have hm1 : len0 ≤ 9223372036854775807 := by have h1 := w1.2.1; have h2 := w1.2.2.1; unfold maxLen at h2; omega
  clear w1
  go_enter Try.func3, Try.ntmps3
  go_wp2_with (go_at_call 7; refine (head_any _).mono ?_; rintro e w1 ⟨rfl, hb1⟩)
  refine (new_one (fun _ => False) hb1 (fun _ q => q.elim)).mono ?_
  rintro e w2 ⟨rfl, -, j2⟩
  have HTW := Lib.hid (two_make j2 (NAt.make w2 29) ((Below.refl _ w2).alloc (Nat.le_refl _) _))
  clear hb1 j2
  generalize w1.heap.size = g1 at *
  by_cases hbig : len0 ≤ 2000
  · have d0 : decide ((2000 : Int) < (len0 : Int)) = false := by simp; omega
    go_upto_block 0 with fail
    generalize World.alloc w2 _ = w3 at *
    generalize w2.heap.size = g2 at *
    go_wp2_with fail
    go_loopg [6] len0 (fun gh ix wr => ∃ (k : Nat) (l : List (List Int)), gh + k = len0 ∧ ix = .int .i64 (k : Int) ∧ Hid (Nm.Ok l) ∧ Hid (Two (fun _ => False) w wr g1 g2 l l))
    case atStart => exact ⟨0, [], by omega, rfl, Lib.hid Nm.ok_nil, HTW⟩
    case round =>
      obtain ⟨k, l, hk, rfl, HK, HO⟩ := hrel
      by_cases hlt : k < len0
      · obtain ⟨o, ho⟩ : ∃ o, os[k]? = some o := ⟨os[k]'(by rw [hN]; exact hlt), List.getElem?_eq_getElem _⟩
        obtain ⟨ad, v, rfl, hcl⟩ := HC.out.2.2.2 k o ho
        obtain ⟨A, c, rfl, -, -, -, hrb⟩ := hcl.row.form
        have HCL := Lib.hid (hcl.below HO.out.bel)
        have HRW := Lib.hid hcl.row
        have HR0 := Lib.hid hrb
        have d3 : (k : Int) < (len0 : Int) := by omega
        clear ho hcl hrb
        have hr9 := range_new wr (cvs o A c) 32
        have x0 := range_at hr9 0 (v := .int .i64 o.what) rfl
        have x1 := range_at hr9 1 (v := .slice A o.body.length c) rfl
        have x2 := range_at hr9 2 (v := .int .i64 o.num) rfl
        have hb9 : Below wr.heap.size wr (wr.alloc (.cells (cvs o A c).toArray 32)) := (Below.refl _ wr).alloc (Nat.le_refl _) _
        have T9 := Lib.hid ((HO.out.below hb9).weak (N' := fun b => b = wr.heap.size) (fun b q => .inr (by rw [q, World.size_alloc]; omega)))
        have HX9 : Hid (wr.heap.size < (wr.alloc (.cells (cvs o A c).toArray 32)).heap.size) := by show _ < _; rw [World.size_alloc]; omega
        clear hr9 hb9 HO
        have hi : (Try.prog.info? 32).map (·.size) = some 3 := by kernel_rfl
        have hall : (cvs o A c).toArray.all (·.oneCell') = true := by simp [cvs, Value.oneCell']
        have hcz : (#[Value.int .i64 0, .slice none 0 0, .int .i64 0] : Array Value).size = (cvs o A c).toArray.size := rfl
        go_upto_block 2 with (first | ((with_reducible refine wpList_gate ?_); (refine wpList_load_any rfl 32 _ rfl _ rfl (cvs o A c) _ HCL.out.cells Try.underlying32 rfl hi ?_)) | ((with_reducible refine wpList_gate ?_); (refine wpList_store_new rfl 32 _ _ rfl _ (cvs o A c).toArray rfl rfl hi hcz hall ?_; generalize World.alloc wr _ = w9 at *)))
        generalize wr.heap.size = bx at *
        generalize bits BinOp.and IntKind.i64 o.what 3 = rb at *
        clear HCL hi hall hcz
        go_cut [8, 9, 10, 11, 12, 13, 14, 15] from 47 to 110 (fun e f a b is it s14 s15 wx => ∃ (l' : List (List Int)) (er : Int) (t : Bool) (xs : List Int) (A1 : Option Addr) (c1 : Nat) (A2 : Option Addr) (c2 : Nat), e = .int .i64 er ∧ f = .int .i64 er ∧ a = .slice A1 xs.length c1 ∧ b = .slice A2 xs.length c2 ∧ is = .bool t ∧ it = .bool t ∧
            Hid (Rd wx wx.heap.size A1 (u8s xs)) ∧ Hid (Rd wx wx.heap.size A2 (u8s xs)) ∧ Hid (wx.cell? ⟨bx, 2, none⟩ = some (.int .i64 o.num)) ∧ Hid (Nm.Ok l') ∧ Hid (Two (fun b => b = bx) w wx g1 g2 l' l'))
        case first =>
          by_cases r0 : (rb == 0) = true
          · have hbo : o.body.length ≤ 140737488355328 := Nat.le_trans HRW.out.le (by omega)
            have hown := own_empty w9 w9.heap.size (Nat.le_refl _)
            obtain ⟨i0, hi0, hz0, hz1, hz2⟩ := info_parts info_u8
            have x1a : (w9.alloc (.cells #[] 5)).cell? ⟨bx, 1, none⟩ = some (.slice A o.body.length c) := (World.cell?_alloc_lt _ _ _ HX9.out).trans x1
            have HRD := Lib.hid ((HR0.out.below T9.out.bel).alloc T9.out.bel.size (.cells #[] 5))
            have HX1 := Lib.hid x1
            have HX2 := Lib.hid x2
            clear x0 x1 x2
            go_wp2_with (at_builtin; go_must (refine wpList_app rfl _ _ 30 rfl w9.heap.size 5 i0 (.int .u8 0) 1 Try.underlying30 hi0 hz0 hz1 hz2 rfl _ _ _ rfl hown w.heap.size A o.body.length c (u8s o.body) rfl (by rw [List.length_map]) HRD.out (oneCell_ints _ _) (by unfold maxLen; omega) (by omega) (by simp) ?_); intro v10 w10 hown10 hgrow10 _; have hb10 := below_app ((Below.refl _ w9).alloc (Nat.le_refl _) _) hown hgrow10 (by simp); rw [List.nil_append, Nat.zero_add] at hown10; obtain ⟨A10, c10, rfl, hc10, hm10, hn10, hr10⟩ := own_view0 hown10; have x1' := (World.cell?_of_block (hb10.block bx HX9.out)).trans HX1.out; have x2' := (World.cell?_of_block (hb10.block bx HX9.out)).trans HX2.out; have T10 := Lib.hid ((T9.out.below hb10).weak (N' := fun b => b = bx ∨ (Value.slice A10 o.body.length c10).ownBlock = some b) (fun b q => q.elim .inl (fun q => .inr (hown10.lt b q)))); have HOW := Lib.hid hown10; have HRO := Lib.hid hr10; have HNC := Lib.hid hn10; have HZ10 := Lib.hid (show w.heap.size ≤ w9.heap.size ∧ w9.heap.size ≤ w10.heap.size from ⟨T9.out.bel.size, hb10.size⟩); clear hown hgrow10 hb10 hown10 x1a hr10 hn10)
            have H10 := Lib.hid (send_l T10.out A10 o.body.length c10 w10.heap.size o.body HRO.out rfl (Nat.le_refl _) hbo HNC.out)
            refine H10.out.mono ?_
            rintro e w11 ⟨rfl, t11, k11⟩
            have y1 := k11.cell x1' (.inl rfl)
            have y2 := k11.cell x2' (.inl rfl)
            have H11 := Lib.hid (rsend_row_r t11 HRW.out)
            have HO11 := Lib.hid (k11.own HOW.out (fun b q => .inr q))
            clear t11 k11 x1' x2' HOW HRO H10
            go_wp2_with (go_at_call 10; fail)
            refine H11.out.mono ?_
            rintro e w12 ⟨rfl, t12, k12⟩
            have HO12 := Lib.hid (k12.own HO11.out (fun b q => .inr q))
            have T12 := Lib.hid t12
            have HY2 := Lib.hid (k12.cell y2 (.inl rfl))
            have OK := Lib.hid (Nm.ok_send HK.out hbo)
            clear t12 k12 y1 y2 HO11 H11
            generalize Nm.send l o.body = r5 at *
            obtain ⟨s5, er⟩ := r5
            dsimp only at *
            go_wp2_with fail
            go_loopg [15] o.body.length (fun gj ix wj => ∃ (m : Nat) (us : List Int), gj + m = o.body.length ∧ ix = .int .i64 (m : Int) ∧ us.length = o.body.length ∧ wj.ownsRow w9.heap.size 5 1 (.slice A10 o.body.length c10) o.body.length (u8s us) ∧ Hid (wj.cell? ⟨bx, 2, none⟩ = some (.int .i64 o.num)) ∧ Hid (Two (fun b => b = bx ∨ (Value.slice A10 o.body.length c10).ownBlock = some b) w wj g1 g2 s5 s5))
            case atStart => exact ⟨0, o.body, by omega, rfl, rfl, HO12.out, HY2, T12⟩
            case round =>
              obtain ⟨m, us, hm, rfl, hul, hown, HY, HK2⟩ := hrel
              by_cases hml : m < o.body.length
              · obtain ⟨g, cap', hv, hge, hgl⟩ := hown.form (by omega)
                obtain rfl : A10 = some ⟨g, 0, none⟩ := by injection hv
                obtain ⟨y, hy⟩ : ∃ y, us[m]? = some y := ⟨us[m], List.getElem?_eq_getElem (by omega)⟩
                have hcl : wr.cell? ⟨g, m, none⟩ = some (.int .u8 y) := by rw [hown.cellAt m (by omega), List.getElem?_map, hy]; rfl
                have hfz := hown.frozenAt m
                have hst := hown.stored m (.int .u8 ((y + 1) % 256))
                rw [u8s_set'] at hst
                have HS1 := Lib.hid hst.1
                have hgb : g ≠ bx := by have := HX9.out; omega
                have HY3 : Hid ((wr.setCell ⟨g, m, none⟩ (.int .u8 ((y + 1) % 256))).cell? ⟨bx, 2, none⟩ = some (.int .i64 o.num)) := (World.cell?_of_block (hst.2.block bx (World.block_lt_of_cell? _ _ HY.out) (fun e => hgb (by cases e; rfl)))).trans HY.out
                have HK3 := Lib.hid (HK2.out.grown (grown_set1 g m (.int .u8 ((y + 1) % 256)) wr) (.inr rfl) (by have := HZ10.out.1; omega))
                have HUL : Hid ((us.set m ((y + 1) % 256)).length = o.body.length) := by
                  show _ = _
                  rw [List.length_set]; exact hul
                have d5 : (m : Int) < (o.body.length : Int) := by omega
                clear HK2 hst hown hv hy hul HY
                go_wp2
                go_roundg (gk - 1)
                case measure => omega
                case rel => exact ⟨m + 1, _, by omega, by go_num, HUL.out, HS1.out, HY3, HK3⟩
              · have hml' : m = o.body.length := by omega
                have T13 := Lib.hid (HK2.out.weak (N' := fun b => b = bx) (fun _ q => .inl q))
                clear HK2 hown
                subst hml'
                go_wp2
                go_meet
                case rel => exact ⟨s5, er, false, [], none, 0, none, 0, rfl, rfl, rfl, rfl, rfl, rfl, Lib.hid (Rd.nil _ _ _), Lib.hid (Rd.nil _ _ _), HY, OK, T13⟩
          have r0' : (rb == 0) = false := by simpa using r0
          clear r0
          have HX2 := Lib.hid x2
          by_cases r1 : (rb == 1) = true
          · have HT := Lib.hid (take_l T9.out HK.out o.num)
            go_wp2_with (go_at_call 11; fail)
            refine HT.out.mono ?_
            rintro e w11 ⟨v11, rfl, hown11, t11, k11⟩
            have y2 := k11.cell x2 rfl
            have HO11 := Lib.hid hown11
            obtain ⟨A11, c11, rfl, -, -, -⟩ := own_view hown11
            have HT2 := Lib.hid (take_r t11 HK.out o.num)
            clear x0 x1 x2 t11 k11 HT hown11
            go_wp2_with (go_at_call 12; fail)
            refine HT2.out.mono ?_
            rintro e w12 ⟨v12, rfl, hb12, t12, k12⟩
            obtain ⟨A12, c12, rfl, -, -, -, hr12⟩ := hb12.rd (fun _ q => q)
            have HR11 := Lib.hid (Rd.of_own (k12.own HO11.out (fun b q => .inr q)))
            have HR12 := Lib.hid hr12
            have HY2 := Lib.hid (k12.cell y2 (.inl rfl))
            have T12 := Lib.hid (t12.weak (N' := fun b => b = bx) (fun _ q => .inl q))
            have OK := Lib.hid (Nm.ok_less HK.out o.num)
            clear t12 k12 hb12 hr12 y2 HO11 HT2
            go_wp2
            go_meet
            case rel => exact ⟨_, 0, _, _, _, _, _, _, rfl, rfl, rfl, rfl, rfl, rfl, HR11, HR12, HY2, OK, T12⟩
          have r1' : (rb == 1) = false := by simpa using r1
          clear r1
          by_cases r2 : (rb == 2) = true
          · have HT := Lib.hid (drop_l T9.out HK.out o.num)
            go_wp2_with (go_at_call 13; fail)
            refine HT.out.mono ?_
            rintro e w11 ⟨rfl, t11, k11⟩
            have y2 := k11.cell x2 rfl
            have HT2 := Lib.hid (take_r t11 HK.out o.num)
            clear x0 x1 x2 t11 k11 HT
            go_wp2_with (go_at_call 12; fail)
            refine HT2.out.mono ?_
            rintro e w12 ⟨v12, rfl, hb12, t12, k12⟩
            obtain ⟨A12, c12, rfl, -, -, -, hr12⟩ := hb12.rd (fun _ q => q)
            have HY2 := Lib.hid (k12.cell y2 rfl)
            have T12 := Lib.hid t12
            have OK := Lib.hid (Nm.ok_less HK.out o.num)
            clear t12 k12 hb12 hr12 y2 HT2
            go_wp2
            go_meet
            case rel => exact ⟨_, 0, _, [], none, 0, none, 0, rfl, rfl, rfl, rfl, rfl, rfl, Lib.hid (Rd.nil _ _ _), Lib.hid (Rd.nil _ _ _), HY2, OK, T12⟩
          have r2' : (rb == 2) = false := by simpa using r2
          clear r2
          by_cases r3 : (rb == 3) = true
          · have HT := Lib.hid (dup_l T9.out HK.out o.num)
            go_wp2_with (go_at_call 14; fail)
            refine HT.out.mono ?_
            rintro e w11 ⟨rfl, t11, k11⟩
            have y2 := k11.cell x2 rfl
            have HT2 := Lib.hid (dup_r t11 HK.out o.num)
            clear x0 x1 x2 t11 k11 HT
            go_wp2_with (go_at_call 15; fail)
            refine HT2.out.mono ?_
            rintro e w12 ⟨rfl, t12, k12⟩
            have HY2 := Lib.hid (k12.cell y2 rfl)
            have T12 := Lib.hid t12
            have OK := Lib.hid (Nm.ok_dup HK.out o.num)
            clear t12 k12 y2 HT2
            go_wp2
            go_meet
            case rel => exact ⟨_, _, false, [], none, 0, none, 0, rfl, rfl, rfl, rfl, rfl, rfl, Lib.hid (Rd.nil _ _ _), Lib.hid (Rd.nil _ _ _), HY2, OK, T12⟩
          have r3' : (rb == 3) = false := by simpa using r3
          clear r3 x0 x1 x2
          go_wp2
          go_meet
          case rel => exact ⟨l, 0, false, [], none, 0, none, 0, rfl, rfl, rfl, rfl, rfl, rfl, Lib.hid (Rd.nil _ _ _), Lib.hid (Rd.nil _ _ _), HX2, HK, T9⟩
        case rest =>
          obtain ⟨l', er, t, xs, A1, c1, A2, c2, rfl, rfl, rfl, rfl, rfl, rfl, HR1, HR2, HY, OK, HT⟩ := hcut
          have y2 := HY.out
          have HA := Lib.hid (at_l HT.out OK.out o.num)
          clear x0 x1 x2 T9 HX9 HK HR0 HRW
          go_wp2_with (go_at_call 16; fail)
          refine HA.out.mono ?_
          rintro e w13 ⟨v13, rfl, hown13, hb13, t13⟩
          have z2 := (hb13.cell (p := ⟨bx, 2, none⟩) (World.block_lt_of_cell? _ _ y2)).trans y2
          have HO13 := Lib.hid hown13
          obtain ⟨A13, c13, rfl, hc13, hm13, hr13⟩ := own_view hown13
          have hpl := Nat.le_trans hc13 hm13
          unfold maxLen at hpl
          clear hc13 hm13
          have HA2 := Lib.hid (at_r t13 o.num)
          have HB13 := Lib.hid hb13
          have T13 := Lib.hid t13
          clear hown13 hb13 t13 HA y2
          go_wp2_with (go_at_call 17; fail)
          refine HA2.out.mono ?_
          rintro e w14 ⟨v14, rfl, hb14, rfl⟩
          obtain ⟨A14, c14, rfl, -, -, -, hr14⟩ := hb14.rd (fun _ q => q)
          have s1 := str_of (cap := c13) hr13 rfl
          have s2 := str_of (cap := c14) hr14 rfl
          generalize (Nm.pick l' o.num).getD [] = pb at *
          generalize (Nm.pick l' o.num).isSome = pi at *
          have hbq : ((strOfNums pb).toList == (strOfNums pb).toList) = true := by simp
          clear hb14 hr14 hr13 HA2
          go_upto_block 5 with fail
          clear s1 s2 z2
          obtain ⟨g0, rfl⟩ : ∃ q, q = gk := ⟨_, rfl⟩
          go_wp2_with fail
          go_loopg [21] pb.length (fun gj ix wj => ∃ (m : Nat) (us : List Int), gj + m = pb.length ∧ ix = .int .i64 (m : Int) ∧ us.length = pb.length ∧ wj.ownsRow wc.heap.size 5 1 (.slice A13 pb.length c13) pb.length (u8s us) ∧ Hid (Below wc.heap.size wc wj) ∧ Hid (Two (Nw (fun b => b = bx) (.slice A13 pb.length c13)) w wj g1 g2 l' l'))
          case atStart => exact ⟨0, pb, by omega, rfl, rfl, HO13.out, HB13, T13⟩
          case round =>
            obtain ⟨m, us, hm, rfl, hul, hown, HBJ, HK2⟩ := hrel
            by_cases hml : m < pb.length
            · obtain ⟨g, cap', hv, hge, hgl⟩ := hown.form (by omega)
              obtain rfl : A13 = some ⟨g, 0, none⟩ := by injection hv
              obtain ⟨y, hy⟩ : ∃ y, us[m]? = some y := ⟨us[m], List.getElem?_eq_getElem (by omega)⟩
              have hcl : wr.cell? ⟨g, m, none⟩ = some (.int .u8 y) := by rw [hown.cellAt m (by omega), List.getElem?_map, hy]; rfl
              have hfz := hown.frozenAt m
              have hst := hown.stored m (.int .u8 ((y + 1) % 256))
              rw [u8s_set'] at hst
              have HS1 := Lib.hid hst.1
              have HB3 : Hid (Below wc.heap.size wc (wr.setCell ⟨g, m, none⟩ (.int .u8 ((y + 1) % 256)))) := HBJ.out.setCell hge _
              have HK3 := Lib.hid (HK2.out.grown (grown_set1 g m (.int .u8 ((y + 1) % 256)) wr) (.inr rfl) (by have := HT.out.bel.size; omega))
              have HUL : Hid ((us.set m ((y + 1) % 256)).length = pb.length) := by
                show _ = _
                rw [List.length_set]; exact hul
              have d5 : (m : Int) < (pb.length : Int) := by omega
              clear HK2 hst hown hv hy hul HBJ
              go_wp2
              go_roundg (gk - 1)
              case measure => omega
              case rel => exact ⟨m + 1, _, by omega, by go_num, HUL.out, HS1.out, HB3, HK3⟩
            · have hml' : m = pb.length := by omega
              obtain ⟨A20, c20, c2d, hg2⟩ := HK2.out.cell_r
              have HL := Lib.hid (fun (W : World) (q : Below wr.heap.size wr W) => len_l (HK2.out.below q))
              have HS1 := Lib.hid (fun (W : World) (q : Below wr.heap.size wr W) => str_of (cap := c1) ((HR1.out.below HBJ.out).below (q.mono HBJ.out.size)) rfl)
              have HS2 := Lib.hid (fun (W : World) (q : Below wr.heap.size wr W) => str_of (cap := c2) ((HR2.out.below HBJ.out).below (q.mono HBJ.out.size)) rfl)
              have hbq2 : ((strOfNums xs).toList == (strOfNums xs).toList) = true := by simp
              have T21 := Lib.hid (HK2.out.weak (N' := fun _ => False) (fun _ q => q.elim))
              have d5 : decide ((m : Int) < (pb.length : Int)) = false := by simp; omega
              clear hown hml' hul HBJ HK2 HR1 HR2 HO13 T13 HT HB13 HY
              go_wp2_with fail
              refine region_C (fun W => Below wr.heap.size wr W) (by kernel_rfl) ?_
              have hC : Below wr.heap.size wr wr.drew := (Below.refl _ _).drew
              refine anyC_take (i := 0) (v := ?v0_1) (a' := ?a0_1) rfl (by kernel_rfl) (by kernel_rfl) (by kernel_rfl) (fun _ _ _ h => h) hC ?w0_1 ?y0_1 ?f0_1 ?r0_1
              case w0_1 => kernel_rfl
              case y0_1 => (intro w hC; go_simp; try with_reducible rfl)
              case f0_1 => (go_simp; try with_reducible rfl)
              refine anyC_take (i := 1) (v := ?v1_2) (a' := ?a1_2) rfl (by kernel_rfl) (by kernel_rfl) (by kernel_rfl) (fun _ _ _ h => h) hC ?w1_2 ?y1_2 ?f1_2 ?r1_2
              case w1_2 => kernel_rfl
              case y1_2 => (intro w hC; go_simp; try with_reducible rfl)
              case f1_2 => (go_simp; try with_reducible rfl)
              refine anyC_take (i := 2) (v := ?v2_3) (a' := ?a2_3) rfl (by kernel_rfl) (by kernel_rfl) (by kernel_rfl) (fun _ _ _ h => h) hC ?w2_3 ?y2_3 ?f2_3 ?r2_3
              case w2_3 => kernel_rfl
              case y2_3 => (intro w hC; go_simp; try with_reducible rfl)
              case f2_3 => (go_simp; try with_reducible rfl)
              refine anyC_take (i := 3) (v := ?v3_4) (a' := ?a3_4) rfl (by kernel_rfl) (by kernel_rfl) (by kernel_rfl) (fun _ _ _ h => h) hC ?w3_4 ?y3_4 ?f3_4 ?r3_4
              case w3_4 => kernel_rfl
              case y3_4 => (intro w hC; go_simp; try with_reducible rfl)
              case f3_4 => (go_simp; try with_reducible rfl)
              refine anyC_take (i := 4) (v := ?v4_5) (a' := ?a4_5) rfl (by kernel_rfl) (by kernel_rfl) (by kernel_rfl) (fun _ _ _ h => h) hC ?w4_5 ?y4_5 ?f4_5 ?r4_5
              case w4_5 => kernel_rfl
              case y4_5 => (intro w hC; go_simp; try with_reducible rfl)
              case f4_5 => (go_simp; try with_reducible rfl)
              refine anyC_take (i := 5) (v := ?v5_6) (a' := ?a5_6) rfl (by kernel_rfl) (by kernel_rfl) (by kernel_rfl) (fun _ _ _ h => h) hC ?w5_6 ?y5_6 ?f5_6 ?r5_6
              case w5_6 => kernel_rfl
              case y5_6 => (intro w hC; have h4 := HS1.out w hC; go_simp; try with_reducible rfl)
              case f5_6 => (go_simp; try with_reducible rfl)
              refine anyC_take (i := 6) (v := ?v6_7) (a' := ?a6_7) rfl (by kernel_rfl) (by kernel_rfl) (by kernel_rfl) (fun _ _ _ h => h) hC ?w6_7 ?y6_7 ?f6_7 ?r6_7
              case w6_7 => kernel_rfl
              case y6_7 => (intro w hC; go_simp; try with_reducible rfl)
              case f6_7 => (go_simp; try with_reducible rfl)
              refine anyC_take (i := 7) (v := ?v7_8) (a' := ?a7_8) rfl (by kernel_rfl) (by kernel_rfl) (by kernel_rfl) (fun _ _ _ h => h) hC ?w7_8 ?y7_8 ?f7_8 ?r7_8
              case w7_8 => kernel_rfl
              case y7_8 => (intro w hC; have h4 := HS2.out w hC; go_simp; try with_reducible rfl)
              case f7_8 => (go_simp; try with_reducible rfl)
              refine anyC_take (i := 8) (v := ?v8_9) (a' := ?a8_9) rfl (by kernel_rfl) (by kernel_rfl) (by kernel_rfl) (fun _ _ _ h => h) hC ?w8_9 ?y8_9 ?f8_9 ?r8_9
              case w8_9 => kernel_rfl
              case y8_9 => (intro w hC; go_simp; try with_reducible rfl)
              case f8_9 => (go_simp; try with_reducible rfl)
              refine anyC_take (i := 9) (v := ?v9_10) (a' := ?a9_10) rfl (by kernel_rfl) (by kernel_rfl) (by kernel_rfl) (fun _ _ _ h => h) hC ?w9_10 ?y9_10 ?f9_10 ?r9_10
              case w9_10 => kernel_rfl
              case y9_10 => (intro w hC; go_simp; try with_reducible rfl)
              case f9_10 => (go_simp; try with_reducible rfl)
              refine anyC_take (i := 10) (v := ?v10_11) (a' := ?a10_11) rfl (by kernel_rfl) (by kernel_rfl) (by kernel_rfl) (fun _ _ _ h => h) hC ?w10_11 ?y10_11 ?f10_11 ?r10_11
              case w10_11 => kernel_rfl
              case y10_11 => (intro w hC; go_simp; try with_reducible rfl)
              case f10_11 => (go_simp; try with_reducible rfl)
              refine anyC_take (i := 11) (v := ?v11_12) (a' := ?a11_12) rfl (by kernel_rfl) (by kernel_rfl) (by kernel_rfl) (fun _ _ _ h => h) hC ?w11_12 ?y11_12 ?f11_12 ?r11_12
              case w11_12 => kernel_rfl
              case y11_12 => (intro w hC; go_simp; try with_reducible rfl)
              case f11_12 => (go_simp; try with_reducible rfl)
              refine anyC_take (i := 12) (v := ?v12_13) (a' := ?a12_13) rfl (by kernel_rfl) (by kernel_rfl) (by kernel_rfl) (fun _ _ _ h => h) hC ?w12_13 ?y12_13 ?f12_13 ?r12_13
              case w12_13 => kernel_rfl
              case y12_13 => (intro w hC; go_simp; try with_reducible rfl)
              case f12_13 => (go_simp; try with_reducible rfl)
              refine anyC_take (i := 13) (v := ?v13_14) (a' := ?a13_14) rfl (by kernel_rfl) (by kernel_rfl) (by kernel_rfl) (fun _ _ _ h => h) hC ?w13_14 ?y13_14 ?f13_14 ?r13_14
              case w13_14 => kernel_rfl
              case y13_14 => (intro w hC; go_simp; try with_reducible rfl)
              case f13_14 => (go_simp; try with_reducible rfl)
              refine anyC_take (i := 14) (v := ?v14_15) (a' := ?a14_15) rfl (by kernel_rfl) (by kernel_rfl) (by kernel_rfl) (fun _ _ _ h => h) hC ?w14_15 ?y14_15 ?f14_15 ?r14_15
              case w14_15 => kernel_rfl
              case y14_15 => (intro w hC; go_simp; try with_reducible rfl)
              case f14_15 => (go_simp; try with_reducible rfl)
              refine anyC_take (i := 15) (v := ?v15_16) (a' := ?a15_16) rfl (by kernel_rfl) (by kernel_rfl) (by kernel_rfl) (fun _ _ _ h => h) hC ?w15_16 ?y15_16 ?f15_16 ?r15_16
              case w15_16 => kernel_rfl
              case y15_16 => (intro w hC; go_simp; try with_reducible rfl)
              case f15_16 => (go_simp; try with_reducible rfl)
              refine anyC_take (i := 16) (v := ?v16_17) (a' := ?a16_17) rfl (by kernel_rfl) (by kernel_rfl) (by kernel_rfl) (fun _ _ _ h => h) hC ?w16_17 ?y16_17 ?f16_17 ?r16_17
              case w16_17 => kernel_rfl
              case y16_17 => (intro w hC; go_simp; try with_reducible rfl)
              case f16_17 => (go_simp; try with_reducible rfl)
              refine anyC_take (i := 17) (v := ?v17_18) (a' := ?a17_18) rfl (by kernel_rfl) (by kernel_rfl) (by kernel_rfl) (fun _ _ _ h => h) hC ?w17_18 ?y17_18 ?f17_18 ?r17_18
              case w17_18 => kernel_rfl
              case y17_18 => (intro w hC; go_simp; try with_reducible rfl)
              case f17_18 => (go_simp; try with_reducible rfl)
              refine anyC_take (i := 18) (v := ?v18_19) (a' := ?a18_19) rfl (by kernel_rfl) (by kernel_rfl) (by kernel_rfl) (fun _ _ _ h => h) hC ?w18_19 ?y18_19 ?f18_19 ?r18_19
              case w18_19 => kernel_rfl
              case y18_19 => (intro w hC; go_simp; try with_reducible rfl)
              case f18_19 => (go_simp; try with_reducible rfl)
              refine anyC_take (i := 19) (v := ?v19_20) (a' := ?a19_20) rfl (by kernel_rfl) (by kernel_rfl) (by kernel_rfl) (fun _ _ _ h => h) hC ?w19_20 ?y19_20 ?f19_20 ?r19_20
              case w19_20 => kernel_rfl
              case y19_20 => (intro w hC; go_simp; try with_reducible rfl)
              case f19_20 => (go_simp; try with_reducible rfl)
              refine anyC_take (i := 20) (v := ?v20_21) (a' := ?a20_21) rfl (by kernel_rfl) (by kernel_rfl) (by kernel_rfl) (fun _ _ _ h => h) hC ?w20_21 ?y20_21 ?f20_21 ?r20_21
              case w20_21 => kernel_rfl
              case y20_21 => (intro w hC; go_simp; try with_reducible rfl)
              case f20_21 => (go_simp; try with_reducible rfl)
              refine anyC_take (i := 21) (v := ?v21_22) (a' := ?a21_22) rfl (by kernel_rfl) (by kernel_rfl) (by kernel_rfl) (fun _ _ _ h => h) hC ?w21_22 ?y21_22 ?f21_22 ?r21_22
              case w21_22 => kernel_rfl
              case y21_22 => (intro w hC; go_simp; try with_reducible rfl)
              case f21_22 => (go_simp; try with_reducible rfl)
              refine anyC_take (i := 22) (v := ?v22_23) (a' := ?a22_23) rfl (by kernel_rfl) (by kernel_rfl) (by kernel_rfl) (fun _ _ _ h => h) hC ?w22_23 ?y22_23 ?f22_23 ?r22_23
              case w22_23 => kernel_rfl
              case y22_23 => (intro w hC; go_simp; try with_reducible rfl)
              case f22_23 => (go_simp; try with_reducible rfl)
              refine anyC_take (i := 23) (v := ?v23_24) (a' := ?a23_24) rfl (by kernel_rfl) (by kernel_rfl) (by kernel_rfl) (fun _ _ _ h => h) hC ?w23_24 ?y23_24 ?f23_24 ?r23_24
              case w23_24 => kernel_rfl
              case y23_24 => (intro w hC; go_simp; try with_reducible rfl)
              case f23_24 => (go_simp; try with_reducible rfl)
              refine anyC_take (i := 24) (v := ?v24_25) (a' := ?a24_25) rfl (by kernel_rfl) (by kernel_rfl) (by kernel_rfl) (fun _ _ _ h => h) hC ?w24_25 ?y24_25 ?f24_25 ?r24_25
              case w24_25 => kernel_rfl
              case y24_25 => (intro w hC; go_simp; try with_reducible rfl)
              case f24_25 => (go_simp; try with_reducible rfl)
              refine anyC_take (i := 25) (v := ?v25_26) (a' := ?a25_26) rfl (by kernel_rfl) (by kernel_rfl) (by kernel_rfl) (fun _ _ _ h => h) hC ?w25_26 ?y25_26 ?f25_26 ?r25_26
              case w25_26 => kernel_rfl
              case y25_26 => (intro w hC; go_simp; try with_reducible rfl)
              case f25_26 => (go_simp; try with_reducible rfl)
              refine anyC_call (i := 26) (a' := ?a26_27) rfl (by kernel_rfl) (by kernel_rfl) (by kernel_rfl) (fun _ _ _ h => h) hC (fun W hW => (HL.out W hW)) (by kernel_rfl) ?y26_27 ?f26_27 ?r26_27
              case y26_27 => (intro W hW; go_simp; try with_reducible rfl)
              case f26_27 => (go_simp; try with_reducible rfl)
              refine anyC_take (i := 27) (v := ?v27_28) (a' := ?a27_28) rfl (by kernel_rfl) (by kernel_rfl) (by kernel_rfl) (fun _ _ _ h => h) hC ?w27_28 ?y27_28 ?f27_28 ?r27_28
              case w27_28 => kernel_rfl
              case y27_28 => (intro w hC; go_simp; try with_reducible rfl)
              case f27_28 => (go_simp; try with_reducible rfl)
              refine anyC_take (i := 28) (v := ?v28_29) (a' := ?a28_29) rfl (by kernel_rfl) (by kernel_rfl) (by kernel_rfl) (fun _ _ _ h => h) hC ?w28_29 ?y28_29 ?f28_29 ?r28_29
              case w28_29 => kernel_rfl
              case y28_29 => (intro w hC; go_simp; try with_reducible rfl)
              case f28_29 => (go_simp; try with_reducible rfl)
              refine anyC_take (i := 29) (v := ?v29_30) (a' := ?a29_30) rfl (by kernel_rfl) (by kernel_rfl) (by kernel_rfl) (fun _ _ _ h => h) hC ?w29_30 ?y29_30 ?f29_30 ?r29_30
              case w29_30 => kernel_rfl
              case y29_30 => (intro w hC; go_simp; try with_reducible rfl)
              case f29_30 => (go_simp; try with_reducible rfl)
              refine anyC_take (i := 30) (v := ?v30_31) (a' := ?a30_31) rfl (by kernel_rfl) (by kernel_rfl) (by kernel_rfl) (fun _ _ _ h => h) hC ?w30_31 ?y30_31 ?f30_31 ?r30_31
              case w30_31 => kernel_rfl
              case y30_31 => (intro w hC; have h4 := (hC.cell (p := ⟨g2, 0, none⟩) hg2).trans c2d; go_simp; try with_reducible rfl)
              case f30_31 => (go_simp; try with_reducible rfl)
              refine anyC_take (i := 31) (v := ?v31_32) (a' := ?a31_32) rfl (by kernel_rfl) (by kernel_rfl) (by kernel_rfl) (fun _ _ _ h => h) hC ?w31_32 ?y31_32 ?f31_32 ?r31_32
              case w31_32 => kernel_rfl
              case y31_32 => (intro w hC; go_simp; try with_reducible rfl)
              case f31_32 => (go_simp; try with_reducible rfl)
              refine anyC_take (i := 32) (v := ?v32_33) (a' := ?a32_33) rfl (by kernel_rfl) (by kernel_rfl) (by kernel_rfl) (fun _ _ _ h => h) hC ?w32_33 ?y32_33 ?f32_33 ?r32_33
              case w32_33 => kernel_rfl
              case y32_33 => (intro w hC; go_simp; try with_reducible rfl)
              case f32_33 => (go_simp; try with_reducible rfl)
              refine anyC_take (i := 33) (v := ?v33_34) (a' := ?a33_34) rfl (by kernel_rfl) (by kernel_rfl) (by kernel_rfl) (fun _ _ _ h => h) hC ?w33_34 ?y33_34 ?f33_34 ?r33_34
              case w33_34 => kernel_rfl
              case y33_34 => (intro w hC; go_simp; try with_reducible rfl)
              case f33_34 => (go_simp; try with_reducible rfl)
              refine anyC_done (by kernel_rfl) ?_
              have T22 := Lib.hid ((T21.out.below hC).weak (N' := fun _ => False) (fun _ q => q.elim))
              clear hC c2d hg2
              go_wp2
              go_roundg (g0 - 1)
              case measure => omega
              case rel => exact ⟨k + 1, l', by omega, by go_num, OK, T22⟩
      · have hkl : k = len0 := by omega
        have HB := Lib.hid HO.out.bel
        clear HO
        go_wp2
        go_ret
        exact ⟨rfl, HB.out⟩
  · have d0 : decide ((2000 : Int) < (len0 : Int)) = true := by simp; omega
    have HB := Lib.hid HTW.out.bel
    clear HTW
    go_wp2
    go_ret
    exact ⟨rfl, HB.out⟩
end Go.Proofs.Ytceleihfdpgpiaa
