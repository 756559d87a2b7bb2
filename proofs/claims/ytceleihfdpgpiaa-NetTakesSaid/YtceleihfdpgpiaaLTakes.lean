/- NetTakes, walked. -/
import Derived.Test.YtceleihfdpgpiaaNc
import Derived.Deep.CutBlock
import Derived.Deep.DeepCutAuto
import Derived.WalkSpells
namespace Go.Proofs.Ytceleihfdpgpiaa
open Go.RowKit Go.Shelf Km Kb Kz

set_option maxRecDepth 100000 in
set_option maxHeartbeats 8000000 in
theorem takes_walk (a0 : Option Addr) (len0 cap0 : Nat) (os : List Cl) (w : World) (w1 : ClsAt w a0 len0 cap0 os) :
    Calls Try.prog 4 #[.slice a0 len0 cap0] w fun e w' => e = .returned (.bool true) ∧ Below w.heap.size w w' := by
  have HC := Lib.hid w1
  have hN := w1.1
  have hm1 : len0 ≤ 9223372036854775807 := by have h1 := w1.2.1; have h2 := w1.2.2.1; unfold maxLen at h2; omega
  clear w1
  go_enter Try.func4, Try.ntmps4
  go_wp2_with (go_at_call 7; refine (head_any _).mono ?_; rintro e w1 ⟨rfl, hb1⟩)
  refine (new_one (fun _ => False) hb1 (fun _ q => q.elim)).mono ?_
  rintro e w2 ⟨rfl, -, j2⟩
  clear hb1
  generalize w1.heap.size = g1 at *
  by_cases hbig : len0 ≤ 2000
  · have d0 : decide ((2000 : Int) < (len0 : Int)) = false := by simp; omega
    have J2 : Hid (∃ S, One (fun _ => False) S w w2 g1 []) := ⟨_, j2⟩
    clear j2
    go_wp2_with fail
    go_loopg [5, 6] len0 (fun gh cv ix wr => ∃ (k : Nat) (l : List (List Int)), gh + k = len0 ∧ cv = .int .i64 (l.length : Int) ∧ ix = .int .i64 (k : Int) ∧ Hid (Nm.Ok l) ∧ Hid (∃ S, One (fun _ => False) S w wr g1 l))
    case atStart => exact ⟨0, [], by omega, rfl, rfl, Lib.hid Nm.ok_nil, J2⟩
    case round =>
      obtain ⟨k, l, hk, rfl, rfl, HK, HO⟩ := hrel
      by_cases hlt : k < len0
      · obtain ⟨o, ho⟩ : ∃ o, os[k]? = some o := ⟨os[k]'(by rw [hN]; exact hlt), List.getElem?_eq_getElem _⟩
        obtain ⟨ad, v, rfl, hcl⟩ := HC.out.2.2.2 k o ho
        obtain ⟨A, c, rfl, -, -, -, hrb⟩ := hcl.row.form
        obtain ⟨S0, o0⟩ := HO.out
        have HCL := Lib.hid (hcl.below o0.bel)
        have HRW := Lib.hid hcl.row
        have HSB := Lib.hid (fun (W : World) (q : Below w.heap.size w W) => str_of (cap := c) (hrb.below q) rfl)
        have d3 : (k : Int) < (len0 : Int) := by omega
        clear ho hcl hrb HO
        have hr9 := range_new wr (cvs o A c) 32
        have x0 := range_at hr9 0 (v := .int .i64 o.what) rfl
        have x1 := range_at hr9 1 (v := .slice A o.body.length c) rfl
        have x2 := range_at hr9 2 (v := .int .i64 o.num) rfl
        have hb9 : Below wr.heap.size wr (wr.alloc (.cells (cvs o A c).toArray 32)) := (Below.refl _ wr).alloc (Nat.le_refl _) _
        have o9 := (o0.below hb9).weak (N' := fun b => b = wr.heap.size) (fun b q => .inr (by rw [q, World.size_alloc]; omega))
        have HX9 : Hid (wr.heap.size < (wr.alloc (.cells (cvs o A c).toArray 32)).heap.size) := by show _ < _; rw [World.size_alloc]; omega
        have HA := Lib.hid (at_one o9 HK.out o.num)
        clear hr9 hb9 o0 o9
        have hi : (Try.prog.info? 32).map (·.size) = some 3 := by kernel_rfl
        have hall : (cvs o A c).toArray.all (·.oneCell') = true := by simp [cvs, Value.oneCell']
        have hcz : (#[Value.int .i64 0, .slice none 0 0, .int .i64 0] : Array Value).size = (cvs o A c).toArray.size := rfl
        go_wp2_with (first | (go_at_call 16; fail) | ((with_reducible refine wpList_gate ?_); (refine wpList_load_any rfl 32 _ rfl _ rfl (cvs o A c) _ HCL.out.cells Try.underlying32 rfl hi ?_)) | ((with_reducible refine wpList_gate ?_); (refine wpList_store_new rfl 32 _ _ rfl _ (cvs o A c).toArray rfl rfl hi hcz hall ?_; generalize World.alloc wr _ = w9 at *)))
        generalize wr.heap.size = bx at *
        refine HA.out.mono ?_
        rintro e w10 ⟨v10, rfl, hown10, hb10, o10⟩
        have y0 := (hb10.cell (p := ⟨bx, 0, none⟩) HX9.out).trans x0
        have y1 := (hb10.cell (p := ⟨bx, 1, none⟩) HX9.out).trans x1
        have y2 := (hb10.cell (p := ⟨bx, 2, none⟩) HX9.out).trans x2
        have HO10 := Lib.hid hown10
        obtain ⟨A10, c10, rfl, -, -, hr10⟩ := own_view hown10
        have O10 := Lib.hid o10
        clear x0 x1 x2 hown10 hb10 o10 HA HX9 HCL hr10
        go_upto_block 2 with fail
        generalize bits BinOp.and IntKind.i64 o.what 3 = rb at *
        go_cut [5, 10, 11, 12, 13, 14] from 45 to 123 (fun cv s10 s11 s12 s13 s14 wx => ∃ (l' : List (List Int)), cv = .int .i64 (l'.length : Int) ∧ Hid (Nm.Ok l') ∧ Hid (∃ S, One (fun _ => False) S w wx g1 l'))
        case first =>
          by_cases r0 : (rb == 0) = true
          · have HS := Lib.hid (send_row O10.out HRW.out)
            have hbo : o.body.length ≤ 140737488355328 := Nat.le_trans HRW.out.le (by omega)
            go_wp2_with (go_at_call 9; fail)
            refine HS.out.mono ?_
            rintro e w11 ⟨rfl, S11, o11, -, k11⟩
            have z1 := k11.cell y1 (.inl rfl)
            have hl4 := HK.out.1
            clear k11 y0 y1 y2 HO10 O10 HS
            by_cases hq : l.length < 400
            · rw [Nm.send_lt hq] at o11 ⊢
              have okk : Nm.Ok (l ++ [o.body]) := by have := Nm.ok_send HK.out hbo; rw [Nm.send_lt hq] at this; exact this
              have hln : ((l ++ [o.body]).length : Int) = (l.length : Int) + 1 := by simp
              have HL := Lib.hid (len_one o11)
              have HA := Lib.hid (at_one o11 okk (l.length : Int))
              rw [pick_back, show (some o.body).getD [] = o.body from rfl, show (some o.body).isSome = true from rfl] at HA
              rw [hln] at HL
              have OK := Lib.hid okk
              have hw1 : IntKind.i64.wrap ((l.length : Int) + 1) = (l.length : Int) + 1 := by rw [IntKind.wrap_i64]; omega
              have hw2 : IntKind.i64.wrap ((l.length : Int) + 1 - 1) = (l.length : Int) := by rw [IntKind.wrap_i64]; omega
              clear o11 okk hbo
              go_wp2_with (first | (go_at_call 16; fail) | (go_at_call 18; refine HL.out.mono ?_; rintro e w12 ⟨rfl, rfl⟩))
              refine HA.out.mono ?_
              rintro e w13 ⟨v13, rfl, hown13, hb13, o13⟩
              obtain ⟨A13, c13, rfl, -, -, hr13⟩ := own_view hown13
              have HB := Lib.hid o13.bel
              have HL2 := Lib.hid (len_one o13)
              rw [hln] at HL2
              have s1 := str_of (cap := c13) hr13 rfl
              have s2 := HSB.out _ HB.out
              have z2 := (hb13.cell (p := ⟨bx, 1, none⟩) (World.block_lt_of_cell? _ _ z1)).trans z1
              have hbq : ((strOfNums o.body).toList == (strOfNums o.body).toList) = true := by simp
              have d5 : (((l.length : Int) + 1) == 0) = false := by simp; omega
              have OE : Hid (∃ S, One (fun _ => False) S w w13 g1 (l ++ [o.body])) := ⟨_, o13.weak fun _ q => q.elim⟩
              clear hown13 hb13 o13 hr13 z1 HA HL
              by_cases hq2 : l.length + 1 < 400
              · have d6 : decide ((l.length : Int) + 1 < 400) = true := by simp; omega
                go_wp2_with (go_at_call 18; refine HL2.out.mono ?_; rintro e w14 ⟨rfl, rfl⟩)
                go_meet
                case rel => exact ⟨_, congrArg _ hln.symm, OK, OE⟩
              · have d6 : decide ((l.length : Int) + 1 < 400) = false := by simp; omega
                go_wp2_with (go_at_call 18; refine HL2.out.mono ?_; rintro e w14 ⟨rfl, rfl⟩)
                go_meet
                case rel => exact ⟨_, congrArg _ hln.symm, OK, OE⟩
            · rw [Nm.send_ge (by omega)] at o11 ⊢
              have hln : (l.length : Int) = 400 := by omega
              have HL := Lib.hid (len_one o11)
              have HA := Lib.hid (at_one o11 HK.out 399)
              rw [hln] at HL
              generalize hp : (Nm.pick l 399).getD [] = pb at HA
              generalize hp2 : (Nm.pick l 399).isSome = pi at HA
              clear o11 hbo hp hp2
              go_wp2_with (first | (go_at_call 16; fail) | (go_at_call 18; refine HL.out.mono ?_; rintro e w12 ⟨rfl, rfl⟩))
              refine HA.out.mono ?_
              rintro e w13 ⟨v13, rfl, hown13, hb13, o13⟩
              obtain ⟨A13, c13, rfl, -, -, hr13⟩ := own_view hown13
              have HL2 := Lib.hid (len_one o13)
              rw [hln] at HL2
              have OE : Hid (∃ S, One (fun _ => False) S w w13 g1 l) := ⟨_, o13.weak fun _ q => q.elim⟩
              clear hown13 hb13 o13 hr13 z1 HA HL
              go_wp2_with (go_at_call 18; refine HL2.out.mono ?_; rintro e w14 ⟨rfl, rfl⟩)
              go_meet
              case rel => exact ⟨_, congrArg _ hln.symm, HK, OE⟩
          have r0' : (rb == 0) = false := by simpa using r0
          clear r0
          by_cases r1 : (rb == 1) = true
          · have HT := Lib.hid (take_one O10.out HK.out o.num)
            go_wp2_with (go_at_call 11; fail)
            refine HT.out.mono ?_
            rintro e w11 ⟨v11, rfl, hown11, ⟨S11, o11, -⟩, k11⟩
            obtain ⟨A11, c11, rfl, -, -, hr11⟩ := own_view hown11
            have hr10 := Rd.of_own (k11.own HO10.out (fun b q => .inr q))
            have s1 := str_of (cap := c11) hr11 rfl
            have s2 := str_of (cap := c10) hr10 rfl
            have hbq : ((strOfNums ((Nm.pick l o.num).getD [])).toList == (strOfNums ((Nm.pick l o.num).getD [])).toList) = true := by simp
            have hll := Nm.len_less l o.num
            have OK := Lib.hid (Nm.ok_less HK.out o.num)
            have OE : Hid (∃ S, One (fun _ => False) S w w11 g1 (Nm.less l o.num)) := ⟨_, o11.weak fun _ q => q.elim⟩
            have hl4 := HK.out.1
            have hw1 : IntKind.i64.wrap ((l.length : Int) - 1) = (l.length : Int) - 1 := by rw [IntKind.wrap_i64]; omega
            clear y0 y1 y2 HO10 O10 hown11 o11 k11 hr11 hr10 HT
            generalize (Nm.pick l o.num).getD [] = pb at *
            generalize (Nm.pick l o.num).isSome = pi at *
            generalize Nm.less l o.num = l' at *
            cases pi with
            | true =>
              go_wp2
              go_meet
              case rel => exact ⟨l', congrArg _ (by simpa using hll.symm), OK, OE⟩
            | false =>
              go_wp2
              go_meet
              case rel => exact ⟨l', congrArg _ (by simpa using hll.symm), OK, OE⟩
          have r1' : (rb == 1) = false := by simpa using r1
          clear r1
          by_cases r2 : (rb == 2) = true
          · have HT := Lib.hid (drop_one O10.out HK.out o.num)
            go_wp2_with (go_at_call 13; fail)
            refine HT.out.mono ?_
            rintro e w11 ⟨rfl, S11, o11, -, k11⟩
            have hll := Nm.len_less l o.num
            have OK := Lib.hid (Nm.ok_less HK.out o.num)
            have OE : Hid (∃ S, One (fun _ => False) S w w11 g1 (Nm.less l o.num)) := ⟨_, o11.weak fun _ q => q.elim⟩
            have hl4 := HK.out.1
            have hw1 : IntKind.i64.wrap ((l.length : Int) - 1) = (l.length : Int) - 1 := by rw [IntKind.wrap_i64]; omega
            clear y0 y1 y2 HO10 O10 o11 k11 HT
            generalize (Nm.pick l o.num).getD [] = pb at *
            generalize (Nm.pick l o.num).isSome = pi at *
            generalize Nm.less l o.num = l' at *
            cases pi with
            | true =>
              go_wp2
              go_meet
              case rel => exact ⟨l', congrArg _ (by simpa using hll.symm), OK, OE⟩
            | false =>
              go_wp2
              go_meet
              case rel => exact ⟨l', congrArg _ (by simpa using hll.symm), OK, OE⟩
          have r2' : (rb == 2) = false := by simpa using r2
          clear r2
          by_cases r3 : (rb == 3) = true
          · have HT := Lib.hid (dup_one O10.out HK.out o.num)
            have OK := Lib.hid (Nm.ok_dup HK.out o.num)
            have hl4 := HK.out.1
            have hdl : (Nm.dup l o.num).2 = 0 ∧ ((Nm.dup l o.num).1.length : Int) = (l.length : Int) + 1 ∨ (((Nm.dup l o.num).2 == 0) = false ∧ (Nm.dup l o.num).1 = l) := by
              cases hp : Nm.pick l o.num with
              | none => rw [Nm.dup_none hp]; exact .inr ⟨rfl, rfl⟩
              | some b =>
                rw [Nm.dup_some hp]
                by_cases q : l.length < 400
                · rw [Nm.send_lt q]; exact .inl ⟨rfl, by simp⟩
                · rw [Nm.send_ge (by omega)]; exact .inr ⟨rfl, rfl⟩
            generalize Nm.dup l o.num = r at *
            obtain ⟨l', er⟩ := r
            dsimp only at *
            go_wp2_with (go_at_call 14; fail)
            refine HT.out.mono ?_
            rintro e w11 ⟨rfl, S11, o11, -, k11⟩
            have OE : Hid (∃ S, One (fun _ => False) S w w11 g1 l') := ⟨_, o11.weak fun _ q => q.elim⟩
            have hw1 : IntKind.i64.wrap ((l.length : Int) + 1) = (l.length : Int) + 1 := by rw [IntKind.wrap_i64]; omega
            clear y0 y1 y2 HO10 O10 o11 k11 HT
            rcases hdl with ⟨rfl, q2⟩ | ⟨q1, rfl⟩
            · have Q2 := Lib.hid q2
              clear q2
              go_wp2
              go_meet
              case rel => exact ⟨l', congrArg _ Q2.out.symm, OK, OE⟩
            · go_wp2
              go_meet
              case rel => exact ⟨l', rfl, OK, OE⟩
          have r3' : (rb == 3) = false := by simpa using r3
          have OE : Hid (∃ S, One (fun _ => False) S w w10 g1 l) := ⟨_, O10.out.weak fun _ q => q.elim⟩
          clear r3 y0 y1 y2 HO10 O10
          go_wp2
          go_meet
          case rel => exact ⟨l, rfl, HK, OE⟩
        case rest =>
          obtain ⟨l', rfl, OK, OE⟩ := hcut
          obtain ⟨S', o'⟩ := OE.out
          have HL := Lib.hid (len_one o')
          have hl4 := OK.out.1
          have d7 : decide ((400 : Int) < (l'.length : Int)) = false := by simp; omega
          clear o' y0 y1 y2 HO10 O10
          go_wp2_with (go_at_call 18; refine HL.out.mono ?_; rintro e w14 ⟨rfl, rfl⟩)
          go_roundg (gk - 1)
          case measure => omega
          case rel => exact ⟨k + 1, l', by omega, rfl, by go_num, OK, OE⟩
      · have hkl : k = len0 := by omega
        obtain ⟨S0, o0⟩ := HO.out
        have HB := Lib.hid o0.bel
        clear o0 HO
        go_wp2
        go_ret
        exact ⟨rfl, HB.out⟩
  · have d0 : decide ((2000 : Int) < (len0 : Int)) = true := by simp; omega
    have HB := Lib.hid j2.bel
    clear j2
    go_wp2
    go_ret
    exact ⟨rfl, HB.out⟩
end Go.Proofs.Ytceleihfdpgpiaa
