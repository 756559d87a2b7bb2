/- JournalPlays, walked. -/
import Derived.Test.YtgpagddaopgdgaaDoorJt
import Derived.Deep.CutBlock
import Derived.Deep.DeepCutAuto
import Derived.WalkSpells
namespace Go.Proofs.YtgpagddaopgdgaaDoor
open Go.RowKit Go.Shelf Km

/-- a whole value from anywhere -/
theorem wpList_load_any {P : Program} {ops : Array Oper} {rest : List Oper} {op : Oper} {a : Act} {w : World} {Q : Exit → Act → World → Prop} (hgd : op.guard = none) (ty : TypeId) (x : Operand) (ho : op.op = .load ty x)
    (ad : Addr) (hx : a.eval x = .pointer (some ad)) (cs : List Value) (d : TypeDesc) (hc : ∀ j v, cs[j]? = some v → w.cell? (ad.add j) = some v) (hu : P.underlying ty = some d) (hd : d.isRow = true) (hi : (P.info? ty).map (·.size) = some cs.length)
    (h : wpList P ops Q rest (a.put op.dst (.agg cs.toArray)) w) : wpList P ops Q (op :: rest) a w :=
  wpList_plain hgd fun _ hK => by
    have hl : (loadCells ad cs.length).run P w = .ok cs.toArray w := run_loadCells_list (P := P) w ad cs hc
    have hv : (loadVar ty ad).run P w = .ok (.agg cs.toArray) w := by
      cases hq : P.info? ty with
      | none => simp [hq] at hi
      | some i =>
        have hs : i.size = cs.length := by simpa [hq] using hi
        have hagg : (isAgg ty).run P w = .ok true w := by
          unfold isAgg
          rw [Sem.run_bind, run_underlying hu w]
          cases d <;> simp_all
        simp [loadVar, Sem.run_bind, hagg, sizeOf, typeInfo, hq, hs, hl]
    unfold Oper.wp execOp
    simp only [ho, hx, Instr.loadAt, Instr.sureAddr, Sem.run_bind, Sem.run_pure, Result.andThen_ok, hv]
    exact hK _ _ h

/-- a call's cells -/
def cvs (o : Cl) (A : Option Addr) (c : Nat) : List Value := [.int .i64 o.what, .int .u8 o.kind, .slice A o.body.length c, .int .i64 o.num]
theorem ClAt.cells {w : World} {B : Nat} {ad : Addr} {i : Nat} {o : Cl} {A : Option Addr} {c : Nat} (h : ClAt w B ad i o A c) : ∀ j v, (cvs o A c)[j]? = some v → w.cell? ((ad.add (i * 4)).add j) = some v := fun j v hv => by
  match j with
  | 0 => cases hv; rw [Addr.add_zero']; exact h.c0
  | 1 => cases hv; exact h.c1
  | 2 => cases hv; exact h.c2
  | 3 => cases hv; exact h.c3
  | j + 4 => simp [cvs] at hv

theorem opn_by {s : Jm.St} (h : Jm.Ok s) : Fm.By ((Jm.opn s).2.1.map (·.1)) ∧ ∀ b ∈ (Jm.opn s).2.1.map (·.2), Fm.By b := by
  have h1 := al_by h.k
  by_cases hw : Jm.whole s < s.kept.length
  · by_cases h0 : (Jm.eff (Jm.up s)).2 = 0
    · rw [Jm.opn_cut hw h0]; exact h1
    · rw [Jm.opn_err hw h0]; exact ⟨Fm.By.nil, fun b q => nomatch q⟩
  · rw [Jm.opn_all hw]; exact h1

set_option maxRecDepth 100000 in
set_option maxHeartbeats 8000000 in
theorem plays_walk (a0 : Option Addr) (len0 cap0 : Nat) (os : List Cl) (w : World) (w1 : ClsAt w w.heap.size a0 len0 cap0 os) (t0 : TabAt w) :
    Calls Tryd.prog 3 #[.slice a0 len0 cap0] w fun e w' => e = .returned (.bool true) ∧ Below w.heap.size w w' := by
  have HT := Lib.hid t0.tab
  have HC := Lib.hid w1
  have hN := w1.1
  have hm1 : len0 ≤ 9223372036854775807 := by have h1 := w1.2.1; have h2 := w1.2.2.1; unfold maxLen at h2; omega
  clear w1 t0
  go_enter Tryd.func3, Tryd.ntmps3
  go_wp2_with (go_at_call 8; refine (head_any _ HT.out).mono ?_; rintro e w1 ⟨rfl, hb1⟩)
  refine (new_own w w1 hb1).mono ?_
  rintro e w2 ⟨rfl, j2⟩
  clear hb1
  generalize w1.heap.size = g1 at *
  go_wp2_with (go_at_call 10; fail)
  refine (rnew_any w2).mono ?_
  rintro e w3 ⟨rfl, q1, q2⟩
  have HTW := Lib.hid (Two.make j2 q2 ⟨_, _, q1⟩ (fun b q => by rw [q]; exact Nat.le_refl _))
  clear j2 q1 q2
  generalize w2.heap.size = g2 at *
  have HG := Lib.hid (great_any a0 len0 cap0 w.heap.size os w3 (HC.out.below HTW.out.bel))
  go_wp2_with (go_at_call 11; fail)
  refine HG.out.mono ?_
  rintro e w4 ⟨b, rfl, hwt, rfl⟩
  cases b with
  | true =>
    go_wp2
    go_ret
    exact ⟨rfl, HTW.out.bel⟩
  | false =>
    have HW := Lib.hid (hwt rfl)
    clear hwt HG
    go_wp2_with fail
    go_loopg [6] len0 (fun gh ix wr => ∃ (k : Nat) (s : Jm.St), gh + k = len0 ∧ ix = .int .i64 (k : Int) ∧ Hid (Jm.size s ≤ wt (os.take k)) ∧ Hid (Two (fun _ => False) w wr g1 g2 s s))
    case atStart => exact ⟨0, Jm.new, by omega, rfl, Lib.hid (Nat.zero_le _), HTW⟩
    case round =>
      obtain ⟨k, s, hk, rfl, HS, HO⟩ := hrel
      by_cases hlt : k < len0
      · obtain ⟨o, ho⟩ : ∃ o, os[k]? = some o := ⟨os[k]'(by rw [hN]; exact hlt), List.getElem?_eq_getElem _⟩
        obtain ⟨ad, A, c, rfl, hcl⟩ := HC.out.2.2.2 k o ho
        have HCL := Lib.hid (hcl.below HO.out.bel)
        have d3 : (k : Int) < (len0 : Int) := by omega
        have hol : o.body.length ≤ 200000 := by
          have h1 := wt_take ho
          have h2 := wt_le (os := os) (k + 1)
          have h3 := HW.out
          omega
        have HWT := Lib.hid (wt_take ho)
        have hz : Jm.size s ≤ 200000 := Nat.le_trans HS.out (by have h2 := wt_le (os := os) k; have h3 := HW.out; omega)
        have HR0 := Lib.hid hcl.rd
        have HCK := Lib.hid hcl.k
        have HLC := Lib.hid hcl.lc
        have HCM := Lib.hid hcl.cm
        have HBY := Lib.hid hcl.by_
        have HNM := Lib.hid hcl.n0
        clear ho hcl
        have hr9 := range_new wr (cvs o A c) 31
        have x0 := range_at hr9 0 (v := .int .i64 o.what) rfl
        have x1 := range_at hr9 1 (v := .int .u8 o.kind) rfl
        have x2 := range_at hr9 2 (v := .slice A o.body.length c) rfl
        have x3 := range_at hr9 3 (v := .int .i64 o.num) rfl
        have hb9 : Below wr.heap.size wr (wr.alloc (.cells (cvs o A c).toArray 31)) := (Below.refl _ wr).alloc (Nat.le_refl _) _
        have T9 := Lib.hid ((HO.out.below hb9).weak (N' := fun b => b = wr.heap.size) (fun b q => .inr (by rw [q, World.size_alloc]; omega)))
        have R9 := Lib.hid ((HCL.out.below (hb9.mono HO.out.bel.size)).rd)
        have HX9 : Hid (wr.heap.size < (wr.alloc (.cells (cvs o A c).toArray 31)).heap.size) := by show _ < _; rw [World.size_alloc]; omega
        clear hr9 hb9
        have hi : (Tryd.prog.info? 31).map (·.size) = some 4 := by kernel_rfl
        have hall : (cvs o A c).toArray.all (·.oneCell') = true := by simp [cvs, Value.oneCell']
        have hcz : (#[Value.int .i64 0, .int .u8 0, .slice none 0 0, .int .i64 0] : Array Value).size = (cvs o A c).toArray.size := rfl
        go_upto_block 2 with (first | ((with_reducible refine wpList_gate ?_); (refine wpList_load_any rfl 31 _ rfl _ rfl (cvs o A c) _ HCL.out.cells Tryd.underlying31 rfl hi ?_)) | ((with_reducible refine wpList_gate ?_); (refine wpList_store_new rfl 31 _ _ rfl _ (cvs o A c).toArray rfl rfl hi hcz hall ?_; generalize World.alloc wr _ = w9 at *)))
        generalize wr.heap.size = bx at *
        generalize bits BinOp.and IntKind.i64 o.what 7 = rb at *
        go_cut [8, 9, 10] (fun e f sm wx => ∃ (s' : Jm.St) (er : Int), e = .int .i64 er ∧ f = .int .i64 er ∧ sm = .bool true ∧ Hid (Jm.size s' ≤ wt (os.take (k + 1))) ∧ Hid (Two (fun _ => False) w wx g1 g2 s' s'))
        case first =>
          by_cases r0 : (rb == 0) = true
          · skip
            have hown := own_empty w9 w9.heap.size (Nat.le_refl _)
            obtain ⟨i0, hi0, hz0, hz1, hz2⟩ := info_parts info_u8
            have x2a : (w9.alloc (.cells #[] 5)).cell? ⟨bx, 2, none⟩ = some (.slice A o.body.length c) := (World.cell?_alloc_lt _ _ _ HX9.out).trans x2
            have HRD := Lib.hid ((HR0.out.below T9.out.bel).alloc T9.out.bel.size (.cells #[] 5))
            have HX1 := Lib.hid x1
            have HX2 := Lib.hid x2
            clear x0 x1 x2 x3
            go_wp2_with (at_builtin; go_must (refine wpList_app rfl _ _ 29 rfl w9.heap.size 5 i0 (.int .u8 0) 1 Tryd.underlying29 hi0 hz0 hz1 hz2 rfl _ _ _ rfl hown w.heap.size A o.body.length c (u8s o.body) rfl (by rw [List.length_map]) HRD.out (oneCell_ints _ _) (by unfold maxLen; omega) (by omega) (by simp) ?_); intro v10 w10 hown10 hgrow10 _; have hb10 := below_app ((Below.refl _ w9).alloc (Nat.le_refl _) _) hown hgrow10 (by simp); rw [List.nil_append, Nat.zero_add] at hown10; obtain ⟨A10, c10, rfl, hc10, hm10, hr10⟩ := own_view hown10; have x1' := (World.cell?_of_block (hb10.block bx HX9.out)).trans HX1.out; have x2' := (World.cell?_of_block (hb10.block bx HX9.out)).trans HX2.out; have T10 := Lib.hid ((T9.out.below hb10).weak (N' := fun b => b = bx ∨ (Value.slice A10 o.body.length c10).ownBlock = some b) (fun b q => q.elim .inl (fun q => .inr (hown10.lt b q)))); have HOW := Lib.hid hown10; have HRO := Lib.hid hr10; have HZ10 := Lib.hid (show w.heap.size ≤ w9.heap.size ∧ w9.heap.size ≤ w10.heap.size from ⟨T9.out.bel.size, hb10.size⟩); clear hown hgrow10 hb10 hown10 x2a hr10)
            have H10 := Lib.hid (append_l T10.out HT.out o.kind A10 o.body.length c10 w10.heap.size o.body HCK.out HRO.out rfl hc10 hm10 (Nat.le_refl _) HBY.out (by omega))
            refine H10.out.mono ?_
            rintro e w11 ⟨rfl, t11, k11⟩
            have y1 := k11.cell x1' (.inl rfl)
            have y2 := k11.cell x2' (.inl rfl)
            have H11 := Lib.hid (append_r t11 o.kind A o.body.length c w.heap.size o.body HCK.out (HR0.out.below t11.bel) rfl HLC.out HCM.out t11.bel.size HBY.out (by omega))
            have HO11 := Lib.hid (k11.own HOW.out (fun b q => .inr q))
            clear t11 k11 x1' x2' HOW HRO H10
            go_wp2_with (go_at_call 13; fail)
            refine H11.out.mono ?_
            rintro e w12 ⟨rfl, t12, k12⟩
            have HO12 := Lib.hid (k12.own HO11.out (fun b q => .inr q))
            have T12 := Lib.hid t12
            clear t12 k12 y1 y2 HO11 H11
            have HSA := Lib.hid (Jm.size_append s o.kind o.body).1
            generalize Jm.append s o.kind o.body = r5 at *
            obtain ⟨s5, er⟩ := r5
            dsimp only at *
            go_wp2_with fail
            go_loopg [12] o.body.length (fun gj ix wj => ∃ (m : Nat) (us : List Int), gj + m = o.body.length ∧ ix = .int .i64 (m : Int) ∧ us.length = o.body.length ∧ wj.ownsRow w9.heap.size 5 1 (.slice A10 o.body.length c10) o.body.length (u8s us) ∧ Hid (Two (fun b => b = bx ∨ (Value.slice A10 o.body.length c10).ownBlock = some b) w wj g1 g2 s5 s5))
            case atStart => exact ⟨0, o.body, by omega, rfl, rfl, HO12.out, T12⟩
            case round =>
              obtain ⟨m, us, hm, rfl, hul, hown, HK⟩ := hrel
              by_cases hml : m < o.body.length
              · obtain ⟨g, cap', hv, hge, hgl⟩ := hown.form (by omega)
                obtain rfl : A10 = some ⟨g, 0, none⟩ := by injection hv
                obtain ⟨y, hy⟩ : ∃ y, us[m]? = some y := ⟨us[m], List.getElem?_eq_getElem (by omega)⟩
                have hcl : wr.cell? ⟨g, m, none⟩ = some (.int .u8 y) := by rw [hown.cellAt m (by omega), List.getElem?_map, hy]; rfl
                have hfz := hown.frozenAt m
                have hst := hown.stored m (.int .u8 ((y + 1) % 256))
                rw [u8s_set] at hst
                have HS1 := Lib.hid hst.1
                have HK2 := Lib.hid (HK.out.grown (grown_set1 g m (.int .u8 ((y + 1) % 256)) wr) (.inr rfl) (by have := HZ10.out.1; omega))
                have HUL : Hid ((us.set m ((y + 1) % 256)).length = o.body.length) := by
                  show _ = _
                  rw [List.length_set]; exact hul
                have d5 : (m : Int) < (o.body.length : Int) := by omega
                clear HK hst hown hv hy hul
                go_wp2
                go_roundg (gk - 1)
                case measure => omega
                case rel => exact ⟨m + 1, _, by omega, by go_num, HUL.out, HS1.out, HK2⟩
              · have hml' : m = o.body.length := by omega
                have T13 := Lib.hid (HK.out.weak (N' := fun _ => False) (fun _ q => q.elim))
                clear HK hown
                subst hml'
                go_wp2
                go_meet
                case rel => exact ⟨s5, er, rfl, rfl, rfl, Lib.hid (Nat.le_trans HSA.out (by have := HS.out; rw [HWT.out]; omega)), T13⟩
          have r0' : (rb == 0) = false := by simpa using r0
          clear r0
          by_cases r1 : (rb == 1) = true
          · skip
            have hown := own_empty w9 w9.heap.size (Nat.le_refl _)
            obtain ⟨i0, hi0, hz0, hz1, hz2⟩ := info_parts info_u8
            have x2a : (w9.alloc (.cells #[] 5)).cell? ⟨bx, 2, none⟩ = some (.slice A o.body.length c) := (World.cell?_alloc_lt _ _ _ HX9.out).trans x2
            have HRD := Lib.hid ((HR0.out.below T9.out.bel).alloc T9.out.bel.size (.cells #[] 5))
            have HX1 := Lib.hid x1
            have HX2 := Lib.hid x2
            clear x0 x1 x2 x3
            go_wp2_with (at_builtin; go_must (refine wpList_app rfl _ _ 29 rfl w9.heap.size 5 i0 (.int .u8 0) 1 Tryd.underlying29 hi0 hz0 hz1 hz2 rfl _ _ _ rfl hown w.heap.size A o.body.length c (u8s o.body) rfl (by rw [List.length_map]) HRD.out (oneCell_ints _ _) (by unfold maxLen; omega) (by omega) (by simp) ?_); intro v10 w10 hown10 hgrow10 _; have hb10 := below_app ((Below.refl _ w9).alloc (Nat.le_refl _) _) hown hgrow10 (by simp); rw [List.nil_append, Nat.zero_add] at hown10; obtain ⟨A10, c10, rfl, hc10, hm10, hr10⟩ := own_view hown10; have x1' := (World.cell?_of_block (hb10.block bx HX9.out)).trans HX1.out; have x2' := (World.cell?_of_block (hb10.block bx HX9.out)).trans HX2.out; have T10 := Lib.hid ((T9.out.below hb10).weak (N' := fun b => b = bx ∨ (Value.slice A10 o.body.length c10).ownBlock = some b) (fun b q => q.elim .inl (fun q => .inr (hown10.lt b q)))); have HOW := Lib.hid hown10; have HRO := Lib.hid hr10; have HZ10 := Lib.hid (show w.heap.size ≤ w9.heap.size ∧ w9.heap.size ≤ w10.heap.size from ⟨T9.out.bel.size, hb10.size⟩); clear hown hgrow10 hb10 hown10 x2a hr10)
            have H10 := Lib.hid (append_l T10.out HT.out o.kind A10 o.body.length c10 w10.heap.size o.body HCK.out HRO.out rfl hc10 hm10 (Nat.le_refl _) HBY.out (by omega))
            refine H10.out.mono ?_
            rintro e w11 ⟨rfl, t11, k11⟩
            have y1 := k11.cell x1' (.inl rfl)
            have y2 := k11.cell x2' (.inl rfl)
            have H11 := Lib.hid (append_r t11 o.kind A o.body.length c w.heap.size o.body HCK.out (HR0.out.below t11.bel) rfl HLC.out HCM.out t11.bel.size HBY.out (by omega))
            have HO11 := Lib.hid (k11.own HOW.out (fun b q => .inr q))
            clear t11 k11 x1' x2' HOW HRO H10
            go_wp2_with (go_at_call 13; fail)
            refine H11.out.mono ?_
            rintro e w12 ⟨rfl, t12, k12⟩
            have HO12 := Lib.hid (k12.own HO11.out (fun b q => .inr q))
            have T12 := Lib.hid t12
            clear t12 k12 y1 y2 HO11 H11
            have HSA := Lib.hid (Jm.size_append s o.kind o.body).1
            generalize Jm.append s o.kind o.body = r5 at *
            obtain ⟨s5, er⟩ := r5
            dsimp only at *
            go_wp2_with fail
            go_loopg [12] o.body.length (fun gj ix wj => ∃ (m : Nat) (us : List Int), gj + m = o.body.length ∧ ix = .int .i64 (m : Int) ∧ us.length = o.body.length ∧ wj.ownsRow w9.heap.size 5 1 (.slice A10 o.body.length c10) o.body.length (u8s us) ∧ Hid (Two (fun b => b = bx ∨ (Value.slice A10 o.body.length c10).ownBlock = some b) w wj g1 g2 s5 s5))
            case atStart => exact ⟨0, o.body, by omega, rfl, rfl, HO12.out, T12⟩
            case round =>
              obtain ⟨m, us, hm, rfl, hul, hown, HK⟩ := hrel
              by_cases hml : m < o.body.length
              · obtain ⟨g, cap', hv, hge, hgl⟩ := hown.form (by omega)
                obtain rfl : A10 = some ⟨g, 0, none⟩ := by injection hv
                obtain ⟨y, hy⟩ : ∃ y, us[m]? = some y := ⟨us[m], List.getElem?_eq_getElem (by omega)⟩
                have hcl : wr.cell? ⟨g, m, none⟩ = some (.int .u8 y) := by rw [hown.cellAt m (by omega), List.getElem?_map, hy]; rfl
                have hfz := hown.frozenAt m
                have hst := hown.stored m (.int .u8 ((y + 1) % 256))
                rw [u8s_set] at hst
                have HS1 := Lib.hid hst.1
                have HK2 := Lib.hid (HK.out.grown (grown_set1 g m (.int .u8 ((y + 1) % 256)) wr) (.inr rfl) (by have := HZ10.out.1; omega))
                have HUL : Hid ((us.set m ((y + 1) % 256)).length = o.body.length) := by
                  show _ = _
                  rw [List.length_set]; exact hul
                have d5 : (m : Int) < (o.body.length : Int) := by omega
                clear HK hst hown hv hy hul
                go_wp2
                go_roundg (gk - 1)
                case measure => omega
                case rel => exact ⟨m + 1, _, by omega, by go_num, HUL.out, HS1.out, HK2⟩
              · have hml' : m = o.body.length := by omega
                have T13 := Lib.hid (HK.out.weak (N' := fun _ => False) (fun _ q => q.elim))
                clear HK hown
                subst hml'
                go_wp2
                go_meet
                case rel => exact ⟨s5, er, rfl, rfl, rfl, Lib.hid (Nat.le_trans HSA.out (by have := HS.out; rw [HWT.out]; omega)), T13⟩
          have r1' : (rb == 1) = false := by simpa using r1
          clear r1
          by_cases r2 : (rb == 2) = true
          · skip
            have H10 := Lib.hid (sync_l T9.out (by omega))
            clear x0 x1 x2 x3
            go_wp2_with (go_at_call 14; fail)
            refine H10.out.mono ?_
            rintro e w10 ⟨rfl, t10, k10⟩
            have H11 := Lib.hid (sync_r t10 (by omega))
            clear t10 k10 H10
            go_wp2_with (go_at_call 15; fail)
            refine H11.out.mono ?_
            rintro e w11 ⟨rfl, t11, -⟩
            have T12 := Lib.hid (t11.weak (N' := fun _ => False) (fun _ q => q.elim))
            have HSA : Hid (Jm.size (Jm.sync s).1 ≤ Jm.size s) := (by show _ ≤ _; rw [Jm.size_sync]; exact Nat.le_refl _)
            clear t11 H11
            go_wp2_with fail
            go_meet
            case rel => exact ⟨(Jm.sync s).1, (Jm.sync s).2, rfl, rfl, rfl, Lib.hid (Nat.le_trans HSA.out (by have := HS.out; rw [HWT.out]; omega)), T12⟩
          have r2' : (rb == 2) = false := by simpa using r2
          clear r2
          by_cases r3 : (rb == 3) = true
          · skip
            have H10 := Lib.hid (sync_l T9.out (by omega))
            clear x0 x1 x2 x3
            go_wp2_with (go_at_call 14; fail)
            refine H10.out.mono ?_
            rintro e w10 ⟨rfl, t10, k10⟩
            have H11 := Lib.hid (sync_r t10 (by omega))
            clear t10 k10 H10
            go_wp2_with (go_at_call 15; fail)
            refine H11.out.mono ?_
            rintro e w11 ⟨rfl, t11, -⟩
            have T12 := Lib.hid (t11.weak (N' := fun _ => False) (fun _ q => q.elim))
            have HSA : Hid (Jm.size (Jm.sync s).1 ≤ Jm.size s) := (by show _ ≤ _; rw [Jm.size_sync]; exact Nat.le_refl _)
            clear t11 H11
            go_wp2_with fail
            go_meet
            case rel => exact ⟨(Jm.sync s).1, (Jm.sync s).2, rfl, rfl, rfl, Lib.hid (Nat.le_trans HSA.out (by have := HS.out; rw [HWT.out]; omega)), T12⟩
          have r3' : (rb == 3) = false := by simpa using r3
          clear r3
          by_cases r4 : (rb == 4) = true
          · skip
            have H10 := Lib.hid (effect_l T9.out)
            clear x0 x1 x2 x3
            go_wp2_with (go_at_call 16; fail)
            refine H10.out.mono ?_
            rintro e w10 ⟨rfl, t10, k10⟩
            have H11 := Lib.hid (effect_r t10)
            clear t10 k10 H10
            go_wp2_with (go_at_call 17; fail)
            refine H11.out.mono ?_
            rintro e w11 ⟨rfl, t11, -⟩
            have T12 := Lib.hid (t11.weak (N' := fun _ => False) (fun _ q => q.elim))
            have HSA : Hid (Jm.size (Jm.eff s).1 ≤ Jm.size s) := (by show _ ≤ _; rw [Jm.size_eff]; exact Nat.le_refl _)
            clear t11 H11
            go_wp2_with fail
            go_meet
            case rel => exact ⟨(Jm.eff s).1, (Jm.eff s).2, rfl, rfl, rfl, Lib.hid (Nat.le_trans HSA.out (by have := HS.out; rw [HWT.out]; omega)), T12⟩
          have r4' : (rb == 4) = false := by simpa using r4
          clear r4
          by_cases r5 : (rb == 5) = true
          · skip
            have H10 := Lib.hid (fuse_l T9.out o.num HNM.out.2)
            have HX3 := Lib.hid x3
            clear x0 x1 x2
            go_wp2_with (go_at_call 18; fail)
            refine H10.out.mono ?_
            rintro e w10 ⟨rfl, t10, k10⟩
            have y3 := k10.cell HX3.out rfl
            have H11 := Lib.hid (fuse_r t10 o.num HNM.out.2)
            clear t10 k10 H10 x3
            go_wp2_with (go_at_call 19; fail)
            refine H11.out.mono ?_
            rintro e w11 ⟨rfl, t11, -⟩
            have T12 := Lib.hid (t11.weak (N' := fun _ => False) (fun _ q => q.elim))
            have HSA : Hid (Jm.size (Jm.fuse s o.num) ≤ Jm.size s) := (by show _ ≤ _; exact Nat.le_refl _)
            clear t11 H11 y3
            go_wp2_with fail
            go_meet
            case rel => exact ⟨Jm.fuse s o.num, 0, rfl, rfl, rfl, Lib.hid (Nat.le_trans HSA.out (by have := HS.out; rw [HWT.out]; omega)), T12⟩
          have r5' : (rb == 5) = false := by simpa using r5
          clear r5
          by_cases r6 : (rb == 6) = true
          · skip
            have H10 := Lib.hid (crash_l T9.out o.num (by omega))
            have HX3 := Lib.hid x3
            clear x0 x1 x2
            go_wp2_with (go_at_call 20; fail)
            refine H10.out.mono ?_
            rintro e w10 ⟨rfl, t10, k10⟩
            have y3 := k10.cell HX3.out rfl
            have H11 := Lib.hid (crash_r t10 o.num (by omega))
            clear t10 k10 H10 x3
            go_wp2_with (go_at_call 21; fail)
            refine H11.out.mono ?_
            rintro e w11 ⟨rfl, t11, -⟩
            have T12 := Lib.hid (t11.weak (N' := fun _ => False) (fun _ q => q.elim))
            have HSA : Hid (Jm.size (Jm.crash s o.num) ≤ Jm.size s) := (by show _ ≤ _; exact Jm.size_crash s o.num)
            clear t11 H11 y3
            go_wp2_with fail
            go_meet
            case rel => exact ⟨Jm.crash s o.num, 0, rfl, rfl, rfl, Lib.hid (Nat.le_trans HSA.out (by have := HS.out; rw [HWT.out]; omega)), T12⟩
          have r6' : (rb == 6) = false := by simpa using r6
          clear r6
          by_cases r7 : (rb == 7) = true
          · skip
            have H10 := Lib.hid (open_l T9.out HT.out (by omega))
            have HBo := Lib.hid (opn_by T9.out.ok1)
            clear x0 x1 x2 x3
            go_wp2_with (go_at_call 22; fail)
            refine H10.out.mono ?_
            rintro e w10 ⟨k10, b10, rfl, told10, t10, q10⟩
            have H11 := Lib.hid (open_r t10 (by omega))
            have HT10 := Lib.hid told10
            obtain ⟨A1, c1, -, A2, c2, rfl, rfl, -⟩ := told10.outF
            clear told10 t10 q10 H10
            go_wp2_with (go_at_call 23; fail)
            refine H11.out.mono ?_
            rintro e w11 ⟨k11, b11, rfl, told11, t11, q11⟩
            have told12 : Told w9.heap.size w11 _ _ (Jm.opn s).2.1 := Acc.keep HT10.out q11.1 (fun b h1 h2 => q11.2 b (.inr ⟨h1, h2⟩))
            obtain ⟨A3, c3, vs3, A4, c4, e31, e32, m3, m4, rk3, rb3, bd3⟩ := told12.outF
            obtain ⟨A5, c5, vs5, A6, c6, e51, e52, m5, m6, rk5, rb5, bd5⟩ := told11.outF
            cases e31
            cases e32
            subst e51 e52
            have z1 := str_of (cap := c1) rk3 (by rw [List.length_map])
            have z2 := str_of (cap := c5) rk5 (by rw [List.length_map])
            have HSM := Lib.hid (Same_any _ _ _ _ c2 c6 _ _ vs3 vs5 _ _ w11 rb3 rb5 bd3 bd5 (by rw [List.length_map]) (by rw [List.length_map]) (Nat.le_trans m4.1 m4.2) HBo.out.2 HBo.out.2)
            have T11 := Lib.hid (t11.weak (N' := fun _ => False) (fun _ q => q.elim))
            have HSA : Hid (Jm.size (Jm.opn s).1 ≤ Jm.size s) := Jm.size_opn s
            have HSB := Lib.hid (str_beq HBo.out.1 HBo.out.1)
            rw [decide_eq_true rfl] at HSM
            clear told12 told11 t11 q11 rk3 rb3 bd3 rk5 rb5 bd5 HT10 H11 m3 m5 m4 m6
            generalize Jm.opn s = r5 at *
            obtain ⟨s5, l5, er⟩ := r5
            dsimp only at *
            go_wp2_with (go_at_call 24; refine HSM.out.mono ?_; rintro e w12 ⟨rfl, nd, rfl⟩)
            go_meet
            case rel => exact ⟨s5, er, rfl, rfl, rfl, Lib.hid (Nat.le_trans HSA.out (by have := HS.out; rw [HWT.out]; omega)), Lib.hid ((T11.out.below (below_drawn (Below.refl _ _) nd)).weak (fun _ q => q.elim))⟩
          have r7' : (rb == 7) = false := by simpa using r7
          clear r7
          have T12 := Lib.hid (T9.out.weak (N' := fun _ => False) (fun _ q => q.elim))
          clear x0 x1 x2 x3
          go_wp2
          go_meet
          case rel => exact ⟨s, 0, rfl, rfl, rfl, Lib.hid (by have := HS.out; rw [HWT.out]; omega), T12⟩
        case rest =>
          obtain ⟨s', er, rfl, rfl, rfl, HS2, HO2⟩ := hcut
          have hz2 : Jm.size s' ≤ 200000 := Nat.le_trans HS2.out (by have h2 := wt_le (os := os) (k + 1); have h3 := HW.out; omega)
          have HDN := Lib.hid (fun (W : World) (q : Below wc.heap.size wc W) => down_l (HO2.out.below q))
          have HSN := Lib.hid (fun (W : World) (q : Below wc.heap.size wc W) => synced_l (HO2.out.below q) (by omega))
          have HTL := Lib.hid (fun (W : World) (q : Below wc.heap.size wc W) => tail_l (HO2.out.below q) (by omega))
          obtain ⟨A1, c1, A2, c2, d1, d2, d3', rd1, rd2, hlt2⟩ := HO2.out.cells
          have HD1 := Lib.hid (fun (W : World) (q : Below wc.heap.size wc W) => (q.cell (p := ⟨g2, 0, none⟩) hlt2).trans d1)
          have HD2 := Lib.hid (fun (W : World) (q : Below wc.heap.size wc W) => (q.cell (p := ⟨g2, 1, none⟩) hlt2).trans d2)
          have HD3 := Lib.hid (fun (W : World) (q : Below wc.heap.size wc W) => (q.cell (p := ⟨g2, 3, none⟩) hlt2).trans d3')
          have HR1 := Lib.hid (fun (W : World) (q : Below wc.heap.size wc W) => str_of (cap := c1) (rd1.below q) rfl)
          have HR2 := Lib.hid (fun (W : World) (q : Below wc.heap.size wc W) => str_of (cap := c2) (rd2.below q) rfl)
          clear d1 d2 d3' rd1 rd2 hlt2 x0 x1 x2 x3 T9 R9 HX9
          generalize hoff : s'.off = off at *
          clear hoff
          go_wp2_with fail
          refine region_C (fun W => Below wc.heap.size wc W) (by kernel_rfl) ?_
          have hC : Below wc.heap.size wc wc.drew := (Below.refl _ _).drew
          refine anyC_take (i := 0) (v := ?v0_1) (a' := ?a0_1) rfl (by kernel_rfl) (by kernel_rfl) (by kernel_rfl) (fun _ _ _ h => h) hC ?w0_1 ?y0_1 ?f0_1 ?r0_1
          case w0_1 => kernel_rfl
          case y0_1 => (intro w hC; go_simp; try with_reducible rfl)
          case f0_1 => (go_simp; try with_reducible rfl)
          refine anyC_take (i := 1) (v := ?v1_2) (a' := ?a1_2) rfl (by kernel_rfl) (by kernel_rfl) (by kernel_rfl) (fun _ _ _ h => h) hC ?w1_2 ?y1_2 ?f1_2 ?r1_2
          case w1_2 => kernel_rfl
          case y1_2 => (intro w hC; go_simp; try with_reducible rfl)
          case f1_2 => (go_simp; try with_reducible rfl)
          refine anyC_take (i := 2) (v := ?v2_3) (a' := ?a2_3) rfl (by kernel_rfl) (by kernel_rfl) (by kernel_rfl) (fun _ _ _ h => h) hC ?w2_3 ?y2_3 ?f2_3 ?r2_3
          case w2_3 => kernel_rfl
          case y2_3 => (intro w hC; go_simp; try with_reducible rfl)
          case f2_3 => (go_simp; try with_reducible rfl)
          refine anyC_take (i := 3) (v := ?v3_4) (a' := ?a3_4) rfl (by kernel_rfl) (by kernel_rfl) (by kernel_rfl) (fun _ _ _ h => h) hC ?w3_4 ?y3_4 ?f3_4 ?r3_4
          case w3_4 => kernel_rfl
          case y3_4 => (intro w hC; go_simp; try with_reducible rfl)
          case f3_4 => (go_simp; try with_reducible rfl)
          refine anyC_take (i := 4) (v := ?v4_5) (a' := ?a4_5) rfl (by kernel_rfl) (by kernel_rfl) (by kernel_rfl) (fun _ _ _ h => h) hC ?w4_5 ?y4_5 ?f4_5 ?r4_5
          case w4_5 => kernel_rfl
          case y4_5 => (intro w hC; go_simp; try with_reducible rfl)
          case f4_5 => (go_simp; try with_reducible rfl)
          refine anyC_take (i := 5) (v := ?v5_6) (a' := ?a5_6) rfl (by kernel_rfl) (by kernel_rfl) (by kernel_rfl) (fun _ _ _ h => h) hC ?w5_6 ?y5_6 ?f5_6 ?r5_6
          case w5_6 => kernel_rfl
          case y5_6 => (intro w hC; go_simp; try with_reducible rfl)
          case f5_6 => (go_simp; try with_reducible rfl)
          refine anyC_take (i := 6) (v := ?v6_7) (a' := ?a6_7) rfl (by kernel_rfl) (by kernel_rfl) (by kernel_rfl) (fun _ _ _ h => h) hC ?w6_7 ?y6_7 ?f6_7 ?r6_7
          case w6_7 => kernel_rfl
          case y6_7 => (intro w hC; go_simp; try with_reducible rfl)
          case f6_7 => (go_simp; try with_reducible rfl)
          refine anyC_take (i := 7) (v := ?v7_8) (a' := ?a7_8) rfl (by kernel_rfl) (by kernel_rfl) (by kernel_rfl) (fun _ _ _ h => h) hC ?w7_8 ?y7_8 ?f7_8 ?r7_8
          case w7_8 => kernel_rfl
          case y7_8 => (intro w hC; go_simp; try with_reducible rfl)
          case f7_8 => (go_simp; try with_reducible rfl)
          refine anyC_take (i := 8) (v := ?v8_9) (a' := ?a8_9) rfl (by kernel_rfl) (by kernel_rfl) (by kernel_rfl) (fun _ _ _ h => h) hC ?w8_9 ?y8_9 ?f8_9 ?r8_9
          case w8_9 => kernel_rfl
          case y8_9 => (intro w hC; go_simp; try with_reducible rfl)
          case f8_9 => (go_simp; try with_reducible rfl)
          refine anyC_call (i := 9) (a' := ?a9_10) rfl (by kernel_rfl) (by kernel_rfl) (by kernel_rfl) (fun _ _ _ h => h) hC (fun W hW => (HDN.out W hW)) (by kernel_rfl) ?y9_10 ?f9_10 ?r9_10
          case y9_10 => (intro W hW; go_simp; try with_reducible rfl)
          case f9_10 => (go_simp; try with_reducible rfl)
          refine anyC_take (i := 10) (v := ?v10_11) (a' := ?a10_11) rfl (by kernel_rfl) (by kernel_rfl) (by kernel_rfl) (fun _ _ _ h => h) hC ?w10_11 ?y10_11 ?f10_11 ?r10_11
          case w10_11 => kernel_rfl
          case y10_11 => (intro w hC; go_simp; try with_reducible rfl)
          case f10_11 => (go_simp; try with_reducible rfl)
          refine anyC_take (i := 11) (v := ?v11_12) (a' := ?a11_12) rfl (by kernel_rfl) (by kernel_rfl) (by kernel_rfl) (fun _ _ _ h => h) hC ?w11_12 ?y11_12 ?f11_12 ?r11_12
          case w11_12 => kernel_rfl
          case y11_12 => (intro w hC; go_simp; try with_reducible rfl)
          case f11_12 => (go_simp; try with_reducible rfl)
          refine anyC_take (i := 12) (v := ?v12_13) (a' := ?a12_13) rfl (by kernel_rfl) (by kernel_rfl) (by kernel_rfl) (fun _ _ _ h => h) hC ?w12_13 ?y12_13 ?f12_13 ?r12_13
          case w12_13 => kernel_rfl
          case y12_13 => (intro w hC; go_simp; try with_reducible rfl)
          case f12_13 => (go_simp; try with_reducible rfl)
          refine anyC_take (i := 13) (v := ?v13_14) (a' := ?a13_14) rfl (by kernel_rfl) (by kernel_rfl) (by kernel_rfl) (fun _ _ _ h => h) hC ?w13_14 ?y13_14 ?f13_14 ?r13_14
          case w13_14 => kernel_rfl
          case y13_14 => (intro w hC; have h4 := HD3.out w hC; go_simp; try with_reducible rfl)
          case f13_14 => (go_simp; try with_reducible rfl)
          refine anyC_take (i := 14) (v := ?v14_15) (a' := ?a14_15) rfl (by kernel_rfl) (by kernel_rfl) (by kernel_rfl) (fun _ _ _ h => h) hC ?w14_15 ?y14_15 ?f14_15 ?r14_15
          case w14_15 => kernel_rfl
          case y14_15 => (intro w hC; go_simp; try with_reducible rfl)
          case f14_15 => (go_simp; try with_reducible rfl)
          refine anyC_take (i := 15) (v := ?v15_16) (a' := ?a15_16) rfl (by kernel_rfl) (by kernel_rfl) (by kernel_rfl) (fun _ _ _ h => h) hC ?w15_16 ?y15_16 ?f15_16 ?r15_16
          case w15_16 => kernel_rfl
          case y15_16 => (intro w hC; go_simp; try with_reducible rfl)
          case f15_16 => (go_simp; try with_reducible rfl)
          refine anyC_take (i := 16) (v := ?v16_17) (a' := ?a16_17) rfl (by kernel_rfl) (by kernel_rfl) (by kernel_rfl) (fun _ _ _ h => h) hC ?w16_17 ?y16_17 ?f16_17 ?r16_17
          case w16_17 => kernel_rfl
          case y16_17 => (intro w hC; go_simp; try with_reducible rfl)
          case f16_17 => (go_simp; try with_reducible rfl)
          refine anyC_take (i := 17) (v := ?v17_18) (a' := ?a17_18) rfl (by kernel_rfl) (by kernel_rfl) (by kernel_rfl) (fun _ _ _ h => h) hC ?w17_18 ?y17_18 ?f17_18 ?r17_18
          case w17_18 => kernel_rfl
          case y17_18 => (intro w hC; go_simp; try with_reducible rfl)
          case f17_18 => (go_simp; try with_reducible rfl)
          refine anyC_take (i := 20) (v := ?v20_19) (a' := ?a20_19) rfl (by kernel_rfl) (by kernel_rfl) (by kernel_rfl) (fun _ _ _ h => h) hC ?w20_19 ?y20_19 ?f20_19 ?r20_19
          case w20_19 => kernel_rfl
          case y20_19 => (intro w hC; go_simp; try with_reducible rfl)
          case f20_19 => (go_simp; try with_reducible rfl)
          refine anyC_take (i := 21) (v := ?v21_20) (a' := ?a21_20) rfl (by kernel_rfl) (by kernel_rfl) (by kernel_rfl) (fun _ _ _ h => h) hC ?w21_20 ?y21_20 ?f21_20 ?r21_20
          case w21_20 => kernel_rfl
          case y21_20 => (intro w hC; go_simp; try with_reducible rfl)
          case f21_20 => (go_simp; try with_reducible rfl)
          refine anyC_take (i := 22) (v := ?v22_21) (a' := ?a22_21) rfl (by kernel_rfl) (by kernel_rfl) (by kernel_rfl) (fun _ _ _ h => h) hC ?w22_21 ?y22_21 ?f22_21 ?r22_21
          case w22_21 => kernel_rfl
          case y22_21 => (intro w hC; go_simp; try with_reducible rfl)
          case f22_21 => (go_simp; try with_reducible rfl)
          refine anyC_take (i := 23) (v := ?v23_22) (a' := ?a23_22) rfl (by kernel_rfl) (by kernel_rfl) (by kernel_rfl) (fun _ _ _ h => h) hC ?w23_22 ?y23_22 ?f23_22 ?r23_22
          case w23_22 => kernel_rfl
          case y23_22 => (intro w hC; have h4 := HD1.out w hC; go_simp; try with_reducible rfl)
          case f23_22 => (go_simp; try with_reducible rfl)
          refine anyC_take (i := 24) (v := ?v24_23) (a' := ?a24_23) rfl (by kernel_rfl) (by kernel_rfl) (by kernel_rfl) (fun _ _ _ h => h) hC ?w24_23 ?y24_23 ?f24_23 ?r24_23
          case w24_23 => kernel_rfl
          case y24_23 => (intro w hC; have h4 := HR1.out w hC; go_simp; try with_reducible rfl)
          case f24_23 => (go_simp; try with_reducible rfl)
          refine anyC_one (i := 18) rfl (by kernel_rfl) (by kernel_rfl) (fun K hK => ?_)
          go_simp
          refine (HSN.out _ hC).mono ?_
          rintro e w20 ⟨v20, rfl, hown20, hb20⟩
          obtain ⟨A20, c20, rfl, -, -, hrd20⟩ := own_view hown20
          have hC20 : Below wc.heap.size wc w20 := hC.trans (hb20.mono (by exact Nat.le_refl _))
          have z20 := str_of (cap := c20) hrd20 rfl
          refine hK _ _ ⟨hC20, ?_⟩
          clear hK K hown20 hb20 hrd20
          refine anyC_one (i := 19) rfl (by kernel_rfl) (by kernel_rfl) (fun K hK => ?_)
          go_simp
          refine hK _ _ ⟨hC20, ?_⟩
          clear hK K z20
          refine anyC_take (i := 25) (v := ?v25_24) (a' := ?a25_24) rfl (by kernel_rfl) (by kernel_rfl) (by kernel_rfl) (fun _ _ _ h => h) hC20 ?w25_24 ?y25_24 ?f25_24 ?r25_24
          case w25_24 => kernel_rfl
          case y25_24 => (intro w hC; go_simp; try with_reducible rfl)
          case f25_24 => (go_simp; try with_reducible rfl)
          refine anyC_take (i := 26) (v := ?v26_25) (a' := ?a26_25) rfl (by kernel_rfl) (by kernel_rfl) (by kernel_rfl) (fun _ _ _ h => h) hC20 ?w26_25 ?y26_25 ?f26_25 ?r26_25
          case w26_25 => kernel_rfl
          case y26_25 => (intro w hC; go_simp; try with_reducible rfl)
          case f26_25 => (go_simp; try with_reducible rfl)
          refine anyC_take (i := 27) (v := ?v27_26) (a' := ?a27_26) rfl (by kernel_rfl) (by kernel_rfl) (by kernel_rfl) (fun _ _ _ h => h) hC20 ?w27_26 ?y27_26 ?f27_26 ?r27_26
          case w27_26 => kernel_rfl
          case y27_26 => (intro w hC; go_simp; try with_reducible rfl)
          case f27_26 => (go_simp; try with_reducible rfl)
          refine anyC_take (i := 28) (v := ?v28_27) (a' := ?a28_27) rfl (by kernel_rfl) (by kernel_rfl) (by kernel_rfl) (fun _ _ _ h => h) hC20 ?w28_27 ?y28_27 ?f28_27 ?r28_27
          case w28_27 => kernel_rfl
          case y28_27 => (intro w hC; go_simp; try with_reducible rfl)
          case f28_27 => (go_simp; try with_reducible rfl)
          refine anyC_take (i := 31) (v := ?v31_28) (a' := ?a31_28) rfl (by kernel_rfl) (by kernel_rfl) (by kernel_rfl) (fun _ _ _ h => h) hC20 ?w31_28 ?y31_28 ?f31_28 ?r31_28
          case w31_28 => kernel_rfl
          case y31_28 => (intro w hC; go_simp; try with_reducible rfl)
          case f31_28 => (go_simp; try with_reducible rfl)
          refine anyC_take (i := 32) (v := ?v32_29) (a' := ?a32_29) rfl (by kernel_rfl) (by kernel_rfl) (by kernel_rfl) (fun _ _ _ h => h) hC20 ?w32_29 ?y32_29 ?f32_29 ?r32_29
          case w32_29 => kernel_rfl
          case y32_29 => (intro w hC; go_simp; try with_reducible rfl)
          case f32_29 => (go_simp; try with_reducible rfl)
          refine anyC_take (i := 33) (v := ?v33_30) (a' := ?a33_30) rfl (by kernel_rfl) (by kernel_rfl) (by kernel_rfl) (fun _ _ _ h => h) hC20 ?w33_30 ?y33_30 ?f33_30 ?r33_30
          case w33_30 => kernel_rfl
          case y33_30 => (intro w hC; go_simp; try with_reducible rfl)
          case f33_30 => (go_simp; try with_reducible rfl)
          refine anyC_take (i := 34) (v := ?v34_31) (a' := ?a34_31) rfl (by kernel_rfl) (by kernel_rfl) (by kernel_rfl) (fun _ _ _ h => h) hC20 ?w34_31 ?y34_31 ?f34_31 ?r34_31
          case w34_31 => kernel_rfl
          case y34_31 => (intro w hC; have h4 := HD2.out w hC; go_simp; try with_reducible rfl)
          case f34_31 => (go_simp; try with_reducible rfl)
          refine anyC_take (i := 35) (v := ?v35_32) (a' := ?a35_32) rfl (by kernel_rfl) (by kernel_rfl) (by kernel_rfl) (fun _ _ _ h => h) hC20 ?w35_32 ?y35_32 ?f35_32 ?r35_32
          case w35_32 => kernel_rfl
          case y35_32 => (intro w hC; have h4 := HR2.out w hC; go_simp; try with_reducible rfl)
          case f35_32 => (go_simp; try with_reducible rfl)
          refine anyC_one (i := 29) rfl (by kernel_rfl) (by kernel_rfl) (fun K hK => ?_)
          go_simp
          refine (HTL.out _ hC20).mono ?_
          rintro e w21 ⟨v21, rfl, hown21, hb21⟩
          obtain ⟨A21, c21, rfl, -, -, hrd21⟩ := own_view hown21
          have hC21 : Below wc.heap.size wc w21 := hC20.trans (hb21.mono hC20.size)
          have z21 := str_of (cap := c21) hrd21 rfl
          refine hK _ _ ⟨hC21, ?_⟩
          clear hK K hown21 hb21 hrd21
          refine anyC_one (i := 30) rfl (by kernel_rfl) (by kernel_rfl) (fun K hK => ?_)
          go_simp
          refine hK _ _ ⟨hC21, ?_⟩
          clear hK K z21
          refine anyC_take (i := 36) (v := ?v36_33) (a' := ?a36_33) rfl (by kernel_rfl) (by kernel_rfl) (by kernel_rfl) (fun _ _ _ h => h) hC21 ?w36_33 ?y36_33 ?f36_33 ?r36_33
          case w36_33 => kernel_rfl
          case y36_33 => (intro w hC; go_simp; try with_reducible rfl)
          case f36_33 => (go_simp; try with_reducible rfl)
          refine anyC_take (i := 37) (v := ?v37_34) (a' := ?a37_34) rfl (by kernel_rfl) (by kernel_rfl) (by kernel_rfl) (fun _ _ _ h => h) hC21 ?w37_34 ?y37_34 ?f37_34 ?r37_34
          case w37_34 => kernel_rfl
          case y37_34 => (intro w hC; go_simp; try with_reducible rfl)
          case f37_34 => (go_simp; try with_reducible rfl)
          refine anyC_done (by kernel_rfl) ?_
          have T21 := Lib.hid ((HO2.out.below hC21).weak (N' := fun _ => False) (fun _ q => q.elim))
          clear hC hC20 hC21
          go_wp2
          go_roundg (gk - 1)
          case measure => omega
          case rel => exact ⟨k + 1, s', by omega, by go_num, HS2, T21⟩
      · have hkl : k = len0 := by omega
        go_wp2
        go_ret
        exact ⟨rfl, HO.out.bel⟩
end Go.Proofs.YtgpagddaopgdgaaDoor
