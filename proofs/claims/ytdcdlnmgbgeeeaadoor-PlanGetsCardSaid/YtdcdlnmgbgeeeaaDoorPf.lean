/- A plan written: the program's. -/
import Derived.Test.YtdcdlnmgbgeeeaaDoorPe
import Derived.Deep.WholeRow
namespace Go.Proofs.YtdcdlnmgbgeeeaaDoor
open Go.RowKit Go.Shelf

/-- a whole value into the block made last -/
theorem wpList_store_new {P : Program} {ops : Array Oper} {rest : List Oper} {op : Oper} {a : Act} {w : World} {Q : Exit → Act → World → Prop} (hgd : op.guard = none) (ty : TypeId) (x y : Operand) (ho : op.op = .store ty x y)
    (c c' : Array Value) (hx : a.eval x = .pointer (some ⟨w.heap.size, 0, none⟩)) (hy : a.eval y = .agg c') (hi : (P.info? ty).map (·.size) = some c'.size) (hs : c.size = c'.size) (h1 : c'.all (·.oneCell') = true)
    (h : wpList P ops Q rest (a.put op.dst undef) (w.alloc (.cells c' ty))) : wpList P ops Q (op :: rest) a (w.alloc (.cells c ty)) :=
  wpList_plain hgd fun _ hK => by
    unfold Oper.wp execOp
    simp only [ho, hx, hy, Sem.run_bind, run_storeAt_new (P := P) w ty c c' hi hs h1, Result.andThen_ok, Sem.run_pure]
    exact hK _ _ h

theorem i64s_one (xs : List Int) : (i64s xs).toArray.all (·.oneCell') = true := all_oneCell_toArray (oneCell_ints .i64 xs)

namespace Pm
/-- the first k of three lists' bytes -/
def pre (a b c : List Int) : Nat → List Int
  | 0 => []
  | 1 => Wm.pintsU a a.length
  | 2 => Wm.pintsU a a.length ++ Wm.pintsU b b.length
  | _ => (Wm.pintsU a a.length ++ Wm.pintsU b b.length) ++ Wm.pintsU c c.length
theorem pre_three (a b c : List Int) : pre a b c 3 = U3 a b c := by
  show (Wm.pintsU a a.length ++ Wm.pintsU b b.length) ++ Wm.pintsU c c.length = _
  unfold U3
  rw [List.append_assoc]
theorem pre_len {a b c : List Int} (ha : a.length ≤ 64) (hb : b.length ≤ 64) (hc : c.length ≤ 64) (k : Nat) : (pre a b c k).length ≤ 2000 := by
  have h1 := Wm.pintsU_len a a.length
  have h2 := Wm.pintsU_len b b.length
  have h3 := Wm.pintsU_len c c.length
  match k with
  | 0 => exact Nat.zero_le _
  | 1 => show (Wm.pintsU a a.length).length ≤ 2000; omega
  | 2 => show (Wm.pintsU a a.length ++ Wm.pintsU b b.length).length ≤ 2000; rw [List.length_append]; omega
  | k + 3 => show ((Wm.pintsU a a.length ++ Wm.pintsU b b.length) ++ Wm.pintsU c c.length).length ≤ 2000; rw [List.length_append, List.length_append]; omega
end Pm

/-- three slices in a block, and the numbers that they show -/
structure Three (w : World) (b B : Nat) (a0 a1 a2 : List Int) : Prop where
  s : ∀ k, k < 3 → ∃ (A : Option Addr) (n c : Nat) (xs : List Int), w.cell? ⟨b, k, none⟩ = some (.slice A n c) ∧ Rd w B A (i64s xs) ∧ xs.length = n ∧ n ≤ 64 ∧ Wm.Fits xs ∧ Pm.pre a0 a1 a2 (k + 1) = Pm.pre a0 a1 a2 k ++ Wm.pintsU xs xs.length
theorem Three.below {w w' : World} {b B B' : Nat} {a0 a1 a2 : List Int} (h : Three w b B a0 a1 a2) (hb : Below B' w w') (h1 : b < B') (h2 : B ≤ B') : Three w' b B a0 a1 a2 := ⟨fun k hk => by
  obtain ⟨A, n, c, xs, hc, hr, h4⟩ := h.s k hk
  exact ⟨A, n, c, xs, by rw [hb.cell (by exact h1)]; exact hc, hr.below (hb.mono h2), h4⟩⟩

set_option maxRecDepth 100000 in
set_option maxHeartbeats 4000000 in
theorem Put_any (x : Pm.Pl) (A : Option Addr) (n c : Nat) (A' : Option Addr) (n' c' : Nat) (B : Nat) (w : World) (hp : PlAt w B x A n c A' n' c') (hB : B ≤ w.heap.size) (ht : Tab w) :
    Calls Tryd.prog 11 #[pv x A n c A' n' c'] w fun e w' => ∃ v, e = .returned (.tuple #[v, .int .i64 x.put.2]) ∧ w'.ownsRow w.heap.size 5 1 v x.put.1.length (u8s x.put.1) ∧ Below w.heap.size w w' := by
  have HP := Lib.hid hp
  have HT := Lib.hid ht
  have hx1 := Lib.hid (Bx.new w x A n c A' n' c' 26)
  have hb1 : Hid (Below w.heap.size w (w.alloc (.cells (pvs x A n c A' n' c').toArray 26))) := (Below.refl _ w).alloc (Nat.le_refl _) _
  have HNU := Lib.hid (fun W => numbersOf_any x A n c A' n' c' W HP.out.ok)
  have HRI := Lib.hid (fun W (h : PlAt W B x A n c A' n' c') h2 (h3 : Tab W) => Right_any x A n c A' n' c' B W h h2 h3)
  clear hp ht
  rw [pv_eq] at HNU HRI ⊢
  have HX := Lib.hid (fun (W : World) (h : Below (w.heap.size + 1) (w.alloc (.cells (pvs x A n c A' n' c').toArray 26)) W) => (hx1.out.below h (Nat.lt_succ_self _) : Bx W w.heap.size x A n c A' n' c'))
  have HR : Hid (∀ (W : World), Below (w.heap.size + 1) (w.alloc (.cells (pvs x A n c A' n' c').toArray 26)) W → W.rangeAt w.heap.size 0 (pvs x A n c A' n' c')) := HX.out
  have hz1 : (w.alloc (.cells (pvs x A n c A' n' c').toArray 26)).heap.size = w.heap.size + 1 := World.size_alloc ..
  have hlen : (Tryd.prog.info? 26).map (·.size) = some (pvs x A n c A' n' c').length := info_plan
  generalize pvs x A n c A' n' c' = L at *
  clear hx1
  have HI := Lib.hid hlen
  clear hlen
  have hC0 := Lib.hid (Below.refl (w.heap.size + 1) (w.alloc (.cells L.toArray 26)))
  go_enter Tryd.func11, Tryd.ntmps11
  go_wp2_with (first | (refine wpList_load_mid rfl 26 _ rfl w.heap.size 0 rfl L _ (HR.out _ hC0.out) Tryd.underlying26 rfl HI.out ?_) | (go_at_call 13; fail))
  refine (HRI.out _ (HP.out.below hb1.out hB) (Nat.le_trans hB hb1.out.size) (HT.out.below hb1.out (Nat.le_refl _))).mono ?_
  rintro e w2 ⟨rfl, hb2'⟩
  have hC2 : Hid (Below (w.heap.size + 1) (w.alloc (.cells L.toArray 26)) w2) := hb2'.mono (by rw [hz1]; exact Nat.le_refl _)
  clear hb2'
  cases hr : x.right with
  | false =>
    have HE := Lib.hid (Pm.Pl.put_no hr)
    clear hr
    go_wp2
    go_ret2
    rw [HE.out]
    exact ⟨_, rfl, own_none, hb1.out.trans (hC2.out.mono (Nat.le_succ _))⟩
  | true =>
    have HE := Lib.hid (Pm.Pl.put_ok hr)
    obtain ⟨hl1, hl2, -⟩ := Pm.right_len hr
    have hr' := Lib.hid hr
    clear hr
    go_wp2_with (first | (refine wpList_load_mid rfl 26 _ rfl w.heap.size 0 rfl L _ (HR.out _ hC2.out) Tryd.underlying26 rfl HI.out ?_) | (go_at_call 21; fail))
    refine (HNU.out _).mono ?_
    rintro e w3 ⟨rfl, hb3'⟩
    have hz2 := hC2.out.size
    rw [hz1] at hz2
    have hC3 : Hid (Below (w.heap.size + 1) (w.alloc (.cells L.toArray 26)) w3) := hC2.out.trans (hb3'.mono hz2)
    have hz3 := Nat.le_trans hz2 hb3'.size
    clear hb3'
    go_wp2_with (first | (refine wpList_store_new rfl 44 _ _ rfl _ (i64s x.nums).toArray rfl rfl info_nums rfl (i64s_one _) ?_))
    have hz4 : (w3.alloc (.cells (i64s x.nums).toArray 44)).heap.size = w3.heap.size + 1 := World.size_alloc ..
    have hC4 : Hid (Below (w.heap.size + 1) (w.alloc (.cells L.toArray 26)) (w3.alloc (.cells (i64s x.nums).toArray 44))) := hC3.out.alloc hz3 _
    have HG := Lib.hid (fun (W : World) (h : Below (w3.heap.size + 1) (w3.alloc (.cells (i64s x.nums).toArray 44)) W) => hC4.out.trans (h.mono (Nat.le_succ_of_le hz3)))
    have hrn : Hid (Rd (w3.alloc (.cells (i64s x.nums).toArray 44)) (w3.heap.size + 1) (some ⟨w3.heap.size, 0, none⟩) (i64s x.nums)) := Rd.new w3 (w3.heap.size + 1) (i64s x.nums) 44 (0, 0) (by omega)
    have hnl : Hid (x.nums.length = 10) := rfl
    have hnf := Lib.hid (Pm.Pl.nums_fit HP.out.ok)
    generalize x.nums = ns at *
    refine region_C (fun W => Below (w3.heap.size + 1) (w3.alloc (.cells (i64s ns).toArray 44)) W) (by kernel_rfl) ?_
    have hC : Below (w3.heap.size + 1) (w3.alloc (.cells (i64s ns).toArray 44)) (w3.alloc (.cells (i64s ns).toArray 44)).drew := (Below.refl _ _).drew
    refine anyC_take (i := 0) (v := ?v0_96) (a' := ?a0_96) rfl (by kernel_rfl) (by kernel_rfl) (by kernel_rfl) (fun _ _ _ h => h) hC ?w0_96 ?y0_96 ?f0_96 ?r0_96
    case w0_96 => kernel_rfl
    case y0_96 => (intro w hC; go_simp; try with_reducible rfl)
    case f0_96 => (go_simp; try with_reducible rfl)
    refine anyC_take (i := 1) (v := ?v1_97) (a' := ?a1_97) rfl (by kernel_rfl) (by kernel_rfl) (by kernel_rfl) (fun _ _ _ h => h) hC ?w1_97 ?y1_97 ?f1_97 ?r1_97
    case w1_97 => kernel_rfl
    case y1_97 => (intro w hC; go_simp; try with_reducible rfl)
    case f1_97 => (go_simp; try with_reducible rfl)
    refine anyC_take (i := 4) (v := ?v4_98) (a' := ?a4_98) rfl (by kernel_rfl) (by kernel_rfl) (by kernel_rfl) (fun _ _ _ h => h) hC ?w4_98 ?y4_98 ?f4_98 ?r4_98
    case w4_98 => kernel_rfl
    case y4_98 => (intro w hC; go_simp; try with_reducible rfl)
    case f4_98 => (go_simp; try with_reducible rfl)
    refine anyC_take (i := 8) (v := ?v8_99) (a' := ?a8_99) rfl (by kernel_rfl) (by kernel_rfl) (by kernel_rfl) (fun _ _ _ h => h) hC ?w8_99 ?y8_99 ?f8_99 ?r8_99
    case w8_99 => kernel_rfl
    case y8_99 => (intro w hC; go_simp; try with_reducible rfl)
    case f8_99 => (go_simp; try with_reducible rfl)
    refine anyC_take (i := 2) (v := ?v2_100) (a' := ?a2_100) rfl (by kernel_rfl) (by kernel_rfl) (by kernel_rfl) (fun _ _ _ h => h) hC ?w2_100 ?y2_100 ?f2_100 ?r2_100
    case w2_100 => kernel_rfl
    case y2_100 => (intro w hC; have h4 := (HX.out w (HG.out w hC)).pen; go_simp; try with_reducible rfl)
    case f2_100 => (go_simp; try with_reducible rfl)
    refine anyC_take (i := 5) (v := ?v5_101) (a' := ?a5_101) rfl (by kernel_rfl) (by kernel_rfl) (by kernel_rfl) (fun _ _ _ h => h) hC ?w5_101 ?y5_101 ?f5_101 ?r5_101
    case w5_101 => kernel_rfl
    case y5_101 => (intro w hC; have h4 := (HX.out w (HG.out w hC)).ch; go_simp; try with_reducible rfl)
    case f5_101 => (go_simp; try with_reducible rfl)
    refine anyC_one (i := 3) rfl (by kernel_rfl) (by kernel_rfl) (fun K hK => ?_)
    go_simp
    have hbw4 := hb1.out.trans ((HG.out _ hC).mono (Nat.le_succ _))
    refine (convL_any A n c B x.pen _ (HP.out.r1.below (hbw4.mono hB)) HP.out.l1 (Nat.le_trans hB hbw4.size) (by have := HP.out.l1; omega)).mono ?_
    rintro e w5 ⟨v5, rfl, hown5, hb5⟩
    obtain ⟨A5, c5, rfl, hcp5, hcm5, hrd5⟩ := own_view hown5
    have hC5 : Below (w3.heap.size + 1) (w3.alloc (.cells (i64s ns).toArray 44)) w5 := hC.trans (hb5.mono (by simp))
    have hrd5' := Lib.hid hrd5
    clear hrd5 hown5 hb5
    refine hK _ _ ⟨hC5, ?_⟩
    clear hK K
    refine anyC_one (i := 6) rfl (by kernel_rfl) (by kernel_rfl) (fun K hK => ?_)
    go_simp
    have hz6 : (w5.alloc (.cells #[.slice (some ⟨w3.heap.size, 0, none⟩) 10 10, .slice A5 x.pen.length c5, .slice A' n' c'] 24)).heap.size = w5.heap.size + 1 := World.size_alloc ..
    have hz5 := hC5.size
    rw [hz4] at hz5
    have hC6 : Below (w3.heap.size + 1) (w3.alloc (.cells (i64s ns).toArray 44)) (w5.alloc (.cells #[.slice (some ⟨w3.heap.size, 0, none⟩) 10 10, .slice A5 x.pen.length c5, .slice A' n' c'] 24)) := hC5.alloc hz5 _
    have hT3 : Hid (Three (w5.alloc (.cells #[.slice (some ⟨w3.heap.size, 0, none⟩) 10 10, .slice A5 x.pen.length c5, .slice A' n' c'] 24)) w5.heap.size (w5.heap.size + 1) ns x.pen x.ch) := by
      have hcell : ∀ k v, [Value.slice (some ⟨w3.heap.size, 0, none⟩) 10 10, .slice A5 x.pen.length c5, .slice A' n' c'][k]? = some v →
          (w5.alloc (.cells #[.slice (some ⟨w3.heap.size, 0, none⟩) 10 10, .slice A5 x.pen.length c5, .slice A' n' c'] 24)).cell? ⟨w5.heap.size, k, none⟩ = some v := fun k v hv => by
        obtain ⟨ad, e, _, hc⟩ := (Rd.new w5 (w5.heap.size + 1) [Value.slice (some ⟨w3.heap.size, 0, none⟩) 10 10, .slice A5 x.pen.length c5, .slice A' n' c'] 24 (0, 0) (by omega)) k v hv
        cases e
        rw [Addr.add_mid, Nat.zero_add] at hc
        exact hc
      have hb6 : Below w5.heap.size w5 (w5.alloc (.cells #[.slice (some ⟨w3.heap.size, 0, none⟩) 10 10, .slice A5 x.pen.length c5, .slice A' n' c'] 24)) := (Below.refl _ _).alloc (Nat.le_refl _) _
      have hbw6 := hb1.out.trans ((HG.out _ hC6).mono (Nat.le_succ _))
      refine ⟨fun k hk => ?_⟩
      match k, hk with
      | 0, _ => exact ⟨_, 10, 10, ns, hcell 0 _ rfl, (hrn.out.below hC6).more (by omega), hnl.out, by omega, hnf.out, rfl⟩
      | 1, _ => exact ⟨A5, x.pen.length, c5, x.pen, hcell 1 _ rfl, (hrd5'.out.below hb6).more (Nat.le_succ _), rfl, by omega, HP.out.ok.pen, rfl⟩
      | 2, _ => exact ⟨A', n', c', x.ch, hcell 2 _ rfl, (HP.out.r2.below (hbw6.mono hB)).more (by omega), HP.out.l2, by have := HP.out.l2; omega, HP.out.ok.ch, rfl⟩
    have hbw6 := Lib.hid (hb1.out.trans ((HG.out _ hC6).mono (Nat.le_succ _)))
    have hwz : w.heap.size ≤ w5.heap.size := by omega
    refine hK _ _ ⟨hC6, ?_⟩
    clear hK K
    refine anyC_take (i := 7) (v := ?v7_102) (a' := ?a7_102) rfl (by kernel_rfl) (by kernel_rfl) (by kernel_rfl) (fun _ _ _ h => h) hC6 ?w7_102 ?y7_102 ?f7_102 ?r7_102
    case w7_102 => kernel_rfl
    case y7_102 => (intro w hC; go_simp; try with_reducible rfl)
    case f7_102 => (go_simp; try with_reducible rfl)
    refine anyC_done (by kernel_rfl) ?_
    generalize (w5.alloc (.cells #[.slice (some ⟨w3.heap.size, 0, none⟩) 10 10, .slice A5 x.pen.length c5, .slice A' n' c'] 24)) = w6 at *
    obtain ⟨i0, hi, hz0, hzz1, hzz2⟩ := info_parts info_u8
    have hpl := Lib.hid (Pm.pre_len (a := ns) (b := x.pen) (c := x.ch) (by rw [hnl.out]; omega) (by omega) (by omega))
    have HE3 : Hid (x.put = (Pm.pre ns x.pen x.ch 3, 0)) := by rw [Pm.pre_three]; exact HE.out
    have h6 : w5.heap.size + 1 ≤ w6.heap.size := by omega
    have h6w : w.heap.size ≤ w6.heap.size := by omega
    clear hz6 hz4 hz1 hz5 hz3 hz2
    clear HE hC hC5 hC6 hrd5' hrn hnf hnl hC4 HG hC3 hC2 hC0 HX HR HI HNU HRI hb1 hr' hbw4
    go_wp2
    go_loopw [5, 23] (fun out ix wr => ∃ k : Nat, ix = .int .i64 (k : Int) ∧ k ≤ 3 ∧ wr.ownsRow w6.heap.size 5 1 out (Pm.pre ns x.pen x.ch k).length (u8s (Pm.pre ns x.pen x.ch k)) ∧ Below w6.heap.size w6 wr)
      (fun _ ix _ => 3 - (intOf ix).toNat)
    case atStart => exact ⟨0, rfl, by omega, own_none, Below.refl _ _⟩
    case round =>
      obtain ⟨k, rfl, hk, hown, hBl⟩ := hrel
      by_cases hlt : k < 3
      · have hT := hT3.out.below hBl (by omega) (by omega)
        obtain ⟨Ak, nk, ck, xs, hcl, hrd, hxl, hx64, hxf, hpre⟩ := hT.s k hlt
        have HPI := Lib.hid (PutInts_all Ak nk ck _ xs wr hrd hxl hxf (by have := hBl.size; omega))
        rw [Wm.pintsE_ok (by omega)] at HPI
        have HPR := Lib.hid hpre
        clear hxl hxf
        have hpk := hpl.out k
        have hpk1 := hpl.out (k + 1)
        rw [hpre, List.length_append] at hpk1
        clear hrd hpre
        go_wp2_with (go_at_call 23; fail)
        refine HPI.out.mono ?_
        rintro e w7 ⟨v7, rfl, hown7, hb7⟩
        obtain ⟨A7, c7, rfl, hcp7, hcm7, hrd7⟩ := own_view hown7
        clear HPI hown7
        have hBl7 := hBl.trans (hb7.mono hBl.size)
        have hown' := own_below hown hb7 (Nat.le_refl _)
        clear hown hBl hb7
        go_wp2_with (at_builtin; go_must (refine wpList_app rfl _ _ 28 rfl w6.heap.size 5 i0 (.int .u8 0) 1 Tryd.underlying28 hi hz0 hzz1 hzz2 rfl _ _ _ rfl hown' w7.heap.size A7 _ c7 (u8s (Wm.pintsU xs xs.length)) rfl (by rw [List.length_map]) hrd7 (oneCell_ints _ _) (by unfold maxLen; omega) (by omega) hBl7.size ?_); intro v8 w8 hown8 hgrow8 hone8)
        have hB8 := below_app hBl7 hown' hgrow8 hBl7.size
        have HO : Hid (w8.ownsRow w6.heap.size 5 1 v8 (Pm.pre ns x.pen x.ch (k + 1)).length (u8s (Pm.pre ns x.pen x.ch (k + 1)))) := by
          show World.ownsRow _ _ _ _ _ _ _
          rw [HPR.out, List.length_append]
          simpa [u8s] using hown8
        clear hown' hown8 hgrow8 hone8
        go_roundw
        case rel => exact ⟨k + 1, by go_num, by omega, HO.out, hB8⟩
        case measure => simp [intOf]; omega
      · obtain rfl : k = 3 := by omega
        go_wp2
        go_ret2
        rw [HE3.out]
        exact ⟨_, rfl, own_mono hown (by omega), hbw6.out.trans (hBl.mono (by omega))⟩
end Go.Proofs.YtdcdlnmgbgeeeaaDoor
