/- A plan written: the document's. -/
import Derived.Test.YtdcdlnmgbgeeeaaDoorQs
namespace Go.Proofs.YtdcdlnmgbgeeeaaDoor
open Go.RowKit Go.Shelf

theorem own_other {w w' : World} {base : Nat} {e : TypeId} {v u : Value} {n : Nat} {xs : List Value} (h : w.ownsRow base e 1 v n xs) (hg : w.grownBy w' u.ownBlock) (hu : ∀ g, u.ownBlock = some g → g < base) : w'.ownsRow base e 1 v n xs :=
  h.kept hg (by
    cases hv : v.ownBlock with
    | none => exact .inl rfl
    | some k => exact .inr (fun e => by have h1 := (h.lt k hv).1; have h2 := hu k e.symm; omega))

set_option maxRecDepth 100000 in
set_option maxHeartbeats 8000000 in
theorem RPut_any (x : Pm.Pl) (A : Option Addr) (n c : Nat) (A' : Option Addr) (n' c' : Nat) (B : Nat) (w : World) (hp : PlAt w B x A n c A' n' c') (hB : B ≤ w.heap.size) :
    Calls Tryd.prog 12 #[pv x A n c A' n' c'] w fun e w' => ∃ v, e = .returned (.tuple #[v, .int .i64 x.put.2]) ∧ w'.ownsRow w.heap.size 5 1 v x.put.1.length (u8s x.put.1) ∧ Below w.heap.size w w' := by
  have HP := Lib.hid hp
  have hx1 := Lib.hid (Bx.new w x A n c A' n' c' 26)
  have hb1 : Hid (Below w.heap.size w (w.alloc (.cells (pvs x A n c A' n' c').toArray 26))) := (Below.refl _ w).alloc (Nat.le_refl _) _
  have HRI := Lib.hid (fun W (h : PlAt W B x A n c A' n' c') h2 => RRight_any x A n c A' n' c' B W h h2)
  have HE10 : Hid (i64s x.nums = [.int .i64 x.e, .int .i64 x.t, .int .i64 x.p, .int .i64 x.s, .int .i64 x.c, .int .i64 x.st, .int .i64 x.si, .int .i64 x.ra, .int .i64 (wrap64 x.up), .int .i64 (wrap64 x.su)]) := by
    rw [sgw hp.ok.up, sgw hp.ok.su]; exact Lib.hid rfl
  clear hp
  rw [pv_eq] at HRI ⊢
  have HX := Lib.hid (fun (W : World) (h : Below (w.heap.size + 1) (w.alloc (.cells (pvs x A n c A' n' c').toArray 26)) W) => (hx1.out.below h (Nat.lt_succ_self _) : Bx W w.heap.size x A n c A' n' c'))
  have HR : Hid (∀ (W : World), Below (w.heap.size + 1) (w.alloc (.cells (pvs x A n c A' n' c').toArray 26)) W → W.rangeAt w.heap.size 0 (pvs x A n c A' n' c')) := HX.out
  have hz1 : (w.alloc (.cells (pvs x A n c A' n' c').toArray 26)).heap.size = w.heap.size + 1 := World.size_alloc ..
  have hlen : (Tryd.prog.info? 26).map (·.size) = some (pvs x A n c A' n' c').length := info_plan
  generalize pvs x A n c A' n' c' = L at *
  clear hx1
  have HI := Lib.hid hlen
  have HZ1 := Lib.hid hz1
  clear hlen hz1
  have hC0 := Lib.hid (Below.refl (w.heap.size + 1) (w.alloc (.cells L.toArray 26)))
  go_enter Tryd.func12, Tryd.ntmps12
  go_wp2_with (first | (refine wpList_load_mid rfl 26 _ rfl w.heap.size 0 rfl L _ (HR.out _ hC0.out) Tryd.underlying26 rfl HI.out ?_) | (go_at_call 14; fail))
  refine (HRI.out _ (HP.out.below hb1.out hB) (Nat.le_trans hB hb1.out.size)).mono ?_
  rintro e w2 ⟨rfl, hb2'⟩
  have hC2 : Hid (Below (w.heap.size + 1) (w.alloc (.cells L.toArray 26)) w2) := hb2'.mono (by rw [HZ1.out]; exact Nat.le_refl _)
  clear hb2' hC0 HR HI HRI
  cases hr : x.right with
  | false =>
    have HE := Lib.hid (Pm.Pl.put_no hr)
    clear hr
    go_wp2
    go_ret2
    rw [HE.out]
    exact ⟨_, rfl, own_none, hb1.out.trans (hC2.out.mono (Nat.le_succ _))⟩
  | true =>
    have HE := Lib.hid (Pm.Pl.put_ok hr)
    obtain ⟨hl1', hl2', -⟩ := Pm.right_len hr
    have hn16 : n ≤ 16 := by have := HP.out.l1; omega
    have hn8 : n' ≤ 8 := by have := HP.out.l2; omega
    clear hr hl1' hl2'
    obtain ⟨i1, hi1, hz10, hz11, hz12⟩ := info_parts info_i64
    have HL1 := Lib.hid HP.out.l1
    have HL2 := Lib.hid HP.out.l2
    have hz2 : w.heap.size + 1 ≤ w2.heap.size := by have := hC2.out.size; rw [HZ1.out] at this; exact this
    go_wp2_with fail
    go_loopw [5, 6] (fun out ix wr => ∃ k : Nat, ix = .int .i64 (k : Int) ∧ k ≤ n ∧ wr.ownsRow (w.heap.size + 1) 2 1 out k (i64s (x.pen.take k)) ∧ Below (w.heap.size + 1) (w.alloc (.cells L.toArray 26)) wr ∧ w.heap.size + 1 ≤ wr.heap.size)
      (fun _ ix _ => n - (intOf ix).toNat)
    case atStart => exact ⟨0, rfl, by omega, World.ownsRow_nil _ _ _ _, hC2.out, hz2⟩
    case round =>
      obtain ⟨k, rfl, hk, hown, hBl, hzr⟩ := hrel
      have k10 := (HX.out _ hBl).pen
      by_cases hlt : k < n
      · obtain ⟨y, hyk⟩ : ∃ y, x.pen[k]? = some y := ⟨x.pen[k]'(by have := HL1.out; omega), List.getElem?_eq_getElem (by have := HL1.out; omega)⟩
        have hbw := hb1.out.trans (hBl.mono (Nat.le_succ _))
        obtain ⟨ad, rfl, _, hcl⟩ := (HP.out.r1.below (hbw.mono hB)).getU hyk
        have HTK : Hid (x.pen.take (k + 1) = x.pen.take k ++ [y]) := by show _ = _; rw [List.take_add_one, hyk]; rfl
        have hkn : (k : Int) < (n : Int) := by omega
        clear hyk hbw
        go_wp2_with (at_builtin; go_must (refine wpList_append_own _ rfl _ _ 24 rfl (w.heap.size + 1) 2 i1 (.int .i64 0) 1 8 Tryd.underlying24 hi1 hz10 hz11 hz12 rfl (by decide) _ _ _ rfl (hown.alloc _) ⟨wr.heap.size, 0, none⟩ 1 1 [.int .i64 y] rfl rfl (cell_one_new _ _ _) (by simp [Value.oneCell']) (by unfold maxLen; omega) (by omega) (by simp; omega) ?_); intro v' w3 hown' hgrow _)
        have hB3 : Below (w.heap.size + 1) (w.alloc (.cells L.toArray 26)) w3 := (hBl.alloc hzr _).grown hgrow (by simp; omega) (fun i e => (hown.lt i e).1)
        have hz3 : w.heap.size + 1 ≤ w3.heap.size := by have := hgrow.size; rw [World.size_alloc] at this; omega
        have HO : Hid (w3.ownsRow (w.heap.size + 1) 2 1 v' (k + 1) (i64s (x.pen.take (k + 1)))) := by
          show World.ownsRow _ _ _ _ _ _ _
          rw [HTK.out]
          simpa [i64s] using hown'
        clear hown hown' hBl hgrow
        go_roundw
        case rel => exact ⟨k + 1, by go_num, by omega, HO.out, hB3, hz3⟩
        case measure => simp [intOf]; omega
      · obtain rfl : k = n := by omega
        rw [List.take_of_length_le (by rw [HL1.out]; exact Nat.le_refl _)] at hown
        obtain ⟨A5, c5, rfl, hcp5, hcm5, hrd5⟩ := own_view hown
        have hB0 := Lib.hid (hb1.out.trans (hBl.mono (Nat.le_succ _)))
        have HBL := Lib.hid hBl
        have HRD5 := Lib.hid hrd5
        have j0 := (HX.out wr hBl).at 0 rfl
        have j1 := (HX.out wr hBl).at 1 rfl
        have j2 := (HX.out wr hBl).at 2 rfl
        have j3 := (HX.out wr hBl).at 3 rfl
        have j4 := (HX.out wr hBl).at 4 rfl
        have j5 := (HX.out wr hBl).at 5 rfl
        have j6 := (HX.out wr hBl).at 6 rfl
        have j7 := (HX.out wr hBl).at 7 rfl
        have j8 := (HX.out wr hBl).at 8 rfl
        have j9 := (HX.out wr hBl).at 9 rfl
        have hrN : Hid (Rd (wr.alloc (.cells #[.int .i64 x.e, .int .i64 x.t, .int .i64 x.p, .int .i64 x.s, .int .i64 x.c, .int .i64 x.st, .int .i64 x.si, .int .i64 x.ra, .int .i64 (wrap64 x.up), .int .i64 (wrap64 x.su)] 2)) (wr.heap.size + 1) (some ⟨wr.heap.size, 0, none⟩) (i64s x.nums)) := by
          have h := Rd.new wr (wr.heap.size + 1) (i64s x.nums) 2 (0, 0) (by omega)
          show Rd _ _ _ _
          rw [HE10.out] at h ⊢
          exact h
        have hbA : Hid (Below wr.heap.size wr (wr.alloc (.cells #[.int .i64 x.e, .int .i64 x.t, .int .i64 x.p, .int .i64 x.s, .int .i64 x.c, .int .i64 x.st, .int .i64 x.si, .int .i64 x.ra, .int .i64 (wrap64 x.up), .int .i64 (wrap64 x.su)] 2))) := (Below.refl _ _).alloc (Nat.le_refl _) _
        have hzA : Hid (wr.heap.size + 1 ≤ (wr.alloc (.cells #[.int .i64 x.e, .int .i64 x.t, .int .i64 x.p, .int .i64 x.s, .int .i64 x.c, .int .i64 x.st, .int .i64 x.si, .int .i64 x.ra, .int .i64 (wrap64 x.up), .int .i64 (wrap64 x.su)] 2)).heap.size) := by
          show _ ≤ _
          rw [World.size_alloc]; exact Nat.le_refl _
        have hP1 := Lib.hid (RPutInts_all (some ⟨wr.heap.size, 0, none⟩) 10 10 (wr.heap.size + 1) x.nums _ hrN.out rfl (Pm.Pl.nums_fit HP.out.ok) hzA.out)
        rw [Wm.pintsE_ok (by exact Nat.not_lt.2 Pm.nums10)] at hP1
        have q1 := Wm.pintsU_len x.nums x.nums.length
        have q2 := Wm.pintsU_len x.pen x.pen.length
        have q3 := Wm.pintsU_len x.ch x.ch.length
        have hq1 : x.nums.length = 10 := rfl
        have Q1 := Lib.hid (show (Wm.pintsU x.nums x.nums.length).length ≤ 200 from by omega)
        have Q2 := Lib.hid (show (Wm.pintsU x.pen x.pen.length).length ≤ 200 from by have := HL1.out; omega)
        have Q3 := Lib.hid (show (Wm.pintsU x.ch x.ch.length).length ≤ 200 from by have := HL2.out; omega)
        clear q1 q2 q3 hq1 hown hBl hrd5
        go_wp2_with (go_at_call 24; fail)
        refine hP1.out.mono ?_
        rintro e w10 ⟨v10, rfl, hown10, hb10⟩
        have hbx10 := Lib.hid (hbA.out.trans (hb10.mono (Nat.le_of_succ_le hzA.out)))
        have HO10 := Lib.hid (own_mono hown10 (Nat.le_trans (show w.heap.size ≤ wr.heap.size by omega) (Nat.le_of_succ_le hzA.out)))
        clear hown10 hb10 hP1 hrN hbA hzA j0 j1 j2 j3 j4 j5 j6 j7 j8 j9
        have hP2 := Lib.hid (RPutInts_all A5 k c5 wr.heap.size x.pen w10 (HRD5.out.below hbx10.out) HL1.out HP.out.ok.pen hbx10.out.size)
        rw [Wm.pintsE_ok (by rw [HL1.out]; omega)] at hP2
        go_wp2_with (go_at_call 24; fail)
        refine hP2.out.mono ?_
        rintro e w11 ⟨v11, rfl, hown11, hb11⟩
        have hbx11 := Lib.hid (hbx10.out.trans (hb11.mono hbx10.out.size))
        have HO10b := Lib.hid (own_below HO10.out hb11 (Nat.le_refl _))
        have hv10 := Lib.hid (fun g (h : v10.ownBlock = some g) => Nat.lt_of_lt_of_le (HO10.out.lt g h).2 hb11.size)
        obtain ⟨A11, c11, rfl, hcp11, hcm11, hrd11⟩ := own_view hown11
        have HR11 := Lib.hid hrd11
        have k11 := (HX.out w11 (HBL.out.trans (hbx11.out.mono hzr))).ch
        have hz11' : w.heap.size ≤ w11.heap.size := by have := hbx11.out.size; omega
        have hbw11 := Lib.hid (hB0.out.trans (hbx11.out.mono (by omega)))
        clear hown11 hb11 hP2 hrd11 HO10 hbx10
        have hP3 := Lib.hid (RPutInts_all A' n' c' B x.ch w11 (HP.out.r2.below (hbw11.out.mono hB)) HL2.out HP.out.ok.ch (Nat.le_trans hB hz11'))
        rw [Wm.pintsE_ok (by rw [HL2.out]; omega)] at hP3
        go_wp2_with (go_at_call 24; fail)
        refine hP3.out.mono ?_
        rintro e w12 ⟨v12, rfl, hown12, hb12⟩
        obtain ⟨A12, c12, rfl, hcp12, hcm12, hrd12⟩ := own_view hown12
        have HOW12 := Lib.hid hown12
        have hbw12 := Lib.hid (hbw11.out.trans (hb12.mono hz11'))
        have HO12 := Lib.hid (own_below HO10b.out hb12 (Nat.le_refl _))
        have HR11b := Lib.hid (HR11.out.below hb12)
        have hz12' := Nat.le_trans hz11' hb12.size
        have hz1112 := hb12.size
        clear hown12 hb12 hP3 hrd12 HO10b HR11 k11
        have HU3 : Hid (Pm.U3 x.nums x.pen x.ch = (Wm.pintsU x.nums x.nums.length ++ Wm.pintsU x.pen x.pen.length) ++ Wm.pintsU x.ch x.ch.length) := by unfold Pm.U3; rw [List.append_assoc]; exact Lib.hid rfl
        generalize Wm.pintsU x.nums x.nums.length = b0 at *
        generalize Wm.pintsU x.pen x.pen.length = b1 at *
        generalize Wm.pintsU x.ch x.ch.length = b2 at *
        obtain ⟨i0, hi, hz0, hzz1, hzz2⟩ := info_parts info_u8
        have ql1 := Q1.out
        have ql2 := Q2.out
        have ql3 := Q3.out
        go_wp2_with (first
          | (at_builtin; refine wpList_app rfl _ _ 28 rfl w.heap.size 5 i0 (.int .u8 0) 1 Tryd.underlying28 hi hz0 hzz1 hzz2 rfl _ _ _ rfl HO12.out w11.heap.size A11 _ c11 (u8s b1) rfl (by rw [List.length_map]) HR11b.out (oneCell_ints _ _) (by unfold maxLen; omega) (by omega) hz12' ?_; intro v13 w13 hown13 hgrow13 _; have hB13 := below_app hbw12.out HO12.out hgrow13 hz12'; have hz13 := Nat.le_trans hz12' hgrow13.size; obtain ⟨_, _, e13, -, -, hrd13⟩ := own_view (own_other HOW12.out hgrow13 hv10.out); injection e13 with e13; subst e13)
          | (at_builtin; refine wpList_app rfl _ _ 28 rfl w.heap.size 5 i0 (.int .u8 0) 1 Tryd.underlying28 hi hz0 hzz1 hzz2 rfl _ _ _ rfl hown13 w13.heap.size _ _ _ (u8s b2) rfl (by rw [List.length_map]) hrd13 (oneCell_ints _ _) (by unfold maxLen; omega) (by omega) hz13 ?_; intro v14 w14 hown14 hgrow14 _; have hB14 := below_app hB13 hown13 hgrow14 hz13))
        go_ret2
        rw [HE.out, HU3.out]
        refine ⟨_, rfl, ?_, hB14⟩
        simp only [List.length_append]
        simpa [u8s] using hown14
end Go.Proofs.YtdcdlnmgbgeeeaaDoor
