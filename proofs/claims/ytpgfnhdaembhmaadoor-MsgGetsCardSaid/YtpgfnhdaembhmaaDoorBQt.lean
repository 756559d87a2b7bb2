import Derived.Test.YtpgfnhdaembhmaaDoorBPa
import Derived.Test.YtpgfnhdaembhmaaDoorBQr
import Derived.Test.YtpgfnhdaembhmaaDoorBK

/- The plain model of the document's reading of a plan. No program in it. -/
namespace Go.Proofs.YtpgfnhdaembhmaaDoor.Pm
open Go.RowKit

theorem sm_in {v lo hi : Int} (h1 : -1 ≤ lo) (h2 : hi ≤ 1000000) : (lo ≤ sm v ∧ sm v ≤ hi) ↔ (lo ≤ v ∧ v ≤ hi) := by unfold sm; split <;> omega
theorem sm_id {v : Int} (h1 : -1 ≤ v) (h2 : v ≤ 1000000) : sm v = v := if_pos ⟨h1, h2⟩
theorem sm_fit (v : Int) : I (sm v) := by unfold I sm; split <;> omega

/-- the plan of ten numbers and two lists, numbers that are no index struck -/
def sml (ns pen ch : List Int) : Pl :=
  ⟨ns.getD 0 0, sm (ns.getD 1 0), sm (ns.getD 2 0), sm (ns.getD 3 0), sm (ns.getD 4 0), ns.getD 5 0, ns.getD 6 0, ns.getD 7 0, us (ns.getD 8 0), us (ns.getD 9 0), pen.map sm, ch⟩
theorem sml_ok {ns pen ch : List Int} (hf : Wm.Fits ns) (hc : Wm.Fits ch) : (sml ns pen ch).Ok :=
  ⟨fit_at hf 0, sm_fit _, sm_fit _, sm_fit _, sm_fit _, fit_at hf 5, fit_at hf 6, fit_at hf 7, us_fit (fit_at hf 8), us_fit (fit_at hf 9), (fun n hn => by
    obtain ⟨v, _, rfl⟩ := List.mem_map.1 hn
    exact sm_fit v), hc⟩

theorem bd_sm {pen : List Int} : Bd (pen.map sm) 16 1000000 ↔ Bd pen 16 1000000 := by
  unfold Bd
  rw [List.length_map]
  refine and_congr Iff.rfl ⟨fun h n hn => ?_, fun h n hn => ?_⟩
  · exact (sm_in (by omega) (by omega)).1 (h (sm n) (List.mem_map.2 ⟨n, hn, rfl⟩))
  · obtain ⟨v, hv, rfl⟩ := List.mem_map.1 hn
    exact (sm_in (by omega) (by omega)).2 (h v hv)

theorem at_sm {ns pen ch : List Int} (hf : Wm.Fits ns) (k : Nat) (hk : k < 10) : At (sml ns pen ch).nums k ↔ At ns k := by
  have e8 := sg_us (fit_at hf 8)
  have e9 := sg_us (fit_at hf 9)
  match k, hk with
  | 0, _ => exact Iff.rfl
  | 1, _ => exact sm_in (lo := -1) (hi := 15) (by omega) (by omega)
  | 2, _ => exact sm_in (lo := -1) (hi := 15) (by omega) (by omega)
  | 3, _ => exact sm_in (lo := -1) (hi := 15) (by omega) (by omega)
  | 4, _ => exact sm_in (lo := 0) (hi := 100) (by omega) (by omega)
  | 5, _ => exact Iff.rfl
  | 6, _ => exact Iff.rfl
  | 7, _ => exact Iff.rfl
  | 8, _ => show (0 ≤ sg (us (ns.getD 8 0)) ∧ sg (us (ns.getD 8 0)) ≤ 65535) ↔ (0 ≤ ns.getD 8 0 ∧ ns.getD 8 0 ≤ 65535); rw [e8]
  | 9, _ => show (0 ≤ sg (us (ns.getD 9 0)) ∧ sg (us (ns.getD 9 0)) ≤ 65535) ↔ (0 ≤ ns.getD 9 0 ∧ ns.getD 9 0 ≤ 65535); rw [e9]

theorem sml_right {ns pen ch : List Int} (hf : Wm.Fits ns) : (sml ns pen ch).right = ask (Rt ns pen ch) := by
  refine congrArg ask (propext ?_)
  unfold Rt
  refine and_congr ⟨fun h k hk => (at_sm hf k hk).1 (h k hk), fun h k hk => (at_sm hf k hk).2 (h k hk)⟩ (and_congr bd_sm Iff.rfl)

theorem sml_eq {ns pen ch : List Int} (h : Rt ns pen ch) : sml ns pen ch = plOf ns pen ch := by
  obtain ⟨ha, hb, _⟩ := h
  have a1 : -1 ≤ ns.getD 1 0 ∧ ns.getD 1 0 ≤ 15 := ha 1 (by omega)
  have a2 : -1 ≤ ns.getD 2 0 ∧ ns.getD 2 0 ≤ 15 := ha 2 (by omega)
  have a3 : -1 ≤ ns.getD 3 0 ∧ ns.getD 3 0 ≤ 15 := ha 3 (by omega)
  have a4 : 0 ≤ ns.getD 4 0 ∧ ns.getD 4 0 ≤ 100 := ha 4 (by omega)
  have hp : pen.map sm = pen := by
    have : pen.map sm = pen.map id := List.map_congr_left (fun v hv => sm_id (by have := (hb.2 v hv).1; omega) (hb.2 v hv).2)
    rw [this, List.map_id]
  have b1 := sm_id (v := ns.getD 1 0) (by omega) (by omega)
  have b2 := sm_id (v := ns.getD 2 0) (by omega) (by omega)
  have b3 := sm_id (v := ns.getD 3 0) (by omega) (by omega)
  have b4 := sm_id (v := ns.getD 4 0) (by omega) (by omega)
  show Pl.mk _ (sm (ns.getD 1 0)) (sm (ns.getD 2 0)) (sm (ns.getD 3 0)) (sm (ns.getD 4 0)) _ _ _ _ _ (pen.map sm) _ = Pl.mk _ _ _ _ _ _ _ _ _ _ _ _
  exact congr (congr (congr (congr (congr (congr (congr (congr (congr (congr (congr (congrArg Pl.mk rfl) b1) b2) b3) b4) rfl) rfl) rfl) rfl) rfl) hp) rfl

theorem rt_neg8 {ns pen ch : List Int} (h : ns.getD 8 0 < 0) : ask (Rt ns pen ch) ≠ true := by
  rw [ask_no (fun q => by have : 0 ≤ ns.getD 8 0 ∧ _ := q.1 8 (by omega); omega)]; decide
theorem rt_neg9 {ns pen ch : List Int} (h : ns.getD 9 0 < 0) : ask (Rt ns pen ch) ≠ true := by
  rw [ask_no (fun q => by have : 0 ≤ ns.getD 9 0 ∧ _ := q.1 9 (by omega); omega)]; decide

theorem get_len {b l : List Int} {n : Nat} (hb : ∀ c ∈ b, 0 ≤ c ∧ c ≤ 255) (h : Wm.rints b 0 = (l, (n : Int), 0)) (hl : l.length ≠ 10) : get b = (zero, 41) := by
  rcases get3_cases hb with h3 | ⟨l', n', e0, n0, f0, s0, h3⟩
  · exact get_none h3.2
  rcases h3 with h3 | ⟨m', i, e1, n1, f1, s1, h3⟩
  · exact get_none h3.2
  rcases h3 with h3 | ⟨o', j, e2, n2, f2, s2, h3⟩
  · exact get_none h3.2
  rcases h3 with h3 | ⟨hj, h4, hU⟩
  · exact get_none h3.2
  have e3 : l = l' := congrArg Prod.fst (h.symm.trans e0)
  subst e3
  exact get_no h4 (fun q => hl q.1)
end Go.Proofs.YtpgfnhdaembhmaaDoor.Pm

/- A plan written: the document's. -/
namespace Go.Proofs.YtpgfnhdaembhmaaDoor
open Go.RowKit Go.Shelf

theorem own_other {w w' : World} {base : Nat} {e : TypeId} {v u : Value} {n : Nat} {xs : List Value} (h : w.ownsRow base e 1 v n xs) (hg : w.grownBy w' u.ownBlock) (hu : ∀ g, u.ownBlock = some g → g < base) : w'.ownsRow base e 1 v n xs :=
  h.kept hg (by
    cases hv : v.ownBlock with
    | none => exact .inl rfl
    | some k => exact .inr (fun e => by have h1 := (h.lt k hv).1; have h2 := hu k e.symm; omega))

set_option maxRecDepth 100000 in
set_option maxHeartbeats 8000000 in
theorem RPut_any (x : Pm.Pl) (A : Option Addr) (n c : Nat) (A' : Option Addr) (n' c' : Nat) (B : Nat) (w : World) (hp : PlAt w B x A n c A' n' c') (hB : B ≤ w.heap.size) :
    Calls Tryd.prog 30 #[pv x A n c A' n' c'] w fun e w' => ∃ v, e = .returned (.tuple #[v, .int .i64 x.put.2]) ∧ w'.ownsRow w.heap.size 5 1 v x.put.1.length (u8s x.put.1) ∧ Below w.heap.size w w' := by
  have HP := Lib.hid hp
  have hx1 := Lib.hid (Bx.new w x A n c A' n' c' 27)
  have hb1 : Hid (Below w.heap.size w (w.alloc (.cells (pvs x A n c A' n' c').toArray 27))) := (Below.refl _ w).alloc (Nat.le_refl _) _
  have HRI := Lib.hid (fun W (h : PlAt W B x A n c A' n' c') h2 => RRight_any x A n c A' n' c' B W h h2)
  have HE10 : Hid (i64s x.nums = [.int .i64 x.e, .int .i64 x.t, .int .i64 x.p, .int .i64 x.s, .int .i64 x.c, .int .i64 x.st, .int .i64 x.si, .int .i64 x.ra, .int .i64 (wrap64 x.up), .int .i64 (wrap64 x.su)]) := by
    rw [sgw hp.ok.up, sgw hp.ok.su]; exact Lib.hid rfl
  clear hp
  rw [pv_eq] at HRI ⊢
  have HX := Lib.hid (fun (W : World) (h : Below (w.heap.size + 1) (w.alloc (.cells (pvs x A n c A' n' c').toArray 27)) W) => (hx1.out.below h (Nat.lt_succ_self _) : Bx W w.heap.size x A n c A' n' c'))
  have HR : Hid (∀ (W : World), Below (w.heap.size + 1) (w.alloc (.cells (pvs x A n c A' n' c').toArray 27)) W → W.rangeAt w.heap.size 0 (pvs x A n c A' n' c')) := HX.out
  have hz1 : (w.alloc (.cells (pvs x A n c A' n' c').toArray 27)).heap.size = w.heap.size + 1 := World.size_alloc ..
  have hlen : (Tryd.prog.info? 27).map (·.size) = some (pvs x A n c A' n' c').length := info_plan
  generalize pvs x A n c A' n' c' = L at *
  clear hx1
  have HI := Lib.hid hlen
  have HZ1 := Lib.hid hz1
  clear hlen hz1
  have hC0 := Lib.hid (Below.refl (w.heap.size + 1) (w.alloc (.cells L.toArray 27)))
  go_enter Tryd.func30, Tryd.ntmps30
  go_wp2_with (first | (refine wpList_load_mid rfl 27 _ rfl w.heap.size 0 rfl L _ (HR.out _ hC0.out) Tryd.underlying27 rfl HI.out ?_) | (go_at_call 34; fail))
  refine (HRI.out _ (HP.out.below hb1.out hB) (Nat.le_trans hB hb1.out.size)).mono ?_
  rintro e w2 ⟨rfl, hb2'⟩
  have hC2 : Hid (Below (w.heap.size + 1) (w.alloc (.cells L.toArray 27)) w2) := hb2'.mono (by rw [HZ1.out]; exact Nat.le_refl _)
  clear hb2' hC0 HR HI HRI
  cases hr : x.right with
  | false =>
    have HE := Lib.hid (Pm.Pl.put_no hr)
    clear hr
    go_wp2
    go_ret2
    rw [HE.out]
    exact ⟨_, rfl, own_none, hb1.out.trans (hC2.out.mono (Nat.le_succ _))⟩
  | true =>
    have HE := Lib.hid (Pm.Pl.put_ok hr)
    obtain ⟨hl1', hl2', -⟩ := Pm.right_len hr
    have hn16 : n ≤ 16 := by have := HP.out.l1; omega
    have hn8 : n' ≤ 8 := by have := HP.out.l2; omega
    clear hr hl1' hl2'
    obtain ⟨i1, hi1, hz10, hz11, hz12⟩ := info_parts info_i64
    have HL1 := Lib.hid HP.out.l1
    have HL2 := Lib.hid HP.out.l2
    have hz2 : w.heap.size + 1 ≤ w2.heap.size := by have := hC2.out.size; rw [HZ1.out] at this; exact this
    go_wp2_with fail
    go_loopw [5, 6] (fun out ix wr => ∃ k : Nat, ix = .int .i64 (k : Int) ∧ k ≤ n ∧ wr.ownsRow (w.heap.size + 1) 2 1 out k (i64s (x.pen.take k)) ∧ Below (w.heap.size + 1) (w.alloc (.cells L.toArray 27)) wr ∧ w.heap.size + 1 ≤ wr.heap.size)
      (fun _ ix _ => n - (intOf ix).toNat)
    case atStart => exact ⟨0, rfl, by omega, World.ownsRow_nil _ _ _ _, hC2.out, hz2⟩
    case round =>
      obtain ⟨k, rfl, hk, hown, hBl, hzr⟩ := hrel
      have k10 := (HX.out _ hBl).pen
      by_cases hlt : k < n
      · obtain ⟨y, hyk⟩ : ∃ y, x.pen[k]? = some y := ⟨x.pen[k]'(by have := HL1.out; omega), List.getElem?_eq_getElem (by have := HL1.out; omega)⟩
        have hbw := hb1.out.trans (hBl.mono (Nat.le_succ _))
        obtain ⟨ad, rfl, _, hcl⟩ := (HP.out.r1.below (hbw.mono hB)).getU hyk
        have HTK : Hid (x.pen.take (k + 1) = x.pen.take k ++ [y]) := by show _ = _; rw [List.take_add_one, hyk]; rfl
        have hkn : (k : Int) < (n : Int) := by omega
        clear hyk hbw
        go_wp2_with (at_builtin; go_must (refine wpList_append_own _ rfl _ _ 25 rfl (w.heap.size + 1) 2 i1 (.int .i64 0) 1 8 Tryd.underlying25 hi1 hz10 hz11 hz12 rfl (by decide) _ _ _ rfl (hown.alloc _) ⟨wr.heap.size, 0, none⟩ 1 1 [.int .i64 y] rfl rfl (cell_one_new _ _ _) (by simp [Value.oneCell']) (by unfold maxLen; omega) (by omega) (by simp; omega) ?_); intro v' w3 hown' hgrow _)
        have hB3 : Below (w.heap.size + 1) (w.alloc (.cells L.toArray 27)) w3 := (hBl.alloc hzr _).grown hgrow (by simp; omega) (fun i e => (hown.lt i e).1)
        have hz3 : w.heap.size + 1 ≤ w3.heap.size := by have := hgrow.size; rw [World.size_alloc] at this; omega
        have HO : Hid (w3.ownsRow (w.heap.size + 1) 2 1 v' (k + 1) (i64s (x.pen.take (k + 1)))) := by
          show World.ownsRow _ _ _ _ _ _ _
          rw [HTK.out]
          simpa [i64s] using hown'
        clear hown hown' hBl hgrow
        go_roundw
        case rel => exact ⟨k + 1, by go_num, by omega, HO.out, hB3, hz3⟩
        case measure => simp [intOf]; omega
      · obtain rfl : k = n := by omega
        rw [List.take_of_length_le (by rw [HL1.out]; exact Nat.le_refl _)] at hown
        obtain ⟨A5, c5, rfl, hcp5, hcm5, hrd5⟩ := own_view hown
        have hB0 := Lib.hid (hb1.out.trans (hBl.mono (Nat.le_succ _)))
        have HBL := Lib.hid hBl
        have HRD5 := Lib.hid hrd5
        have j0 := (HX.out wr hBl).at 0 rfl
        have j1 := (HX.out wr hBl).at 1 rfl
        have j2 := (HX.out wr hBl).at 2 rfl
        have j3 := (HX.out wr hBl).at 3 rfl
        have j4 := (HX.out wr hBl).at 4 rfl
        have j5 := (HX.out wr hBl).at 5 rfl
        have j6 := (HX.out wr hBl).at 6 rfl
        have j7 := (HX.out wr hBl).at 7 rfl
        have j8 := (HX.out wr hBl).at 8 rfl
        have j9 := (HX.out wr hBl).at 9 rfl
        have hrN : Hid (Rd (wr.alloc (.cells #[.int .i64 x.e, .int .i64 x.t, .int .i64 x.p, .int .i64 x.s, .int .i64 x.c, .int .i64 x.st, .int .i64 x.si, .int .i64 x.ra, .int .i64 (wrap64 x.up), .int .i64 (wrap64 x.su)] 2)) (wr.heap.size + 1) (some ⟨wr.heap.size, 0, none⟩) (i64s x.nums)) := by
          have h := Rd.new wr (wr.heap.size + 1) (i64s x.nums) 2 (0, 0) (by omega)
          show Rd _ _ _ _
          rw [HE10.out] at h ⊢
          exact h
        have hbA : Hid (Below wr.heap.size wr (wr.alloc (.cells #[.int .i64 x.e, .int .i64 x.t, .int .i64 x.p, .int .i64 x.s, .int .i64 x.c, .int .i64 x.st, .int .i64 x.si, .int .i64 x.ra, .int .i64 (wrap64 x.up), .int .i64 (wrap64 x.su)] 2))) := (Below.refl _ _).alloc (Nat.le_refl _) _
        have hzA : Hid (wr.heap.size + 1 ≤ (wr.alloc (.cells #[.int .i64 x.e, .int .i64 x.t, .int .i64 x.p, .int .i64 x.s, .int .i64 x.c, .int .i64 x.st, .int .i64 x.si, .int .i64 x.ra, .int .i64 (wrap64 x.up), .int .i64 (wrap64 x.su)] 2)).heap.size) := by
          show _ ≤ _
          rw [World.size_alloc]; exact Nat.le_refl _
        have hP1 := Lib.hid (RPutInts_all (some ⟨wr.heap.size, 0, none⟩) 10 10 (wr.heap.size + 1) x.nums _ hrN.out rfl (Pm.Pl.nums_fit HP.out.ok) hzA.out)
        rw [Wm.pintsE_ok (by exact Nat.not_lt.2 Pm.nums10)] at hP1
        have q1 := Wm.pintsU_len x.nums x.nums.length
        have q2 := Wm.pintsU_len x.pen x.pen.length
        have q3 := Wm.pintsU_len x.ch x.ch.length
        have hq1 : x.nums.length = 10 := rfl
        have Q1 := Lib.hid (show (Wm.pintsU x.nums x.nums.length).length ≤ 200 from by omega)
        have Q2 := Lib.hid (show (Wm.pintsU x.pen x.pen.length).length ≤ 200 from by have := HL1.out; omega)
        have Q3 := Lib.hid (show (Wm.pintsU x.ch x.ch.length).length ≤ 200 from by have := HL2.out; omega)
        clear q1 q2 q3 hq1 hown hBl hrd5
        go_wp2_with (go_at_call 29; fail)
        refine hP1.out.mono ?_
        rintro e w10 ⟨v10, rfl, hown10, hb10⟩
        have hbx10 := Lib.hid (hbA.out.trans (hb10.mono (Nat.le_of_succ_le hzA.out)))
        have HO10 := Lib.hid (own_mono hown10 (Nat.le_trans (show w.heap.size ≤ wr.heap.size by omega) (Nat.le_of_succ_le hzA.out)))
        clear hown10 hb10 hP1 hrN hbA hzA j0 j1 j2 j3 j4 j5 j6 j7 j8 j9
        have hP2 := Lib.hid (RPutInts_all A5 k c5 wr.heap.size x.pen w10 (HRD5.out.below hbx10.out) HL1.out HP.out.ok.pen hbx10.out.size)
        rw [Wm.pintsE_ok (by rw [HL1.out]; omega)] at hP2
        go_wp2_with (go_at_call 29; fail)
        refine hP2.out.mono ?_
        rintro e w11 ⟨v11, rfl, hown11, hb11⟩
        have hbx11 := Lib.hid (hbx10.out.trans (hb11.mono hbx10.out.size))
        have HO10b := Lib.hid (own_below HO10.out hb11 (Nat.le_refl _))
        have hv10 := Lib.hid (fun g (h : v10.ownBlock = some g) => Nat.lt_of_lt_of_le (HO10.out.lt g h).2 hb11.size)
        obtain ⟨A11, c11, rfl, hcp11, hcm11, hrd11⟩ := own_view hown11
        have HR11 := Lib.hid hrd11
        have k11 := (HX.out w11 (HBL.out.trans (hbx11.out.mono hzr))).ch
        have hz11' : w.heap.size ≤ w11.heap.size := by have := hbx11.out.size; omega
        have hbw11 := Lib.hid (hB0.out.trans (hbx11.out.mono (by omega)))
        clear hown11 hb11 hP2 hrd11 HO10 hbx10
        have hP3 := Lib.hid (RPutInts_all A' n' c' B x.ch w11 (HP.out.r2.below (hbw11.out.mono hB)) HL2.out HP.out.ok.ch (Nat.le_trans hB hz11'))
        rw [Wm.pintsE_ok (by rw [HL2.out]; omega)] at hP3
        go_wp2_with (go_at_call 29; fail)
        refine hP3.out.mono ?_
        rintro e w12 ⟨v12, rfl, hown12, hb12⟩
        obtain ⟨A12, c12, rfl, hcp12, hcm12, hrd12⟩ := own_view hown12
        have HOW12 := Lib.hid hown12
        have hbw12 := Lib.hid (hbw11.out.trans (hb12.mono hz11'))
        have HO12 := Lib.hid (own_below HO10b.out hb12 (Nat.le_refl _))
        have HR11b := Lib.hid (HR11.out.below hb12)
        have hz12' := Nat.le_trans hz11' hb12.size
        have hz1112 := hb12.size
        clear hown12 hb12 hP3 hrd12 HO10b HR11 k11
        have HU3 : Hid (Pm.U3 x.nums x.pen x.ch = (Wm.pintsU x.nums x.nums.length ++ Wm.pintsU x.pen x.pen.length) ++ Wm.pintsU x.ch x.ch.length) := by unfold Pm.U3; rw [List.append_assoc]; exact Lib.hid rfl
        generalize Wm.pintsU x.nums x.nums.length = b0 at *
        generalize Wm.pintsU x.pen x.pen.length = b1 at *
        generalize Wm.pintsU x.ch x.ch.length = b2 at *
        obtain ⟨i0, hi, hz0, hzz1, hzz2⟩ := info_parts info_u8
        have ql1 := Q1.out
        have ql2 := Q2.out
        have ql3 := Q3.out
        go_wp2_with (first
          | (at_builtin; refine wpList_app rfl _ _ 28 rfl w.heap.size 5 i0 (.int .u8 0) 1 Tryd.underlying28 hi hz0 hzz1 hzz2 rfl _ _ _ rfl HO12.out w11.heap.size A11 _ c11 (u8s b1) rfl (by rw [List.length_map]) HR11b.out (oneCell_ints _ _) (by unfold maxLen; omega) (by omega) hz12' ?_; intro v13 w13 hown13 hgrow13 _; have hB13 := below_app hbw12.out HO12.out hgrow13 hz12'; have hz13 := Nat.le_trans hz12' hgrow13.size; obtain ⟨_, _, e13, -, -, hrd13⟩ := own_view (own_other HOW12.out hgrow13 hv10.out); injection e13 with e13; subst e13)
          | (at_builtin; refine wpList_app rfl _ _ 28 rfl w.heap.size 5 i0 (.int .u8 0) 1 Tryd.underlying28 hi hz0 hzz1 hzz2 rfl _ _ _ rfl hown13 w13.heap.size _ _ _ (u8s b2) rfl (by rw [List.length_map]) hrd13 (oneCell_ints _ _) (by unfold maxLen; omega) (by omega) hz13 ?_; intro v14 w14 hown14 hgrow14 _; have hB14 := below_app hB13 hown13 hgrow14 hz13))
        go_ret2
        rw [HE.out, HU3.out]
        refine ⟨_, rfl, ?_, hB14⟩
        simp only [List.length_append]
        simpa [u8s] using hown14
end Go.Proofs.YtpgfnhdaembhmaaDoor

/- A plan read: the document's. -/
namespace Go.Proofs.YtpgfnhdaembhmaaDoor
open Go.RowKit Go.Shelf

theorem info_int : (Tryd.prog.info? 3).map (fun i => (i.zero, i.size, i.bytes)) = some (some (.int .i64 0), 1, 8) := by kernel_rfl

theorem Bx.setPen {w : World} {b : Nat} {x : Pm.Pl} {A : Option Addr} {n c : Nat} {A' : Option Addr} {n' c' : Nat} (h : Bx w b x A n c A' n' c') (A2 : Option Addr) (n2 c2 : Nat) :
    Bx (w.setCell ⟨b, 10, none⟩ (.slice A2 n2 c2)) b x A2 n2 c2 A' n' c' := fun j v hv => by
  by_cases e : j = 10
  · subst e
    cases hv
    rw [Nat.zero_add, World.cell?_setCell_same _ _ _ h.pen]
  · rw [World.cell?_setCell_other _ _ _ _ (fun q => e (by injection q with _ q; omega))]
    refine h j v ?_
    match j, hv with
    | 0, hv => exact hv
    | 1, hv => exact hv
    | 2, hv => exact hv
    | 3, hv => exact hv
    | 4, hv => exact hv
    | 5, hv => exact hv
    | 6, hv => exact hv
    | 7, hv => exact hv
    | 8, hv => exact hv
    | 9, hv => exact hv
    | 10, _ => exact absurd rfl e
    | 11, hv => exact hv
    | j + 12, hv => exact absurd (List.getElem?_eq_some_iff.1 hv).1 (by simp [pvs])

theorem cell_grown {w w' : World} {row : Option Nat} (hg : w.grownBy w' row) {p : Addr} (hl : p.block < w.heap.size) (hne : ∀ g, row = some g → g ≠ p.block) : w'.cell? p = w.cell? p :=
  World.cell?_of_block (hg.block p.block hl (fun e => hne _ e.symm rfl))

set_option maxRecDepth 100000 in
set_option maxHeartbeats 8000000 in
theorem RGet_all (A : Option Addr) (n cap B : Nat) (xs : List Int) (w : World) (hx : Rd w B A (u8s xs)) (hn : xs.length = n) (hnc : n ≤ cap) (hcap : cap ≤ maxLen) (hB : B ≤ w.heap.size) (hb : ∀ x ∈ xs, 0 ≤ x ∧ x ≤ 255) :
    Calls Tryd.prog 51 #[.slice A n cap] w fun e w' => ∃ A1 n1 c1 A2 n2 c2, e = .returned (.tuple #[pv (Pm.get xs).1 A1 n1 c1 A2 n2 c2, .int .i64 (Pm.get xs).2]) ∧ PlAt w' w'.heap.size (Pm.get xs).1 A1 n1 c1 A2 n2 c2 ∧ Fr w.heap.size A1 ∧ Fr w.heap.size A2 ∧ Below w.heap.size w w' := by
  have HZ1 : Hid ((w.alloc (.cells (pvs Pm.zero none 0 0 none 0 0).toArray 27)).heap.size = w.heap.size + 1) := World.size_alloc ..
  have hb1 := Lib.hid ((Below.refl w.heap.size w).alloc (Nat.le_refl _) (.cells (pvs Pm.zero none 0 0 none 0 0).toArray 27))
  have hth1 := Lib.hid (there_new w (pvs Pm.zero none 0 0 none 0 0) 27)
  have HX := Lib.hid hx
  have HN := Lib.hid hn
  have HB := Lib.hid hb
  have hcap' := hcap
  unfold maxLen at hcap'
  have HI0 := Lib.hid (RInts_any A n cap B xs 0 (w.alloc (.cells (pvs Pm.zero none 0 0 none 0 0).toArray 27)) (hx.below (hb1.out.mono hB)) hn hnc hcap (Nat.le_trans hB hb1.out.size) hb (by omega) (by omega))
  have hcs := Pm.get3_cases hb
  clear hx hn hb
  go_enter Tryd.func51, Tryd.ntmps51
  go_wp2_with (go_at_call 48; fail)
  refine HI0.out.mono ?_
  rintro e w2 ⟨v2, rfl, hown2, hb2'⟩
  clear HI0
  rw [HZ1.out] at hb2' hown2
  have hth2 := Lib.hid (there_below hth1.out hb2' (Nat.lt_succ_self _))
  have hbw2 := Lib.hid (hb1.out.trans (hb2'.mono (Nat.le_succ _)))
  have hz2 : w.heap.size + 1 ≤ w2.heap.size := by have := hb2'.size; rw [HZ1.out] at this; exact this
  clear hb2' hth1 hb1 HZ1
  rcases hcs with ⟨he0, hg⟩ | ⟨l, k0, e0, hk0, f0, s0, hcs⟩
  · have HE := Lib.hid (Pm.get_none hg)
    clear hown2 hg
    generalize Wm.rints xs 0 = q at *
    obtain ⟨q1, q2, q3⟩ := q
    dsimp only at *
    have hq : (q3 != 0) = true := by rw [bne_iff_ne]; exact he0
    clear he0
    have hrng := Lib.hid (World.rangeAt_setCells_same w2 w.heap.size 0 (pvs Pm.zero none 0 0 none 0 0) hth2.out)
    have hbe := Lib.hid (below_grown hbw2.out (grown_set w.heap.size (pvs Pm.zero none 0 0 none 0 0) 0 w2) (Nat.le_refl _) hbw2.out.size)
    go_wp2_with (refine wpList_store_mid rfl 27 _ _ rfl w.heap.size 0 (pvs Pm.zero none 0 0 none 0 0).toArray rfl rfl hth2.out info_plan (pvs_one _ _ _ _ _ _ _) ?_)
    refine bodyPost_ret (results_ct rfl _ _ w.heap.size (pvs Pm.zero none 0 0 none 0 0) _ rfl hrng.out Tryd.underlying27 rfl info_plan) rfl ?_
    exact ⟨none, 0, 0, none, 0, 0, by rw [HE.out]; rfl, by rw [HE.out]; exact plAt_zero _ _, Fr.none, Fr.none, hbe.out⟩
  rw [e0] at hown2 ⊢
  dsimp only at hown2 ⊢
  by_cases hl : l.length = 10
  case neg =>
    have HE := Lib.hid (Pm.get_len HB.out e0 hl)
    obtain ⟨A2, c2, rfl, -, -, -⟩ := own_view hown2
    have hq : ((l.length : Int) != 10) = true := by rw [bne_iff_ne]; omega
    clear e0 hl hown2 f0 s0 hcs
    have hrng := Lib.hid (World.rangeAt_setCells_same w2 w.heap.size 0 (pvs Pm.zero none 0 0 none 0 0) hth2.out)
    have hbe := Lib.hid (below_grown hbw2.out (grown_set w.heap.size (pvs Pm.zero none 0 0 none 0 0) 0 w2) (Nat.le_refl _) hbw2.out.size)
    go_wp2_with (refine wpList_store_mid rfl 27 _ _ rfl w.heap.size 0 (pvs Pm.zero none 0 0 none 0 0).toArray rfl rfl hth2.out info_plan (pvs_one _ _ _ _ _ _ _) ?_)
    refine bodyPost_ret (results_ct rfl _ _ w.heap.size (pvs Pm.zero none 0 0 none 0 0) _ rfl hrng.out Tryd.underlying27 rfl info_plan) rfl ?_
    exact ⟨none, 0, 0, none, 0, 0, by rw [HE.out]; rfl, by rw [HE.out]; exact plAt_zero _ _, Fr.none, Fr.none, hbe.out⟩
  rw [hl] at hown2
  obtain ⟨g, c2, rfl, hcp2, hcm2⟩ := hown2.form (by omega)
  obtain ⟨a0, a1, a2, a3, a4, a5, a6, a7, a8, a9, rfl⟩ : ∃ a0 a1 a2 a3 a4 a5 a6 a7 a8 a9, l = [a0, a1, a2, a3, a4, a5, a6, a7, a8, a9] := by
    match l, hl with
    | [a0, a1, a2, a3, a4, a5, a6, a7, a8, a9], _ => exact ⟨a0, a1, a2, a3, a4, a5, a6, a7, a8, a9, rfl⟩
  have HRG := Lib.hid (range_of_own hown2)
  have hgl := (hown2.lt g rfl).2
  have HF0 : Hid (Wm.Fits [a0, a1, a2, a3, a4, a5, a6, a7, a8, a9]) := f0
  clear e0 hl hown2 f0 s0
  have HI1 := Lib.hid (RInts_any A n cap B xs (k0 : Int) w2 (HX.out.below (hbw2.out.mono hB)) HN.out hnc hcap (Nat.le_trans hB hbw2.out.size) HB.out (by rw [HN.out] at hk0; omega) (by rw [HN.out] at hk0; omega))
  clear hk0
  go_wp2_with (go_at_call 48; fail)
  refine HI1.out.mono ?_
  rintro e w3 ⟨v3, rfl, hown3, hb3'⟩
  clear HI1
  have hth3 := Lib.hid (there_below hth2.out hb3' (by omega))
  have hbw3 := Lib.hid (hbw2.out.trans (hb3'.mono hbw2.out.size))
  have hk3 := Lib.hid hb3'
  have hz3 := hb3'.size
  clear hb3' hth2
  rcases hcs with ⟨he1, hg⟩ | ⟨m, k1, e1, hk1, f1, s1, hcs⟩
  · have HE := Lib.hid (Pm.get_none hg)
    clear hown3 hg
    generalize Wm.rints xs (k0 : Int) = q at *
    obtain ⟨q1, q2, q3⟩ := q
    dsimp only at *
    have hq : (q3 != 0) = true := by rw [bne_iff_ne]; exact he1
    clear he1
    have hrng := Lib.hid (World.rangeAt_setCells_same w3 w.heap.size 0 (pvs Pm.zero none 0 0 none 0 0) hth3.out)
    have hbe := Lib.hid (below_grown hbw3.out (grown_set w.heap.size (pvs Pm.zero none 0 0 none 0 0) 0 w3) (Nat.le_refl _) hbw3.out.size)
    go_wp2_with (refine wpList_store_mid rfl 27 _ _ rfl w.heap.size 0 (pvs Pm.zero none 0 0 none 0 0).toArray rfl rfl hth3.out info_plan (pvs_one _ _ _ _ _ _ _) ?_)
    refine bodyPost_ret (results_ct rfl _ _ w.heap.size (pvs Pm.zero none 0 0 none 0 0) _ rfl hrng.out Tryd.underlying27 rfl info_plan) rfl ?_
    exact ⟨none, 0, 0, none, 0, 0, by rw [HE.out]; rfl, by rw [HE.out]; exact plAt_zero _ _, Fr.none, Fr.none, hbe.out⟩
  rw [e1] at hown3 ⊢
  dsimp only at hown3 ⊢
  obtain ⟨A3, c3, rfl, hcp3, hcm3, hrd3⟩ := own_view hown3
  obtain ⟨n3, en3⟩ : ∃ n3, m.length = n3 := ⟨_, rfl⟩
  rw [en3] at hown3 hcp3 ⊢
  have EN3 := Lib.hid en3
  have hm64 : n3 ≤ 64 := by omega
  have HO3 := Lib.hid hown3
  have HR3 := Lib.hid hrd3
  have HF1 : Hid (Wm.Fits m) := f1
  clear e1 hown3 hrd3 f1 s1 en3
  have HI2 := Lib.hid (RInts_any A n cap B xs (k1 : Int) w3 (HX.out.below (hbw3.out.mono hB)) HN.out hnc hcap (Nat.le_trans hB hbw3.out.size) HB.out (by rw [HN.out] at hk1; omega) (by rw [HN.out] at hk1; omega))
  clear hk1
  go_wp2_with (go_at_call 48; fail)
  refine HI2.out.mono ?_
  rintro e w4 ⟨v4, rfl, hown4, hb4'⟩
  clear HI2
  have hth4 := Lib.hid (there_below hth3.out hb4' (by omega))
  have hbw4 := Lib.hid (hbw3.out.trans (hb4'.mono hbw3.out.size))
  have hk4 := Lib.hid hb4'
  have hz4 := hb4'.size
  clear hb4' hth3
  rcases hcs with ⟨he2, hg⟩ | ⟨o, j, e2, hk2, f2, s2, hcs⟩
  · have HE := Lib.hid (Pm.get_none hg)
    clear hown4 hg
    generalize Wm.rints xs (k1 : Int) = q at *
    obtain ⟨q1, q2, q3⟩ := q
    dsimp only at *
    have hq : (q3 != 0) = true := by rw [bne_iff_ne]; exact he2
    clear he2
    have hrng := Lib.hid (World.rangeAt_setCells_same w4 w.heap.size 0 (pvs Pm.zero none 0 0 none 0 0) hth4.out)
    have hbe := Lib.hid (below_grown hbw4.out (grown_set w.heap.size (pvs Pm.zero none 0 0 none 0 0) 0 w4) (Nat.le_refl _) hbw4.out.size)
    go_wp2_with (refine wpList_store_mid rfl 27 _ _ rfl w.heap.size 0 (pvs Pm.zero none 0 0 none 0 0).toArray rfl rfl hth4.out info_plan (pvs_one _ _ _ _ _ _ _) ?_)
    refine bodyPost_ret (results_ct rfl _ _ w.heap.size (pvs Pm.zero none 0 0 none 0 0) _ rfl hrng.out Tryd.underlying27 rfl info_plan) rfl ?_
    exact ⟨none, 0, 0, none, 0, 0, by rw [HE.out]; rfl, by rw [HE.out]; exact plAt_zero _ _, Fr.none, Fr.none, hbe.out⟩
  rw [e2] at hown4 ⊢
  dsimp only at hown4 ⊢
  obtain ⟨A4, c4, rfl, hcp4, hcm4, hrd4⟩ := own_view hown4
  obtain ⟨n4, en4⟩ : ∃ n4, o.length = n4 := ⟨_, rfl⟩
  rw [en4] at hown4 hcp4 ⊢
  have EN4 := Lib.hid en4
  have hm4 : n4 ≤ 64 := by omega
  have HO4 := Lib.hid hown4
  have HF2 : Hid (Wm.Fits o) := f2
  clear e2 hown4 hrd4 f2 s2 en4 hk2
  rcases hcs with ⟨hj, hg⟩ | ⟨hj, hg, -⟩
  · have HE := Lib.hid (Pm.get_none hg)
    rw [HN.out] at hj
    have hq : ((j : Int) != (n : Int)) = true := by rw [bne_iff_ne]; omega
    clear hg hj
    have hrng := Lib.hid (World.rangeAt_setCells_same w4 w.heap.size 0 (pvs Pm.zero none 0 0 none 0 0) hth4.out)
    have hbe := Lib.hid (below_grown hbw4.out (grown_set w.heap.size (pvs Pm.zero none 0 0 none 0 0) 0 w4) (Nat.le_refl _) hbw4.out.size)
    go_wp2_with (refine wpList_store_mid rfl 27 _ _ rfl w.heap.size 0 (pvs Pm.zero none 0 0 none 0 0).toArray rfl rfl hth4.out info_plan (pvs_one _ _ _ _ _ _ _) ?_)
    refine bodyPost_ret (results_ct rfl _ _ w.heap.size (pvs Pm.zero none 0 0 none 0 0) _ rfl hrng.out Tryd.underlying27 rfl info_plan) rfl ?_
    exact ⟨none, 0, 0, none, 0, 0, by rw [HE.out]; rfl, by rw [HE.out]; exact plAt_zero _ _, Fr.none, Fr.none, hbe.out⟩
  rw [HN.out] at hj
  have hq : ((j : Int) != (n : Int)) = false := by rw [bne_eq_false_iff_eq]; omega
  have HG := Lib.hid hg
  clear hg hj
  have FJ : Hid (∀ (W : World), Below w4.heap.size w4 W → W.rangeAt g 0 (i64s [a0, a1, a2, a3, a4, a5, a6, a7, a8, a9])) := fun W h i v hv => by
    rw [h.cell (by show g < _; omega), hk4.out.cell (by show g < _; omega), hk3.out.cell (by exact hgl)]
    exact HRG.out i v hv
  have c8 : w4.cell? ⟨g, 8, none⟩ = some (.int .i64 a8) := by have := FJ.out w4 (Below.refl _ _) 8 _ rfl; rwa [Nat.zero_add] at this
  have c9 : w4.cell? ⟨g, 9, none⟩ = some (.int .i64 a9) := by have := FJ.out w4 (Below.refl _ _) 9 _ rfl; rwa [Nat.zero_add] at this
  by_cases h8 : a8 < 0
  · have HE := Lib.hid (Pm.get_no HG.out (fun q => Pm.rt_neg8 (ns := [a0, a1, a2, a3, a4, a5, a6, a7, a8, a9]) h8 q.2))
    have hd : decide (a8 < 0) = true := by simpa using h8
    have hrng := Lib.hid (World.rangeAt_setCells_same w4 w.heap.size 0 (pvs Pm.zero none 0 0 none 0 0) hth4.out)
    have hbe := Lib.hid (below_grown hbw4.out (grown_set w.heap.size (pvs Pm.zero none 0 0 none 0 0) 0 w4) (Nat.le_refl _) hbw4.out.size)
    go_wp2_with (refine wpList_store_mid rfl 27 _ _ rfl w.heap.size 0 (pvs Pm.zero none 0 0 none 0 0).toArray rfl rfl hth4.out info_plan (pvs_one _ _ _ _ _ _ _) ?_)
    refine bodyPost_ret (results_ct rfl _ _ w.heap.size (pvs Pm.zero none 0 0 none 0 0) _ rfl hrng.out Tryd.underlying27 rfl info_plan) rfl ?_
    exact ⟨none, 0, 0, none, 0, 0, by rw [HE.out]; rfl, by rw [HE.out]; exact plAt_zero _ _, Fr.none, Fr.none, hbe.out⟩
  have d8 : decide (a8 < 0) = false := by simpa using h8
  by_cases h9 : a9 < 0
  · have HE := Lib.hid (Pm.get_no HG.out (fun q => Pm.rt_neg9 (ns := [a0, a1, a2, a3, a4, a5, a6, a7, a8, a9]) h9 q.2))
    have hd : decide (a9 < 0) = true := by simpa using h9
    have hrng := Lib.hid (World.rangeAt_setCells_same w4 w.heap.size 0 (pvs Pm.zero none 0 0 none 0 0) hth4.out)
    have hbe := Lib.hid (below_grown hbw4.out (grown_set w.heap.size (pvs Pm.zero none 0 0 none 0 0) 0 w4) (Nat.le_refl _) hbw4.out.size)
    go_wp2_with (refine wpList_store_mid rfl 27 _ _ rfl w.heap.size 0 (pvs Pm.zero none 0 0 none 0 0).toArray rfl rfl hth4.out info_plan (pvs_one _ _ _ _ _ _ _) ?_)
    refine bodyPost_ret (results_ct rfl _ _ w.heap.size (pvs Pm.zero none 0 0 none 0 0) _ rfl hrng.out Tryd.underlying27 rfl info_plan) rfl ?_
    exact ⟨none, 0, 0, none, 0, 0, by rw [HE.out]; rfl, by rw [HE.out]; exact plAt_zero _ _, Fr.none, Fr.none, hbe.out⟩
  have d9 : decide (a9 < 0) = false := by simpa using h9
  have HLIT : Hid (pvs (Pm.sml [a0, a1, a2, a3, a4, a5, a6, a7, a8, a9] m o) none 0 0 A4 n4 c4 = [.int .i64 a0, .int .i64 (Pm.sm a1), .int .i64 (Pm.sm a2), .int .i64 (Pm.sm a3), .int .i64 (Pm.sm a4), .int .i64 a5, .int .i64 a6, .int .i64 a7, .int .u64 (a8 % 18446744073709551616), .int .u64 (a9 % 18446744073709551616), .slice none 0 0, .slice A4 n4 c4]) := by
    rw [usw (HF0.out a8 (by simp)), usw (HF0.out a9 (by simp))]; exact Lib.hid rfl
  have HXO := Lib.hid (Pm.sml_ok (pen := m) HF0.out HF2.out)
  have HXR := Lib.hid (Pm.sml_right (pen := m) (ch := o) HF0.out)
  have F := fun (i : Nat) (v : Value) (hv : (i64s [a0, a1, a2, a3, a4, a5, a6, a7, a8, a9])[i]? = some v) (W : World) (h : Below w4.heap.size w4 W) => (by have := FJ.out W h i v hv; rwa [Nat.zero_add] at this : W.cell? ⟨g, i, none⟩ = some v)
  have HFF := Lib.hid F
  clear F h8 h9
  go_wp2_with fail
  clear c8 c9
  refine region_C (fun W => Below w4.heap.size w4 W) (by kernel_rfl) ?_
  have hC : Below w4.heap.size w4 w4.drew := (Below.refl _ _).drew
  refine anyC_take (i := 0) (v := ?v0_174) (a' := ?a0_174) rfl (by kernel_rfl) (by kernel_rfl) (by kernel_rfl) (fun _ _ _ h => h) hC ?w0_174 ?y0_174 ?f0_174 ?r0_174
  case w0_174 => kernel_rfl
  case y0_174 => (intro w hC; go_simp; try with_reducible rfl)
  case f0_174 => (go_simp; try with_reducible rfl)
  refine anyC_take (i := 3) (v := ?v3_175) (a' := ?a3_175) rfl (by kernel_rfl) (by kernel_rfl) (by kernel_rfl) (fun _ _ _ h => h) hC ?w3_175 ?y3_175 ?f3_175 ?r3_175
  case w3_175 => kernel_rfl
  case y3_175 => (intro w hC; go_simp; try with_reducible rfl)
  case f3_175 => (go_simp; try with_reducible rfl)
  refine anyC_take (i := 7) (v := ?v7_176) (a' := ?a7_176) rfl (by kernel_rfl) (by kernel_rfl) (by kernel_rfl) (fun _ _ _ h => h) hC ?w7_176 ?y7_176 ?f7_176 ?r7_176
  case w7_176 => kernel_rfl
  case y7_176 => (intro w hC; go_simp; try with_reducible rfl)
  case f7_176 => (go_simp; try with_reducible rfl)
  refine anyC_take (i := 11) (v := ?v11_177) (a' := ?a11_177) rfl (by kernel_rfl) (by kernel_rfl) (by kernel_rfl) (fun _ _ _ h => h) hC ?w11_177 ?y11_177 ?f11_177 ?r11_177
  case w11_177 => kernel_rfl
  case y11_177 => (intro w hC; go_simp; try with_reducible rfl)
  case f11_177 => (go_simp; try with_reducible rfl)
  refine anyC_take (i := 15) (v := ?v15_178) (a' := ?a15_178) rfl (by kernel_rfl) (by kernel_rfl) (by kernel_rfl) (fun _ _ _ h => h) hC ?w15_178 ?y15_178 ?f15_178 ?r15_178
  case w15_178 => kernel_rfl
  case y15_178 => (intro w hC; go_simp; try with_reducible rfl)
  case f15_178 => (go_simp; try with_reducible rfl)
  refine anyC_take (i := 19) (v := ?v19_179) (a' := ?a19_179) rfl (by kernel_rfl) (by kernel_rfl) (by kernel_rfl) (fun _ _ _ h => h) hC ?w19_179 ?y19_179 ?f19_179 ?r19_179
  case w19_179 => kernel_rfl
  case y19_179 => (intro w hC; go_simp; try with_reducible rfl)
  case f19_179 => (go_simp; try with_reducible rfl)
  refine anyC_take (i := 22) (v := ?v22_180) (a' := ?a22_180) rfl (by kernel_rfl) (by kernel_rfl) (by kernel_rfl) (fun _ _ _ h => h) hC ?w22_180 ?y22_180 ?f22_180 ?r22_180
  case w22_180 => kernel_rfl
  case y22_180 => (intro w hC; go_simp; try with_reducible rfl)
  case f22_180 => (go_simp; try with_reducible rfl)
  refine anyC_take (i := 25) (v := ?v25_181) (a' := ?a25_181) rfl (by kernel_rfl) (by kernel_rfl) (by kernel_rfl) (fun _ _ _ h => h) hC ?w25_181 ?y25_181 ?f25_181 ?r25_181
  case w25_181 => kernel_rfl
  case y25_181 => (intro w hC; go_simp; try with_reducible rfl)
  case f25_181 => (go_simp; try with_reducible rfl)
  refine anyC_take (i := 28) (v := ?v28_182) (a' := ?a28_182) rfl (by kernel_rfl) (by kernel_rfl) (by kernel_rfl) (fun _ _ _ h => h) hC ?w28_182 ?y28_182 ?f28_182 ?r28_182
  case w28_182 => kernel_rfl
  case y28_182 => (intro w hC; go_simp; try with_reducible rfl)
  case f28_182 => (go_simp; try with_reducible rfl)
  refine anyC_take (i := 32) (v := ?v32_183) (a' := ?a32_183) rfl (by kernel_rfl) (by kernel_rfl) (by kernel_rfl) (fun _ _ _ h => h) hC ?w32_183 ?y32_183 ?f32_183 ?r32_183
  case w32_183 => kernel_rfl
  case y32_183 => (intro w hC; go_simp; try with_reducible rfl)
  case f32_183 => (go_simp; try with_reducible rfl)
  refine anyC_take (i := 36) (v := ?v36_184) (a' := ?a36_184) rfl (by kernel_rfl) (by kernel_rfl) (by kernel_rfl) (fun _ _ _ h => h) hC ?w36_184 ?y36_184 ?f36_184 ?r36_184
  case w36_184 => kernel_rfl
  case y36_184 => (intro w hC; go_simp; try with_reducible rfl)
  case f36_184 => (go_simp; try with_reducible rfl)
  refine anyC_take (i := 1) (v := ?v1_185) (a' := ?a1_185) rfl (by kernel_rfl) (by kernel_rfl) (by kernel_rfl) (fun _ _ _ h => h) hC ?w1_185 ?y1_185 ?f1_185 ?r1_185
  case w1_185 => kernel_rfl
  case y1_185 => (intro w hC; have h4 := HFF.out 0 _ rfl w hC; go_simp; try with_reducible rfl)
  case f1_185 => (go_simp; try with_reducible rfl)
  refine anyC_take (i := 2) (v := ?v2_186) (a' := ?a2_186) rfl (by kernel_rfl) (by kernel_rfl) (by kernel_rfl) (fun _ _ _ h => h) hC ?w2_186 ?y2_186 ?f2_186 ?r2_186
  case w2_186 => kernel_rfl
  case y2_186 => (intro w hC; have h4 := HFF.out 0 _ rfl w hC; go_simp; try with_reducible rfl)
  case f2_186 => (go_simp; try with_reducible rfl)
  refine anyC_take (i := 4) (v := ?v4_187) (a' := ?a4_187) rfl (by kernel_rfl) (by kernel_rfl) (by kernel_rfl) (fun _ _ _ h => h) hC ?w4_187 ?y4_187 ?f4_187 ?r4_187
  case w4_187 => kernel_rfl
  case y4_187 => (intro w hC; go_simp; try with_reducible rfl)
  case f4_187 => (go_simp; try with_reducible rfl)
  refine anyC_take (i := 8) (v := ?v8_188) (a' := ?a8_188) rfl (by kernel_rfl) (by kernel_rfl) (by kernel_rfl) (fun _ _ _ h => h) hC ?w8_188 ?y8_188 ?f8_188 ?r8_188
  case w8_188 => kernel_rfl
  case y8_188 => (intro w hC; go_simp; try with_reducible rfl)
  case f8_188 => (go_simp; try with_reducible rfl)
  refine anyC_take (i := 12) (v := ?v12_189) (a' := ?a12_189) rfl (by kernel_rfl) (by kernel_rfl) (by kernel_rfl) (fun _ _ _ h => h) hC ?w12_189 ?y12_189 ?f12_189 ?r12_189
  case w12_189 => kernel_rfl
  case y12_189 => (intro w hC; go_simp; try with_reducible rfl)
  case f12_189 => (go_simp; try with_reducible rfl)
  refine anyC_take (i := 16) (v := ?v16_190) (a' := ?a16_190) rfl (by kernel_rfl) (by kernel_rfl) (by kernel_rfl) (fun _ _ _ h => h) hC ?w16_190 ?y16_190 ?f16_190 ?r16_190
  case w16_190 => kernel_rfl
  case y16_190 => (intro w hC; go_simp; try with_reducible rfl)
  case f16_190 => (go_simp; try with_reducible rfl)
  refine anyC_take (i := 20) (v := ?v20_191) (a' := ?a20_191) rfl (by kernel_rfl) (by kernel_rfl) (by kernel_rfl) (fun _ _ _ h => h) hC ?w20_191 ?y20_191 ?f20_191 ?r20_191
  case w20_191 => kernel_rfl
  case y20_191 => (intro w hC; go_simp; try with_reducible rfl)
  case f20_191 => (go_simp; try with_reducible rfl)
  refine anyC_take (i := 23) (v := ?v23_192) (a' := ?a23_192) rfl (by kernel_rfl) (by kernel_rfl) (by kernel_rfl) (fun _ _ _ h => h) hC ?w23_192 ?y23_192 ?f23_192 ?r23_192
  case w23_192 => kernel_rfl
  case y23_192 => (intro w hC; go_simp; try with_reducible rfl)
  case f23_192 => (go_simp; try with_reducible rfl)
  refine anyC_take (i := 26) (v := ?v26_193) (a' := ?a26_193) rfl (by kernel_rfl) (by kernel_rfl) (by kernel_rfl) (fun _ _ _ h => h) hC ?w26_193 ?y26_193 ?f26_193 ?r26_193
  case w26_193 => kernel_rfl
  case y26_193 => (intro w hC; go_simp; try with_reducible rfl)
  case f26_193 => (go_simp; try with_reducible rfl)
  refine anyC_take (i := 29) (v := ?v29_194) (a' := ?a29_194) rfl (by kernel_rfl) (by kernel_rfl) (by kernel_rfl) (fun _ _ _ h => h) hC ?w29_194 ?y29_194 ?f29_194 ?r29_194
  case w29_194 => kernel_rfl
  case y29_194 => (intro w hC; go_simp; try with_reducible rfl)
  case f29_194 => (go_simp; try with_reducible rfl)
  refine anyC_take (i := 33) (v := ?v33_195) (a' := ?a33_195) rfl (by kernel_rfl) (by kernel_rfl) (by kernel_rfl) (fun _ _ _ h => h) hC ?w33_195 ?y33_195 ?f33_195 ?r33_195
  case w33_195 => kernel_rfl
  case y33_195 => (intro w hC; go_simp; try with_reducible rfl)
  case f33_195 => (go_simp; try with_reducible rfl)
  refine anyC_take (i := 5) (v := ?v5_196) (a' := ?a5_196) rfl (by kernel_rfl) (by kernel_rfl) (by kernel_rfl) (fun _ _ _ h => h) hC ?w5_196 ?y5_196 ?f5_196 ?r5_196
  case w5_196 => kernel_rfl
  case y5_196 => (intro w hC; have h4 := HFF.out 1 _ rfl w hC; go_simp; try with_reducible rfl)
  case f5_196 => (go_simp; try with_reducible rfl)
  refine anyC_take (i := 9) (v := ?v9_197) (a' := ?a9_197) rfl (by kernel_rfl) (by kernel_rfl) (by kernel_rfl) (fun _ _ _ h => h) hC ?w9_197 ?y9_197 ?f9_197 ?r9_197
  case w9_197 => kernel_rfl
  case y9_197 => (intro w hC; have h4 := HFF.out 2 _ rfl w hC; go_simp; try with_reducible rfl)
  case f9_197 => (go_simp; try with_reducible rfl)
  refine anyC_take (i := 13) (v := ?v13_198) (a' := ?a13_198) rfl (by kernel_rfl) (by kernel_rfl) (by kernel_rfl) (fun _ _ _ h => h) hC ?w13_198 ?y13_198 ?f13_198 ?r13_198
  case w13_198 => kernel_rfl
  case y13_198 => (intro w hC; have h4 := HFF.out 3 _ rfl w hC; go_simp; try with_reducible rfl)
  case f13_198 => (go_simp; try with_reducible rfl)
  refine anyC_take (i := 17) (v := ?v17_199) (a' := ?a17_199) rfl (by kernel_rfl) (by kernel_rfl) (by kernel_rfl) (fun _ _ _ h => h) hC ?w17_199 ?y17_199 ?f17_199 ?r17_199
  case w17_199 => kernel_rfl
  case y17_199 => (intro w hC; have h4 := HFF.out 4 _ rfl w hC; go_simp; try with_reducible rfl)
  case f17_199 => (go_simp; try with_reducible rfl)
  refine anyC_take (i := 21) (v := ?v21_200) (a' := ?a21_200) rfl (by kernel_rfl) (by kernel_rfl) (by kernel_rfl) (fun _ _ _ h => h) hC ?w21_200 ?y21_200 ?f21_200 ?r21_200
  case w21_200 => kernel_rfl
  case y21_200 => (intro w hC; have h4 := HFF.out 5 _ rfl w hC; go_simp; try with_reducible rfl)
  case f21_200 => (go_simp; try with_reducible rfl)
  refine anyC_take (i := 24) (v := ?v24_201) (a' := ?a24_201) rfl (by kernel_rfl) (by kernel_rfl) (by kernel_rfl) (fun _ _ _ h => h) hC ?w24_201 ?y24_201 ?f24_201 ?r24_201
  case w24_201 => kernel_rfl
  case y24_201 => (intro w hC; have h4 := HFF.out 6 _ rfl w hC; go_simp; try with_reducible rfl)
  case f24_201 => (go_simp; try with_reducible rfl)
  refine anyC_take (i := 27) (v := ?v27_202) (a' := ?a27_202) rfl (by kernel_rfl) (by kernel_rfl) (by kernel_rfl) (fun _ _ _ h => h) hC ?w27_202 ?y27_202 ?f27_202 ?r27_202
  case w27_202 => kernel_rfl
  case y27_202 => (intro w hC; have h4 := HFF.out 7 _ rfl w hC; go_simp; try with_reducible rfl)
  case f27_202 => (go_simp; try with_reducible rfl)
  refine anyC_take (i := 30) (v := ?v30_203) (a' := ?a30_203) rfl (by kernel_rfl) (by kernel_rfl) (by kernel_rfl) (fun _ _ _ h => h) hC ?w30_203 ?y30_203 ?f30_203 ?r30_203
  case w30_203 => kernel_rfl
  case y30_203 => (intro w hC; have h4 := HFF.out 8 _ rfl w hC; go_simp; try with_reducible rfl)
  case f30_203 => (go_simp; try with_reducible rfl)
  refine anyC_take (i := 34) (v := ?v34_204) (a' := ?a34_204) rfl (by kernel_rfl) (by kernel_rfl) (by kernel_rfl) (fun _ _ _ h => h) hC ?w34_204 ?y34_204 ?f34_204 ?r34_204
  case w34_204 => kernel_rfl
  case y34_204 => (intro w hC; have h4 := HFF.out 9 _ rfl w hC; go_simp; try with_reducible rfl)
  case f34_204 => (go_simp; try with_reducible rfl)
  refine anyC_take (i := 31) (v := ?v31_205) (a' := ?a31_205) rfl (by kernel_rfl) (by kernel_rfl) (by kernel_rfl) (fun _ _ _ h => h) hC ?w31_205 ?y31_205 ?f31_205 ?r31_205
  case w31_205 => kernel_rfl
  case y31_205 => (intro w hC; go_simp; try with_reducible rfl)
  case f31_205 => (go_simp; try with_reducible rfl)
  refine anyC_take (i := 35) (v := ?v35_206) (a' := ?a35_206) rfl (by kernel_rfl) (by kernel_rfl) (by kernel_rfl) (fun _ _ _ h => h) hC ?w35_206 ?y35_206 ?f35_206 ?r35_206
  case w35_206 => kernel_rfl
  case y35_206 => (intro w hC; go_simp; try with_reducible rfl)
  case f35_206 => (go_simp; try with_reducible rfl)
  refine anyC_call (i := 6) (a' := ?a6_207) rfl (by kernel_rfl) (by kernel_rfl) (by kernel_rfl) (fun _ _ _ h => h) hC (fun W _ => (small_any a1 W).mono fun _ _ h => ⟨h.1, h.2.symm⟩) (by kernel_rfl) ?y6_207 ?f6_207 ?r6_207
  case y6_207 => (intro W hW; go_simp; try with_reducible rfl)
  case f6_207 => (go_simp; try with_reducible rfl)
  refine anyC_call (i := 10) (a' := ?a10_208) rfl (by kernel_rfl) (by kernel_rfl) (by kernel_rfl) (fun _ _ _ h => h) hC (fun W _ => (small_any a2 W).mono fun _ _ h => ⟨h.1, h.2.symm⟩) (by kernel_rfl) ?y10_208 ?f10_208 ?r10_208
  case y10_208 => (intro W hW; go_simp; try with_reducible rfl)
  case f10_208 => (go_simp; try with_reducible rfl)
  refine anyC_call (i := 14) (a' := ?a14_209) rfl (by kernel_rfl) (by kernel_rfl) (by kernel_rfl) (fun _ _ _ h => h) hC (fun W _ => (small_any a3 W).mono fun _ _ h => ⟨h.1, h.2.symm⟩) (by kernel_rfl) ?y14_209 ?f14_209 ?r14_209
  case y14_209 => (intro W hW; go_simp; try with_reducible rfl)
  case f14_209 => (go_simp; try with_reducible rfl)
  refine anyC_call (i := 18) (a' := ?a18_210) rfl (by kernel_rfl) (by kernel_rfl) (by kernel_rfl) (fun _ _ _ h => h) hC (fun W _ => (small_any a4 W).mono fun _ _ h => ⟨h.1, h.2.symm⟩) (by kernel_rfl) ?y18_210 ?f18_210 ?r18_210
  case y18_210 => (intro W hW; go_simp; try with_reducible rfl)
  case f18_210 => (go_simp; try with_reducible rfl)
  refine anyC_take (i := 37) (v := ?v37_211) (a' := ?a37_211) rfl (by kernel_rfl) (by kernel_rfl) (by kernel_rfl) (fun _ _ _ h => h) hC ?w37_211 ?y37_211 ?f37_211 ?r37_211
  case w37_211 => kernel_rfl
  case y37_211 => (intro w hC; go_simp; try with_reducible rfl)
  case f37_211 => (go_simp; try with_reducible rfl)
  refine anyC_one (i := 38) rfl (by kernel_rfl) (by kernel_rfl) (fun K hK => ?_)
  go_simp
  have hC38 : Below w4.heap.size w4 (w4.alloc (.cells #[.int .i64 0, .int .i64 0, .int .i64 0, .int .i64 0, .int .i64 0, .int .i64 0, .int .i64 0, .int .i64 0, .int .u64 0, .int .u64 0, .slice none 0 0, .slice none 0 0] 27)).drew := ((Below.refl _ _).alloc (Nat.le_refl _) _).drew
  refine hK _ _ ⟨hC38, ?_⟩
  clear hK K
  refine anyC_one (i := 39) rfl (by kernel_rfl) (by kernel_rfl) (fun K hK => ?_)
  refine op_store_drew 27 (.tmp 9) (.tmp 101) rfl _ (pvs (Pm.sml [a0, a1, a2, a3, a4, a5, a6, a7, a8, a9] m o) none 0 0 A4 n4 c4).toArray w4.heap.size rfl rfl (by rw [HLIT.out]; rfl) info_plan rfl (pvs_one _ _ _ _ _ _ _) ?_
  have hC39 : Below w4.heap.size w4 (w4.alloc (.cells (pvs (Pm.sml [a0, a1, a2, a3, a4, a5, a6, a7, a8, a9] m o) none 0 0 A4 n4 c4).toArray 27)).drew := ((Below.refl _ _).alloc (Nat.le_refl _) _).drew
  refine hK _ _ ⟨hC39, ?_⟩
  clear hK K hC38 hC HLIT
  go_simp
  refine anyC_done (by kernel_rfl) ?_
  have hbx5 : Bx (w4.alloc (.cells (pvs (Pm.sml [a0, a1, a2, a3, a4, a5, a6, a7, a8, a9] m o) none 0 0 A4 n4 c4).toArray 27)).drew w4.heap.size (Pm.sml [a0, a1, a2, a3, a4, a5, a6, a7, a8, a9] m o) none 0 0 A4 n4 c4 := Bx.new w4 (Pm.sml [a0, a1, a2, a3, a4, a5, a6, a7, a8, a9] m o) none 0 0 A4 n4 c4 27
  have hth5 : (w4.alloc (.cells (pvs (Pm.sml [a0, a1, a2, a3, a4, a5, a6, a7, a8, a9] m o) none 0 0 A4 n4 c4).toArray 27)).drew.there w4.heap.size 0 12 := by rw [World.there_drew]; exact there_new w4 (pvs (Pm.sml [a0, a1, a2, a3, a4, a5, a6, a7, a8, a9] m o) none 0 0 A4 n4 c4) 27
  have hz5 : w4.heap.size + 1 ≤ (w4.alloc (.cells (pvs (Pm.sml [a0, a1, a2, a3, a4, a5, a6, a7, a8, a9] m o) none 0 0 A4 n4 c4).toArray 27)).drew.heap.size := by
    show _ ≤ (w4.alloc _).heap.size
    rw [World.size_alloc]; exact Nat.le_refl _
  generalize (w4.alloc (.cells (pvs (Pm.sml [a0, a1, a2, a3, a4, a5, a6, a7, a8, a9] m o) none 0 0 A4 n4 c4).toArray 27)).drew = w5 at *
  have HXP : Hid ((Pm.sml [a0, a1, a2, a3, a4, a5, a6, a7, a8, a9] m o).pen = m.map Pm.sm) := rfl
  have HXC : Hid ((Pm.sml [a0, a1, a2, a3, a4, a5, a6, a7, a8, a9] m o).ch = o) := rfl
  have HXE := Lib.hid (fun (h : Pm.Rt [a0, a1, a2, a3, a4, a5, a6, a7, a8, a9] m o) => Pm.sml_eq h)
  generalize (Pm.sml [a0, a1, a2, a3, a4, a5, a6, a7, a8, a9] m o) = X at *
  have HBX5 := Lib.hid hbx5
  have HTH5 := Lib.hid hth5
  have HK5 := Lib.hid hC39
  obtain ⟨i1, hi1, hz10, hz11, hz12⟩ := info_parts info_int
  have hv3 := Lib.hid (fun gg (h : (Value.slice A3 n3 c3).ownBlock = some gg) => (HO3.out.lt gg h).2)
  clear hbx5 hth5 hC39 hq d8 d9
  go_wp2_with fail
  go_loopw [10] (fun ix wr => ∃ (k : Nat) (Ak : Option Addr) (ck : Nat), ix = .int .i64 (k : Int) ∧ k ≤ n3 ∧ Hid (wr.ownsRow (w4.heap.size + 1) 3 1 (.slice Ak k ck) k (i64s ((m.take k).map Pm.sm))) ∧ Hid (Bx wr w4.heap.size X Ak k ck A4 n4 c4) ∧ Hid (wr.there w4.heap.size 0 12) ∧ Hid (Below w4.heap.size w4 wr) ∧ Hid (w4.heap.size + 1 ≤ wr.heap.size)) (fun ix _ => n3 - (intOf ix).toNat)
  case atStart => exact ⟨0, none, 0, rfl, by omega, Lib.hid (World.ownsRow_nil _ _ _ _), HBX5, HTH5, HK5, Lib.hid hz5⟩
  case round =>
    obtain ⟨k, Ak, ck, rfl, hk, hOW, hBX, hTH, hBK, hZ⟩ := hrel
    clear HBX5 HTH5 HK5
    by_cases hlt : k < n3
    · obtain ⟨y, hyk⟩ : ∃ y, m[k]? = some y := ⟨m[k]'(by have := EN3.out; omega), List.getElem?_eq_getElem (by have := EN3.out; omega)⟩
      have hHR := HR3.out.below (hk4.out)
      obtain ⟨ad3, e3, had3, hc3⟩ := (hHR.below (hBK.out.mono hz4)).getU hyk
      subst e3
      have hkn : (k : Int) < (n3 : Int) := by omega
      have HTK : Hid ((m.take (k + 1)).map Pm.sm = (m.take k).map Pm.sm ++ [Pm.sm y]) := by show _ = _; rw [List.take_add_one, hyk]; simp
      have hpen := hBX.out.pen
      have hC : wr.drew.cell? ⟨w4.heap.size, 10, none⟩ = some (.slice Ak k ck) ∧ wr.drew.cell? (ad3.add k) = some (.int .i64 y) := ⟨hpen, hc3⟩
      have had : ad3.block < wr.heap.size := by have := hZ.out; omega
      clear hyk hHR
      go_wp2_with fail
      refine region_E (fun W => W.cell? ⟨w4.heap.size, 10, none⟩ = some (.slice Ak k ck) ∧ W.cell? (ad3.add k) = some (.int .i64 y)) (fun i => i == 10) (by kernel_rfl) ?_
      refine anyE_take (i := 0) (v := ?v0_212) (a' := ?a0_212) rfl (by kernel_rfl) (by kernel_rfl) (by kernel_rfl) (fun _ _ _ h => h) hC (by kernel_rfl) ?w0_212 ?y0_212 ?f0_212 ?r0_212
      case w0_212 => kernel_rfl
      case y0_212 => (intro w hC; go_simp; try with_reducible rfl)
      case f0_212 => (go_simp; try with_reducible rfl)
      refine anyE_take (i := 2) (v := ?v2_213) (a' := ?a2_213) rfl (by kernel_rfl) (by kernel_rfl) (by kernel_rfl) (fun _ _ _ h => h) hC (by kernel_rfl) ?w2_213 ?y2_213 ?f2_213 ?r2_213
      case w2_213 => kernel_rfl
      case y2_213 => (intro w hC; go_simp; try with_reducible rfl)
      case f2_213 => (go_simp; try with_reducible rfl)
      refine anyE_take (i := 3) (v := ?v3_214) (a' := ?a3_214) rfl (by kernel_rfl) (by kernel_rfl) (by kernel_rfl) (fun _ _ _ h => h) hC (by kernel_rfl) ?w3_214 ?y3_214 ?f3_214 ?r3_214
      case w3_214 => kernel_rfl
      case y3_214 => (intro w hC; go_simp; try with_reducible rfl)
      case f3_214 => (go_simp; try with_reducible rfl)
      refine anyE_take (i := 1) (v := ?v1_215) (a' := ?a1_215) rfl (by kernel_rfl) (by kernel_rfl) (by kernel_rfl) (fun _ _ _ h => h) hC (by kernel_rfl) ?w1_215 ?y1_215 ?f1_215 ?r1_215
      case w1_215 => kernel_rfl
      case y1_215 => (intro w hC; have h4 := hC.1; go_simp; try with_reducible rfl)
      case f1_215 => (go_simp; try with_reducible rfl)
      refine anyE_take (i := 4) (v := ?v4_216) (a' := ?a4_216) rfl (by kernel_rfl) (by kernel_rfl) (by kernel_rfl) (fun _ _ _ h => h) hC (by kernel_rfl) ?w4_216 ?y4_216 ?f4_216 ?r4_216
      case w4_216 => kernel_rfl
      case y4_216 => (intro w hC; go_simp; try with_reducible rfl)
      case f4_216 => (go_simp; try with_reducible rfl)
      refine anyE_take (i := 5) (v := ?v5_217) (a' := ?a5_217) rfl (by kernel_rfl) (by kernel_rfl) (by kernel_rfl) (fun _ _ _ h => h) hC (by kernel_rfl) ?w5_217 ?y5_217 ?f5_217 ?r5_217
      case w5_217 => kernel_rfl
      case y5_217 => (intro w hC; have h4 := hC.2; go_simp; try with_reducible rfl)
      case f5_217 => (go_simp; try with_reducible rfl)
      refine anyE_call (i := 6) (a' := ?a6_218) rfl (by kernel_rfl) (by kernel_rfl) (by kernel_rfl) (fun _ _ _ h => h) hC (by kernel_rfl) (fun W _ => (small_any y W).mono fun _ _ h => ⟨h.1, h.2.symm⟩) (by kernel_rfl) ?y6_218 ?f6_218 ?r6_218
      case y6_218 => (intro W hW; go_simp; try with_reducible rfl)
      case f6_218 => (go_simp; try with_reducible rfl)
      refine anyE_one (i := 7) rfl (by kernel_rfl) (by kernel_rfl) (fun K hK => ?_)
      go_simp
      have hC7 : ((wr.alloc (.cells #[.int .i64 (Pm.sm y)] 3)).drew).cell? ⟨w4.heap.size, 10, none⟩ = some (.slice Ak k ck) ∧ ((wr.alloc (.cells #[.int .i64 (Pm.sm y)] 3)).drew).cell? (ad3.add k) = some (.int .i64 y) := by
        refine ⟨?_, ?_⟩
        · show (wr.alloc _).cell? _ = _
          rw [World.cell?_alloc_lt _ _ _ (by show w4.heap.size < _; have := hZ.out; omega)]; exact hpen
        · show (wr.alloc _).cell? _ = _
          rw [World.cell?_alloc_lt _ _ _ (by rw [addr_add_block]; exact had)]; exact hc3
      refine hK _ _ ⟨hC7, ?_⟩
      clear hK K hC
      refine anyE_one (i := 8) rfl (by kernel_rfl) (by kernel_rfl) (fun K hK => ?_)
      have hown7 : ((wr.alloc (.cells #[.int .i64 (Pm.sm y)] 3)).drew).ownsRow (w4.heap.size + 1) 3 1 (.slice Ak k ck) k (i64s ((m.take k).map Pm.sm)) := hOW.out.alloc _
      have hrd7 : Rd ((wr.alloc (.cells #[.int .i64 (Pm.sm y)] 3)).drew) (wr.heap.size + 1) (some ⟨wr.heap.size, 0, none⟩) [.int .i64 (Pm.sm y)] := Rd.new wr (wr.heap.size + 1) [.int .i64 (Pm.sm y)] 3 (0, 0) (by omega)
      have hz7 : wr.heap.size + 1 ≤ ((wr.alloc (.cells #[.int .i64 (Pm.sm y)] 3)).drew).heap.size := by
        show _ ≤ (wr.alloc _).heap.size
        rw [World.size_alloc]; exact Nat.le_refl _
      have hk7 : Below wr.heap.size wr ((wr.alloc (.cells #[.int .i64 (Pm.sm y)] 3)).drew) := ((Below.refl _ _).alloc (Nat.le_refl _) _).drew
      generalize (wr.alloc (.cells #[.int .i64 (Pm.sm y)] 3)).drew = w7 at *
      refine op_app (.tmp 109) (.tmp 115) 24 rfl (w4.heap.size + 1) 3 i1 (.int .i64 0) 8 Tryd.underlying24 hi1 hz10 hz11 hz12 rfl _ _ _ rfl hown7 _ _ 1 1 [.int .i64 (Pm.sm y)] rfl rfl hrd7 (oneCell_ints .i64 [Pm.sm y]) (by unfold maxLen; omega) (by omega) (by have := hZ.out; omega) ?_
      intro v8 w8 hown8 hgrow8
      have hob : ∀ gg, (Value.slice Ak k ck).ownBlock = some gg → w4.heap.size + 1 ≤ gg := fun gg h => (hown7.lt gg h).1
      have hb9 : w8.heap[w4.heap.size]? = w7.heap[w4.heap.size]? := hgrow8.block _ (by have := hZ.out; omega) (fun e => by have := hob _ e.symm; omega)
      have hC8 : w8.cell? ⟨w4.heap.size, 10, none⟩ = some (.slice Ak k ck) ∧ w8.cell? (ad3.add k) = some (.int .i64 y) := by
        refine ⟨?_, ?_⟩
        · rw [cell_grown hgrow8 (by show w4.heap.size < _; have := hZ.out; omega) (fun gg h => by have := hob gg h; show gg ≠ w4.heap.size; omega)]; exact hC7.1
        · rw [cell_grown hgrow8 (by rw [addr_add_block]; omega) (fun gg h => by have := hob gg h; rw [addr_add_block]; omega)]; exact hC7.2
      have HOW8 : Hid (w8.ownsRow (w4.heap.size + 1) 3 1 v8 (k + 1) (i64s ((m.take (k + 1)).map Pm.sm))) := by
        show World.ownsRow _ _ _ _ _ _ _
        rw [HTK.out]
        simpa [i64s] using hown8
      obtain ⟨A8, c8', rfl, -, -, -⟩ := own_view HOW8.out
      have hBX8 : Bx w8 w4.heap.size X Ak k ck A4 n4 c4 := fun j v hv => by
        rw [World.cell?_of_block hb9]
        exact (hBX.out.below hk7 (by have := hZ.out; omega)) j v hv
      have hTH8 : w8.there w4.heap.size 0 12 := fun j hj => by
        obtain ⟨t1, t2⟩ := (there_below hTH.out hk7 (by have := hZ.out; omega)) j hj
        exact ⟨by rw [World.cell?_of_block hb9]; exact t1, by rw [World.frozen?_of_block hb9]; exact t2⟩
      have hBK8 := Lib.hid ((hBK.out.trans (hk7.mono (by have := hZ.out; omega))).grown hgrow8 (by have := hZ.out; omega) (fun gg h => by have := hob gg h; omega))
      have hz8 : w4.heap.size + 1 ≤ w8.heap.size := by have := hgrow8.size; have := hZ.out; omega
      refine hK _ _ ⟨hC8, ?_⟩
      clear hK K hC7 hown7 hrd7 hown8 hgrow8 hk7 hob
      go_simp
      refine anyE_take (i := 9) (v := ?v9_219) (a' := ?a9_219) rfl (by kernel_rfl) (by kernel_rfl) (by kernel_rfl) (fun _ _ _ h => h) hC8 (by kernel_rfl) ?w9_219 ?y9_219 ?f9_219 ?r9_219
      case w9_219 => kernel_rfl
      case y9_219 => (intro w hC; go_simp; try with_reducible rfl)
      case f9_219 => (go_simp; try with_reducible rfl)
      have hcl := hC8.1
      have hfz : w8.frozen? ⟨w4.heap.size, 10, none⟩ = false := by have := (hTH8 10 (by omega)).2; rwa [Nat.zero_add] at this
      have HBX9 := Lib.hid (hBX8.setPen A8 (k + 1) c8')
      have hg9 := grown_set1 w4.heap.size 10 (.slice A8 (k + 1) c8') w8
      have HOW9 := Lib.hid (own_grown HOW8.out hg9 (Nat.lt_succ_self _))
      have HTH9 : Hid ((w8.setCell ⟨w4.heap.size, 10, none⟩ (.slice A8 (k + 1) c8')).there w4.heap.size 0 12) := World.there_setCells hTH8 w4.heap.size 10 [.slice A8 (k + 1) c8']
      have HBK9 := Lib.hid (below_grown hBK8.out hg9 (Nat.le_refl _) (by omega))
      have HZ9 := Lib.hid (Nat.le_trans hz8 hg9.size)
      refine anyE_late (i := 10) rfl (by kernel_rfl) (by kernel_rfl) rfl (fun K hK => ?_)
      go_simp
      refine hK _ _ ?_
      clear hK K
      refine anyE_done (by kernel_rfl) ?_
      clear hC8 hBX8 hTH8 hg9 hb9 hcl hfz
      go_wp2
      go_roundw
      case rel => exact ⟨k + 1, A8, c8', by go_num, by omega, HOW9, HBX9, HTH9, HBK9, HZ9⟩
      case measure => simp [intOf]; omega
    · obtain rfl : k = n3 := by omega
      have howk := hOW.out
      rw [List.take_of_length_le (by rw [EN3.out]; exact Nat.le_refl _)] at howk
      have HOK := Lib.hid howk
      obtain ⟨_, _, ek, hcpk, hcmk, rdk⟩ := own_view howk
      injection ek with ek1 ek2 ek3
      subst ek1 ek3
      have ho4 := own_below HO4.out hBK.out (Nat.le_refl _)
      have HO4r := Lib.hid ho4
      obtain ⟨_, _, e4, -, -, rd4⟩ := own_view ho4
      injection e4 with e41 e42 e43
      subst e41 e43
      have hPA : PlAt wr wr.heap.size X Ak k ck A4 n4 c4 := ⟨HXO.out, by rw [HXP.out]; exact rdk, by rw [HXP.out, List.length_map]; exact EN3.out, hcpk, hcmk, by rw [HXC.out]; exact rd4, by rw [HXC.out]; exact EN4.out, hcp4, hcm4⟩
      have HRR := Lib.hid (RRight_any X Ak k ck A4 n4 c4 wr.heap.size wr hPA (Nat.le_refl _))
      rw [HXR.out] at HRR
      have hbwr := Lib.hid (hbw4.out.trans (hBK.out.mono hbw4.out.size))
      have hthr : Hid (wr.there w.heap.size 0 12) := there_below hth4.out hBK.out (by omega)
      have hzr := hZ.out
      clear howk rdk rd4 ho4 hPA hOW hBK hTH hZ hk hlt
      go_wp2_with (first | (refine wpList_load_mid rfl 27 _ rfl w4.heap.size 0 rfl (pvs X Ak k ck A4 n4 c4) _ hBX.out Tryd.underlying27 rfl info_plan ?_) | (go_at_call 34; fail))
      refine HRR.out.mono ?_
      rintro e w9 ⟨rfl, hb9⟩
      have hbw9 := Lib.hid (hbwr.out.trans (hb9.mono hbwr.out.size))
      have hth9 : Hid (w9.there w.heap.size 0 12) := there_below hthr.out hb9 (by omega)
      have HO9 := Lib.hid (own_below HOK.out hb9 (Nat.le_refl _))
      have HO49 := Lib.hid (own_below HO4r.out hb9 (Nat.le_refl _))
      have hBX9 := Lib.hid (hBX.out.below hb9 (by omega))
      clear hb9 HRR hbwr hthr HOK HO4r hBX
      by_cases hrt : Pm.Rt [a0, a1, a2, a3, a4, a5, a6, a7, a8, a9] m o
      · have HE : Hid (Pm.get xs = (X, 0)) := by
          rw [Pm.get_ok HG.out rfl (Pm.ask_yes hrt), HXE.out hrt]; exact Lib.hid rfl
        rw [Pm.ask_yes hrt]
        clear hrt
        have hg9 := grown_set w.heap.size (pvs X Ak k ck A4 n4 c4) 0 w9
        have hrng := Lib.hid (World.rangeAt_setCells_same w9 w.heap.size 0 (pvs X Ak k ck A4 n4 c4) hth9.out)
        have hbe := Lib.hid (below_grown hbw9.out hg9 (Nat.le_refl _) hbw9.out.size)
        have own8 := own_grown HO9.out hg9 (by omega)
        have own2 := own_grown HO49.out hg9 (by omega)
        obtain ⟨_, _, e8, -, -, rd8⟩ := own_view own8
        injection e8 with e81 e82 e83
        subst e81 e83
        obtain ⟨_, _, e2, -, -, rd2⟩ := own_view own2
        injection e2 with e21 e22 e23
        subst e21 e23
        have hF8 : Hid (Fr w.heap.size Ak) := fun ad e => Nat.le_trans (by omega) (own_fr own8 ad e)
        have hF2 : Hid (Fr w.heap.size A4) := fun ad e => Nat.le_trans (by omega) (own_fr own2 ad e)
        have hPA : Hid (PlAt (w9.setCells w.heap.size 0 (pvs X Ak k ck A4 n4 c4)) (w9.setCells w.heap.size 0 (pvs X Ak k ck A4 n4 c4)).heap.size X Ak k ck A4 n4 c4) :=
          ⟨HXO.out, by rw [HXP.out]; exact rd8, by rw [HXP.out, List.length_map]; exact EN3.out, hcpk, hcmk, by rw [HXC.out]; exact rd2, by rw [HXC.out]; exact EN4.out, hcp4, hcm4⟩
        clear own8 own2 rd8 rd2 hg9
        go_wp2_with (first | (refine wpList_load_mid rfl 27 _ rfl w4.heap.size 0 rfl (pvs X Ak k ck A4 n4 c4) _ hBX9.out Tryd.underlying27 rfl info_plan ?_) | (refine wpList_store_mid rfl 27 _ _ rfl w.heap.size 0 (pvs X Ak k ck A4 n4 c4).toArray rfl rfl hth9.out info_plan (pvs_one _ _ _ _ _ _ _) ?_))
        refine bodyPost_ret (results_ct rfl _ _ w.heap.size (pvs X Ak k ck A4 n4 c4) _ rfl hrng.out Tryd.underlying27 rfl info_plan) rfl ?_
        exact ⟨Ak, k, ck, A4, n4, c4, by rw [HE.out]; rfl, by rw [HE.out]; exact hPA.out, hF8.out, hF2.out, hbe.out⟩
      · have HE := Lib.hid (Pm.get_no HG.out (fun q => hrt (by
          refine Classical.byContradiction fun c => ?_
          have := q.2
          rw [Pm.ask_no c] at this
          cases this)))
        rw [Pm.ask_no hrt]
        clear hrt
        have hrng := Lib.hid (World.rangeAt_setCells_same w9 w.heap.size 0 (pvs Pm.zero none 0 0 none 0 0) hth9.out)
        have hbe := Lib.hid (below_grown hbw9.out (grown_set w.heap.size (pvs Pm.zero none 0 0 none 0 0) 0 w9) (Nat.le_refl _) hbw9.out.size)
        go_wp2_with (refine wpList_store_mid rfl 27 _ _ rfl w.heap.size 0 (pvs Pm.zero none 0 0 none 0 0).toArray rfl rfl hth9.out info_plan (pvs_one _ _ _ _ _ _ _) ?_)
        refine bodyPost_ret (results_ct rfl _ _ w.heap.size (pvs Pm.zero none 0 0 none 0 0) _ rfl hrng.out Tryd.underlying27 rfl info_plan) rfl ?_
        exact ⟨none, 0, 0, none, 0, 0, by rw [HE.out]; rfl, by rw [HE.out]; exact plAt_zero _ _, Fr.none, Fr.none, hbe.out⟩

theorem RGet_any (A : Option Addr) (n cap B : Nat) (xs : List Int) (w : World) (hx : Rd w B A (u8s xs)) (hn : xs.length = n) (hnc : n ≤ cap) (hcap : cap ≤ maxLen) (hB : B ≤ w.heap.size) (hb : ∀ x ∈ xs, 0 ≤ x ∧ x ≤ 255) :
    Calls Tryd.prog 51 #[.slice A n cap] w fun e w' => ∃ A1 n1 c1 A2 n2 c2, e = .returned (.tuple #[pv (Pm.get xs).1 A1 n1 c1 A2 n2 c2, .int .i64 (Pm.get xs).2]) ∧ PlAt w' w'.heap.size (Pm.get xs).1 A1 n1 c1 A2 n2 c2 ∧ Below w.heap.size w w' := by
  refine (RGet_all A n cap B xs w hx hn hnc hcap hB hb).mono ?_
  rintro e w' ⟨A1, n1, c1, A2, n2, c2, he, hp, -, -, hb⟩
  exact ⟨A1, n1, c1, A2, n2, c2, he, hp, hb⟩
end Go.Proofs.YtpgfnhdaembhmaaDoor
