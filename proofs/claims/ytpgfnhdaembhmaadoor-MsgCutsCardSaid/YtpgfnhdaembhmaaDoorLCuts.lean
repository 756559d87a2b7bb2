/- The law MsgCuts walked. -/
import Derived.Test.YtpgfnhdaembhmaaDoorMw
namespace Go.Proofs.YtpgfnhdaembhmaaDoor
open Go.RowKit Go.Shelf

namespace Mm
theorem get_bad {b : List Int} (h : (Fm.get b 0).2.2.2 ≠ 0 ∨ (Fm.get b 0).2.2.1 ≠ (b.length : Int)) : (get b).2 ≠ 0 := by
  by_cases he : (Fm.get b 0).2.2.2 = 0
  · rw [get_more he (h.resolve_left (fun q => q he))]; decide
  · rw [get_err he]; exact he
theorem get_cut {x : Ms} (h : x.right = true) {i : Nat} (hi : i < x.put.1.length) : (get (x.put.1.take i)).2 ≠ 0 := by
  rw [put_ok h] at hi ⊢
  dsimp only at hi ⊢
  rw [Fm.frm_len] at hi
  refine get_bad (.inl ?_)
  have hm := Fm.meas_cut (k := x.k) (body_len h) hi
  have e : Fm.get ((Fm.frm x.k x.body).take i) 0 = _ := Fm.get_err (n := 0) (Nat.zero_le _) (by rw [List.drop_zero, hm]; decide)
  rw [e, List.drop_zero, hm]
  decide
theorem get_long {x : Ms} (hx : x.Ok) (h : x.right = true) {m : Int} (hm : 0 ≤ m ∧ m ≤ 255) : (get (x.put.1 ++ [m])).2 ≠ 0 := by
  obtain ⟨h1, h2, -⟩ := right_iff.1 h
  rw [put_ok h]
  dsimp only
  refine get_bad (.inr ?_)
  have e : Fm.get (Fm.frm x.k x.body ++ [m]) 0 = _ := Fm.get_some (n := 0) (Nat.zero_le _) ((Fm.frm_by ⟨by omega, by omega⟩ (body_by hx h) (body_len h)).app (fun y hy => by simp at hy; subst hy; exact hm)) (k := x.k) (x := x.body) (Fm.g1_frm (body_len h))
  rw [e]
  dsimp only
  rw [List.length_append, Fm.frm_len, List.length_singleton]
  omega
theorem xor_zero {x : Int} (hx : 0 ≤ x ∧ x ≤ 255) : bits .xor .u8 x 0 = x := by
  obtain ⟨a, rfl⟩ := Int.eq_ofNat_of_zero_le hx.1
  have := u8_xor_nat a 0 (by omega) (by omega)
  rw [Nat.xor_zero] at this
  exact this
theorem xor_differs {x y : Int} (hx : 0 ≤ x ∧ x ≤ 255) (hy : 0 ≤ y ∧ y ≤ 255) (h0 : y ≠ 0) : bits .xor .u8 x y ≠ x := Fm.xor_ne hx hy h0
theorem getD_set_self' {l : List Int} {i : Nat} {z : Int} (hi : i < l.length) : (l.set i z).getD i 0 = z := by
  rw [List.getD_eq_getElem?_getD, List.getElem?_set_self hi]; rfl
theorem getD_set_other {l : List Int} {i j : Nat} {z : Int} (h : j ≠ i) : (l.set i z).getD j 0 = l.getD j 0 := by
  rw [List.getD_eq_getElem?_getD, List.getD_eq_getElem?_getD, List.getElem?_set_ne (Ne.symm h)]
theorem get_changed {x : Ms} (hx : x.Ok) (h : x.right = true) {i : Nat} (hi : i < x.put.1.length) {v y : Int} (hv : x.put.1[i]? = some v) (hy : 0 ≤ y ∧ y ≤ 255) (h0 : y ≠ 0) : (get (x.put.1.set i (bits .xor .u8 v y))).2 ≠ 0 := by
  obtain ⟨h1, h2, -⟩ := right_iff.1 h
  have hk : 0 ≤ x.k ∧ x.k ≤ 255 := ⟨by omega, by omega⟩
  have hbl := body_len h
  have hby := body_by hx h
  rw [put_ok h] at hi hv ⊢
  dsimp only at hi hv ⊢
  have hfb := Fm.frm_by hk hby hbl
  have hvb := hfb v (List.mem_of_getElem? hv)
  have hne := xor_differs hvb hy h0
  have hgd : (Fm.frm x.k x.body).getD i 0 = v := by rw [List.getD_eq_getElem?_getD, hv]; rfl
  have hlen := Fm.frm_len x.k x.body
  have hzb : 0 ≤ bits .xor .u8 v y ∧ bits .xor .u8 v y ≤ 255 := (Cm.b8_xor hvb hy).2
  by_cases h4 : i = 1 ∨ 4 ≤ i
  · have hm := Fm.meas_spoilt hk hby hbl (i := i) (by omega) h4 hy h0
    rw [hgd] at hm
    refine get_bad (.inl ?_)
    have e : Fm.get ((Fm.frm x.k x.body).set i (bits .xor .u8 v y)) 0 = _ := Fm.get_err (n := 0) (Nat.zero_le _) (by rw [List.drop_zero, hm]; decide)
    rw [e, List.drop_zero, hm]
    decide
  generalize bits .xor .u8 v y = z at *
  by_cases hm : (Fm.meas (((Fm.frm x.k x.body).set i z).drop 0)).2 = 0
  case neg =>
    refine get_bad (.inl ?_)
    have e : Fm.get ((Fm.frm x.k x.body).set i z) 0 = _ := Fm.get_err (n := 0) (Nat.zero_le _) hm
    rw [e]
    exact hm
  refine get_bad (.inr ?_)
  have e : Fm.get ((Fm.frm x.k x.body).set i z) 0 = _ := Fm.get_ok (n := 0) (Nat.zero_le _) hm
  rw [e]
  dsimp only
  rw [List.drop_zero] at hm ⊢
  obtain ⟨-, q0, -, -, -⟩ := Fm.meas_zero hm
  rw [List.length_set, hlen]
  have hl0 : Fm.ln (Fm.frm x.k x.body) = x.body.length := by
    have := Fm.ln_frm (k := x.k) (r := []) hbl
    rwa [List.append_nil] at this
  have b2 := hfb.at 2
  have b3 := hfb.at 3
  have hne2 : Fm.ln ((Fm.frm x.k x.body).set i z) ≠ x.body.length := by
    rw [← hl0]
    unfold Fm.ln
    have : i = 0 ∨ i = 2 ∨ i = 3 := by omega
    rcases this with rfl | rfl | rfl
    · rw [getD_set_self' (by omega)] at q0
      exfalso
      apply hne
      rw [q0, ← hgd]
      rfl
    · rw [getD_set_self' (by omega), getD_set_other (by decide), hgd]
      rw [hgd] at b2
      omega
    · rw [getD_set_self' (by omega), getD_set_other (by decide), hgd]
      rw [hgd] at b3
      omega
  omega
theorem get_same {x : Ms} (hx : x.Ok) (h : x.right = true) {i : Nat} {v : Int} (hv : x.put.1[i]? = some v) : (get (x.put.1.set i (bits .xor .u8 v 0))).2 = 0 := by
  have hvb := put_by hx v (List.mem_of_getElem? hv)
  rw [xor_zero hvb]
  have : x.put.1.set i v = x.put.1 := by
    obtain ⟨hi, rfl⟩ := List.getElem?_eq_some_iff.1 hv
    exact List.set_getElem_self hi
  rw [this, get_put hx h]
end Mm
set_option maxRecDepth 100000 in
set_option maxHeartbeats 8000000 in
theorem mcuts_walk (x : Mm.Ms) (l : Lo) (cut more by_ : Int) (w : World) (hp : MsAt w w.heap.size x l) (w1 : (Lit.int .u16 cut).wf = true) (w2 : (Lit.int .u8 more).wf = true) (w3 : (Lit.int .u8 by_).wf = true) (ht : Tab w) (hh : HTab w) :
    Calls Tryd.prog 6 #[mv x l, .int .u16 cut, .int .u8 more, .int .u8 by_] w fun e w' => e = .returned (.bool true) ∧ Below w.heap.size w w' := by
  have hcut : 0 ≤ cut ∧ cut ≤ 65535 := by simpa [Lit.wf, IntKind.min, IntKind.max, IntKind.signed, IntKind.bits] using w1
  have hmore : 0 ≤ more ∧ more ≤ 255 := by simpa [Lit.wf, IntKind.min, IntKind.max, IntKind.signed, IntKind.bits] using w2
  have hby : 0 ≤ by_ ∧ by_ ≤ 255 := by simpa [Lit.wf, IntKind.min, IntKind.max, IntKind.signed, IntKind.bits] using w3
  have hx1 := range_new w (mvs x l) 30
  have hb1 : Hid (Below w.heap.size w (w.alloc (.cells (mvs x l).toArray 30))) := (Below.refl _ w).alloc (Nat.le_refl _) _
  have HT := Lib.hid (fun (W : World) (h : Below w.heap.size w W) => ht.below h (Nat.le_refl _))
  have HH := Lib.hid (fun (W : World) (h : Below w.heap.size w W) => hh.below h (Nat.le_refl _))
  have HD := Lib.hid (fun (W : World) (h : Below w.heap.size w W) => mhead_any W (HT.out W h) (HH.out W h))
  have HPU := Lib.hid (fun (W : World) (h : Below w.heap.size w W) => MPut_any x l w.heap.size W (hp.below h (Nat.le_refl _)) h.size (HT.out W h) (HH.out W h))
  have HGE := Lib.hid (fun (A : Option Addr) (n cap B : Nat) (b : List Int) (W : World) (h : Below w.heap.size w W) hrd hn hc hm hB hby => MGet_any A n cap B b W hrd hn hc hm hB hby (HT.out W h) (HH.out W h))
  have HZ1 : Hid ((w.alloc (.cells (mvs x l).toArray 30)).heap.size = w.heap.size + 1) := World.size_alloc ..
  have HR : Hid (∀ (W : World), Below (w.heap.size + 1) (w.alloc (.cells (mvs x l).toArray 30)) W → W.rangeAt w.heap.size 0 (mvs x l)) := fun W h => range_below hx1 h (Nat.lt_succ_self _)
  have HW : Hid (∀ (W : World), Below (w.heap.size + 1) (w.alloc (.cells (mvs x l).toArray 30)) W → Below w.heap.size w W) := fun W h => hb1.out.trans (h.mono (Nat.le_succ _))
  have HI : Hid ((Tryd.prog.info? 30).map (·.size) = some (mvs x l).length) := info_msg
  have HOK := Lib.hid hp.ok
  have HMO := Lib.hid hmore
  have HBI := Lib.hid hby
  clear ht hh hp w1 w2 w3 hx1 hmore hby
  unfold mv at HPU ⊢
  generalize mvs x l = L at *
  go_enter Tryd.func6, Tryd.ntmps6
  go_wp2_with (go_at_call 9; fail)
  refine (HD.out _ hb1.out).mono ?_
  rintro e w2 ⟨rfl, hb2⟩
  have hC2 : Hid (Below (w.heap.size + 1) (w.alloc (.cells L.toArray 30)) w2) := hb2.mono (by rw [HZ1.out]; exact Nat.le_refl _)
  have hz2 : w.heap.size + 1 ≤ w2.heap.size := by have := hC2.out.size; rwa [HZ1.out] at this
  clear hb2 HD
  go_wp2_with (first | ((with_reducible refine wpList_gate ?_); refine wpList_load_mid rfl 30 _ rfl w.heap.size 0 rfl L _ (HR.out _ hC2.out) Tryd.underlying30 rfl HI.out ?_) | (go_at_call 10; fail))
  refine (HPU.out w2 (HW.out _ hC2.out)).mono ?_
  rintro e w3 ⟨v3, rfl, hown3, hb3⟩
  have hw3 := Lib.hid (HW.out _ (hC2.out.trans (hb3.mono hz2)))
  obtain ⟨A3, c3, rfl, hcp3, hcm3, hrd3⟩ := own_view hown3
  clear hb3 hC2 HPU hz2 HR HI HW HZ1 hb1
  cases hr : x.right with
  | false =>
    have hP := Mm.put_no hr
    rw [hP] at hrd3 hcp3 ⊢
    clear hr hP hown3 hrd3
    go_wp2
    go_ret
    exact ⟨rfl, hw3.out⟩
  | true =>
    have hP0 : x.put.2 = 0 := by rw [Mm.put_ok hr]
    have hlen : 8 ≤ x.put.1.length ∧ x.put.1.length ≤ 8200 := by
      refine ⟨?_, Mm.put_len⟩
      rw [Mm.put_ok hr]
      show 8 ≤ (Fm.frm _ _).length
      rw [Fm.frm_len]
      omega
    obtain ⟨hl8, hl82⟩ := hlen
    have HBY := Lib.hid (Mm.put_by HOK.out)
    have HCUT := Lib.hid (fun i (h : i < x.put.1.length) => Mm.get_cut hr h)
    have HLONG := Lib.hid (Mm.get_long HOK.out hr HMO.out)
    have HCHG := Lib.hid (fun (i : Nat) (v : Int) (hi : i < x.put.1.length) (hv : x.put.1[i]? = some v) (h0 : by_ ≠ 0) => Mm.get_changed HOK.out hr hi hv HBI.out h0)
    have HSAM := Lib.hid (fun (i : Nat) (v : Int) (hv : x.put.1[i]? = some v) => Mm.get_same HOK.out hr hv)
    rw [hP0]
    clear hr hP0
    generalize x.put.1 = b at *
    have HRD3 := Lib.hid hrd3
    clear hrd3 hown3
    generalize hlb : b.length = m at *
    have HM := Lib.hid hlb
    clear hlb
    obtain ⟨cn, rfl⟩ := Int.eq_ofNat_of_zero_le hcut.1
    obtain ⟨q, hq⟩ : ∃ q : Nat, cn % m = q := ⟨_, rfl⟩
    have hqm : q < m := by rw [← hq]; exact Nat.mod_lt _ (by omega)
    have hrem : (cn : Int).tmod (m : Int) = (q : Int) := by
      rw [Int.tmod_eq_emod_of_nonneg (by omega), ← hq]
      rfl
    have hm0 : ((m : Int) == 0) = false := by rw [beq_eq_false_iff_ne]; omega
    have hm8 : decide ((m : Int) < 8) = false := by rw [decide_eq_false_iff_not]; omega
    have hm8' : decide (m < 8) = false := by rw [decide_eq_false_iff_not]; omega
    have hw64 : wrap64 (cn : Int) = (cn : Int) := by unfold wrap64; omega
    have hrem2 : wrap64 ((cn : Int).tmod (m : Int)) = (q : Int) := by rw [hrem]; unfold wrap64; omega
    have hwq : wrap64 (q : Int) = (q : Int) := by unfold wrap64; omega
    clear hq
    obtain ⟨i0, hi, hz0, hzz1, hzz2⟩ := info_parts info_u8
    have hsl : ∀ W, (Instr.slice 28 (.slice A3 m c3) none (some (.int .i64 (q : Int))) none).run Tryd.prog W = .ok (.slice (cutA A3 0 c3) q c3) W := fun W => run_cut_h (P := Tryd.prog) Tryd.underlying28 (size_of_info hi hzz1) A3 m c3 q (by omega) W
    have hrc := rd_cut0 (n := q) HRD3.out (cap := c3) (by rw [HM.out]; exact hcp3)
    generalize cutA A3 0 c3 = A4 at hsl hrc
    have HG1 := Lib.hid (HGE.out A4 q c3 w3.heap.size (b.take q) w3 hw3.out hrc (by rw [List.length_take, HM.out]; omega) (by omega) hcm3 (Nat.le_refl _) (HBY.out.take q))
    have HE1 : Hid ((Mm.get (b.take q)).2 ≠ 0) := HCUT.out q hqm
    generalize Mm.get (b.take q) = Y1 at *
    clear hrc HCUT
    go_wp2_with (go_at_call 16; fail)
    refine HG1.out.mono ?_
    rintro e w4 ⟨l4, rfl, -, -, hb4⟩
    have hw4 := Lib.hid (hw3.out.trans (hb4.mono hw3.out.size))
    have hk5 : Below w3.heap.size w3 (w4.alloc (.cells (mvs Y1.1 l4).toArray 30)) := hb4.alloc hb4.size _
    have hw5 := Lib.hid (hw4.out.alloc hw4.out.size (.cells (mvs Y1.1 l4).toArray 30))
    have hz35 : w3.heap.size ≤ (w4.alloc (.cells (mvs Y1.1 l4).toArray 30)).heap.size := hk5.size
    have HRD5 := Lib.hid ((HRD3.out.below hk5).more hz35)
    have hi5 : Hid ((Tryd.prog.info? 30).map (·.size) = some (mvs Y1.1 l4).toArray.size) := info_msg
    have hs5 : Hid (26 = (mvs Y1.1 l4).toArray.size) := rfl
    have ho5 := Lib.hid (mvs_one Y1.1 l4)
    unfold mv
    generalize mvs Y1.1 l4 = N1 at *
    clear hb4 HG1 hk5 HRD3
    have own0 := fun (W : World) => World.ownsRow_made (base := W.heap.size) (e := 5) (size := 1) W #[] 0 (Nat.le_refl _) (by unfold maxLen; omega) (by simp)
    have HOWN0 := Lib.hid own0
    clear own0
    go_wp2_with (first
      | ((with_reducible refine wpList_gate ?_); refine wpList_store_new rfl 30 _ _ rfl _ N1.toArray rfl rfl hi5.out hs5.out ho5.out ?_; generalize World.alloc w4 _ = w5 at *; have HO0 := Lib.hid (HOWN0.out w5))
      | (at_builtin; refine wpList_app rfl _ _ 28 rfl w5.heap.size 5 i0 (.int .u8 0) 1 Tryd.underlying28 hi hz0 hzz1 hzz2 rfl _ _ _ rfl HO0.out w5.heap.size A3 _ c3 (u8s b) rfl (by rw [List.length_map]; exact HM.out) ((HRD5.out.alloc (Nat.le_refl _) _)) (oneCell_ints _ _) (by unfold maxLen; omega) (by omega) (by rw [World.size_alloc]; omega) ?_; intro v6 w6 hown6 hgrow6 _; have hb6 := Lib.hid (below_app ((Below.refl w5.heap.size w5).alloc (Nat.le_refl _) _) HO0.out hgrow6 (by rw [World.size_alloc]; omega)); have hz6 : w5.heap.size ≤ w6.heap.size := hb6.out.size; have HO6 := Lib.hid hown6; clear hown6 hgrow6)
      | (at_builtin; refine wpList_append_own _ rfl _ _ 28 rfl w5.heap.size 5 i0 (.int .u8 0) 1 1 Tryd.underlying28 hi hz0 hzz1 hzz2 rfl (by decide) _ _ _ rfl (HO6.out.alloc _) ⟨w6.heap.size, 0, none⟩ 1 1 [.int .u8 more] rfl rfl (cell_one_new _ _ _) (by simp [Value.oneCell']) (by unfold maxLen; omega) (by omega) (by simp; omega) ?_; intro v7 w7 hown7 hgrow7 _; have hb7 := Lib.hid ((hb6.out.alloc hz6 _).grown hgrow7 (by simp; omega) (fun i e => (HO6.out.lt i e).1)))
      | (go_at_call 16; fail))
    have hB0 : Hid (u8s (b ++ [more]) = ([] ++ u8s b) ++ [.int .u8 more]) := by show _ = _; simp [u8s]
    have own8 : w7.ownsRow w5.heap.size 5 1 v7 (0 + m + 1) (u8s (b ++ [more])) := by rw [hB0.out]; exact hown7
    obtain ⟨A8, c8, rfl, hcp8, hcm8, hrd8⟩ := own_view own8
    have hw7 := Lib.hid (hw5.out.trans (hb7.out.mono hw5.out.size))
    have HG2 := Lib.hid (HGE.out A8 (0 + m + 1) c8 w7.heap.size (b ++ [more]) w7 hw7.out hrd8 (by rw [List.length_append, HM.out]; simp) hcp8 hcm8 (Nat.le_refl _) (HBY.out.app (fun c hc => by simp at hc; subst hc; exact HMO.out)))
    have HE2 : Hid ((Mm.get (b ++ [more])).2 ≠ 0) := HLONG.out
    generalize Mm.get (b ++ [more]) = Y2 at *
    clear own8 hown7 hgrow7 hrd8 HLONG HO0 HO6 hb6 hz6 hB0 hi5 hs5 ho5 hcp8 hcm8
    refine HG2.out.mono ?_
    rintro e w8 ⟨l8, rfl, -, -, hb8⟩
    have hb58 := Lib.hid (hb7.out.trans (hb8.mono hb7.out.size))
    have hb59 := Lib.hid (hb58.out.alloc hb58.out.size (.cells (mvs Y2.1 l8).toArray 30))
    have HRD9 := Lib.hid ((HRD5.out.below hb59.out).more hb59.out.size)
    have hw9 := Lib.hid (hw5.out.trans (hb59.out.mono hw5.out.size))
    have hi9 : Hid ((Tryd.prog.info? 30).map (·.size) = some (mvs Y2.1 l8).toArray.size) := info_msg
    have hs9 : Hid (26 = (mvs Y2.1 l8).toArray.size) := rfl
    have ho9 := Lib.hid (mvs_one Y2.1 l8)
    unfold mv
    generalize mvs Y2.1 l8 = N2 at *
    clear hb8 HG2 hb7 hb58 HRD5 hb59 hw7
    obtain ⟨v, hv⟩ : ∃ v, b[q]? = some v := ⟨b[q]'(by rw [HM.out]; exact hqm), List.getElem?_eq_getElem _⟩
    have bv := HBY.out v (List.mem_of_getElem? hv)
    obtain ⟨z, hz⟩ : ∃ z, bits .xor .u8 v by_ = z := ⟨_, rfl⟩
    have bz : 0 ≤ z ∧ z ≤ 255 := by rw [← hz]; exact (Cm.b8_xor bv HBI.out).2
    have HE3 : Hid ((((Mm.get (b.set q z)).2 == 0) == (by_ == 0)) = true) := by
      show _ = true
      by_cases h0 : by_ = 0
      · have h1 := HSAM.out q v hv
        rw [← hz, h0, h1]
        rfl
      · have h1 := HCHG.out q v hqm hv h0
        rw [hz] at h1
        rw [beq_eq_false_iff_ne.2 h1, beq_eq_false_iff_ne.2 h0]
        rfl
    have HV := Lib.hid hv
    have HBZ := Lib.hid bz
    clear HSAM HCHG hv bv bz
    go_wp2_with (first
      | ((with_reducible refine wpList_gate ?_); refine wpList_store_new rfl 30 _ _ rfl _ N2.toArray rfl rfl hi9.out hs9.out ho9.out ?_; generalize World.alloc w8 _ = w9 at *; have HO9 := Lib.hid (HOWN0.out w9))
      | (at_builtin; refine wpList_app rfl _ _ 28 rfl w9.heap.size 5 i0 (.int .u8 0) 1 Tryd.underlying28 hi hz0 hzz1 hzz2 rfl _ _ _ rfl HO9.out w9.heap.size A3 _ c3 (u8s b) rfl (by rw [List.length_map]; exact HM.out) ((HRD9.out.alloc (Nat.le_refl _) _)) (oneCell_ints _ _) (by unfold maxLen; omega) (by omega) (by rw [World.size_alloc]; omega) ?_; intro v10 w10 hown10 hgrow10 _; have hb10 := Lib.hid (below_app ((Below.refl w9.heap.size w9).alloc (Nat.le_refl _) _) HO9.out hgrow10 (by rw [World.size_alloc]; omega)); rw [Nat.zero_add, List.nil_append] at hown10; obtain ⟨g, c10, rfl, hge, hgl⟩ := hown10.form (by omega); have hcl : w10.cell? ⟨g, q, none⟩ = some (.int .u8 v) := (by rw [hown10.cellAt q (by omega), List.getElem?_map, HV.out]; rfl); have hfz := hown10.frozenAt q; have hst := (hown10.stored q (.int .u8 z)).1; rw [u8s_set] at hst; have HST := Lib.hid hst; have hw11 := Lib.hid ((hw9.out.trans (hb10.out.mono hw9.out.size)).setCell (p := ⟨g, q, none⟩) (Nat.le_trans hw9.out.size hge) (.int .u8 z)); clear hown10 hgrow10 hst hb10 HO9)
      | (go_at_call 16; fail))
    have hcl' := hcl
    clear hcl hcl' hfz
    generalize World.setCell _ _ _ = w11 at *
    have hcp11 := own_cap HST.out
    have hcm11 := own_capMax HST.out
    refine (HGE.out (some ⟨g, 0, none⟩) m c10 w11.heap.size (b.set q z) w11 hw11.out (Rd.of_own HST.out) (by rw [List.length_set]; exact HM.out) hcp11 hcm11 (Nat.le_refl _) (HBY.out.set q HBZ.out)).mono ?_
    generalize Mm.get (b.set q z) = Y3 at *
    rintro e w12 ⟨l12, rfl, -, -, hb12⟩
    have hw12 := Lib.hid (hw11.out.trans (hb12.mono hw11.out.size))
    have hw13 := Lib.hid (hw12.out.alloc hw12.out.size (.cells (mvs Y3.1 l12).toArray 30))
    have hi13 : Hid ((Tryd.prog.info? 30).map (·.size) = some (mvs Y3.1 l12).toArray.size) := info_msg
    have hs13 : Hid (26 = (mvs Y3.1 l12).toArray.size) := rfl
    have ho13 := Lib.hid (mvs_one Y3.1 l12)
    unfold mv
    generalize mvs Y3.1 l12 = N3 at *
    have g1 : (Y1.2 != 0) = true := by rw [bne_iff_ne]; exact HE1.out
    have g2 : (Y2.2 != 0) = true := by rw [bne_iff_ne]; exact HE2.out
    have g3 := HE3.out
    clear hb12 HST HRD9 hw11
    go_wp2_with ((with_reducible refine wpList_gate ?_); refine wpList_store_new rfl 30 _ _ rfl _ N3.toArray rfl rfl hi13.out hs13.out ho13.out ?_; generalize World.alloc w12 _ = w13 at *)
    go_ret
    exact ⟨rfl, hw13.out⟩
end Go.Proofs.YtpgfnhdaembhmaaDoor
