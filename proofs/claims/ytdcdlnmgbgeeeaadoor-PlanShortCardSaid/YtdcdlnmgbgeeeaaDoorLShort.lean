/- The law PlanShort walked. -/
import Derived.Test.YtdcdlnmgbgeeeaaDoorPk
namespace Go.Proofs.YtdcdlnmgbgeeeaaDoor
open Go.RowKit Go.Shelf

theorem info_zero : (pvs Pm.zero none 0 0 none 0 0).toArray.size = 12 := rfl

set_option maxRecDepth 100000 in
set_option maxHeartbeats 4000000 in
theorem short_walk (x : Pm.Pl) (A : Option Addr) (n c : Nat) (A' : Option Addr) (n' c' : Nat) (cut more : Int) (w : World) (hp : PlAt w w.heap.size x A n c A' n' c') (w1 : (Lit.int .u16 cut).wf = true) (w2 : (Lit.int .u8 more).wf = true) (ht : Tab w) :
    Calls Tryd.prog 8 #[pv x A n c A' n' c', .int .u16 cut, .int .u8 more] w fun e w' => e = .returned (.bool true) ∧ Below w.heap.size w w' := by
  have hcut : 0 ≤ cut ∧ cut ≤ 65535 := by simpa [Lit.wf, IntKind.min, IntKind.max, IntKind.signed, IntKind.bits] using w1
  have hmore : 0 ≤ more ∧ more ≤ 255 := by simpa [Lit.wf, IntKind.min, IntKind.max, IntKind.signed, IntKind.bits] using w2
  have hx1 := Lib.hid (Bx.new w x A n c A' n' c' 26)
  have hb1 : Hid (Below w.heap.size w (w.alloc (.cells (pvs x A n c A' n' c').toArray 26))) := (Below.refl _ w).alloc (Nat.le_refl _) _
  have HH := Lib.hid (head_any _ (ht.alloc (.cells (pvs x A n c A' n' c').toArray 26)))
  have HPU := Lib.hid (fun W (h : PlAt W w.heap.size x A n c A' n' c') h2 (h3 : Tab W) => Put_any x A n c A' n' c' w.heap.size W h h2 h3)
  have HP := Lib.hid hp
  have HT := Lib.hid ht
  clear ht hp w1 w2
  rw [pv_eq] at HPU ⊢
  have HR : Hid (∀ (W : World), Below (w.heap.size + 1) (w.alloc (.cells (pvs x A n c A' n' c').toArray 26)) W → W.rangeAt w.heap.size 0 (pvs x A n c A' n' c')) := fun W h => hx1.out.below h (Nat.lt_succ_self _)
  have HZ1 : Hid ((w.alloc (.cells (pvs x A n c A' n' c').toArray 26)).heap.size = w.heap.size + 1) := World.size_alloc ..
  have HI : Hid ((Tryd.prog.info? 26).map (·.size) = some (pvs x A n c A' n' c').length) := info_plan
  generalize pvs x A n c A' n' c' = L at *
  clear hx1
  go_enter Tryd.func8, Tryd.ntmps8
  go_wp2_with (go_at_call 10; fail)
  refine HH.out.mono ?_
  rintro e w2 ⟨rfl, hb2⟩
  have hC2 : Hid (Below (w.heap.size + 1) (w.alloc (.cells L.toArray 26)) w2) := hb2.mono (by rw [HZ1.out]; exact Nat.le_refl _)
  have hw2 := Lib.hid (hb1.out.trans (hC2.out.mono (Nat.le_succ _)))
  clear hb2 HH
  go_wp2_with (first | (refine wpList_load_mid rfl 26 _ rfl w.heap.size 0 rfl L _ (HR.out _ hC2.out) Tryd.underlying26 rfl HI.out ?_) | (go_at_call 11; fail))
  refine (HPU.out w2 (HP.out.below hw2.out (Nat.le_refl _)) hw2.out.size (HT.out.below hw2.out (Nat.le_refl _))).mono ?_
  rintro e w3 ⟨v3, rfl, hown3, hb3⟩
  have hw3 := Lib.hid (hw2.out.trans (hb3.mono hw2.out.size))
  obtain ⟨A3, c3, rfl, hcp3, hcm3, hrd3⟩ := own_view hown3
  clear hb3 hC2 hw2 HPU
  cases hr : x.right with
  | false =>
    have hP := Pm.Pl.put_no hr
    rw [hP] at hrd3 hcp3 ⊢
    clear hr hP hown3 hrd3
    go_wp2
    go_ret
    exact ⟨rfl, hw3.out⟩
  | true =>
    have hP0 : x.put.2 = 0 := by rw [Pm.Pl.put_ok hr]
    have hpos := Pm.put_pos hr
    have hlen := Pm.put_len (x := x)
    have HBY := Lib.hid (Pm.put_byte HP.out.ok)
    have HCUT := Lib.hid (fun k (h : k < x.put.1.length) => Pm.get_cut HP.out.ok hr h)
    have HLONG := Lib.hid (Pm.get_long HP.out.ok hr (r := [more]) (by simp))
    rw [hP0]
    clear hr hP0
    generalize x.put.1 = b at *
    have HRD3 := Lib.hid hrd3
    clear hrd3 hown3
    generalize hlb : b.length = m at *
    have HM := Lib.hid hlb
    clear hlb
    obtain ⟨cn, rfl⟩ := Int.eq_ofNat_of_zero_le hcut.1
    obtain ⟨q, hq⟩ : ∃ q : Nat, cn % m = q := ⟨_, rfl⟩
    have hqm : q < m := by rw [← hq]; exact Nat.mod_lt _ hpos
    have hrem : (cn : Int).tmod (m : Int) = (q : Int) := by
      rw [Int.tmod_eq_emod_of_nonneg (by omega), ← hq]
      rfl
    have hm0 : ((m : Int) == 0) = false := by rw [beq_eq_false_iff_ne]; omega
    have hw64 : wrap64 (cn : Int) = (cn : Int) := by unfold wrap64; omega
    have hrem2 : wrap64 ((cn : Int).tmod (m : Int)) = (q : Int) := by rw [hrem]; unfold wrap64; omega
    have hwq : wrap64 (q : Int) = (q : Int) := by unfold wrap64; omega
    clear hq
    obtain ⟨i0, hi, hz0, hzz1, hzz2⟩ := info_parts info_u8
    have hsl : ∀ W, (Instr.slice 28 (.slice A3 m c3) none (some (.int .i64 (q : Int))) none).run Tryd.prog W = .ok (.slice (cutA A3 0 c3) q c3) W := fun W => run_cut_h (P := Tryd.prog) Tryd.underlying28 (size_of_info hi hzz1) A3 m c3 q (by omega) W
    have hrc := rd_cut0 (n := q) HRD3.out (cap := c3) (by rw [HM.out]; exact hcp3)
    generalize cutA A3 0 c3 = A4 at hsl hrc
    have hT3 := Lib.hid (HT.out.below hw3.out (Nat.le_refl _))
    have HG1 := Lib.hid (Get_any A4 q c3 w3.heap.size (b.take q) w3 hrc (by rw [List.length_take, HM.out]; omega) (by omega) hcm3 (Nat.le_refl _) (fun c hc => HBY.out c (List.mem_of_mem_take hc)) hT3.out)
    rw [HCUT.out q hqm] at HG1
    clear hrc HCUT
    go_wp2_with (go_at_call 15; fail)
    refine HG1.out.mono ?_
    rintro e w4 ⟨E1, p1, r1, E2, p2, r2, rfl, -, hb4⟩
    have hw4 := Lib.hid (hw3.out.trans (hb4.mono hw3.out.size))
    have hz4 : w.heap.size ≤ w4.heap.size := hw4.out.size
    have hk5 : Below w3.heap.size w3 (w4.alloc (.cells (pvs Pm.zero E1 p1 r1 E2 p2 r2).toArray 26)) := hb4.alloc hb4.size _
    have hw5 := Lib.hid (hw4.out.alloc hz4 (.cells (pvs Pm.zero E1 p1 r1 E2 p2 r2).toArray 26))
    have HRD5 := Lib.hid (HRD3.out.below hk5)
    have hz5 : w4.heap.size ≤ (w4.alloc (.cells (pvs Pm.zero E1 p1 r1 E2 p2 r2).toArray 26)).heap.size := by rw [World.size_alloc]; omega
    have hz35 : w3.heap.size ≤ (w4.alloc (.cells (pvs Pm.zero E1 p1 r1 E2 p2 r2).toArray 26)).heap.size := hk5.size
    have own0 := World.ownsRow_made (base := w.heap.size) (e := 5) (size := 1) (w4.alloc (.cells (pvs Pm.zero E1 p1 r1 E2 p2 r2).toArray 26)) #[] 0 (by omega) (by unfold maxLen; omega) (by simp)
    rw [World.size_alloc] at own0
    have HOWN0 := Lib.hid own0
    clear hb4 HG1 hk5 own0
    go_wp2_with (first
      | (refine wpList_store_new rfl 26 _ _ rfl _ (pvs Pm.zero E1 p1 r1 E2 p2 r2).toArray rfl rfl info_plan rfl (pvs_one _ _ _ _ _ _ _) ?_)
      | (at_builtin; refine wpList_app rfl _ _ 28 rfl w.heap.size 5 i0 (.int .u8 0) 1 Tryd.underlying28 hi hz0 hzz1 hzz2 rfl _ _ _ rfl HOWN0.out w3.heap.size A3 _ c3 (u8s b) rfl (by rw [List.length_map]; exact HM.out) (HRD5.out.alloc hz35 _) (oneCell_ints _ _) (by unfold maxLen; omega) (by omega) (by rw [World.size_alloc]; omega) ?_; intro v6 w6 hown6 hgrow6 _; have hw6 := Lib.hid (below_app (hw5.out.alloc (by omega) _) HOWN0.out hgrow6 (by rw [World.size_alloc]; omega)); have hz6 : w.heap.size ≤ w6.heap.size := hw6.out.size; have HO6 := Lib.hid hown6; clear hown6 hgrow6)
      | (at_builtin; refine wpList_append_own _ rfl _ _ 28 rfl w.heap.size 5 i0 (.int .u8 0) 1 1 Tryd.underlying28 hi hz0 hzz1 hzz2 rfl (by decide) _ _ _ rfl (HO6.out.alloc _) ⟨w6.heap.size, 0, none⟩ 1 1 [.int .u8 more] rfl rfl (cell_one_new _ _ _) (by simp [Value.oneCell']) (by unfold maxLen; omega) (by omega) (by simp; omega) ?_; intro v7 w7 hown7 hgrow7 _; have hw7 := Lib.hid ((hw6.out.alloc hz6 _).grown hgrow7 (by simp; omega) (fun i e => (HO6.out.lt i e).1)))
      | (go_at_call 15; fail))
    have hB0 : Hid (u8s (b ++ [more]) = ([] ++ u8s b) ++ [.int .u8 more]) := by show _ = _; simp [u8s]
    have own8 : w7.ownsRow w.heap.size 5 1 v7 (0 + m + 1) (u8s (b ++ [more])) := by rw [hB0.out]; exact hown7
    obtain ⟨A8, c8, rfl, hcp8, hcm8, hrd8⟩ := own_view own8
    have hT7 := Lib.hid (HT.out.below hw7.out (Nat.le_refl _))
    have HG2 := Lib.hid (Get_any A8 (0 + m + 1) c8 w7.heap.size (b ++ [more]) w7 hrd8 (by rw [List.length_append, HM.out]; simp) hcp8 hcm8 (Nat.le_refl _) (fun c hc => by
      rcases List.mem_append.1 hc with h | h
      · exact HBY.out c h
      · simp at h; subst h; exact hmore) hT7.out)
    rw [HLONG.out] at HG2
    clear own8 hown7 hgrow7 hrd8 hT7 HLONG
    refine HG2.out.mono ?_
    rintro e w8 ⟨F1, s1, t1, F2, s2, t2, rfl, -, hb8⟩
    have hw8 := Lib.hid (hw7.out.trans (hb8.mono hw7.out.size))
    have hw9 := Lib.hid (hw8.out.alloc hw8.out.size (.cells (pvs Pm.zero F1 s1 t1 F2 s2 t2).toArray 26))
    clear hb8 HG2
    go_wp2_with (refine wpList_store_new rfl 26 _ _ rfl _ (pvs Pm.zero F1 s1 t1 F2 s2 t2).toArray rfl rfl info_plan rfl (pvs_one _ _ _ _ _ _ _) ?_)
    go_ret
    exact ⟨rfl, hw9.out⟩
end Go.Proofs.YtdcdlnmgbgeeeaaDoor
