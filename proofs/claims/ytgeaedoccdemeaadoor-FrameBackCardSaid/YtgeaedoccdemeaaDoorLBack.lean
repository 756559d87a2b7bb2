/- FrameBack, walked. -/
import Derived.Test.YtgeaedoccdemeaaDoorFh
namespace Go.Proofs.YtgeaedoccdemeaaDoor
open Go.RowKit Go.Shelf

theorem get_mid {av bs : List Int} {k : Int} {b : List Int} (ha : Fm.By av) (hs : Fm.By bs) (hk : 0 ≤ k ∧ k ≤ 255) (hb : Fm.By b) (hl : b.length ≤ 8192) :
    Fm.get (av ++ Fm.frm k b ++ bs) (av.length : Int) = (k, b, ((av.length + (b.length + 8) : Nat) : Int), 0) := by
  refine Fm.get_some (by simp) ((ha.app (Fm.frm_by hk hb hl)).app hs) ?_
  rw [List.append_assoc, List.drop_left]
  exact Fm.g1_frm hl

/-- what is read at the beginning is how the bytes begin -/
theorem get_kept {bs : List Int} (hb : Fm.By bs) (h : (Fm.get bs 0).2.2.2 = 0) : ∃ k x, Fm.get bs 0 = (k, x, ((x.length + 8 : Nat) : Int), 0) ∧ x.length ≤ 8192 ∧ (0 ≤ k ∧ k ≤ 255) ∧ Fm.By x ∧ x.length + 8 ≤ bs.length ∧ bs.take (x.length + 8) = Fm.frm k x := by
  cases hg : Fm.g1 bs with
  | none =>
    have := Fm.get_none (b := bs) (n := 0) (by omega) (by rw [List.drop_zero]; exact hg)
    exact absurd h this
  | some p =>
    obtain ⟨k, x⟩ := p
    obtain ⟨h1, h2, h3, h4, _, h5⟩ := Fm.g1_some hb hg
    have h6 := Fm.get_some (b := bs) (n := 0) (k := k) (x := x) (by omega) hb (by rw [List.drop_zero]; exact hg)
    rw [Nat.zero_add] at h6
    refine ⟨k, x, h6, h1, h2, h3, h4, ?_⟩
    rw [h5]
    exact List.take_left' (Fm.frm_len k x)

set_option maxRecDepth 100000 in
set_option maxHeartbeats 4000000 in
theorem back_walk (a0 : Option Addr) (len0 cap0 : Nat) (z0 : List Int) (a1 : Int) (a2 : Option Addr) (len2 cap2 : Nat) (z2 : List Int) (a3 : Option Addr) (len3 cap3 : Nat) (z3 : List Int) (w : World) (w0 : RowOf .u8 w a0 len0 cap0 z0) (w1 : (Lit.int .u8 a1).wf = true) (w2 : RowOf .u8 w a2 len2 cap2 z2) (w3 : RowOf .u8 w a3 len3 cap3 z3)
    (_s0 : cap0 * 1 ≤ 140737488351232) (_s2 : cap2 * 1 ≤ 140737488351232) (_s3 : cap3 * 1 ≤ 140737488351232) (t0 : TabAt w) :
    Calls Tryd.prog 5 #[.slice a0 len0 cap0, .int .u8 a1, .slice a2 len2 cap2, .slice a3 len3 cap3] w fun e w' => e = .returned (.bool true) ∧ Below w.heap.size w w' := by
  have b1 := wf_u8' w1
  obtain ⟨av, hn0, hc0, hm0, hr0, hw0⟩ := row_rd w0
  obtain ⟨xs, hn2, hc2, hm2, hr2, hw2⟩ := row_rd w2
  obtain ⟨bs, hn3, hc3, hm3, hr3, hw3⟩ := row_rd w3
  have HBa : Hid (Fm.By av) := wf_u8 hw0
  have HBx : Hid (Fm.By xs) := wf_u8 hw2
  have HBb : Hid (Fm.By bs) := wf_u8 hw3
  have HNa := Lib.hid hn0
  have HNx := Lib.hid hn2
  have HNb := Lib.hid hn3
  have HRa := Lib.hid hr0
  have HRx := Lib.hid hr2
  have HRb := Lib.hid hr3
  clear w0 w1 w2 w3 hw0 hw2 hw3 hn0 hn2 hn3 hr0 hr2 hr3
  obtain ⟨i0, hi, hz0, hz1, hz2⟩ := info_parts info_u8
  have HI := Lib.hid hi
  have HZ := Lib.hid (And.intro hz0 (And.intro hz1 hz2))
  have hsl := fun (h : Nat) (hh : h ≤ cap3) W => run_cut_h (P := Tryd.prog) Tryd.underlying22 (size_of_info hi hz1) a3 len3 cap3 h hh W
  have HSL := Lib.hid hsl
  clear hi hz0 hz1 hz2 hsl
  go_enter Tryd.func5, Tryd.ntmps5
  go_wp2_with (go_at_call 10; refine (head_any _ t0.tab).mono ?_; rintro e w1 ⟨rfl, hb1⟩)
  refine (Put_any a1 a2 len2 cap2 w.heap.size xs w1 b1 (HRx.out.below hb1) HNx.out hc2 hm2 hb1.size HBx.out (t0.tab.below hb1 (Nat.le_refl _))).mono ?_
  rintro e w2 ⟨v2, rfl, hown2, hb2⟩
  have HW2 := Lib.hid (hb1.trans (hb2.mono hb1.size))
  have HS1 := Lib.hid hb1.size
  clear hb1 hb2
  by_cases l1 : xs.length ≤ 8192
  case neg =>
    rw [Fm.put_many (k := a1) (by omega)] at hown2 ⊢
    obtain ⟨A2, c2, rfl, -, -, -⟩ := own_view hown2
    have l2 : 8192 < len2 := by rw [← HNx.out]; omega
    have k1 : decide ((len2 : Int) ≤ 8192) = false := by simp; omega
    clear hown2
    go_wp2_with fail
    go_ret
    exact ⟨rfl, HW2.out⟩
  rw [Fm.put_ok l1] at hown2 ⊢
  dsimp only at hown2 ⊢
  have e1 := Fm.frm_len a1 xs
  rw [HNx.out] at e1
  have l2 : len2 ≤ 8192 := by rw [← HNx.out]; exact l1
  have k1 : decide ((len2 : Int) ≤ 8192) = true := by simp; omega
  have HE1 := Lib.hid e1
  rw [e1] at hown2
  obtain ⟨A2, c2, rfl, hcp2, hcm2, hrd2⟩ := own_view hown2
  have HR2 := Lib.hid hrd2
  clear hown2 hrd2 e1
  by_cases g0 : 100000 < len0
  · have k0 : decide ((100000 : Int) < (len0 : Int)) = true := by simp; omega
    go_wp2_with fail
    go_ret
    exact ⟨rfl, HW2.out⟩
  have k0 : decide ((100000 : Int) < (len0 : Int)) = false := by simp; omega
  by_cases g3 : 100000 < len3
  · have k3 : decide ((100000 : Int) < (len3 : Int)) = true := by simp; omega
    go_wp2_with fail
    go_ret
    exact ⟨rfl, HW2.out⟩
  have k3 : decide ((100000 : Int) < (len3 : Int)) = false := by simp; omega
  have hmade := World.ownsRow_made (base := w2.heap.size) (e := 5) (size := 1) w2 #[] 0 (Nat.le_refl _) (by unfold maxLen; omega) (by simp)
  have hs2 := HW2.out.size
  go_wp2_with (first
    | (at_builtin; refine wpList_app rfl _ _ 22 rfl w2.heap.size 5 i0 (.int .u8 0) 1 Tryd.underlying22 HI.out HZ.out.1 HZ.out.2.1 HZ.out.2.2 rfl _ _ _ rfl hmade w.heap.size a0 len0 cap0 (u8s av) rfl (by rw [List.length_map]; exact HNa.out) ((HRa.out.below HW2.out).alloc hs2 _) (oneCell_ints _ _) (by unfold maxLen; omega) (by omega) (by simp) ?_; intro v3 w3 hown3 hgrow3 _; have hb3 := below_app ((Below.refl w2.heap.size w2).alloc (Nat.le_refl _) _) hmade hgrow3 (by simp); rw [Nat.zero_add, List.nil_append] at hown3; obtain ⟨A3, c3, rfl, -, -, -⟩ := own_view hown3)
    | (at_builtin; refine wpList_app rfl _ _ 22 rfl w2.heap.size 5 i0 (.int .u8 0) 1 Tryd.underlying22 HI.out HZ.out.1 HZ.out.2.1 HZ.out.2.2 rfl _ _ _ rfl hown3 w2.heap.size A2 (len2 + 8) c2 (u8s (Fm.frm a1 xs)) rfl (by rw [List.length_map]; exact HE1.out) (HR2.out.below hb3) (oneCell_ints _ _) (by unfold maxLen; omega) (by omega) hb3.size ?_; intro v4 w4 hown4 hgrow4 _; have hb4 := below_app hb3 hown3 hgrow4 hb3.size; obtain ⟨A4, c4, rfl, -, -, -⟩ := own_view hown4)
    | (at_builtin; refine wpList_app rfl _ _ 22 rfl w2.heap.size 5 i0 (.int .u8 0) 1 Tryd.underlying22 HI.out HZ.out.1 HZ.out.2.1 HZ.out.2.2 rfl _ _ _ rfl hown4 w.heap.size a3 len3 cap3 (u8s bs) rfl (by rw [List.length_map]; exact HNb.out) ((HRb.out.below HW2.out).below (hb4.mono hs2)) (oneCell_ints _ _) (by unfold maxLen; omega) (by omega) hb4.size ?_; intro v5 w5 hown5 hgrow5 _; have hb5 := below_app hb4 hown4 hgrow5 hb4.size; obtain ⟨A5, c5, rfl, hcp5, hcm5, hrd5⟩ := own_view hown5)
    | (go_at_call 13; fail))
  rw [← List.map_append, ← List.map_append] at hrd5
  have HW5 := Lib.hid (HW2.out.trans (hb5.mono hs2))
  have HR5 := Lib.hid hrd5
  have HL : Hid ((av ++ Fm.frm a1 xs ++ bs).length = len0 + (len2 + 8) + len3) := by
    show _ = _
    rw [List.length_append, List.length_append, HNa.out, HE1.out, HNb.out]
  have HG := Lib.hid (get_mid HBa.out HBb.out b1 HBx.out l1)
  rw [HNa.out, HNx.out] at HG
  clear hmade hown3 hgrow3 hb3 hown4 hgrow4 hb4 hown5 hgrow5 hb5 hrd5
  refine (Get_any A5 (len0 + (len2 + 8) + len3) c5 w5.heap.size (av ++ Fm.frm a1 xs ++ bs) (len0 : Int) w5 HR5.out HL.out hcp5 hcm5 (Nat.le_refl _) ((HBa.out.app (Fm.frm_by b1 HBx.out l1)).app HBb.out) (t0.tab.below HW5.out (Nat.le_refl _)) (by omega) (by omega)).mono ?_
  rw [HG.out]
  dsimp only
  rw [HNx.out]
  rintro e w6 ⟨v6, rfl, hown6, hb6⟩
  obtain ⟨A6, c6, rfl, -, -, hrd6⟩ := own_view hown6
  have HW6 := Lib.hid (HW5.out.trans (hb6.mono HW5.out.size))
  have k6 := str_of (cap := c6) hrd6 HNx.out
  have k7 := str_of (cap := cap2) (HRx.out.below HW6.out) HNx.out
  clear hown6 hb6 hrd6 HR5 HG HL
  go_wp2_with (go_at_call 13; fail)
  refine (Get_any a3 len3 cap3 w.heap.size bs 0 w6 (HRb.out.below HW6.out) HNb.out hc3 hm3 HW6.out.size HBb.out (t0.tab.below HW6.out (Nat.le_refl _)) (by omega) (by omega)).mono ?_
  by_cases he : (Fm.get bs 0).2.2.2 = 0
  case neg =>
    generalize Fm.get bs 0 = q at he ⊢
    obtain ⟨q1, q2, q3, q4⟩ := q
    dsimp only at he ⊢
    rintro e w7 ⟨v7, rfl, -, hb7⟩
    have kq : (q4 != 0) = true := by rw [bne_iff_ne]; exact he
    have HW7 := Lib.hid (HW6.out.trans (hb7.mono HW6.out.size))
    clear he k6 k7 hb7
    go_wp2_with fail
    go_ret
    exact ⟨rfl, HW7.out⟩
  obtain ⟨k, x, hq, x1, x2, x3, x4, x5⟩ := get_kept HBb.out he
  rw [HNb.out] at x4
  rw [hq]
  dsimp only
  rintro e w7 ⟨v7, rfl, hown7, hb7⟩
  obtain ⟨A7, c7, rfl, hcp7, hcm7, hrd7⟩ := own_view hown7
  have HW7 := Lib.hid (HW6.out.trans (hb7.mono HW6.out.size))
  have HR7 := Lib.hid hrd7
  clear he hq k6 k7 hb7 hown7 hrd7
  go_wp2_with (go_at_call 11; fail)
  refine (Put_any k A7 x.length c7 w7.heap.size x w7 x2 HR7.out rfl hcp7 hcm7 (Nat.le_refl _) x3 (t0.tab.below HW7.out (Nat.le_refl _))).mono ?_
  rw [Fm.put_ok x1]
  dsimp only
  rintro e w8 ⟨v8, rfl, hown8, hb8⟩
  obtain ⟨A8, c8, rfl, -, -, hrd8⟩ := own_view hown8
  have HW8 := Lib.hid (HW7.out.trans (hb8.mono HW7.out.size))
  have HX5 := Lib.hid x5
  have c1 : ∀ nq, (convert 22 9 (.slice A8 (Fm.frm k x).length c8)).run Tryd.prog (w8.drewN nq) = .ok (.string (strOfNums (Fm.frm k x))) (w8.drewN nq) := fun nq => str_of (hrd8.drewN nq) rfl
  have c2 : ∀ nq, (convert 22 9 (.slice (cutA a3 0 cap3) (x.length + 8) cap3)).run Tryd.prog (w8.drewN nq) = .ok (.string (strOfNums (Fm.frm k x))) (w8.drewN nq) := fun nq => by
    rw [← HX5.out]
    exact str_of (rd_cut0 ((HRb.out.below HW8.out).drewN nq) (by have := HNb.out; omega)) (by have := HNb.out; rw [List.length_take]; omega)
  have hsm : ∀ W, (Instr.slice 22 (.slice a3 len3 cap3) none (some (.int .i64 ((x.length : Int) + 8))) none).run Tryd.prog W = .ok (.slice (cutA a3 0 cap3) (x.length + 8) cap3) W := fun W => by
    have h := HSL.out (x.length + 8) (by omega) W
    rwa [show (((x.length + 8 : Nat)) : Int) = (x.length : Int) + 8 by omega] at h
  have kl : decide ((x.length : Int) + 8 ≤ (len3 : Int)) = true := by simp; omega
  generalize (Fm.frm k x).length = fl at *
  clear hown8 hb8 hrd8 x5 x2 x3
  go_wp2_with fail
  go_quiet (fail)
  go_wp2
  go_ret
  exact ⟨rfl, below_drawn HW8.out nq⟩
end Go.Proofs.YtgeaedoccdemeaaDoor
