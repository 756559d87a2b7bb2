/- TallyMore, walked. -/
import Derived.Test.YtpchkhphpcopkaaLAll
import Derived.Laws.BitsAllLaws
namespace Go.Proofs.Ytpchkhphpcopkaa
open Go.RowKit Go.Shelf Km Kx

theorem ones_lt : (18446744073709551615 : Nat) < 18446744073709551616 := by decide
theorem zero_lt : (0 : Nat) < 18446744073709551616 := by decide
theorem builtu (o a : Int) : Try.prog.built 25 [(0, .int .i64 o), (1, .int .u64 18446744073709551615), (2, .int .i64 a)] = some (vv ⟨o, 18446744073709551615, a⟩).toArray := by kernel_rfl
theorem builtn (o a : Int) : Try.prog.built 25 [(0, .int .i64 o), (2, .int .i64 a)] = some (vv ⟨o, 0, a⟩).toArray := by kernel_rfl
theorem wl_put {l : List Tm.Vt} {v : Tm.Vt} (h : Wl l) (hv : Wv v) : Wl (Tm.put l v) := fun x hx => by
  rcases Tm.put_mem hx with rfl | hx
  · exact hv
  · exact h x hx
theorem all_bits (b : Nat) (h : b < 64) : Nat.testBit 18446744073709551615 b = true := by
  rw [show (18446744073709551615 : Nat) = 2 ^ 64 - 1 from rfl, Nat.testBit_two_pow_sub_one]; exact decide_eq_true h

set_option maxRecDepth 100000 in
set_option maxHeartbeats 4000000 in
theorem more_go (a0 : Option Addr) (len0 cap0 : Nat) (l : List Tm.Vt) (n : Nat) (a2 a3 a4 a5 : Int) (w : World) (hn : l.length = len0) (hwl : Wl l) (hr : Rd w w.heap.size a0 (vvs l)) (hlen : len0 ≤ 300) (n1 : 1 ≤ n) (n2 : n ≤ 255) (h2 : 0 ≤ a2 ∧ a2 ≤ 1099511627776) (h3 : 0 ≤ a3 ∧ a3 ≤ 1099511627776) (h4 : 0 ≤ a4 ∧ a4 ≤ 255) :
    Calls Try.prog 5 #[.slice a0 len0 cap0, .int .u8 (n : Int), .int .i64 a2, .int .i64 a3, .int .u8 a4, .int .i64 a5] w fun e w' => e = .returned (.bool true) ∧ Below w.heap.size w w' := by
  have HB := Lib.hid (Bxs.start w)
  have HN := Lib.hid hn
  have HR := Lib.hid hr
  have HW := Lib.hid hwl
  obtain ⟨p2, q2⟩ := h2
  obtain ⟨p3, q3⟩ := h3
  obtain ⟨p4, q4⟩ := h4
  clear hn hr hwl
  have d1 : decide ((300 : Int) < (len0 : Int)) = false := by simp; omega
  have d2 : ((n : Int) == 0) = false := by simp; omega
  have d3 : decide (a2 < (0 : Int)) = false := by simp; omega
  have d4 : decide ((1099511627776 : Int) < a2) = false := by simp; omega
  have d5 : decide (a3 < (0 : Int)) = false := by simp; omega
  have d6 : decide ((1099511627776 : Int) < a3) = false := by simp; omega
  have e1 : IntKind.i64.wrap (n : Int) = (n : Int) := by rw [IntKind.wrap_i64]; omega
  have e2 : IntKind.i64.wrap a4 = a4 := by rw [IntKind.wrap_i64]; omega
  have d7 : ¬ ((n : Int) = 0) := by omega
  obtain ⟨iv, hiv⟩ : ∃ iv : Int, a4 % (n : Int) = iv := ⟨_, rfl⟩
  have i1 : 0 ≤ iv := by rw [← hiv]; exact Int.emod_nonneg _ (by omega)
  have i2 : iv < n := by rw [← hiv]; exact Int.emod_lt_of_pos _ (by omega)
  have HI2 : Hid (in64 a2) := Lib.hid ⟨by omega, by omega⟩
  have HIN : Hid (in64 (n : Int)) := Lib.hid ⟨by omega, by omega⟩
  have HII : Hid (in64 iv) := Lib.hid ⟨by omega, by omega⟩
  obtain ⟨tt, htt⟩ : ∃ tt, Tm.tally l n a2 a3 = tt := ⟨_, rfl⟩
  obtain ⟨l1, hl1⟩ : ∃ l1, Tm.put l ⟨iv, 18446744073709551615, a2⟩ = l1 := ⟨_, rfl⟩
  obtain ⟨l2, hl2⟩ : ∃ l2, Tm.put l ⟨iv, 0, a2⟩ = l2 := ⟨_, rfl⟩
  obtain ⟨l3, hl3⟩ : ∃ l3, l ++ [(⟨(n : Int), 18446744073709551615, a2⟩ : Tm.Vt)] = l3 := ⟨_, rfl⟩
  obtain ⟨m1, hm1⟩ : ∃ m1, l1.length = m1 := ⟨_, rfl⟩
  obtain ⟨m2, hm2⟩ : ∃ m2, l2.length = m2 := ⟨_, rfl⟩
  have hm3 : l3.length = len0 + 1 := by rw [← hl3, List.length_append, HN.out]; rfl
  have hb1 : m1 ≤ 301 := by have h := (Tm.put_len_le l ⟨iv, 18446744073709551615, a2⟩).2.1; have h2 := HN.out; rw [hl1, hm1] at h; omega
  have hb2 : m2 ≤ 301 := by have h := (Tm.put_len_le l ⟨iv, 0, a2⟩).2.1; have h2 := HN.out; rw [hl2, hm2] at h; omega
  have W1 : Hid (Wl l1) := Lib.hid (by rw [← hl1]; exact wl_put HW.out ⟨HII.out, ones_lt, HI2.out⟩)
  have W2 : Hid (Wl l2) := Lib.hid (by rw [← hl2]; exact wl_put HW.out ⟨HII.out, zero_lt, HI2.out⟩)
  have W3 : Hid (Wl l3) := Lib.hid (by
    rw [← hl3]
    intro v hv
    rcases List.mem_append.1 hv with hv | hv
    · exact HW.out v hv
    · rw [List.mem_singleton] at hv; subst hv; exact ⟨HIN.out, ones_lt, HI2.out⟩)
  obtain ⟨al, hal⟩ : ∃ al, Tm.tally l1 n a2 a3 = al := ⟨_, rfl⟩
  obtain ⟨no, hno⟩ : ∃ no, Tm.tally l2 n a2 a3 = no := ⟨_, rfl⟩
  have h3t : Tm.tally l3 n a2 a3 = tt := by
    rw [← hl3, Tm.tally_stale, htt]
    refine fresh_no fun q => ?_
    have := q.1.2.2.2.2
    dsimp only at this
    omega
  have ltt : tt < 18446744073709551616 := by rw [← htt]; exact Tm.tally_lt _ _ _ _
  have lal : al < 18446744073709551616 := by rw [← hal]; exact Tm.tally_lt _ _ _ _
  have lno : no < 18446744073709551616 := by rw [← hno]; exact Tm.tally_lt _ _ _ _
  have hx1 : bits BinOp.andNot IntKind.u64 (tt : Int) (al : Int) = 0 := by
    rw [u64_andNot_nat tt al ltt lal, Tm.andNot_zero _ lal]; rfl
    intro b hb
    rw [← hal, ← hl1]
    refine Tm.tally_all (by omega) (fresh_yes ⟨⟨⟨p2, q2⟩, ⟨p2, q2⟩, ⟨p3, q3⟩, i1, i2⟩, Int.le_refl _, ?_⟩) all_bits b (by rw [htt]; exact hb)
    dsimp only; omega
  have hx2 : bits BinOp.andNot IntKind.u64 (no : Int) (tt : Int) = 0 := by
    rw [u64_andNot_nat no tt lno ltt, Tm.andNot_zero _ ltt]; rfl
    intro b hb
    rw [← htt]
    exact Tm.tally_none (v := ⟨iv, 0, a2⟩) (by omega) rfl b (by rw [hl2, hno]; exact hb)
  have T0 : Hid (∀ W, Rd W W.heap.size a0 (vvs l) → Calls Try.prog 13 #[.slice a0 len0 cap0, .int .i64 (n : Int), .int .i64 a2, .int .i64 a3] W fun e w' => e = .returned (.int .u64 (tt : Int)) ∧ Below W.heap.size W w') := Lib.hid (fun W hr => by
    have h := Tally_any a0 len0 cap0 _ l n a2 a3 W hr (Nat.le_refl _) HN.out (by omega) HW.out HIN.out
    rwa [htt] at h)
  have T1 : Hid (∀ W A c, Rd W W.heap.size A (vvs l1) → Calls Try.prog 13 #[.slice A m1 c, .int .i64 (n : Int), .int .i64 a2, .int .i64 a3] W fun e w' => e = .returned (.int .u64 (al : Int)) ∧ Below W.heap.size W w') := Lib.hid (fun W A c hr => by
    have h := Tally_any A m1 c _ l1 n a2 a3 W hr (Nat.le_refl _) hm1 (by omega) W1.out HIN.out
    rwa [hal] at h)
  have T2 : Hid (∀ W A c, Rd W W.heap.size A (vvs l2) → Calls Try.prog 13 #[.slice A m2 c, .int .i64 (n : Int), .int .i64 a2, .int .i64 a3] W fun e w' => e = .returned (.int .u64 (no : Int)) ∧ Below W.heap.size W w') := Lib.hid (fun W A c hr => by
    have h := Tally_any A m2 c _ l2 n a2 a3 W hr (Nat.le_refl _) hm2 (by omega) W2.out HIN.out
    rwa [hno] at h)
  have T3 : Hid (∀ W A c, Rd W W.heap.size A (vvs l3) → Calls Try.prog 13 #[.slice A (len0 + 1) c, .int .i64 (n : Int), .int .i64 a2, .int .i64 a3] W fun e w' => e = .returned (.int .u64 (tt : Int)) ∧ Below W.heap.size W w') := Lib.hid (fun W A c hr => by
    have h := Tally_any A (len0 + 1) c _ l3 n a2 a3 W hr (Nat.le_refl _) hm3 (by omega) W3.out HIN.out
    rwa [h3t] at h)
  have HP1 := Lib.hid (⟨hl1, hm1⟩ : _ ∧ _)
  have HP2 := Lib.hid (⟨hl2, hm2⟩ : _ ∧ _)
  have HL3 := Lib.hid hl3
  have hv3 : (vv ⟨(n : Int), 18446744073709551615, a2⟩).length = 3 := rfl
  clear htt hl1 hl2 hl3 hm1 hm2 hm3 hal hno h3t ltt lal lno i1 i2 W1 W2 W3 HW HI2 HIN HII p2 q2 p3 q3
  go_enter Try.func5, Try.ntmps5
  go_wp2_with (first | (go_at_call 9; refine Calls.mono (head_any _) ?_; rintro e w_ ⟨rfl, hb_⟩; replace HB := Lib.hid (HB.out.call hb_); clear hb_) | (go_at_call 13; fail))
  refine (T0.out _ ((HR.out.below HB.out.below).more HB.out.size)).mono ?_
  rintro e w1 ⟨rfl, hb_⟩
  replace HB := Lib.hid (HB.out.call hb_)
  clear hb_
  go_wp2_with (first | ((with_reducible refine Kx.build_gate ?_); refine Km.wpList_build rfl 25 _ rfl #[(0, .int .i64 iv), (1, .int .u64 18446744073709551615), (2, .int .i64 a2)] rfl (vv ⟨iv, 18446744073709551615, a2⟩).toArray (builtu iv a2) ?_; refine Kx.framed ?_ (by simp only [Act.put, List.setIfInBounds_toArray, List.set_cons_succ, List.set_cons_zero] <;> rfl)) | (go_at_call 11; fail))
  refine (Put_as l1 m1 a0 len0 cap0 _ l ⟨iv, 18446744073709551615, a2⟩ _ (HR.out.below HB.out.below) HB.out.size HN.out (by omega) HP1.out.1 HP1.out.2).mono ?_
  rintro e w2 ⟨A1, c1, rfl, hb_, ho_⟩
  replace HB := Lib.hid (HB.out.callRow hb_ ho_)
  clear hb_ ho_
  go_wp2_with (go_at_call 13; fail)
  refine (T1.out _ A1 c1 (HB.out.rowRd (A := A1))).mono ?_
  rintro e w3 ⟨rfl, hb_⟩
  replace HB := Lib.hid (HB.out.rowTail.call hb_)
  clear hb_
  go_wp2_with (first | ((with_reducible refine Kx.build_gate ?_); refine Km.wpList_build rfl 25 _ rfl #[(0, .int .i64 iv), (2, .int .i64 a2)] rfl (vv ⟨iv, 0, a2⟩).toArray (builtn iv a2) ?_; refine Kx.framed ?_ (by simp only [Act.put, List.setIfInBounds_toArray, List.set_cons_succ, List.set_cons_zero] <;> rfl)) | (go_at_call 11; fail))
  refine (Put_as l2 m2 a0 len0 cap0 _ l ⟨iv, 0, a2⟩ _ (HR.out.below HB.out.below) HB.out.size HN.out (by omega) HP2.out.1 HP2.out.2).mono ?_
  rintro e w4 ⟨A2, c2, rfl, hb_, ho_⟩
  replace HB := Lib.hid (HB.out.callRow hb_ ho_)
  clear hb_ ho_
  go_wp2_with (go_at_call 13; fail)
  refine (T2.out _ A2 c2 (HB.out.rowRd (A := A2))).mono ?_
  rintro e w5 ⟨rfl, hb_⟩
  replace HB := Lib.hid (HB.out.rowTail.call hb_)
  clear hb_
  go_wp2_with (first | (go_at_call 13; fail) | ((with_reducible refine Kx.alloced_gate ?_); refine Kx.absorb_row 0 3 rfl (by decide) HB ?_; clear HB; intro w_ HB) | ((with_reducible refine Kx.build_gate ?_); refine Km.wpList_build rfl 25 _ rfl #[(0, .int .i64 (n : Int)), (1, .int .u64 18446744073709551615), (2, .int .i64 a2)] rfl (vv ⟨(n : Int), 18446744073709551615, a2⟩).toArray (builtu (n : Int) a2) ?_; refine Kx.framed ?_ (by simp only [Act.put, List.setIfInBounds_toArray, List.set_cons_succ, List.set_cons_zero] <;> rfl)) | (at_builtin; first | (refine Kx.wpList_app_x HB rfl _ _ 22 rfl _ _ _ rfl 24 25 3 _ rfl Try.underlying22 (by kernel_rfl) (by decide) _ _ _ rfl _ (vvs l) (HR.out.below HB.out.below) (by (first | (rw [vvs_len, HN.out]) | exact vvs_cells l | (unfold maxLen; omega) | omega)) (by (first | (rw [vvs_len, HN.out]) | exact vvs_cells l | (unfold maxLen; omega) | omega)) (by (first | (rw [vvs_len, HN.out]) | exact vvs_cells l | (unfold maxLen; omega) | omega)) (by (first | (rw [vvs_len, HN.out]) | exact vvs_cells l | (unfold maxLen; omega) | omega)) ?_; clear HB; intro A_ c_ w_ hl_ hm_ HB; refine Kx.framed ?_ (by simp only [Act.put, List.setIfInBounds_toArray, List.set_cons_succ, List.set_cons_zero] <;> rfl)) | (refine Kx.wpList_appn_x HB rfl _ _ 22 rfl rfl 24 25 3 Try.underlying22 (by kernel_rfl) (by decide) _ _ _ rfl _ (vvs l) (HR.out.below HB.out.below) (by (first | (rw [vvs_len, HN.out]) | exact vvs_cells l | (unfold maxLen; omega) | omega)) (by (first | (rw [vvs_len, HN.out]) | exact vvs_cells l | (unfold maxLen; omega) | omega)) (by (first | (rw [vvs_len, HN.out]) | exact vvs_cells l | (unfold maxLen; omega) | omega)) (by (first | (rw [vvs_len, HN.out]) | exact vvs_cells l | (unfold maxLen; omega) | omega)) ?_; clear HB; intro A_ c_ w_ hl_ hm_ HB; refine Kx.framed ?_ (by simp only [Act.put, List.setIfInBounds_toArray, List.set_cons_succ, List.set_cons_zero] <;> rfl))) | (at_builtin; first | (refine Kx.wpList_app_x HB rfl _ _ 22 rfl _ _ _ rfl 24 25 3 _ rfl Try.underlying22 (by kernel_rfl) (by decide) _ _ _ rfl _ (vv ⟨(n : Int), 18446744073709551615, a2⟩) (HB.out.rd) (by (first | rfl | exact vvs_cells [⟨(n : Int), 18446744073709551615, a2⟩] | (unfold maxLen; omega) | omega)) (by (first | rfl | exact vvs_cells [⟨(n : Int), 18446744073709551615, a2⟩] | (unfold maxLen; omega) | omega)) (by (first | rfl | exact vvs_cells [⟨(n : Int), 18446744073709551615, a2⟩] | (unfold maxLen; omega) | omega)) (by (first | rfl | exact vvs_cells [⟨(n : Int), 18446744073709551615, a2⟩] | (unfold maxLen; omega) | omega)) ?_; clear HB; intro A_ c_ w_ hl_ hm_ HB; refine Kx.framed ?_ (by simp only [Act.put, List.setIfInBounds_toArray, List.set_cons_succ, List.set_cons_zero] <;> rfl)) | (refine Kx.wpList_appn_x HB rfl _ _ 22 rfl rfl 24 25 3 Try.underlying22 (by kernel_rfl) (by decide) _ _ _ rfl _ (vv ⟨(n : Int), 18446744073709551615, a2⟩) (HB.out.rd) (by (first | rfl | exact vvs_cells [⟨(n : Int), 18446744073709551615, a2⟩] | (unfold maxLen; omega) | omega)) (by (first | rfl | exact vvs_cells [⟨(n : Int), 18446744073709551615, a2⟩] | (unfold maxLen; omega) | omega)) (by (first | rfl | exact vvs_cells [⟨(n : Int), 18446744073709551615, a2⟩] | (unfold maxLen; omega) | omega)) (by (first | rfl | exact vvs_cells [⟨(n : Int), 18446744073709551615, a2⟩] | (unfold maxLen; omega) | omega)) ?_; clear HB; intro A_ c_ w_ hl_ hm_ HB; refine Kx.framed ?_ (by simp only [Act.put, List.setIfInBounds_toArray, List.set_cons_succ, List.set_cons_zero] <;> rfl))) | (first | ((with_reducible refine Kx.absorb HB ?_); clear HB; intro w_ HB) | ((with_reducible refine Kx.box_gate ?_); first | (refine Kx.wpList_boxa_x HB rfl _ _ rfl _ rfl ?_; clear HB; intro b_ w_ HB; refine Kx.framed ?_ (by simp only [Act.put, List.setIfInBounds_toArray, List.set_cons_succ, List.set_cons_zero] <;> rfl)) | (refine Kx.wpList_boxt_x HB rfl _ _ rfl _ rfl rfl ?_; clear HB; intro b_ w_ HB; refine Kx.framed ?_ (by simp only [Act.put, List.setIfInBounds_toArray, List.set_cons_succ, List.set_cons_zero] <;> rfl)) | (refine Kx.wpList_box1_x HB rfl _ _ rfl _ rfl rfl ?_; clear HB; intro b_ w_ HB; refine Kx.framed ?_ (by simp only [Act.put, List.setIfInBounds_toArray, List.set_cons_succ, List.set_cons_zero] <;> rfl))) | ((with_reducible refine Kx.alloc_gate ?_); first | (refine Kx.wpList_alloca_x HB rfl _ rfl _ (Try.zeroValue25 _) ?_; clear HB; intro b_ w_ HB; refine Kx.framed ?_ (by simp only [Act.put, List.setIfInBounds_toArray, List.set_cons_succ, List.set_cons_zero] <;> rfl)) | (refine Kx.wpList_alloc1_x HB rfl _ rfl _ (Try.zeroValue3 _) rfl ?_; clear HB; intro b_ w_ HB; refine Kx.framed ?_ (by simp only [Act.put, List.setIfInBounds_toArray, List.set_cons_succ, List.set_cons_zero] <;> rfl))) | ((with_reducible refine Kx.loads_gate ?_); first | (refine Kx.wpList_load1_x HB rfl _ _ rfl _ rfl _ (Try.isAgg3 _) _ rfl (Kx.framed ?_ (by simp only [Act.put, List.setIfInBounds_toArray, List.set_cons_succ, List.set_cons_zero] <;> rfl))) | (refine Kx.wpList_load_x HB rfl _ _ rfl _ rfl _ _ (Try.isAgg25 _) (Try.sizeOf25 _) _ (by first | exact Kx.whole (by rfl) | (simp <;> rfl)) (by rfl) (Kx.framed ?_ (by simp only [Act.put, List.setIfInBounds_toArray, List.set_cons_succ, List.set_cons_zero] <;> rfl))) | (refine Kx.wpList_old_x HB rfl _ _ rfl _ rfl (Try.isAgg3 _) _ HC.out (Kx.framed ?_ (by simp only [Act.put, List.setIfInBounds_toArray, List.set_cons_succ, List.set_cons_zero] <;> rfl)))) | ((with_reducible refine Kx.loadg_gate ?_); first | (refine Kx.wpList_loadg_x HB _ _ rfl _ rfl _ (Try.isAgg3 _) _ rfl rfl (Kx.framed ?_ (by simp only [Act.put, List.setIfInBounds_toArray, List.set_cons_succ, List.set_cons_zero] <;> rfl))) | (refine Kx.wpList_loadga_x HB _ _ rfl _ rfl _ _ (Try.isAgg25 _) (Try.sizeOf25 _) _ (by first | exact Kx.whole (by rfl) | (simp <;> rfl)) (by rfl) rfl (Kx.framed ?_ (by simp only [Act.put, List.setIfInBounds_toArray, List.set_cons_succ, List.set_cons_zero] <;> rfl))) | (refine Kx.wpList_oldg_x HB _ _ rfl _ rfl (Try.isAgg3 _) _ HC.out rfl (Kx.framed ?_ (by simp only [Act.put, List.setIfInBounds_toArray, List.set_cons_succ, List.set_cons_zero] <;> rfl)))) | ((with_reducible refine Kx.store_gate ?_); first | (refine Kx.wpList_storewa_x HB rfl rfl _ _ _ rfl _ rfl _ rfl _ (by rfl) (by simp <;> rfl) (by rfl) ?_; clear HB; intro w_ HB) | (refine Kx.wpList_storea_x HB rfl rfl _ _ _ rfl _ rfl _ rfl _ _ (by simp [Kx.splice] <;> rfl) (by simp) (by simp <;> rfl) (by rfl) ?_; clear HB; intro w_ HB) | (refine Kx.wpList_storec_x HB rfl rfl _ _ _ rfl _ rfl rfl _ _ (by simp <;> rfl) (by simp) (by simp <;> rfl) ?_; clear HB; intro w_ HB) | (refine Kx.wpList_storet_x HB rfl rfl _ _ _ rfl _ rfl _ rfl rfl _ _ (by simp <;> rfl) (by simp) (by simp <;> rfl) ?_; clear HB; intro w_ HB) | (refine Kx.wpList_store1_x HB rfl rfl _ _ _ rfl _ rfl _ rfl rfl _ _ (by simp <;> rfl) (by simp) (by simp <;> rfl) ?_; clear HB; intro w_ HB))))
  have e3 : vvs l3 = ([] ++ vvs l) ++ vv ⟨(n : Int), 18446744073709551615, a2⟩ := by rw [← HL3.out, vvs_app]; rfl
  have hR3 := HB.out.rowRd (A := A_)
  replace hR3 : Rd w_ w_.heap.size A_ (vvs l3) := by rw [e3]; exact hR3
  clear e3
  have HR3 := Lib.hid hR3
  clear hR3
  refine (T3.out _ A_ c_ HR3.out).mono ?_
  rintro e w6 ⟨rfl, hb_⟩
  replace HB := Lib.hid (HB.out.norows.call hb_)
  clear hb_ HR3
  go_wp2
  go_ret
  exact ⟨by simp, HB.out.below⟩

set_option maxRecDepth 100000 in
set_option maxHeartbeats 4000000 in
theorem more_walk (a0 : Option Addr) (len0 cap0 : Nat) (l : List Tm.Vt) (a1 a2 a3 a4 a5 : Int) (w : World) (w0 : VtsAt w a0 len0 cap0 l) (w1 : (Lit.int .u8 a1).wf = true) (_w2 : (Lit.int .i64 a2).wf = true) (_w3 : (Lit.int .i64 a3).wf = true) (w4 : (Lit.int .u8 a4).wf = true) (_w5 : (Lit.int .i64 a5).wf = true) :
    Calls Try.prog 5 #[.slice a0 len0 cap0, .int .u8 a1, .int .i64 a2, .int .i64 a3, .int .u8 a4, .int .i64 a5] w fun e w' => e = .returned (.bool true) ∧ Below w.heap.size w w' := by
  obtain ⟨p1, q1⟩ := wf_one (lo := 0) (hi := 255) rfl rfl w1
  obtain ⟨n, rfl⟩ : ∃ n : Nat, a1 = (n : Int) := ⟨a1.toNat, by omega⟩
  obtain ⟨hn, -, -, hwl, hr⟩ := w0
  have e1 : IntKind.i64.wrap (n : Int) = (n : Int) := by rw [IntKind.wrap_i64]; omega
  have HB := Lib.hid (Bxs.start w)
  by_cases h1 : 300 < len0
  · have d1 : decide ((300 : Int) < (len0 : Int)) = true := by simp; omega
    clear hn hr hwl w1 _w2 _w3 w4 p1 q1
    go_enter Try.func5, Try.ntmps5
    go_wp2_with (first | (go_at_call 9; refine Calls.mono (head_any _) ?_; rintro e w_ ⟨rfl, hb_⟩; replace HB := Lib.hid (HB.out.call hb_); clear hb_))
    go_ret
    exact ⟨rfl, HB.out.below⟩
  have d1 : decide ((300 : Int) < (len0 : Int)) = false := by simp; omega
  by_cases h2 : n = 0
  · subst h2
    clear hn hr hwl w1 _w2 _w3 w4 p1 q1
    go_enter Try.func5, Try.ntmps5
    go_wp2_with (first | (go_at_call 9; refine Calls.mono (head_any _) ?_; rintro e w_ ⟨rfl, hb_⟩; replace HB := Lib.hid (HB.out.call hb_); clear hb_))
    go_ret
    exact ⟨rfl, HB.out.below⟩
  have d2 : ((n : Int) == 0) = false := by simp; omega
  by_cases h3 : a2 < 0
  · have d3 : decide (a2 < (0 : Int)) = true := by simp; omega
    clear hn hr hwl w1 _w2 _w3 w4 p1 q1
    go_enter Try.func5, Try.ntmps5
    go_wp2_with (first | (go_at_call 9; refine Calls.mono (head_any _) ?_; rintro e w_ ⟨rfl, hb_⟩; replace HB := Lib.hid (HB.out.call hb_); clear hb_))
    go_ret
    exact ⟨rfl, HB.out.below⟩
  have d3 : decide (a2 < (0 : Int)) = false := by simp; omega
  by_cases h4 : 1099511627776 < a2
  · have d4 : decide ((1099511627776 : Int) < a2) = true := by simp; omega
    clear hn hr hwl w1 _w2 _w3 w4 p1 q1
    go_enter Try.func5, Try.ntmps5
    go_wp2_with (first | (go_at_call 9; refine Calls.mono (head_any _) ?_; rintro e w_ ⟨rfl, hb_⟩; replace HB := Lib.hid (HB.out.call hb_); clear hb_))
    go_ret
    exact ⟨rfl, HB.out.below⟩
  have d4 : decide ((1099511627776 : Int) < a2) = false := by simp; omega
  by_cases h5 : a3 < 0
  · have d5 : decide (a3 < (0 : Int)) = true := by simp; omega
    clear hn hr hwl w1 _w2 _w3 w4 p1 q1
    go_enter Try.func5, Try.ntmps5
    go_wp2_with (first | (go_at_call 9; refine Calls.mono (head_any _) ?_; rintro e w_ ⟨rfl, hb_⟩; replace HB := Lib.hid (HB.out.call hb_); clear hb_))
    go_ret
    exact ⟨rfl, HB.out.below⟩
  have d5 : decide (a3 < (0 : Int)) = false := by simp; omega
  by_cases h6 : 1099511627776 < a3
  · have d6 : decide ((1099511627776 : Int) < a3) = true := by simp; omega
    clear hn hr hwl w1 _w2 _w3 w4 p1 q1
    go_enter Try.func5, Try.ntmps5
    go_wp2_with (first | (go_at_call 9; refine Calls.mono (head_any _) ?_; rintro e w_ ⟨rfl, hb_⟩; replace HB := Lib.hid (HB.out.call hb_); clear hb_))
    go_ret
    exact ⟨rfl, HB.out.below⟩
  exact more_go a0 len0 cap0 l n a2 a3 a4 a5 w hn hwl hr (by omega) (by omega) (by omega) ⟨by omega, by omega⟩ ⟨by omega, by omega⟩ (wf_one (lo := 0) (hi := 255) rfl rfl w4)
end Go.Proofs.Ytpchkhphpcopkaa
