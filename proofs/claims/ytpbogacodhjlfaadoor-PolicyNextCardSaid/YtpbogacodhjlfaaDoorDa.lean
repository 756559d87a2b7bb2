/- Penalties: the document's. -/
import Derived.Test.YtpbogacodhjlfaaDoorKitY
import Derived.Test.YtpbogacodhjlfaaDoorDm
namespace Go.Proofs.YtpbogacodhjlfaaDoor
open Go.RowKit Go.Shelf Km Kx

/-- the table, in memory -/
def tabs : List Value := Dm.tab.map (Value.int .i64)
theorem tabs_at {j : Nat} (h : j < 16) : tabs[j]? = some (.int .i64 (Dm.tab.getD j 0)) := by
  have hl : Dm.tab.length = 16 := rfl
  unfold tabs
  rw [List.getElem?_map, List.getD_eq_getElem?_getD, List.getElem?_eq_getElem (by omega)]; rfl
set_option maxRecDepth 100000 in
theorem RBound_any (n : Int) (w : World) : Calls Tryd.prog 57 #[.int .i64 n] w fun e w' => e = .returned (.int .i64 (Dm.bound n)) ∧ w = w' := by
  unfold Dm.bound
  by_cases h1 : n < 0
  · rw [if_pos h1]
    go_enter Tryd.func57, Tryd.ntmps57
    go_wp2
    all_goals go_ret
    all_goals exact ⟨rfl, rfl⟩
  · rw [if_neg h1]
    by_cases h2 : 1000000 < n
    · rw [if_pos h2]
      go_enter Tryd.func57, Tryd.ntmps57
      go_wp2
      all_goals go_ret
      all_goals exact ⟨rfl, rfl⟩
    · rw [if_neg h2]
      go_enter Tryd.func57, Tryd.ntmps57
      go_wp2
      all_goals go_ret
      all_goals exact ⟨rfl, rfl⟩
theorem RHit_any (pen more : Int) (w : World) : Calls Tryd.prog 46 #[.int .i64 pen, .int .i64 more] w fun e w' => e = .returned (.int .i64 (Dm.hit pen more)) ∧ w = w' := by
  have h1 := Dm.bound_in pen
  have h2 := Dm.bound_in more
  have hr : Dm.hit pen more = Dm.bound (Dm.bound pen + Dm.bound more) := rfl
  rw [hr]
  clear hr
  have H1 := Lib.hid (RBound_any pen)
  have H2 := Lib.hid (RBound_any more)
  generalize Dm.bound pen = a at *
  generalize Dm.bound more = b at *
  have hw : IntKind.i64.wrap (a + b) = a + b := by rw [IntKind.wrap_i64]; omega
  have hw' : wrap64 (a + b) = a + b := IntWalk.wrap64_in _ (by omega)
  go_enter Tryd.func46, Tryd.ntmps46
  go_wp2_with (go_at_call 57; fail)
  refine (H1.out _).mono ?_
  rintro e w1 ⟨rfl, rfl⟩
  go_wp2_with (go_at_call 57; fail)
  refine (H2.out _).mono ?_
  rintro e w1 ⟨rfl, rfl⟩
  go_wp2_with (go_at_call 57; fail)
  refine (RBound_any _ _).mono ?_
  rintro e w1 ⟨rfl, rfl⟩
  go_wp2
  go_ret
  exact ⟨rfl, rfl⟩

set_option maxRecDepth 100000 in
theorem RSup_any (b : Bool) (pen s r : Int) (w : World) : Calls Tryd.prog 47 #[.bool b, .int .i64 pen, .int .i64 s, .int .i64 r] w fun e w' => e = .returned (.bool (Dm.sup b pen s r)) ∧ w = w' := by
  unfold Dm.sup
  by_cases h1 : s ≤ pen
  · have d1 : decide (s ≤ pen) = true := decide_eq_true h1
    rw [if_pos h1]
    go_enter Tryd.func47, Tryd.ntmps47
    go_wp2_with fail
    go_ret
    exact ⟨rfl, rfl⟩
  · have d1 : decide (s ≤ pen) = false := decide_eq_false h1
    rw [if_neg h1]
    by_cases h2 : pen ≤ r
    · have d2 : decide (pen ≤ r) = true := decide_eq_true h2
      rw [if_pos h2]
      go_enter Tryd.func47, Tryd.ntmps47
      go_wp2_with fail
      go_ret
      exact ⟨rfl, rfl⟩
    · have d2 : decide (pen ≤ r) = false := decide_eq_false h2
      rw [if_neg h2]
      go_enter Tryd.func47, Tryd.ntmps47
      go_wp2_with fail
      go_ret
      exact ⟨rfl, rfl⟩

set_option maxRecDepth 100000 in
theorem RDecay_0 (pen dt half : Int) (w : World) (_h0 : pen < 0) : Calls Tryd.prog 45 #[.int .i64 pen, .int .i64 dt, .int .i64 half] w fun e w' => e = .returned (.tuple #[.int .i64 0, .int .i64 1]) ∧ Below w.heap.size w w' := by
  have HB := Lib.hid (Bxs.start w)
  have d0 : decide (pen < (0 : Int)) = true := by simp; omega
  clear _h0
  go_enter Tryd.func45, Tryd.ntmps45
  go_wp2_with fail
  go_ret2
  exact ⟨rfl, HB.out.below⟩

set_option maxRecDepth 100000 in
theorem RDecay_1 (pen dt half : Int) (w : World) (_h0 : ¬ pen < 0) (_h1 : 1000000 < pen) : Calls Tryd.prog 45 #[.int .i64 pen, .int .i64 dt, .int .i64 half] w fun e w' => e = .returned (.tuple #[.int .i64 0, .int .i64 1]) ∧ Below w.heap.size w w' := by
  have HB := Lib.hid (Bxs.start w)
  have d0 : decide (pen < (0 : Int)) = false := by simp; omega
  have d1 : decide ((1000000 : Int) < pen) = true := by simp; omega
  clear _h0 _h1
  go_enter Tryd.func45, Tryd.ntmps45
  go_wp2_with fail
  go_ret2
  exact ⟨rfl, HB.out.below⟩

set_option maxRecDepth 100000 in
theorem RDecay_2 (pen dt half : Int) (w : World) (_h0 : ¬ pen < 0) (_h1 : ¬ 1000000 < pen) (_h2 : dt < 0) : Calls Tryd.prog 45 #[.int .i64 pen, .int .i64 dt, .int .i64 half] w fun e w' => e = .returned (.tuple #[.int .i64 0, .int .i64 1]) ∧ Below w.heap.size w w' := by
  have HB := Lib.hid (Bxs.start w)
  have d0 : decide (pen < (0 : Int)) = false := by simp; omega
  have d1 : decide ((1000000 : Int) < pen) = false := by simp; omega
  have d2 : decide (dt < (0 : Int)) = true := by simp; omega
  clear _h0 _h1 _h2
  go_enter Tryd.func45, Tryd.ntmps45
  go_wp2_with fail
  go_ret2
  exact ⟨rfl, HB.out.below⟩

set_option maxRecDepth 100000 in
theorem RDecay_3 (pen dt half : Int) (w : World) (_h0 : ¬ pen < 0) (_h1 : ¬ 1000000 < pen) (_h2 : ¬ dt < 0) (_h3 : 1099511627776 < dt) : Calls Tryd.prog 45 #[.int .i64 pen, .int .i64 dt, .int .i64 half] w fun e w' => e = .returned (.tuple #[.int .i64 0, .int .i64 1]) ∧ Below w.heap.size w w' := by
  have HB := Lib.hid (Bxs.start w)
  have d0 : decide (pen < (0 : Int)) = false := by simp; omega
  have d1 : decide ((1000000 : Int) < pen) = false := by simp; omega
  have d2 : decide (dt < (0 : Int)) = false := by simp; omega
  have d3 : decide ((1099511627776 : Int) < dt) = true := by simp; omega
  clear _h0 _h1 _h2 _h3
  go_enter Tryd.func45, Tryd.ntmps45
  go_wp2_with fail
  go_ret2
  exact ⟨rfl, HB.out.below⟩

set_option maxRecDepth 100000 in
theorem RDecay_4 (pen dt half : Int) (w : World) (_h0 : ¬ pen < 0) (_h1 : ¬ 1000000 < pen) (_h2 : ¬ dt < 0) (_h3 : ¬ 1099511627776 < dt) (_h4 : half < 1) : Calls Tryd.prog 45 #[.int .i64 pen, .int .i64 dt, .int .i64 half] w fun e w' => e = .returned (.tuple #[.int .i64 0, .int .i64 1]) ∧ Below w.heap.size w w' := by
  have HB := Lib.hid (Bxs.start w)
  have d0 : decide (pen < (0 : Int)) = false := by simp; omega
  have d1 : decide ((1000000 : Int) < pen) = false := by simp; omega
  have d2 : decide (dt < (0 : Int)) = false := by simp; omega
  have d3 : decide ((1099511627776 : Int) < dt) = false := by simp; omega
  have d4 : decide (half < (1 : Int)) = true := by simp; omega
  clear _h0 _h1 _h2 _h3 _h4
  go_enter Tryd.func45, Tryd.ntmps45
  go_wp2_with fail
  go_ret2
  exact ⟨rfl, HB.out.below⟩

set_option maxRecDepth 100000 in
theorem RDecay_5 (pen dt half : Int) (w : World) (_h0 : ¬ pen < 0) (_h1 : ¬ 1000000 < pen) (_h2 : ¬ dt < 0) (_h3 : ¬ 1099511627776 < dt) (_h4 : ¬ half < 1) (_h5 : 1099511627776 < half) : Calls Tryd.prog 45 #[.int .i64 pen, .int .i64 dt, .int .i64 half] w fun e w' => e = .returned (.tuple #[.int .i64 0, .int .i64 1]) ∧ Below w.heap.size w w' := by
  have HB := Lib.hid (Bxs.start w)
  have d0 : decide (pen < (0 : Int)) = false := by simp; omega
  have d1 : decide ((1000000 : Int) < pen) = false := by simp; omega
  have d2 : decide (dt < (0 : Int)) = false := by simp; omega
  have d3 : decide ((1099511627776 : Int) < dt) = false := by simp; omega
  have d4 : decide (half < (1 : Int)) = false := by simp; omega
  have d5 : decide ((1099511627776 : Int) < half) = true := by simp; omega
  clear _h0 _h1 _h2 _h3 _h4 _h5
  go_enter Tryd.func45, Tryd.ntmps45
  go_wp2_with fail
  go_ret2
  exact ⟨rfl, HB.out.below⟩

set_option maxRecDepth 100000 in
set_option maxHeartbeats 1000000 in
theorem RDecay_ok (pen dt half : Int) (w : World) (h : Dm.Ar pen dt half) : Calls Tryd.prog 45 #[.int .i64 pen, .int .i64 dt, .int .i64 half] w fun e w' => e = .returned (.tuple #[.int .i64 (Dm.left pen dt half), .int .i64 0]) ∧ Below w.heap.size w w' := by
  have HB := Lib.hid (Bxs.start w)
  obtain ⟨⟨p1, p2⟩, ⟨t1, t2⟩, h1, h2⟩ := h
  have d0 : decide (pen < (0 : Int)) = false := by simp; omega
  have d1 : decide ((1000000 : Int) < pen) = false := by simp; omega
  have d2 : decide (dt < (0 : Int)) = false := by simp; omega
  have d3 : decide ((1099511627776 : Int) < dt) = false := by simp; omega
  have d4 : decide (half < (1 : Int)) = false := by simp; omega
  have d5 : decide ((1099511627776 : Int) < half) = false := by simp; omega
  have h0 : ¬ (half = 0) := by omega
  have h0' : (half == 0) = false := by simp; omega
  have hq0 : 0 ≤ dt / half := Int.ediv_nonneg t1 (by omega)
  obtain ⟨r1, r2⟩ := Dm.rest_in (dt := dt) h1
  obtain ⟨g1, g2⟩ := Dm.part_in (dt := dt) h1
  have hL : Dm.left pen dt half = if 20 < dt / half then 0 else Dm.halved pen (dt / half).toNat * Dm.tab.getD (Dm.part dt half).toNat 0 / 65536 := rfl
  have hpt : Dm.part dt half = 16 * (dt - dt / half * half) / half := rfl
  have hqd : dt / half ≤ dt := Int.ediv_le_self _ t1
  obtain ⟨j, hj⟩ : ∃ j : Nat, Dm.part dt half = (j : Int) := ⟨(Dm.part dt half).toNat, by omega⟩
  rw [hj] at hL hpt g1 g2
  obtain ⟨q, hq⟩ : ∃ q : Nat, dt / half = (q : Int) := ⟨(dt / half).toNat, by omega⟩
  rw [hq] at hL hpt r1 r2 hq0 hqd
  have hqh : (q : Int) * half ≤ dt := by omega
  have hqn : 0 ≤ (q : Int) * half := Int.mul_nonneg hq0 (by omega)
  have hwq : wrap64 ((q : Int) * half) = (q : Int) * half := IntWalk.wrap64_in _ (by omega)
  have hwr : wrap64 (dt - (q : Int) * half) = dt - (q : Int) * half := IntWalk.wrap64_in _ (by omega)
  have hw16 : wrap64 (16 * (dt - (q : Int) * half)) = 16 * (dt - (q : Int) * half) := IntWalk.wrap64_in _ (by omega)
  have HL := Lib.hid hL
  have hqt : dt.tdiv half = (q : Int) := by rw [Int.tdiv_eq_ediv_of_nonneg t1]; exact hq
  have hjt : (16 * (dt - (q : Int) * half)).tdiv half = (j : Int) := by rw [Int.tdiv_eq_ediv_of_nonneg (by omega)]; exact hpt.symm
  have hwq0 : wrap64 (q : Int) = (q : Int) := IntWalk.wrap64_in _ (by omega)
  have hwj0 : wrap64 (j : Int) = (j : Int) := IntWalk.wrap64_in _ (by omega)
  have HJT := Lib.hid (⟨hw16, hjt, hwj0⟩ : _ ∧ _ ∧ _)
  clear hL hpt hj hqh hqn hq t1 t2 hq0 hqd hw16 hjt hwj0 r1 r2
  by_cases h20 : 20 < q
  · have d6 : decide ((20 : Int) < (q : Int)) = true := by simp; omega
    rw [HL.out, if_pos (by omega)]
    clear h20
    go_enter Tryd.func45, Tryd.ntmps45
    go_wp2_with (first | ((with_reducible refine Kx.absorb HB ?_); clear HB; intro w_ HB) | ((with_reducible refine Kx.box_gate ?_); first | (refine Kx.wpList_boxa_x HB rfl _ _ rfl _ rfl ?_; clear HB; intro b_ w_ HB; refine Kx.framed ?_ (by simp only [Act.put, List.setIfInBounds_toArray, List.set_cons_succ, List.set_cons_zero] <;> rfl)) | (refine Kx.wpList_boxt_x HB rfl _ _ rfl _ rfl rfl ?_; clear HB; intro b_ w_ HB; refine Kx.framed ?_ (by simp only [Act.put, List.setIfInBounds_toArray, List.set_cons_succ, List.set_cons_zero] <;> rfl)) | (refine Kx.wpList_box1_x HB rfl _ _ rfl _ rfl rfl ?_; clear HB; intro b_ w_ HB; refine Kx.framed ?_ (by simp only [Act.put, List.setIfInBounds_toArray, List.set_cons_succ, List.set_cons_zero] <;> rfl))) | ((with_reducible refine Kx.alloc_gate ?_); first | (refine Kx.wpList_alloc1_x HB rfl _ rfl _ (Tryd.zeroValue3 _) rfl ?_; clear HB; intro b_ w_ HB; refine Kx.framed ?_ (by simp only [Act.put, List.setIfInBounds_toArray, List.set_cons_succ, List.set_cons_zero] <;> rfl))) | ((with_reducible refine Kx.loads_gate ?_); first | (refine Kx.wpList_load1_x HB rfl _ _ rfl _ rfl _ (Tryd.isAgg3 _) _ rfl (Kx.framed ?_ (by simp only [Act.put, List.setIfInBounds_toArray, List.set_cons_succ, List.set_cons_zero] <;> rfl))) | (refine Kx.wpList_old_x HB rfl _ _ rfl _ rfl (Tryd.isAgg3 _) _ HC.out (Kx.framed ?_ (by simp only [Act.put, List.setIfInBounds_toArray, List.set_cons_succ, List.set_cons_zero] <;> rfl)))) | ((with_reducible refine Kx.loadg_gate ?_); first | (refine Kx.wpList_loadg_x HB _ _ rfl _ rfl _ (Tryd.isAgg3 _) _ rfl rfl (Kx.framed ?_ (by simp only [Act.put, List.setIfInBounds_toArray, List.set_cons_succ, List.set_cons_zero] <;> rfl))) | (refine Kx.wpList_oldg_x HB _ _ rfl _ rfl (Tryd.isAgg3 _) _ HC.out rfl (Kx.framed ?_ (by simp only [Act.put, List.setIfInBounds_toArray, List.set_cons_succ, List.set_cons_zero] <;> rfl)))) | ((with_reducible refine Kx.store_gate ?_); first | (refine Kx.wpList_storewa_x HB rfl rfl _ _ _ rfl _ rfl _ rfl _ (by rfl) (by simp <;> rfl) (by rfl) ?_; clear HB; intro w_ HB) | (refine Kx.wpList_storea_x HB rfl rfl _ _ _ rfl _ rfl _ rfl _ _ (by simp [Kx.splice] <;> rfl) (by simp) (by simp <;> rfl) (by rfl) ?_; clear HB; intro w_ HB) | (refine Kx.wpList_storec_x HB rfl rfl _ _ _ rfl _ rfl rfl _ _ (by simp <;> rfl) (by simp) (by simp <;> rfl) ?_; clear HB; intro w_ HB) | (refine Kx.wpList_storet_x HB rfl rfl _ _ _ rfl _ rfl _ rfl rfl _ _ (by simp <;> rfl) (by simp) (by simp <;> rfl) ?_; clear HB; intro w_ HB) | (refine Kx.wpList_store1_x HB rfl rfl _ _ _ rfl _ rfl _ rfl rfl _ _ (by simp <;> rfl) (by simp) (by simp <;> rfl) ?_; clear HB; intro w_ HB)))
    go_ret2
    exact ⟨rfl, HB.out.below⟩
  · have d6 : decide ((20 : Int) < (q : Int)) = false := by simp; omega
    rw [HL.out, if_neg (by omega), Int.toNat_natCast, Int.toNat_natCast]
    have HTB := Lib.hid (Dm.tab_in (n := j) (by omega))
    have hp0 := Dm.halved_pos 0 p1
    go_enter Tryd.func45, Tryd.ntmps45
    go_wp2_with (first | ((with_reducible refine Kx.absorb HB ?_); clear HB; intro w_ HB) | ((with_reducible refine Kx.box_gate ?_); first | (refine Kx.wpList_boxa_x HB rfl _ _ rfl _ rfl ?_; clear HB; intro b_ w_ HB; refine Kx.framed ?_ (by simp only [Act.put, List.setIfInBounds_toArray, List.set_cons_succ, List.set_cons_zero] <;> rfl)) | (refine Kx.wpList_boxt_x HB rfl _ _ rfl _ rfl rfl ?_; clear HB; intro b_ w_ HB; refine Kx.framed ?_ (by simp only [Act.put, List.setIfInBounds_toArray, List.set_cons_succ, List.set_cons_zero] <;> rfl)) | (refine Kx.wpList_box1_x HB rfl _ _ rfl _ rfl rfl ?_; clear HB; intro b_ w_ HB; refine Kx.framed ?_ (by simp only [Act.put, List.setIfInBounds_toArray, List.set_cons_succ, List.set_cons_zero] <;> rfl))) | ((with_reducible refine Kx.alloc_gate ?_); first | (refine Kx.wpList_alloc1_x HB rfl _ rfl _ (Tryd.zeroValue3 _) rfl ?_; clear HB; intro b_ w_ HB; refine Kx.framed ?_ (by simp only [Act.put, List.setIfInBounds_toArray, List.set_cons_succ, List.set_cons_zero] <;> rfl))) | ((with_reducible refine Kx.loads_gate ?_); first | (refine Kx.wpList_load1_x HB rfl _ _ rfl _ rfl _ (Tryd.isAgg3 _) _ rfl (Kx.framed ?_ (by simp only [Act.put, List.setIfInBounds_toArray, List.set_cons_succ, List.set_cons_zero] <;> rfl))) | (refine Kx.wpList_old_x HB rfl _ _ rfl _ rfl (Tryd.isAgg3 _) _ HC.out (Kx.framed ?_ (by simp only [Act.put, List.setIfInBounds_toArray, List.set_cons_succ, List.set_cons_zero] <;> rfl)))) | ((with_reducible refine Kx.loadg_gate ?_); first | (refine Kx.wpList_loadg_x HB _ _ rfl _ rfl _ (Tryd.isAgg3 _) _ rfl rfl (Kx.framed ?_ (by simp only [Act.put, List.setIfInBounds_toArray, List.set_cons_succ, List.set_cons_zero] <;> rfl))) | (refine Kx.wpList_oldg_x HB _ _ rfl _ rfl (Tryd.isAgg3 _) _ HC.out rfl (Kx.framed ?_ (by simp only [Act.put, List.setIfInBounds_toArray, List.set_cons_succ, List.set_cons_zero] <;> rfl)))) | ((with_reducible refine Kx.store_gate ?_); first | (refine Kx.wpList_storewa_x HB rfl rfl _ _ _ rfl _ rfl _ rfl _ (by rfl) (by simp <;> rfl) (by rfl) ?_; clear HB; intro w_ HB) | (refine Kx.wpList_storea_x HB rfl rfl _ _ _ rfl _ rfl _ rfl _ _ (by simp [Kx.splice] <;> rfl) (by simp) (by simp <;> rfl) (by rfl) ?_; clear HB; intro w_ HB) | (refine Kx.wpList_storec_x HB rfl rfl _ _ _ rfl _ rfl rfl _ _ (by simp <;> rfl) (by simp) (by simp <;> rfl) ?_; clear HB; intro w_ HB) | (refine Kx.wpList_storet_x HB rfl rfl _ _ _ rfl _ rfl _ rfl rfl _ _ (by simp <;> rfl) (by simp) (by simp <;> rfl) ?_; clear HB; intro w_ HB) | (refine Kx.wpList_store1_x HB rfl rfl _ _ _ rfl _ rfl _ rfl rfl _ _ (by simp <;> rfl) (by simp) (by simp <;> rfl) ?_; clear HB; intro w_ HB)))
    rw [hwr]
    go_loopg [0, 11] q (fun gh px ix wr => ∃ k : Nat, gh + k = q ∧ px = .int .i64 (Dm.halved pen k) ∧ ix = .int .i64 (k : Int) ∧ Hid (Bxs w wr [(w.heap.size, tabs)]))
    case atStart => exact ⟨0, by omega, rfl, rfl, HB⟩
    case round =>
      clear HB
      obtain ⟨k, hk, rfl, rfl, HB⟩ := hrel
      have hx := Dm.halved_pos k p1
      by_cases hlt : k < q
      · have d7 : (k : Int) < (q : Int) := by omega
        have HS := Lib.hid (Dm.halved_succ k pen)
        generalize Dm.halved pen k = x at *
        obtain ⟨x1, x2⟩ := hx
        obtain ⟨v, hv⟩ : ∃ v : Int, x / 2 = v := ⟨_, rfl⟩
        have hy1 : x.tdiv 2 = v := by rw [Int.tdiv_eq_ediv_of_nonneg x1]; exact hv
        have hy2 : wrap64 v = v := IntWalk.wrap64_in _ (by omega)
        rw [hv] at HS
        clear x1 x2 hv
        go_wp2_with fail
        go_roundg (gk - 1)
        case measure => omega
        case rel => exact ⟨k + 1, by omega, by rw [HS.out, hy2], by go_num, HB⟩
      · obtain rfl : k = q := by omega
        have d8 : decide ((k : Int) < (k : Int)) = false := by simp
        have hcell := tabs_at (j := j) (by omega)
        have HCELL := Lib.hid hcell
        obtain ⟨u1, u2⟩ := HTB.out
        clear hcell
        obtain ⟨s1, s2, s3⟩ := HJT.out
        obtain ⟨x, hx0⟩ : ∃ x, Dm.halved pen k = x := ⟨_, rfl⟩
        obtain ⟨y, hy0⟩ : ∃ y, Dm.tab.getD j 0 = y := ⟨_, rfl⟩
        rw [hx0] at hx ⊢
        rw [hy0] at u1 u2 HCELL
        obtain ⟨x1, x2⟩ := hx
        have m0 : 0 ≤ x * y := Int.mul_nonneg x1 (by omega)
        have m1 : x * y ≤ 1000000 * 65536 := Dm.mul_mono x1 (by omega) (by omega) u2
        obtain ⟨z, hz⟩ : ∃ z : Int, x * y = z := ⟨_, rfl⟩
        have m2 : wrap64 z = z := IntWalk.wrap64_in _ (by omega)
        obtain ⟨v, hv⟩ : ∃ v : Int, z / 65536 = v := ⟨_, rfl⟩
        have m3 : z.tdiv 65536 = v := by rw [Int.tdiv_eq_ediv_of_nonneg (by omega)]; exact hv
        have m4 : wrap64 v = v := IntWalk.wrap64_in _ (by omega)
        have HZV := Lib.hid (⟨hx0, hy0, hz, hv, m2, m3, m4⟩ : _ ∧ _ ∧ _ ∧ _ ∧ _ ∧ _ ∧ _)
        generalize dt - (k : Int) * half = r at *
        obtain ⟨s, hs⟩ : ∃ s : Int, 16 * r = s := ⟨_, rfl⟩
        rw [hs] at s1 s2
        have s4 : wrap64 (16 * r) = s := by rw [hs]; exact s1
        clear s1 hs hz hv hx0 hy0 m2 m3 m4 hqt hwq hwq0
        have j1 : (j : Int) < 16 := by omega
        clear x1 x2 m0 m1 u1 u2 HTB hwr p1 p2
        go_wp2_with ((with_reducible refine Kx.loads_gate ?_); refine Kx.wpList_load1_x HB rfl _ _ rfl w.heap.size rfl tabs (Tryd.isAgg3 _) _ HCELL.out ?_)
        go_ret2
        refine ⟨?_, HB.out.below⟩
        obtain ⟨e1, e2, e3, e4, e5, e6, e7⟩ := HZV.out
        rw [e1, e2, e3, e4]
        show Ending.returned (Value.tuple #[Value.int .i64 (wrap64 ((wrap64 z).tdiv 65536)), Value.int .i64 0]) = _
        rw [e5, e6, e7]
theorem RDecay_any (pen dt half : Int) (w : World) : Calls Tryd.prog 45 #[.int .i64 pen, .int .i64 dt, .int .i64 half] w fun e w' => e = .returned (.tuple #[.int .i64 (Dm.decay pen dt half).1, .int .i64 (Dm.decay pen dt half).2]) ∧ Below w.heap.size w w' := by
  by_cases h : Dm.Ar pen dt half
  · rw [Dm.decay_ok h]; exact RDecay_ok pen dt half w h
  · rw [Dm.decay_no h]
    by_cases h0 : pen < 0
    · exact RDecay_0 pen dt half w h0
    by_cases h1 : 1000000 < pen
    · exact RDecay_1 pen dt half w h0 h1
    by_cases h2 : dt < 0
    · exact RDecay_2 pen dt half w h0 h1 h2
    by_cases h3 : 1099511627776 < dt
    · exact RDecay_3 pen dt half w h0 h1 h2 h3
    by_cases h4 : half < 1
    · exact RDecay_4 pen dt half w h0 h1 h2 h3 h4
    by_cases h5 : 1099511627776 < half
    · exact RDecay_5 pen dt half w h0 h1 h2 h3 h4 h5
    exact absurd ⟨⟨by omega, by omega⟩, ⟨by omega, by omega⟩, by omega, by omega⟩ h
end Go.Proofs.YtpbogacodhjlfaaDoor
