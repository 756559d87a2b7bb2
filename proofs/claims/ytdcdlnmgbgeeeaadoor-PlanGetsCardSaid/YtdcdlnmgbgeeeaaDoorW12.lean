import Derived.Test.YtdcdlnmgbgeeeaaDoorWl
namespace Go.Proofs.YtdcdlnmgbgeeeaaDoor
open Go.RowKit Go.Shelf

set_option maxRecDepth 100000 in
set_option maxHeartbeats 2000000 in
theorem PutInts_all (A : Option Addr) (n cap B : Nat) (xs : List Int) (w : World) (hx : Rd w B A (i64s xs)) (hn : xs.length = n) (hf : Wm.Fits xs) (hB : B ≤ w.heap.size) :
    Calls Tryd.prog 23 #[.slice A n cap] w fun e w' => ∃ v, e = .returned (.tuple #[v, .int .i64 (Wm.pintsE xs).2]) ∧
      w'.ownsRow w.heap.size 5 1 v (Wm.pintsE xs).1.length (u8s (Wm.pintsE xs).1) ∧ Below w.heap.size w w' := by
  by_cases hm : 64 < xs.length
  · have HE := Lib.hid (Wm.pintsE_many hm)
    have hm' : 64 < n := by omega
    clear hx hf
    go_enter Tryd.func23, Tryd.ntmps23
    go_wp2
    go_ret2
    rw [HE.out]
    exact ⟨_, rfl, own_none, Below.refl _ _⟩
  · have HE := Lib.hid (Wm.pintsE_ok hm)
    obtain ⟨i0, hi, hz0, hz1, hz2⟩ := info_parts info_u8
    have HN := Lib.hid hn
    have HX := Lib.hid hx
    have HF : Hid (Wm.Fits xs) := hf
    have hm' : n ≤ 64 := by omega
    have HZ : Hid (Wm.pintsU xs 0 = Wm.pint (n : Int)) := by
      show _ = _
      rw [Wm.pintsU_zero, hn]
    clear hn hx hf hm
    go_enter Tryd.func23, Tryd.ntmps23
    go_wp2_with (go_at_call 36; refine (PutInt_any _ _ (by omega) (by omega)).mono ?_; rintro e w1 ⟨v, rfl, hown0, hb0⟩)
    go_loopw [4, 15] (fun out ix wr => ∃ k : Nat, ix = .int .i64 (k : Int) ∧ k ≤ n ∧ wr.ownsRow w.heap.size 5 1 out (Wm.pintsU xs k).length (u8s (Wm.pintsU xs k)) ∧ Below w.heap.size w wr)
      (fun _ ix _ => n - (intOf ix).toNat)
    case atStart => exact ⟨0, rfl, by omega, by rw [HZ.out]; exact hown0, hb0⟩
    case round =>
      obtain ⟨k, rfl, hk, hown, hBl⟩ := hrel
      by_cases hlt : k < n
      · obtain ⟨x, hxk⟩ : ∃ x, xs[k]? = some x := ⟨xs[k]'(by have := HN.out; omega), List.getElem?_eq_getElem _⟩
        have hxb := HF.out x (List.mem_of_getElem? hxk)
        obtain ⟨ad, rfl, _, hcl⟩ := (HX.out.below (hBl.mono hB)).getU hxk
        have HS := Lib.hid (Wm.pintsU_succ hxk)
        have hfl := Wm.pintsU_len xs k
        have hpl := Wm.pint_len x
        clear hxk
        go_wp2_with (first | (go_at_call 36; refine (PutInt_any _ _ hxb.1 hxb.2).mono ?_; rintro e w2 ⟨v, rfl, hown2, hb2⟩; obtain ⟨A2, cap2, rfl, hcp2, hcm2, hrd2⟩ := own_view hown2) | (at_builtin; refine wpList_app rfl _ _ 28 rfl w.heap.size 5 i0 (.int .u8 0) 1 Tryd.underlying28 hi hz0 hz1 hz2 rfl _ _ _ rfl (own_below hown hb2 (Nat.le_refl _)) w2.heap.size A2 _ cap2 (u8s (Wm.pint x)) rfl (by rw [List.length_map]) hrd2 (oneCell_ints _ _) (by unfold maxLen; omega) (by omega) (Nat.le_trans hBl.size hb2.size) ?_; intro v' w3 hown' hgrow _))
        have hB3 := below_app (hBl.trans (hb2.mono hBl.size)) (own_below hown hb2 (Nat.le_refl _)) hgrow (Nat.le_trans hBl.size hb2.size)
        have HO : Hid (w3.ownsRow w.heap.size 5 1 v' (Wm.pintsU xs (k + 1)).length (u8s (Wm.pintsU xs (k + 1)))) := by
          show World.ownsRow _ _ _ _ _ _ _
          rw [HS.out, List.length_append]
          simpa [u8s] using hown'
        go_roundw
        case rel => exact ⟨k + 1, by go_num, by omega, HO.out, hB3⟩
        case measure => simp [intOf]; omega
      · obtain rfl : k = n := by omega
        go_wp2
        go_ret2
        rw [HE.out, HN.out]
        exact ⟨_, rfl, hown, hBl⟩

set_option maxRecDepth 100000 in
set_option maxHeartbeats 2000000 in
theorem RPutInts_all (A : Option Addr) (n cap B : Nat) (xs : List Int) (w : World) (hx : Rd w B A (i64s xs)) (hn : xs.length = n) (hf : Wm.Fits xs) (hB : B ≤ w.heap.size) :
    Calls Tryd.prog 24 #[.slice A n cap] w fun e w' => ∃ v, e = .returned (.tuple #[v, .int .i64 (Wm.pintsE xs).2]) ∧
      w'.ownsRow w.heap.size 5 1 v (Wm.pintsE xs).1.length (u8s (Wm.pintsE xs).1) ∧ Below w.heap.size w w' := by
  by_cases hm : 64 < xs.length
  · have HE := Lib.hid (Wm.pintsE_many hm)
    have hm' : 64 < n := by omega
    clear hx hf
    go_enter Tryd.func24, Tryd.ntmps24
    go_wp2
    go_ret2
    rw [HE.out]
    exact ⟨_, rfl, own_none, Below.refl _ _⟩
  · have HE := Lib.hid (Wm.pintsE_ok hm)
    obtain ⟨i0, hi, hz0, hz1, hz2⟩ := info_parts info_u8
    have HN := Lib.hid hn
    have HX := Lib.hid hx
    have HF : Hid (Wm.Fits xs) := hf
    have hm' : n ≤ 64 := by omega
    have HZ : Hid (Wm.pintsU xs 0 = Wm.pint (n : Int)) := by
      show _ = _
      rw [Wm.pintsU_zero, hn]
    clear hn hx hf hm
    go_enter Tryd.func24, Tryd.ntmps24
    go_wp2_with (go_at_call 37; refine (RPutInt_any _ _ (by omega) (by omega)).mono ?_; rintro e w1 ⟨v, rfl, hown0, hb0⟩)
    go_loopw [4, 5] (fun out ix wr => ∃ k : Nat, ix = .int .i64 (k : Int) ∧ k ≤ n ∧ wr.ownsRow w.heap.size 5 1 out (Wm.pintsU xs k).length (u8s (Wm.pintsU xs k)) ∧ Below w.heap.size w wr)
      (fun _ ix _ => n - (intOf ix).toNat)
    case atStart => exact ⟨0, rfl, by omega, by rw [HZ.out]; exact hown0, hb0⟩
    case round =>
      obtain ⟨k, rfl, hk, hown, hBl⟩ := hrel
      by_cases hlt : k < n
      · obtain ⟨x, hxk⟩ : ∃ x, xs[k]? = some x := ⟨xs[k]'(by have := HN.out; omega), List.getElem?_eq_getElem _⟩
        have hxb := HF.out x (List.mem_of_getElem? hxk)
        obtain ⟨ad, rfl, _, hcl⟩ := (HX.out.below (hBl.mono hB)).getU hxk
        have HS := Lib.hid (Wm.pintsU_succ hxk)
        have hfl := Wm.pintsU_len xs k
        have hpl := Wm.pint_len x
        clear hxk
        go_wp2_with (first | (go_at_call 37; refine (RPutInt_any _ _ hxb.1 hxb.2).mono ?_; rintro e w2 ⟨v, rfl, hown2, hb2⟩; obtain ⟨A2, cap2, rfl, hcp2, hcm2, hrd2⟩ := own_view hown2) | (at_builtin; refine wpList_app rfl _ _ 28 rfl w.heap.size 5 i0 (.int .u8 0) 1 Tryd.underlying28 hi hz0 hz1 hz2 rfl _ _ _ rfl (own_below hown hb2 (Nat.le_refl _)) w2.heap.size A2 _ cap2 (u8s (Wm.pint x)) rfl (by rw [List.length_map]) hrd2 (oneCell_ints _ _) (by unfold maxLen; omega) (by omega) (Nat.le_trans hBl.size hb2.size) ?_; intro v' w3 hown' hgrow _))
        have hB3 := below_app (hBl.trans (hb2.mono hBl.size)) (own_below hown hb2 (Nat.le_refl _)) hgrow (Nat.le_trans hBl.size hb2.size)
        have HO : Hid (w3.ownsRow w.heap.size 5 1 v' (Wm.pintsU xs (k + 1)).length (u8s (Wm.pintsU xs (k + 1)))) := by
          show World.ownsRow _ _ _ _ _ _ _
          rw [HS.out, List.length_append]
          simpa [u8s] using hown'
        go_roundw
        case rel => exact ⟨k + 1, by go_num, by omega, HO.out, hB3⟩
        case measure => simp [intOf]; omega
      · obtain rfl : k = n := by omega
        go_wp2
        go_ret2
        rw [HE.out, HN.out]
        exact ⟨_, rfl, hown, hBl⟩

end Go.Proofs.YtdcdlnmgbgeeeaaDoor
