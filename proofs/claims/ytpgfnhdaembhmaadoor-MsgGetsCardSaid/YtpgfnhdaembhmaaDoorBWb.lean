import Derived.Test.YtpgfnhdaembhmaaDoorBWa
import Derived.Test.YtpgfnhdaembhmaaDoorBWm
import Derived.Lib.SliceRun
import Derived.Test.YtpgfnhdaembhmaaDoorBK

namespace Go.Proofs.YtpgfnhdaembhmaaDoor
open Go.RowKit Go.Shelf

set_option maxRecDepth 100000 in
set_option maxHeartbeats 2000000 in
theorem PutInts_all (A : Option Addr) (n cap B : Nat) (xs : List Int) (w : World) (hx : Rd w B A (i64s xs)) (hn : xs.length = n) (hf : Wm.Fits xs) (hB : B ≤ w.heap.size) :
    Calls Tryd.prog 59 #[.slice A n cap] w fun e w' => ∃ v, e = .returned (.tuple #[v, .int .i64 (Wm.pintsE xs).2]) ∧
      w'.ownsRow w.heap.size 5 1 v (Wm.pintsE xs).1.length (u8s (Wm.pintsE xs).1) ∧ Below w.heap.size w w' := by
  by_cases hm : 64 < xs.length
  · have HE := Lib.hid (Wm.pintsE_many hm)
    have hm' : 64 < n := by omega
    clear hx hf
    go_enter Tryd.func59, Tryd.ntmps59
    go_wp2
    go_ret2
    rw [HE.out]
    exact ⟨_, rfl, own_none, Below.refl _ _⟩
  · have HE := Lib.hid (Wm.pintsE_ok hm)
    obtain ⟨i0, hi, hz0, hz1, hz2⟩ := info_parts info_u8
    have HN := Lib.hid hn
    have HX := Lib.hid hx
    have HF : Hid (Wm.Fits xs) := hf
    have hm' : n ≤ 64 := by omega
    have HZ : Hid (Wm.pintsU xs 0 = Wm.pint (n : Int)) := by
      show _ = _
      rw [Wm.pintsU_zero, hn]
    clear hn hx hf hm
    go_enter Tryd.func59, Tryd.ntmps59
    go_wp2_with (go_at_call 77; refine (PutInt_any _ _ (by omega) (by omega)).mono ?_; rintro e w1 ⟨v, rfl, hown0, hb0⟩)
    go_loopw [4, 15] (fun out ix wr => ∃ k : Nat, ix = .int .i64 (k : Int) ∧ k ≤ n ∧ wr.ownsRow w.heap.size 5 1 out (Wm.pintsU xs k).length (u8s (Wm.pintsU xs k)) ∧ Below w.heap.size w wr)
      (fun _ ix _ => n - (intOf ix).toNat)
    case atStart => exact ⟨0, rfl, by omega, by rw [HZ.out]; exact hown0, hb0⟩
    case round =>
      obtain ⟨k, rfl, hk, hown, hBl⟩ := hrel
      by_cases hlt : k < n
      · obtain ⟨x, hxk⟩ : ∃ x, xs[k]? = some x := ⟨xs[k]'(by have := HN.out; omega), List.getElem?_eq_getElem _⟩
        have hxb := HF.out x (List.mem_of_getElem? hxk)
        obtain ⟨ad, rfl, _, hcl⟩ := (HX.out.below (hBl.mono hB)).getU hxk
        have HS := Lib.hid (Wm.pintsU_succ hxk)
        have hfl := Wm.pintsU_len xs k
        have hpl := Wm.pint_len x
        clear hxk
        go_wp2_with (first | (go_at_call 77; refine (PutInt_any _ _ hxb.1 hxb.2).mono ?_; rintro e w2 ⟨v, rfl, hown2, hb2⟩; obtain ⟨A2, cap2, rfl, hcp2, hcm2, hrd2⟩ := own_view hown2) | (at_builtin; refine wpList_app rfl _ _ 28 rfl w.heap.size 5 i0 (.int .u8 0) 1 Tryd.underlying28 hi hz0 hz1 hz2 rfl _ _ _ rfl (own_below hown hb2 (Nat.le_refl _)) w2.heap.size A2 _ cap2 (u8s (Wm.pint x)) rfl (by rw [List.length_map]) hrd2 (oneCell_ints _ _) (by unfold maxLen; omega) (by omega) (Nat.le_trans hBl.size hb2.size) ?_; intro v' w3 hown' hgrow _))
        have hB3 := below_app (hBl.trans (hb2.mono hBl.size)) (own_below hown hb2 (Nat.le_refl _)) hgrow (Nat.le_trans hBl.size hb2.size)
        have HO : Hid (w3.ownsRow w.heap.size 5 1 v' (Wm.pintsU xs (k + 1)).length (u8s (Wm.pintsU xs (k + 1)))) := by
          show World.ownsRow _ _ _ _ _ _ _
          rw [HS.out, List.length_append]
          simpa [u8s] using hown'
        go_roundw
        case rel => exact ⟨k + 1, by go_num, by omega, HO.out, hB3⟩
        case measure => simp [intOf]; omega
      · obtain rfl : k = n := by omega
        go_wp2
        go_ret2
        rw [HE.out, HN.out]
        exact ⟨_, rfl, hown, hBl⟩

set_option maxRecDepth 100000 in
set_option maxHeartbeats 2000000 in
theorem RPutInts_all (A : Option Addr) (n cap B : Nat) (xs : List Int) (w : World) (hx : Rd w B A (i64s xs)) (hn : xs.length = n) (hf : Wm.Fits xs) (hB : B ≤ w.heap.size) :
    Calls Tryd.prog 29 #[.slice A n cap] w fun e w' => ∃ v, e = .returned (.tuple #[v, .int .i64 (Wm.pintsE xs).2]) ∧
      w'.ownsRow w.heap.size 5 1 v (Wm.pintsE xs).1.length (u8s (Wm.pintsE xs).1) ∧ Below w.heap.size w w' := by
  by_cases hm : 64 < xs.length
  · have HE := Lib.hid (Wm.pintsE_many hm)
    have hm' : 64 < n := by omega
    clear hx hf
    go_enter Tryd.func29, Tryd.ntmps29
    go_wp2
    go_ret2
    rw [HE.out]
    exact ⟨_, rfl, own_none, Below.refl _ _⟩
  · have HE := Lib.hid (Wm.pintsE_ok hm)
    obtain ⟨i0, hi, hz0, hz1, hz2⟩ := info_parts info_u8
    have HN := Lib.hid hn
    have HX := Lib.hid hx
    have HF : Hid (Wm.Fits xs) := hf
    have hm' : n ≤ 64 := by omega
    have HZ : Hid (Wm.pintsU xs 0 = Wm.pint (n : Int)) := by
      show _ = _
      rw [Wm.pintsU_zero, hn]
    clear hn hx hf hm
    go_enter Tryd.func29, Tryd.ntmps29
    go_wp2_with (go_at_call 62; refine (RPutInt_any _ _ (by omega) (by omega)).mono ?_; rintro e w1 ⟨v, rfl, hown0, hb0⟩)
    go_loopw [4, 5] (fun out ix wr => ∃ k : Nat, ix = .int .i64 (k : Int) ∧ k ≤ n ∧ wr.ownsRow w.heap.size 5 1 out (Wm.pintsU xs k).length (u8s (Wm.pintsU xs k)) ∧ Below w.heap.size w wr)
      (fun _ ix _ => n - (intOf ix).toNat)
    case atStart => exact ⟨0, rfl, by omega, by rw [HZ.out]; exact hown0, hb0⟩
    case round =>
      obtain ⟨k, rfl, hk, hown, hBl⟩ := hrel
      by_cases hlt : k < n
      · obtain ⟨x, hxk⟩ : ∃ x, xs[k]? = some x := ⟨xs[k]'(by have := HN.out; omega), List.getElem?_eq_getElem _⟩
        have hxb := HF.out x (List.mem_of_getElem? hxk)
        obtain ⟨ad, rfl, _, hcl⟩ := (HX.out.below (hBl.mono hB)).getU hxk
        have HS := Lib.hid (Wm.pintsU_succ hxk)
        have hfl := Wm.pintsU_len xs k
        have hpl := Wm.pint_len x
        clear hxk
        go_wp2_with (first | (go_at_call 62; refine (RPutInt_any _ _ hxb.1 hxb.2).mono ?_; rintro e w2 ⟨v, rfl, hown2, hb2⟩; obtain ⟨A2, cap2, rfl, hcp2, hcm2, hrd2⟩ := own_view hown2) | (at_builtin; refine wpList_app rfl _ _ 28 rfl w.heap.size 5 i0 (.int .u8 0) 1 Tryd.underlying28 hi hz0 hz1 hz2 rfl _ _ _ rfl (own_below hown hb2 (Nat.le_refl _)) w2.heap.size A2 _ cap2 (u8s (Wm.pint x)) rfl (by rw [List.length_map]) hrd2 (oneCell_ints _ _) (by unfold maxLen; omega) (by omega) (Nat.le_trans hBl.size hb2.size) ?_; intro v' w3 hown' hgrow _))
        have hB3 := below_app (hBl.trans (hb2.mono hBl.size)) (own_below hown hb2 (Nat.le_refl _)) hgrow (Nat.le_trans hBl.size hb2.size)
        have HO : Hid (w3.ownsRow w.heap.size 5 1 v' (Wm.pintsU xs (k + 1)).length (u8s (Wm.pintsU xs (k + 1)))) := by
          show World.ownsRow _ _ _ _ _ _ _
          rw [HS.out, List.length_append]
          simpa [u8s] using hown'
        go_roundw
        case rel => exact ⟨k + 1, by go_num, by omega, HO.out, hB3⟩
        case measure => simp [intOf]; omega
      · obtain rfl : k = n := by omega
        go_wp2
        go_ret2
        rw [HE.out, HN.out]
        exact ⟨_, rfl, hown, hBl⟩

end Go.Proofs.YtpgfnhdaembhmaaDoor

namespace Go.Proofs.YtpgfnhdaembhmaaDoor
open Go.RowKit Go.Shelf

theorem i64s_set (ys : List Int) (k : Nat) (y : Int) : (i64s ys).set k (.int .i64 y) = i64s (ys.set k y) := by simp [i64s, List.map_set]
theorem info_i64 : (Tryd.prog.info? 2).map (fun i => (i.zero, i.size, i.bytes)) = some (some (.int .i64 0), 1, 8) := by kernel_rfl
theorem made_i64 (n : Nat) : (madeCells (Value.int .i64 0).cells (n * 1)).toList = i64s (List.replicate n 0) := by
  show (madeCells #[Value.int .i64 0] (n * 1)).toList = _
  rw [toList_madeCells_one]
  simp [i64s]

set_option maxRecDepth 100000 in
set_option maxHeartbeats 2000000 in
theorem Ints_any (A : Option Addr) (n cap B : Nat) (xs : List Int) (t : Int) (w : World) (hx : Rd w B A (u8s xs)) (hn : xs.length = n) (hnc : n ≤ cap) (hcap : cap ≤ maxLen) (hB : B ≤ w.heap.size) (hb : ∀ x ∈ xs, 0 ≤ x ∧ x ≤ 255)
    (t0 : -9223372036854775808 ≤ t) (t1 : t ≤ 9223372036854775807) :
    Calls Tryd.prog 44 #[.slice A n cap, .int .i64 t] w fun e w' => ∃ v, e = .returned (.tuple #[v, .int .i64 (Wm.rints xs t).2.1, .int .i64 (Wm.rints xs t).2.2]) ∧
      w'.ownsRow w.heap.size 2 1 v (Wm.rints xs t).1.length (i64s (Wm.rints xs t).1) ∧ Below w.heap.size w w' := by
  have HC := Lib.hid (length_any A n cap B xs t 64 w hx hn hnc hcap hb t0 t1)
  have hcap' := hcap
  unfold maxLen at hcap'
  by_cases he : (Wm.rlen xs t 64).2.2 = 0
  · obtain ⟨k, m, hl, hrd, hk, ht, hm, hle, _⟩ := Wm.rlen_some he hb
    obtain ⟨t, rfl⟩ := Int.eq_ofNat_of_zero_le ht
    have hl' : Wm.rlen xs (t : Int) 64 = ((k : Int), ((t + m : Nat) : Int), 0) := by rw [hl]; congr 2
    clear he hl hrd ht t0 t1
    obtain ⟨f, hf⟩ : ∃ f, t + m = f := ⟨_, rfl⟩
    rw [hf] at hl'
    have hfl : f ≤ n := by omega
    rw [hl'] at HC
    have HE := Lib.hid (Wm.rints_ok hl')
    clear hf hle hm hl'
    obtain ⟨i0, hi, hz0, hz1, hz2⟩ := info_parts info_i64
    have HX := Lib.hid hx
    have HB := Lib.hid hb
    clear hx hb
    go_enter Tryd.func44, Tryd.ntmps44
    go_wp2_with (first | (go_at_call 68; refine HC.out.mono ?_; rintro e w' ⟨rfl, rfl⟩) | (at_make; go_must (refine wpList_make_full _ rfl _ _ 25 rfl w.heap.size 2 i0 (.int .i64 0) 1 Tryd.underlying25 hi hz0 hz1 .i64 .i64 (k : Int) (k : Int) k rfl rfl rfl rfl (by rw [hz2]; omega) (by unfold maxLen; omega) (Nat.le_refl _) ?_); intro w1 hown hgrow))
    rw [made_i64] at hown
    have hB1 := (Below.refl w.heap.size w).grown hgrow (Nat.le_refl _) (by simp)
    have HO1 := Lib.hid hown
    clear hown hgrow
    go_loopw [8, 9, 26] (fun nx er ix wr => ∃ (j : Nat) (m : Int) (acc : List Int), ix = .int .i64 (j : Int) ∧ j ≤ k ∧ nx = .int .i64 m ∧ er = .int .i64 0 ∧ 0 ≤ m ∧ m ≤ n ∧ Hid (acc.length = j) ∧
        wr.ownsRow w.heap.size 2 1 (.slice (some ⟨w.heap.size, 0, none⟩) k k) k (i64s (acc ++ List.replicate (k - j) 0)) ∧ Below w.heap.size w wr ∧ Hid (Wm.rseq xs k (f : Int) = Wm.consR acc (Wm.rseq xs (k - j) m)))
      (fun _ _ ix _ => k - (intOf ix).toNat)
    case atStart => exact ⟨0, (f : Int), [], rfl, by omega, rfl, rfl, by omega, by omega, Lib.hid rfl, HO1.out, hB1, Lib.hid (Wm.consR_nil _ _ _).symm⟩
    case round =>
      obtain ⟨j, m, acc, rfl, hj, rfl, rfl, hm0, hm1, hal, hown, hBw, hS⟩ := hrel
      by_cases hlt : j < k
      · obtain ⟨d, hd⟩ : ∃ d, k - j = d + 1 := ⟨k - j - 1, by omega⟩
        rw [hd] at hown hS
        have hcl : wr.cell? ⟨w.heap.size, j, none⟩ = some (.int .i64 0) := by
          rw [hown.cellAt j (by omega), List.getElem?_map, ← hal.out, Wm.get_acc]; rfl
        have hfz := hown.frozenAt j
        have HI := Lib.hid (Int_any A n cap B xs m wr (HX.out.below (hBw.mono hB)) hn hnc hcap HB.out (by omega) (by omega))
        by_cases he : (Wm.rd xs m).2.2 = 0
        · obtain ⟨m2, _, e1, _, h3, _, _, _, _⟩ := Wm.rd_some (n := (Wm.rd xs m).1) (k := (Wm.rd xs m).2.1) (by rw [← he]) HB.out
          have hnx : 0 ≤ (Wm.rd xs m).2.1 ∧ (Wm.rd xs m).2.1 ≤ n := by omega
          have HS2 := Lib.hid (hS.out.trans (Wm.rseq_ok he))
          have HZ := Lib.hid he
          clear he hS e1 h3
          generalize Wm.rd xs m = q at *
          obtain ⟨q1, q2, q3⟩ := q
          dsimp only at *
          obtain rfl : q3 = 0 := HZ.out
          have hst := hown.stored j (.int .i64 q1)
          rw [i64s_set, ← hal.out, Wm.set_acc, hal.out] at hst
          have HST := Lib.hid hst.1
          have HBS := Lib.hid (hBw.setCell (p := ⟨w.heap.size, j, none⟩) (Nat.le_refl _) (.int .i64 q1))
          have HDK : Hid (k - (j + 1) = d) := by show _ = _; omega
          have HAL : Hid ((acc ++ [q1]).length = j + 1) := by
            show _ = _
            rw [List.length_append, hal.out]; rfl
          clear hst hown hd hBw
          go_wp2_with (go_at_call 69; refine HI.out.mono ?_; rintro e w' ⟨rfl, rfl⟩)
          go_roundw
          case rel => exact ⟨j + 1, q2, acc ++ [q1], by go_num, by omega, rfl, rfl, hnx.1, hnx.2, HAL, by rw [HDK.out]; exact HST.out, HBS.out, Lib.hid (by rw [HDK.out]; exact HS2.out)⟩
          case measure => simp [intOf]; omega
        · have HS2 := Lib.hid (hS.out.trans (Wm.rseq_err he))
          clear hS
          generalize Wm.rd xs m = q at *
          obtain ⟨q1, q2, q3⟩ := q
          dsimp only at *
          have hq : (q3 != 0) = true := by rw [bne_iff_ne]; exact he
          have HBS := Lib.hid (hBw.setCell (p := ⟨w.heap.size, j, none⟩) (Nat.le_refl _) (.int .i64 q1))
          clear he hd hown hBw
          go_wp2_with (go_at_call 69; refine HI.out.mono ?_; rintro e w' ⟨rfl, rfl⟩)
          go_ret3
          rw [HE.out, HS2.out]
          exact ⟨_, rfl, World.ownsRow_nil _ _ _ _, HBS.out⟩
      · obtain rfl : j = k := by omega
        have HS2 : Hid (Wm.rseq xs j (f : Int) = (acc, m, 0)) := by
          have h := hS.out
          rw [Nat.sub_self, Wm.rseq_done] at h
          exact h
        have HO : Hid (wr.ownsRow w.heap.size 2 1 (.slice (some ⟨w.heap.size, 0, none⟩) j j) acc.length (i64s acc)) := by
          rw [Nat.sub_self, List.replicate_zero, List.append_nil] at hown
          show World.ownsRow _ _ _ _ _ _ _
          rw [hal.out]
          exact hown
        clear hS hown
        go_wp2
        go_ret3
        rw [HE.out, HS2.out]
        exact ⟨_, rfl, HO.out, hBw⟩
  · have HE := Lib.hid (Wm.rints_err he)
    clear hx hb
    generalize Wm.rlen xs t 64 = q at *
    obtain ⟨q1, q2, q3⟩ := q
    dsimp only at *
    have hq : (q3 != 0) = true := by rw [bne_iff_ne]; exact he
    clear he
    go_enter Tryd.func44, Tryd.ntmps44
    go_wp2_with (go_at_call 68; refine HC.out.mono ?_; rintro e w' ⟨rfl, rfl⟩)
    go_ret3
    rw [HE.out]
    exact ⟨_, rfl, World.ownsRow_nil _ _ _ _, Below.refl _ _⟩
end Go.Proofs.YtpgfnhdaembhmaaDoor

namespace Go.Proofs.YtpgfnhdaembhmaaDoor
open Go.RowKit Go.Shelf

set_option maxRecDepth 100000 in
set_option maxHeartbeats 2000000 in
theorem RInts_any (A : Option Addr) (n cap B : Nat) (xs : List Int) (t : Int) (w : World) (hx : Rd w B A (u8s xs)) (hn : xs.length = n) (hnc : n ≤ cap) (hcap : cap ≤ maxLen) (hB : B ≤ w.heap.size) (hb : ∀ x ∈ xs, 0 ≤ x ∧ x ≤ 255)
    (t0 : -9223372036854775808 ≤ t) (t1 : t ≤ 9223372036854775807) :
    Calls Tryd.prog 48 #[.slice A n cap, .int .i64 t] w fun e w' => ∃ v, e = .returned (.tuple #[v, .int .i64 (Wm.rints xs t).2.1, .int .i64 (Wm.rints xs t).2.2]) ∧
      w'.ownsRow w.heap.size 2 1 v (Wm.rints xs t).1.length (i64s (Wm.rints xs t).1) ∧ Below w.heap.size w w' := by
  have HC := Lib.hid (RInt_any A n cap B xs t w hx hn hnc hcap hb t0 t1)
  have hcap' := hcap
  unfold maxLen at hcap'
  by_cases he : (Wm.rlen xs t 64).2.2 = 0
  · obtain ⟨k, m, hl, hrd, hk, ht, hm, hle, _⟩ := Wm.rlen_some he hb
    obtain ⟨t, rfl⟩ := Int.eq_ofNat_of_zero_le ht
    have hl' : Wm.rlen xs (t : Int) 64 = ((k : Int), ((t + m : Nat) : Int), 0) := by rw [hl]; congr 2
    have hrd' : Wm.rd xs (t : Int) = ((k : Int), ((t + m : Nat) : Int), 0) := by rw [hrd]; congr 2
    clear he hl hrd ht t0 t1
    obtain ⟨f, hf⟩ : ∃ f, t + m = f := ⟨_, rfl⟩
    rw [hf] at hl' hrd'
    have hfl : f ≤ n := by omega
    rw [hrd'] at HC
    have HE := Lib.hid (Wm.rints_ok hl')
    clear hf hle hm hl' hrd'
    obtain ⟨i0, hi, hz0, hz1, hz2⟩ := info_parts info_i64
    have HX := Lib.hid hx
    have HB := Lib.hid hb
    clear hx hb
    go_enter Tryd.func48, Tryd.ntmps48
    go_wp2_with (go_at_call 70; refine HC.out.mono ?_; rintro e w' ⟨rfl, rfl⟩)
    go_loopw [8, 10, 11] (fun nx out ix wr => ∃ (j : Nat) (m : Int) (acc : List Int), ix = .int .i64 (j : Int) ∧ j ≤ k ∧ nx = .int .i64 m ∧ 0 ≤ m ∧ m ≤ n ∧ Hid (acc.length = j) ∧
        wr.ownsRow w.heap.size 2 1 out j (i64s acc) ∧ Below w.heap.size w wr ∧ Hid (Wm.rseq xs k (f : Int) = Wm.consR acc (Wm.rseq xs (k - j) m)))
      (fun _ _ ix _ => k - (intOf ix).toNat)
    case atStart => exact ⟨0, (f : Int), [], rfl, by omega, rfl, by omega, by omega, Lib.hid rfl, World.ownsRow_nil _ _ _ _, Below.refl _ _, Lib.hid (Wm.consR_nil _ _ _).symm⟩
    case round =>
      obtain ⟨j, m, acc, rfl, hj, rfl, hm0, hm1, hal, hown, hBw, hS⟩ := hrel
      by_cases hlt : j < k
      · obtain ⟨d, hd⟩ : ∃ d, k - j = d + 1 := ⟨k - j - 1, by omega⟩
        rw [hd] at hS
        have HI := Lib.hid (RInt_any A n cap B xs m wr (HX.out.below (hBw.mono hB)) hn hnc hcap HB.out (by omega) (by omega))
        by_cases he : (Wm.rd xs m).2.2 = 0
        · obtain ⟨m2, _, e1, _, h3, _, _, _, _⟩ := Wm.rd_some (n := (Wm.rd xs m).1) (k := (Wm.rd xs m).2.1) (by rw [← he]) HB.out
          have hnx : 0 ≤ (Wm.rd xs m).2.1 ∧ (Wm.rd xs m).2.1 ≤ n := by omega
          have HS2 := Lib.hid (hS.out.trans (Wm.rseq_ok he))
          have HZ := Lib.hid he
          clear he hS e1 h3
          generalize Wm.rd xs m = q at *
          obtain ⟨q1, q2, q3⟩ := q
          dsimp only at *
          obtain rfl : q3 = 0 := HZ.out
          have HDK : Hid (k - (j + 1) = d) := by show _ = _; omega
          have HAL : Hid ((acc ++ [q1]).length = j + 1) := by
            show _ = _
            rw [List.length_append, hal.out]; rfl
          clear hd
          go_wp2_with (first | (go_at_call 70; refine HI.out.mono ?_; rintro e w' ⟨rfl, rfl⟩) | (at_builtin; refine wpList_append_own _ rfl _ _ 25 rfl w.heap.size 2 i0 (.int .i64 0) 1 8 Tryd.underlying25 hi hz0 hz1 hz2 rfl (by decide) _ _ _ rfl (hown.alloc _) ⟨wr.heap.size, 0, none⟩ 1 1 [.int .i64 q1] rfl rfl (cell_one_new _ _ _) (by simp [Value.oneCell']) (by unfold maxLen; omega) (by omega) (by have := hBw.size; simp; omega) ?_; intro v' w1 hown' hgrow _))
          have hB1 : Below w.heap.size w w1 := (hBw.alloc hBw.size _).grown hgrow (by have := hBw.size; simp; omega) (fun i e => (hown.lt i e).1)
          go_roundw
          case rel => exact ⟨j + 1, q2, acc ++ [q1], by go_num, by omega, rfl, hnx.1, hnx.2, HAL, by simpa [i64s] using hown', hB1, Lib.hid (by rw [HDK.out]; exact HS2.out)⟩
          case measure => simp [intOf]; omega
        · have HS2 := Lib.hid (hS.out.trans (Wm.rseq_err he))
          clear hS
          generalize Wm.rd xs m = q at *
          obtain ⟨q1, q2, q3⟩ := q
          dsimp only at *
          have hq : (q3 != 0) = true := by rw [bne_iff_ne]; exact he
          clear he hd hown
          go_wp2_with (go_at_call 70; refine HI.out.mono ?_; rintro e w' ⟨rfl, rfl⟩)
          go_ret3
          rw [HE.out, HS2.out]
          exact ⟨_, rfl, World.ownsRow_nil _ _ _ _, hBw⟩
      · obtain rfl : j = k := by omega
        have HS2 : Hid (Wm.rseq xs j (f : Int) = (acc, m, 0)) := by
          have h := hS.out
          rw [Nat.sub_self, Wm.rseq_done] at h
          exact h
        have HO : Hid (∀ v, wr.ownsRow w.heap.size 2 1 v j (i64s acc) → wr.ownsRow w.heap.size 2 1 v acc.length (i64s acc)) := fun v h => by rw [hal.out]; exact h
        clear hS
        go_wp2
        go_ret3
        rw [HE.out, HS2.out]
        exact ⟨_, rfl, HO.out _ hown, hBw⟩
  · have HE := Lib.hid (Wm.rints_err he)
    by_cases hd : (Wm.rd xs t).2.2 = 0
    · by_cases hr : (Wm.rd xs t).1 < 0 ∨ 64 < (Wm.rd xs t).1
      · rw [Wm.rlen_many hd hr] at HE
        have hfit := Wm.rd_some (n := (Wm.rd xs t).1) (k := (Wm.rd xs t).2.1) (by rw [← hd]) hb
        have hfit2 : -9223372036854775808 ≤ (Wm.rd xs t).1 ∧ (Wm.rd xs t).1 ≤ 9223372036854775807 := by
          obtain ⟨_, _, _, _, _, _, _, a, b⟩ := hfit; exact ⟨a, b⟩
        have HZ := Lib.hid hd
        clear hx hb he hd hfit
        generalize Wm.rd xs t = q at *
        obtain ⟨q1, q2, q3⟩ := q
        dsimp only at *
        obtain rfl : q3 = 0 := HZ.out
        by_cases hq : q1 < 0
        all_goals
          go_enter Tryd.func48, Tryd.ntmps48
          go_wp2_with (go_at_call 70; refine HC.out.mono ?_; rintro e w' ⟨rfl, rfl⟩)
          go_ret3
          rw [HE.out]
          exact ⟨_, rfl, World.ownsRow_nil _ _ _ _, Below.refl _ _⟩
      · rw [Wm.rlen_ok hd hr] at he; exact absurd rfl he
    · rw [Wm.rlen_err hd] at HE
      clear hx hb he
      generalize Wm.rd xs t = q at *
      obtain ⟨q1, q2, q3⟩ := q
      dsimp only at *
      have hq : (q3 != 0) = true := by rw [bne_iff_ne]; exact hd
      clear hd
      go_enter Tryd.func48, Tryd.ntmps48
      go_wp2_with (go_at_call 70; refine HC.out.mono ?_; rintro e w' ⟨rfl, rfl⟩)
      go_ret3
      rw [HE.out]
      exact ⟨_, rfl, World.ownsRow_nil _ _ _ _, Below.refl _ _⟩
end Go.Proofs.YtpgfnhdaembhmaaDoor

namespace Go.Proofs.YtpgfnhdaembhmaaDoor
open Go.RowKit Go.Shelf

set_option maxRecDepth 100000 in
set_option maxHeartbeats 1000000 in
theorem PutText_many (A : Option Addr) (n cap : Nat) (w : World) (hn : 4096 < n) :
    Calls Tryd.prog 61 #[.slice A n cap] w fun e w' => e = .returned (.tuple #[.slice none 0 0, .int .i64 2]) ∧ w = w' := by
  go_enter Tryd.func61, Tryd.ntmps61
  go_wp2
  go_ret2
  exact ⟨rfl, rfl⟩

set_option maxRecDepth 100000 in
set_option maxHeartbeats 1000000 in
theorem PutText_any (A : Option Addr) (n cap B : Nat) (xs : List Int) (w : World) (hx : Rd w B A (u8s xs)) (hn : xs.length = n) (hB : B ≤ w.heap.size) (hle : n ≤ 4096) :
    Calls Tryd.prog 61 #[.slice A n cap] w fun e w' => ∃ v, e = .returned (.tuple #[v, .int .i64 0]) ∧
      w'.ownsRow w.heap.size 5 1 v (Wm.ptext xs).length (u8s (Wm.ptext xs)) ∧ Below w.heap.size w w' := by
  obtain ⟨i0, hi, hz0, hz1, hz2⟩ := info_parts info_u8
  have hpl := Wm.pint_len (n : Int)
  have HN := Lib.hid hn
  clear hn
  go_enter Tryd.func61, Tryd.ntmps61
  go_wp2_with (first | (go_at_call 77; refine (PutInt_any _ _ (by omega) (by omega)).mono ?_; rintro e w1 ⟨v, rfl, hrow, hb⟩) | (at_builtin; (refine wpList_app rfl _ _ 28 rfl w.heap.size 5 i0 (.int .u8 0) 1 Tryd.underlying28 hi hz0 hz1 hz2 rfl _ _ _ rfl hrow B A n cap (u8s xs) rfl (by rw [List.length_map]; exact HN.out) (hx.below (hb.mono hB)) (oneCell_ints _ _) (by unfold maxLen; omega) (by omega) hb.size ?_); intro v' w2 hown' hgrow _))
  go_ret2
  refine ⟨v', rfl, ?_, below_app hb hrow hgrow hb.size⟩
  have e1 : (Wm.ptext xs).length = (Wm.pint (n : Int)).length + n := by unfold Wm.ptext; rw [HN.out, List.length_append, HN.out]
  have e2 : u8s (Wm.ptext xs) = u8s (Wm.pint (n : Int)) ++ u8s xs := by unfold Wm.ptext; rw [HN.out]; simp [u8s]
  rw [e1, e2]
  exact hown'

set_option maxRecDepth 100000 in
set_option maxHeartbeats 1000000 in
theorem RPutText_many (A : Option Addr) (n cap : Nat) (w : World) (hn : 4096 < n) :
    Calls Tryd.prog 31 #[.slice A n cap] w fun e w' => e = .returned (.tuple #[.slice none 0 0, .int .i64 2]) ∧ w = w' := by
  go_enter Tryd.func31, Tryd.ntmps31
  go_wp2
  go_ret2
  exact ⟨rfl, rfl⟩

set_option maxRecDepth 100000 in
set_option maxHeartbeats 1000000 in
theorem RPutText_any (A : Option Addr) (n cap B : Nat) (xs : List Int) (w : World) (hx : Rd w B A (u8s xs)) (hn : xs.length = n) (hB : B ≤ w.heap.size) (hle : n ≤ 4096) :
    Calls Tryd.prog 31 #[.slice A n cap] w fun e w' => ∃ v, e = .returned (.tuple #[v, .int .i64 0]) ∧
      w'.ownsRow w.heap.size 5 1 v (Wm.ptext xs).length (u8s (Wm.ptext xs)) ∧ Below w.heap.size w w' := by
  obtain ⟨i0, hi, hz0, hz1, hz2⟩ := info_parts info_u8
  have hpl := Wm.pint_len (n : Int)
  have HN := Lib.hid hn
  clear hn
  go_enter Tryd.func31, Tryd.ntmps31
  go_wp2_with (first | (go_at_call 62; refine (RPutInt_any _ _ (by omega) (by omega)).mono ?_; rintro e w1 ⟨v, rfl, hrow, hb⟩) | (at_builtin; refine wpList_app rfl _ _ 28 rfl w.heap.size 5 i0 (.int .u8 0) 1 Tryd.underlying28 hi hz0 hz1 hz2 rfl _ _ _ rfl hrow B A n cap (u8s xs) rfl (by rw [List.length_map]; exact HN.out) (hx.below (hb.mono hB)) (oneCell_ints _ _) (by unfold maxLen; omega) (by omega) hb.size ?_; intro v' w2 hown' hgrow _))
  go_ret2
  refine ⟨v', rfl, ?_, below_app hb hrow hgrow hb.size⟩
  have e1 : (Wm.ptext xs).length = (Wm.pint (n : Int)).length + n := by unfold Wm.ptext; rw [HN.out, List.length_append, HN.out]
  have e2 : u8s (Wm.ptext xs) = u8s (Wm.pint (n : Int)) ++ u8s xs := by unfold Wm.ptext; rw [HN.out]; simp [u8s]
  rw [e1, e2]
  exact hown'

end Go.Proofs.YtpgfnhdaembhmaaDoor

namespace Go.Proofs.YtpgfnhdaembhmaaDoor
open Go.RowKit Go.Shelf

set_option maxRecDepth 100000 in
set_option maxHeartbeats 1000000 in
theorem Clone_any (ad : Addr) (n cap B : Nat) (xs : List Int) (w : World) (hx : Rd w B (some ad) (u8s xs)) (hn : xs.length = n) (hB : B ≤ w.heap.size) (hle : n ≤ 140737488355328) :
    Calls Tryd.prog 66 #[.slice (some ad) n cap] w fun e w' => ∃ v, e = .returned v ∧ w'.ownsRow w.heap.size 5 1 v xs.length (u8s xs) ∧ Below w.heap.size w w' := by
  obtain ⟨i0, hi, hz0, hz1, hz2⟩ := info_parts info_u8
  have hnl := fun W => Lib.run_eql_slice_nil (P := Tryd.prog) W 28 5 (some ad) n cap 0 0 Tryd.underlying28
  have HN := Lib.hid hn
  have hown := World.ownsRow_made (base := w.heap.size) (e := 5) (size := 1) w #[] 0 (Nat.le_refl _) (by unfold maxLen; omega) (by simp)
  clear hn
  go_enter Tryd.func66, Tryd.ntmps66
  go_wp2_with (at_builtin; refine wpList_app rfl _ _ 28 rfl w.heap.size 5 i0 (.int .u8 0) 1 Tryd.underlying28 hi hz0 hz1 hz2 rfl _ _ _ rfl hown B (some ad) n cap (u8s xs) rfl (by rw [List.length_map]; exact HN.out) (hx.alloc hB _) (oneCell_ints _ _) (by unfold maxLen; omega) (by omega) (by simp) ?_; intro v' w2 hown' hgrow _)
  go_ret
  refine ⟨v', rfl, ?_, below_app ((Below.refl _ w).alloc (Nat.le_refl _) _) hown hgrow (by simp)⟩
  rw [HN.out]
  simpa [u8s] using hown'
end Go.Proofs.YtpgfnhdaembhmaaDoor

namespace Go.Proofs.YtpgfnhdaembhmaaDoor
open Go.RowKit Go.Shelf


set_option maxRecDepth 100000 in
set_option maxHeartbeats 2000000 in
theorem Text_any (A : Option Addr) (n cap B : Nat) (xs : List Int) (t : Int) (w : World) (hx : Rd w B A (u8s xs)) (hn : xs.length = n) (hnc : n ≤ cap) (hcap : cap ≤ maxLen) (hB : B ≤ w.heap.size) (hb : ∀ x ∈ xs, 0 ≤ x ∧ x ≤ 255)
    (t0 : -9223372036854775808 ≤ t) (t1 : t ≤ 9223372036854775807) :
    Calls Tryd.prog 46 #[.slice A n cap, .int .i64 t] w fun e w' => ∃ v, e = .returned (.tuple #[v, .int .i64 (Wm.rtext xs t).2.1, .int .i64 (Wm.rtext xs t).2.2]) ∧
      w'.ownsRow w.heap.size 5 1 v (Wm.rtext xs t).1.length (u8s (Wm.rtext xs t).1) ∧ Below w.heap.size w w' := by
  have HC := Lib.hid (length_any A n cap B xs t 4096 w hx hn hnc hcap hb t0 t1)
  have hcap' := hcap
  unfold maxLen at hcap'
  by_cases he : (Wm.rlen xs t 4096).2.2 = 0
  · obtain ⟨k, m, hl, _, hk, ht, hm, hle, _⟩ := Wm.rlen_some he hb
    obtain ⟨t, rfl⟩ := Int.eq_ofNat_of_zero_le ht
    have hl' : Wm.rlen xs (t : Int) 4096 = ((k : Int), ((t + m : Nat) : Int), 0) := by rw [hl]; congr 2
    clear he hl ht t0 t1
    obtain ⟨f, hf⟩ : ∃ f, t + m = f := ⟨_, rfl⟩
    rw [hf] at hl'
    have hfl : f ≤ n := by omega
    rw [hl'] at HC
    have hf1 : 1 ≤ f := by omega
    clear hf hle hm
    by_cases hs : xs.length < f + k
    · have HE := Lib.hid (Wm.rtext_end hl' hs)
      clear hl' hx hb
      go_enter Tryd.func46, Tryd.ntmps46
      go_wp2_with (go_at_call 68; refine HC.out.mono ?_; rintro e w' ⟨rfl, rfl⟩)
      go_ret3
      rw [HE.out]
      exact ⟨_, rfl, own_none, Below.refl _ _⟩
    · have HE := Lib.hid (Wm.rtext_ok hl' hs)
      obtain ⟨ad, rfl, _⟩ := hx.getU (i := 0) (x := xs[0]) (List.getElem?_eq_getElem (by omega))
      obtain ⟨i0, hi, hz0, hz1, hz2⟩ := info_parts info_u8
      have hsl := fun W => run_cut_lh (P := Tryd.prog) Tryd.underlying28 (size_of_info hi hz1) (some ad) n cap f (f + k) (by omega) (by omega) W
      have hr := (hx.dropU (k := f) (cap := cap) (by omega)).takeU k
      obtain ⟨ad', had⟩ := cutA_some ad f cap
      rw [had] at hsl hr
      rw [Int.natCast_add, Nat.add_sub_cancel_left] at hsl
      have HR := Lib.hid hr
      have HL : Hid (((xs.drop f).take k).length = k) := by
        show _ = _
        rw [List.length_take, List.length_drop]; omega
      have hfk : f + k ≤ n := by omega
      clear hl' hx hb had hr hi hz0 hz1 hz2
      go_enter Tryd.func46, Tryd.ntmps46
      go_wp2_with (first | (go_at_call 68; refine HC.out.mono ?_; rintro e w' ⟨rfl, rfl⟩) | (go_at_call 66; refine (Clone_any ad' k (cap - f) B _ _ HR.out HL.out hB (by omega)).mono ?_; rintro e w' ⟨v, rfl, hown, hbw⟩))
      go_ret3
      rw [HE.out]
      exact ⟨_, rfl, hown, hbw⟩
  · have HE := Lib.hid (Wm.rtext_err he)
    clear hx hb
    generalize Wm.rlen xs t 4096 = q at *
    obtain ⟨q1, q2, q3⟩ := q
    dsimp only at *
    have hq : (q3 != 0) = true := by rw [bne_iff_ne]; exact he
    clear he
    go_enter Tryd.func46, Tryd.ntmps46
    go_wp2_with (go_at_call 68; refine HC.out.mono ?_; rintro e w' ⟨rfl, rfl⟩)
    go_ret3
    rw [HE.out]
    exact ⟨_, rfl, own_none, Below.refl _ _⟩
end Go.Proofs.YtpgfnhdaembhmaaDoor

namespace Go.Proofs.YtpgfnhdaembhmaaDoor
open Go.RowKit Go.Shelf

set_option maxRecDepth 100000 in
set_option maxHeartbeats 2000000 in
theorem RText_any (A : Option Addr) (n cap B : Nat) (xs : List Int) (t : Int) (w : World) (hx : Rd w B A (u8s xs)) (hn : xs.length = n) (hnc : n ≤ cap) (hcap : cap ≤ maxLen) (hB : B ≤ w.heap.size) (hb : ∀ x ∈ xs, 0 ≤ x ∧ x ≤ 255)
    (t0 : -9223372036854775808 ≤ t) (t1 : t ≤ 9223372036854775807) :
    Calls Tryd.prog 50 #[.slice A n cap, .int .i64 t] w fun e w' => ∃ v, e = .returned (.tuple #[v, .int .i64 (Wm.rtext xs t).2.1, .int .i64 (Wm.rtext xs t).2.2]) ∧
      w'.ownsRow w.heap.size 5 1 v (Wm.rtext xs t).1.length (u8s (Wm.rtext xs t).1) ∧ Below w.heap.size w w' := by
  have HC := Lib.hid (RInt_any A n cap B xs t w hx hn hnc hcap hb t0 t1)
  have hcap' := hcap
  unfold maxLen at hcap'
  by_cases he : (Wm.rlen xs t 4096).2.2 = 0
  · obtain ⟨k, m, hl, hrd, hk, ht, hm, hle, _⟩ := Wm.rlen_some he hb
    obtain ⟨t, rfl⟩ := Int.eq_ofNat_of_zero_le ht
    have hl' : Wm.rlen xs (t : Int) 4096 = ((k : Int), ((t + m : Nat) : Int), 0) := by rw [hl]; congr 2
    have hrd' : Wm.rd xs (t : Int) = ((k : Int), ((t + m : Nat) : Int), 0) := by rw [hrd]; congr 2
    clear he hl hrd ht t0 t1
    obtain ⟨f, hf⟩ : ∃ f, t + m = f := ⟨_, rfl⟩
    rw [hf] at hl' hrd'
    have hfl : f ≤ n := by omega
    rw [hrd'] at HC
    have hf1 : 1 ≤ f := by omega
    clear hf hle hm hrd'
    by_cases hs : xs.length < f + k
    · have HE := Lib.hid (Wm.rtext_end hl' hs)
      clear hl' hx hb
      go_enter Tryd.func50, Tryd.ntmps50
      go_wp2_with (go_at_call 70; refine HC.out.mono ?_; rintro e w' ⟨rfl, rfl⟩)
      go_ret3
      rw [HE.out]
      exact ⟨_, rfl, own_none, Below.refl _ _⟩
    · have HE := Lib.hid (Wm.rtext_ok hl' hs)
      obtain ⟨ad, rfl, _⟩ := hx.getU (i := 0) (x := xs[0]) (List.getElem?_eq_getElem (by omega))
      obtain ⟨i0, hi, hz0, hz1, hz2⟩ := info_parts info_u8
      have hsl := fun W => run_cut_lh (P := Tryd.prog) Tryd.underlying28 (size_of_info hi hz1) (some ad) n cap f (f + k) (by omega) (by omega) W
      have hr := (hx.dropU (k := f) (cap := cap) (by omega)).takeU k
      obtain ⟨ad', had⟩ := cutA_some ad f cap
      rw [had] at hsl hr
      rw [Int.natCast_add, Nat.add_sub_cancel_left] at hsl
      have HR := Lib.hid hr
      have HL : Hid (((xs.drop f).take k).length = k) := by
        show _ = _
        rw [List.length_take, List.length_drop]; omega
      have hfk : f + k ≤ n := by omega
      have hown := World.ownsRow_made (base := w.heap.size) (e := 5) (size := 1) w #[] 0 (Nat.le_refl _) (by unfold maxLen; omega) (by simp)
      clear hl' hx hb had hr
      go_enter Tryd.func50, Tryd.ntmps50
      go_wp2_with (first | (go_at_call 70; refine HC.out.mono ?_; rintro e w' ⟨rfl, rfl⟩) | (at_builtin; refine wpList_app rfl _ _ 28 rfl w.heap.size 5 i0 (.int .u8 0) 1 Tryd.underlying28 hi hz0 hz1 hz2 rfl _ _ _ rfl hown B (some ad') k (cap - f) (u8s ((xs.drop f).take k)) rfl (by rw [List.length_map]; exact HL.out) (HR.out.alloc hB _) (oneCell_ints _ _) (by unfold maxLen; omega) (by omega) (by simp) ?_; intro v' w2 hown' hgrow _))
      go_ret3
      rw [HE.out]
      refine ⟨_, rfl, ?_, below_app ((Below.refl _ w).alloc (Nat.le_refl _) _) hown hgrow (by simp)⟩
      dsimp only
      rw [HL.out]
      simpa [u8s] using hown'
  · have HE := Lib.hid (Wm.rtext_err he)
    by_cases hd : (Wm.rd xs t).2.2 = 0
    · by_cases hr : (Wm.rd xs t).1 < 0 ∨ 4096 < (Wm.rd xs t).1
      · rw [Wm.rlen_many hd hr] at HE
        have hfit := Wm.rd_some (n := (Wm.rd xs t).1) (k := (Wm.rd xs t).2.1) (by rw [← hd]) hb
        have hfit2 : -9223372036854775808 ≤ (Wm.rd xs t).1 ∧ (Wm.rd xs t).1 ≤ 9223372036854775807 := by
          obtain ⟨_, _, _, _, _, _, _, a, b⟩ := hfit; exact ⟨a, b⟩
        have HZ := Lib.hid hd
        clear hx hb he hd hfit
        generalize Wm.rd xs t = q at *
        obtain ⟨q1, q2, q3⟩ := q
        dsimp only at *
        obtain rfl : q3 = 0 := HZ.out
        by_cases hq : q1 < 0
        all_goals
          go_enter Tryd.func50, Tryd.ntmps50
          go_wp2_with (go_at_call 70; refine HC.out.mono ?_; rintro e w' ⟨rfl, rfl⟩)
          go_ret3
          rw [HE.out]
          exact ⟨_, rfl, own_none, Below.refl _ _⟩
      · rw [Wm.rlen_ok hd hr] at he; exact absurd rfl he
    · rw [Wm.rlen_err hd] at HE
      clear hx hb he
      generalize Wm.rd xs t = q at *
      obtain ⟨q1, q2, q3⟩ := q
      dsimp only at *
      have hq : (q3 != 0) = true := by rw [bne_iff_ne]; exact hd
      clear hd
      go_enter Tryd.func50, Tryd.ntmps50
      go_wp2_with (go_at_call 70; refine HC.out.mono ?_; rintro e w' ⟨rfl, rfl⟩)
      go_ret3
      rw [HE.out]
      exact ⟨_, rfl, own_none, Below.refl _ _⟩
end Go.Proofs.YtpgfnhdaembhmaaDoor

namespace Go.Proofs.YtpgfnhdaembhmaaDoor
open Go.RowKit Go.Shelf

theorem PutText_all (A : Option Addr) (n cap B : Nat) (xs : List Int) (w : World) (hx : Rd w B A (u8s xs)) (hn : xs.length = n) (hB : B ≤ w.heap.size) :
    Calls Tryd.prog 61 #[.slice A n cap] w fun e w' => ∃ v, e = .returned (.tuple #[v, .int .i64 (Wm.ptextE xs).2]) ∧
      w'.ownsRow w.heap.size 5 1 v (Wm.ptextE xs).1.length (u8s (Wm.ptextE xs).1) ∧ Below w.heap.size w w' := by
  by_cases h : 4096 < xs.length
  · rw [Wm.ptextE_many h]
    refine (PutText_many A n cap w (by omega)).mono ?_
    rintro e w' ⟨rfl, rfl⟩
    exact ⟨_, rfl, own_none, Below.refl _ _⟩
  · rw [Wm.ptextE_ok h]
    exact PutText_any A n cap B xs w hx hn hB (by omega)

theorem RPutText_all (A : Option Addr) (n cap B : Nat) (xs : List Int) (w : World) (hx : Rd w B A (u8s xs)) (hn : xs.length = n) (hB : B ≤ w.heap.size) :
    Calls Tryd.prog 31 #[.slice A n cap] w fun e w' => ∃ v, e = .returned (.tuple #[v, .int .i64 (Wm.ptextE xs).2]) ∧
      w'.ownsRow w.heap.size 5 1 v (Wm.ptextE xs).1.length (u8s (Wm.ptextE xs).1) ∧ Below w.heap.size w w' := by
  by_cases h : 4096 < xs.length
  · rw [Wm.ptextE_many h]
    refine (RPutText_many A n cap w (by omega)).mono ?_
    rintro e w' ⟨rfl, rfl⟩
    exact ⟨_, rfl, own_none, Below.refl _ _⟩
  · rw [Wm.ptextE_ok h]
    exact RPutText_any A n cap B xs w hx hn hB (by omega)

end Go.Proofs.YtpgfnhdaembhmaaDoor
