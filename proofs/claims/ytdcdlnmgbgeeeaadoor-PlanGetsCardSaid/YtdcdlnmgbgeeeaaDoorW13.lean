import Derived.Test.YtdcdlnmgbgeeeaaDoorW12
import Derived.Test.YtdcdlnmgbgeeeaaDoorWm5
namespace Go.Proofs.YtdcdlnmgbgeeeaaDoor
open Go.RowKit Go.Shelf

theorem i64s_set (ys : List Int) (k : Nat) (y : Int) : (i64s ys).set k (.int .i64 y) = i64s (ys.set k y) := by simp [i64s, List.map_set]
theorem info_i64 : (Tryd.prog.info? 2).map (fun i => (i.zero, i.size, i.bytes)) = some (some (.int .i64 0), 1, 8) := by kernel_rfl
theorem made_i64 (n : Nat) : (madeCells (Value.int .i64 0).cells (n * 1)).toList = i64s (List.replicate n 0) := by
  show (madeCells #[Value.int .i64 0] (n * 1)).toList = _
  rw [toList_madeCells_one]
  simp [i64s]

set_option maxRecDepth 100000 in
set_option maxHeartbeats 2000000 in
theorem Ints_any (A : Option Addr) (n cap B : Nat) (xs : List Int) (t : Int) (w : World) (hx : Rd w B A (u8s xs)) (hn : xs.length = n) (hnc : n ≤ cap) (hcap : cap ≤ maxLen) (hB : B ≤ w.heap.size) (hb : ∀ x ∈ xs, 0 ≤ x ∧ x ≤ 255)
    (t0 : -9223372036854775808 ≤ t) (t1 : t ≤ 9223372036854775807) :
    Calls Tryd.prog 41 #[.slice A n cap, .int .i64 t] w fun e w' => ∃ v, e = .returned (.tuple #[v, .int .i64 (Wm.rints xs t).2.1, .int .i64 (Wm.rints xs t).2.2]) ∧
      w'.ownsRow w.heap.size 2 1 v (Wm.rints xs t).1.length (i64s (Wm.rints xs t).1) ∧ Below w.heap.size w w' := by
  have HC := Lib.hid (length_any A n cap B xs t 64 w hx hn hnc hcap hb t0 t1)
  have hcap' := hcap
  unfold maxLen at hcap'
  by_cases he : (Wm.rlen xs t 64).2.2 = 0
  · obtain ⟨k, m, hl, hrd, hk, ht, hm, hle, _⟩ := Wm.rlen_some he hb
    obtain ⟨t, rfl⟩ := Int.eq_ofNat_of_zero_le ht
    have hl' : Wm.rlen xs (t : Int) 64 = ((k : Int), ((t + m : Nat) : Int), 0) := by rw [hl]; congr 2
    clear he hl hrd ht t0 t1
    obtain ⟨f, hf⟩ : ∃ f, t + m = f := ⟨_, rfl⟩
    rw [hf] at hl'
    have hfl : f ≤ n := by omega
    rw [hl'] at HC
    have HE := Lib.hid (Wm.rints_ok hl')
    clear hf hle hm hl'
    obtain ⟨i0, hi, hz0, hz1, hz2⟩ := info_parts info_i64
    have HX := Lib.hid hx
    have HB := Lib.hid hb
    clear hx hb
    go_enter Tryd.func41, Tryd.ntmps41
    go_wp2_with (first | (go_at_call 46; refine HC.out.mono ?_; rintro e w' ⟨rfl, rfl⟩) | (at_make; go_must (refine wpList_make_full _ rfl _ _ 24 rfl w.heap.size 2 i0 (.int .i64 0) 1 Tryd.underlying24 hi hz0 hz1 .i64 .i64 (k : Int) (k : Int) k rfl rfl rfl rfl (by rw [hz2]; omega) (by unfold maxLen; omega) (Nat.le_refl _) ?_); intro w1 hown hgrow))
    rw [made_i64] at hown
    have hB1 := (Below.refl w.heap.size w).grown hgrow (Nat.le_refl _) (by simp)
    have HO1 := Lib.hid hown
    clear hown hgrow
    go_loopw [8, 9, 26] (fun nx er ix wr => ∃ (j : Nat) (m : Int) (acc : List Int), ix = .int .i64 (j : Int) ∧ j ≤ k ∧ nx = .int .i64 m ∧ er = .int .i64 0 ∧ 0 ≤ m ∧ m ≤ n ∧ Hid (acc.length = j) ∧
        wr.ownsRow w.heap.size 2 1 (.slice (some ⟨w.heap.size, 0, none⟩) k k) k (i64s (acc ++ List.replicate (k - j) 0)) ∧ Below w.heap.size w wr ∧ Hid (Wm.rseq xs k (f : Int) = Wm.consR acc (Wm.rseq xs (k - j) m)))
      (fun _ _ ix _ => k - (intOf ix).toNat)
    case atStart => exact ⟨0, (f : Int), [], rfl, by omega, rfl, rfl, by omega, by omega, Lib.hid rfl, HO1.out, hB1, Lib.hid (Wm.consR_nil _ _ _).symm⟩
    case round =>
      obtain ⟨j, m, acc, rfl, hj, rfl, rfl, hm0, hm1, hal, hown, hBw, hS⟩ := hrel
      by_cases hlt : j < k
      · obtain ⟨d, hd⟩ : ∃ d, k - j = d + 1 := ⟨k - j - 1, by omega⟩
        rw [hd] at hown hS
        have hcl : wr.cell? ⟨w.heap.size, j, none⟩ = some (.int .i64 0) := by
          rw [hown.cellAt j (by omega), List.getElem?_map, ← hal.out, Wm.get_acc]; rfl
        have hfz := hown.frozenAt j
        have HI := Lib.hid (Int_any A n cap B xs m wr (HX.out.below (hBw.mono hB)) hn hnc hcap HB.out (by omega) (by omega))
        by_cases he : (Wm.rd xs m).2.2 = 0
        · obtain ⟨m2, _, e1, _, h3, _, _, _, _⟩ := Wm.rd_some (n := (Wm.rd xs m).1) (k := (Wm.rd xs m).2.1) (by rw [← he]) HB.out
          have hnx : 0 ≤ (Wm.rd xs m).2.1 ∧ (Wm.rd xs m).2.1 ≤ n := by omega
          have HS2 := Lib.hid (hS.out.trans (Wm.rseq_ok he))
          have HZ := Lib.hid he
          clear he hS e1 h3
          generalize Wm.rd xs m = q at *
          obtain ⟨q1, q2, q3⟩ := q
          dsimp only at *
          obtain rfl : q3 = 0 := HZ.out
          have hst := hown.stored j (.int .i64 q1)
          rw [i64s_set, ← hal.out, Wm.set_acc, hal.out] at hst
          have HST := Lib.hid hst.1
          have HBS := Lib.hid (hBw.setCell (p := ⟨w.heap.size, j, none⟩) (Nat.le_refl _) (.int .i64 q1))
          have HDK : Hid (k - (j + 1) = d) := by show _ = _; omega
          have HAL : Hid ((acc ++ [q1]).length = j + 1) := by
            show _ = _
            rw [List.length_append, hal.out]; rfl
          clear hst hown hd hBw
          go_wp2_with (go_at_call 47; refine HI.out.mono ?_; rintro e w' ⟨rfl, rfl⟩)
          go_roundw
          case rel => exact ⟨j + 1, q2, acc ++ [q1], by go_num, by omega, rfl, rfl, hnx.1, hnx.2, HAL, by rw [HDK.out]; exact HST.out, HBS.out, Lib.hid (by rw [HDK.out]; exact HS2.out)⟩
          case measure => simp [intOf]; omega
        · have HS2 := Lib.hid (hS.out.trans (Wm.rseq_err he))
          clear hS
          generalize Wm.rd xs m = q at *
          obtain ⟨q1, q2, q3⟩ := q
          dsimp only at *
          have hq : (q3 != 0) = true := by rw [bne_iff_ne]; exact he
          have HBS := Lib.hid (hBw.setCell (p := ⟨w.heap.size, j, none⟩) (Nat.le_refl _) (.int .i64 q1))
          clear he hd hown hBw
          go_wp2_with (go_at_call 47; refine HI.out.mono ?_; rintro e w' ⟨rfl, rfl⟩)
          go_ret3
          rw [HE.out, HS2.out]
          exact ⟨_, rfl, World.ownsRow_nil _ _ _ _, HBS.out⟩
      · obtain rfl : j = k := by omega
        have HS2 : Hid (Wm.rseq xs j (f : Int) = (acc, m, 0)) := by
          have h := hS.out
          rw [Nat.sub_self, Wm.rseq_done] at h
          exact h
        have HO : Hid (wr.ownsRow w.heap.size 2 1 (.slice (some ⟨w.heap.size, 0, none⟩) j j) acc.length (i64s acc)) := by
          rw [Nat.sub_self, List.replicate_zero, List.append_nil] at hown
          show World.ownsRow _ _ _ _ _ _ _
          rw [hal.out]
          exact hown
        clear hS hown
        go_wp2
        go_ret3
        rw [HE.out, HS2.out]
        exact ⟨_, rfl, HO.out, hBw⟩
  · have HE := Lib.hid (Wm.rints_err he)
    clear hx hb
    generalize Wm.rlen xs t 64 = q at *
    obtain ⟨q1, q2, q3⟩ := q
    dsimp only at *
    have hq : (q3 != 0) = true := by rw [bne_iff_ne]; exact he
    clear he
    go_enter Tryd.func41, Tryd.ntmps41
    go_wp2_with (go_at_call 46; refine HC.out.mono ?_; rintro e w' ⟨rfl, rfl⟩)
    go_ret3
    rw [HE.out]
    exact ⟨_, rfl, World.ownsRow_nil _ _ _ _, Below.refl _ _⟩
end Go.Proofs.YtdcdlnmgbgeeeaaDoor
