import Derived.Test.YtdcdlnmgbgeeeaaDoorW13
namespace Go.Proofs.YtdcdlnmgbgeeeaaDoor
open Go.RowKit Go.Shelf

set_option maxRecDepth 100000 in
set_option maxHeartbeats 2000000 in
theorem RInts_any (A : Option Addr) (n cap B : Nat) (xs : List Int) (t : Int) (w : World) (hx : Rd w B A (u8s xs)) (hn : xs.length = n) (hnc : n ≤ cap) (hcap : cap ≤ maxLen) (hB : B ≤ w.heap.size) (hb : ∀ x ∈ xs, 0 ≤ x ∧ x ≤ 255)
    (t0 : -9223372036854775808 ≤ t) (t1 : t ≤ 9223372036854775807) :
    Calls Tryd.prog 31 #[.slice A n cap, .int .i64 t] w fun e w' => ∃ v, e = .returned (.tuple #[v, .int .i64 (Wm.rints xs t).2.1, .int .i64 (Wm.rints xs t).2.2]) ∧
      w'.ownsRow w.heap.size 2 1 v (Wm.rints xs t).1.length (i64s (Wm.rints xs t).1) ∧ Below w.heap.size w w' := by
  have HC := Lib.hid (RInt_any A n cap B xs t w hx hn hnc hcap hb t0 t1)
  have hcap' := hcap
  unfold maxLen at hcap'
  by_cases he : (Wm.rlen xs t 64).2.2 = 0
  · obtain ⟨k, m, hl, hrd, hk, ht, hm, hle, _⟩ := Wm.rlen_some he hb
    obtain ⟨t, rfl⟩ := Int.eq_ofNat_of_zero_le ht
    have hl' : Wm.rlen xs (t : Int) 64 = ((k : Int), ((t + m : Nat) : Int), 0) := by rw [hl]; congr 2
    have hrd' : Wm.rd xs (t : Int) = ((k : Int), ((t + m : Nat) : Int), 0) := by rw [hrd]; congr 2
    clear he hl hrd ht t0 t1
    obtain ⟨f, hf⟩ : ∃ f, t + m = f := ⟨_, rfl⟩
    rw [hf] at hl' hrd'
    have hfl : f ≤ n := by omega
    rw [hrd'] at HC
    have HE := Lib.hid (Wm.rints_ok hl')
    clear hf hle hm hl' hrd'
    obtain ⟨i0, hi, hz0, hz1, hz2⟩ := info_parts info_i64
    have HX := Lib.hid hx
    have HB := Lib.hid hb
    clear hx hb
    go_enter Tryd.func31, Tryd.ntmps31
    go_wp2_with (go_at_call 42; refine HC.out.mono ?_; rintro e w' ⟨rfl, rfl⟩)
    go_loopw [8, 10, 11] (fun nx out ix wr => ∃ (j : Nat) (m : Int) (acc : List Int), ix = .int .i64 (j : Int) ∧ j ≤ k ∧ nx = .int .i64 m ∧ 0 ≤ m ∧ m ≤ n ∧ Hid (acc.length = j) ∧
        wr.ownsRow w.heap.size 2 1 out j (i64s acc) ∧ Below w.heap.size w wr ∧ Hid (Wm.rseq xs k (f : Int) = Wm.consR acc (Wm.rseq xs (k - j) m)))
      (fun _ _ ix _ => k - (intOf ix).toNat)
    case atStart => exact ⟨0, (f : Int), [], rfl, by omega, rfl, by omega, by omega, Lib.hid rfl, World.ownsRow_nil _ _ _ _, Below.refl _ _, Lib.hid (Wm.consR_nil _ _ _).symm⟩
    case round =>
      obtain ⟨j, m, acc, rfl, hj, rfl, hm0, hm1, hal, hown, hBw, hS⟩ := hrel
      by_cases hlt : j < k
      · obtain ⟨d, hd⟩ : ∃ d, k - j = d + 1 := ⟨k - j - 1, by omega⟩
        rw [hd] at hS
        have HI := Lib.hid (RInt_any A n cap B xs m wr (HX.out.below (hBw.mono hB)) hn hnc hcap HB.out (by omega) (by omega))
        by_cases he : (Wm.rd xs m).2.2 = 0
        · obtain ⟨m2, _, e1, _, h3, _, _, _, _⟩ := Wm.rd_some (n := (Wm.rd xs m).1) (k := (Wm.rd xs m).2.1) (by rw [← he]) HB.out
          have hnx : 0 ≤ (Wm.rd xs m).2.1 ∧ (Wm.rd xs m).2.1 ≤ n := by omega
          have HS2 := Lib.hid (hS.out.trans (Wm.rseq_ok he))
          have HZ := Lib.hid he
          clear he hS e1 h3
          generalize Wm.rd xs m = q at *
          obtain ⟨q1, q2, q3⟩ := q
          dsimp only at *
          obtain rfl : q3 = 0 := HZ.out
          have HDK : Hid (k - (j + 1) = d) := by show _ = _; omega
          have HAL : Hid ((acc ++ [q1]).length = j + 1) := by
            show _ = _
            rw [List.length_append, hal.out]; rfl
          clear hd
          go_wp2_with (first | (go_at_call 42; refine HI.out.mono ?_; rintro e w' ⟨rfl, rfl⟩) | (at_builtin; refine wpList_append_own _ rfl _ _ 24 rfl w.heap.size 2 i0 (.int .i64 0) 1 8 Tryd.underlying24 hi hz0 hz1 hz2 rfl (by decide) _ _ _ rfl (hown.alloc _) ⟨wr.heap.size, 0, none⟩ 1 1 [.int .i64 q1] rfl rfl (cell_one_new _ _ _) (by simp [Value.oneCell']) (by unfold maxLen; omega) (by omega) (by have := hBw.size; simp; omega) ?_; intro v' w1 hown' hgrow _))
          have hB1 : Below w.heap.size w w1 := (hBw.alloc hBw.size _).grown hgrow (by have := hBw.size; simp; omega) (fun i e => (hown.lt i e).1)
          go_roundw
          case rel => exact ⟨j + 1, q2, acc ++ [q1], by go_num, by omega, rfl, hnx.1, hnx.2, HAL, by simpa [i64s] using hown', hB1, Lib.hid (by rw [HDK.out]; exact HS2.out)⟩
          case measure => simp [intOf]; omega
        · have HS2 := Lib.hid (hS.out.trans (Wm.rseq_err he))
          clear hS
          generalize Wm.rd xs m = q at *
          obtain ⟨q1, q2, q3⟩ := q
          dsimp only at *
          have hq : (q3 != 0) = true := by rw [bne_iff_ne]; exact he
          clear he hd hown
          go_wp2_with (go_at_call 42; refine HI.out.mono ?_; rintro e w' ⟨rfl, rfl⟩)
          go_ret3
          rw [HE.out, HS2.out]
          exact ⟨_, rfl, World.ownsRow_nil _ _ _ _, hBw⟩
      · obtain rfl : j = k := by omega
        have HS2 : Hid (Wm.rseq xs j (f : Int) = (acc, m, 0)) := by
          have h := hS.out
          rw [Nat.sub_self, Wm.rseq_done] at h
          exact h
        have HO : Hid (∀ v, wr.ownsRow w.heap.size 2 1 v j (i64s acc) → wr.ownsRow w.heap.size 2 1 v acc.length (i64s acc)) := fun v h => by rw [hal.out]; exact h
        clear hS
        go_wp2
        go_ret3
        rw [HE.out, HS2.out]
        exact ⟨_, rfl, HO.out _ hown, hBw⟩
  · have HE := Lib.hid (Wm.rints_err he)
    by_cases hd : (Wm.rd xs t).2.2 = 0
    · by_cases hr : (Wm.rd xs t).1 < 0 ∨ 64 < (Wm.rd xs t).1
      · rw [Wm.rlen_many hd hr] at HE
        have hfit := Wm.rd_some (n := (Wm.rd xs t).1) (k := (Wm.rd xs t).2.1) (by rw [← hd]) hb
        have hfit2 : -9223372036854775808 ≤ (Wm.rd xs t).1 ∧ (Wm.rd xs t).1 ≤ 9223372036854775807 := by
          obtain ⟨_, _, _, _, _, _, _, a, b⟩ := hfit; exact ⟨a, b⟩
        have HZ := Lib.hid hd
        clear hx hb he hd hfit
        generalize Wm.rd xs t = q at *
        obtain ⟨q1, q2, q3⟩ := q
        dsimp only at *
        obtain rfl : q3 = 0 := HZ.out
        by_cases hq : q1 < 0
        all_goals
          go_enter Tryd.func31, Tryd.ntmps31
          go_wp2_with (go_at_call 42; refine HC.out.mono ?_; rintro e w' ⟨rfl, rfl⟩)
          go_ret3
          rw [HE.out]
          exact ⟨_, rfl, World.ownsRow_nil _ _ _ _, Below.refl _ _⟩
      · rw [Wm.rlen_ok hd hr] at he; exact absurd rfl he
    · rw [Wm.rlen_err hd] at HE
      clear hx hb he
      generalize Wm.rd xs t = q at *
      obtain ⟨q1, q2, q3⟩ := q
      dsimp only at *
      have hq : (q3 != 0) = true := by rw [bne_iff_ne]; exact hd
      clear hd
      go_enter Tryd.func31, Tryd.ntmps31
      go_wp2_with (go_at_call 42; refine HC.out.mono ?_; rintro e w' ⟨rfl, rfl⟩)
      go_ret3
      rw [HE.out]
      exact ⟨_, rfl, World.ownsRow_nil _ _ _ _, Below.refl _ _⟩
end Go.Proofs.YtdcdlnmgbgeeeaaDoor
