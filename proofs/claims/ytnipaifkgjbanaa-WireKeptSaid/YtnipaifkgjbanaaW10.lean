import Derived.Test.YtnipaifkgjbanaaW9
namespace Go.Proofs.Ytnipaifkgjbanaa
open Go.RowKit Go.Shelf

set_option maxRecDepth 100000 in
set_option maxHeartbeats 2000000 in
theorem RText_any (A : Option Addr) (n cap B : Nat) (xs : List Int) (t : Int) (w : World) (hx : Rd w B A (u8s xs)) (hn : xs.length = n) (hnc : n ≤ cap) (hcap : cap ≤ maxLen) (hB : B ≤ w.heap.size) (hb : ∀ x ∈ xs, 0 ≤ x ∧ x ≤ 255)
    (t0 : -9223372036854775808 ≤ t) (t1 : t ≤ 9223372036854775807) :
    Calls Try.prog 19 #[.slice A n cap, .int .i64 t] w fun e w' => ∃ v, e = .returned (.tuple #[v, .int .i64 (Wm.rtext xs t).2.1, .int .i64 (Wm.rtext xs t).2.2]) ∧
      w'.ownsRow w.heap.size 5 1 v (Wm.rtext xs t).1.length (u8s (Wm.rtext xs t).1) ∧ Below w.heap.size w w' := by
  have HC := Lib.hid (RInt_any A n cap B xs t w hx hn hnc hcap hb t0 t1)
  have hcap' := hcap
  unfold maxLen at hcap'
  by_cases he : (Wm.rlen xs t 4096).2.2 = 0
  · obtain ⟨k, m, hl, hrd, hk, ht, hm, hle, _⟩ := Wm.rlen_some he hb
    obtain ⟨t, rfl⟩ := Int.eq_ofNat_of_zero_le ht
    have hl' : Wm.rlen xs (t : Int) 4096 = ((k : Int), ((t + m : Nat) : Int), 0) := by rw [hl]; congr 2
    have hrd' : Wm.rd xs (t : Int) = ((k : Int), ((t + m : Nat) : Int), 0) := by rw [hrd]; congr 2
    clear he hl hrd ht t0 t1
    obtain ⟨f, hf⟩ : ∃ f, t + m = f := ⟨_, rfl⟩
    rw [hf] at hl' hrd'
    have hfl : f ≤ n := by omega
    rw [hrd'] at HC
    have hf1 : 1 ≤ f := by omega
    clear hf hle hm hrd'
    by_cases hs : xs.length < f + k
    · have HE := Lib.hid (Wm.rtext_end hl' hs)
      clear hl' hx hb
      go_enter Try.func19, Try.ntmps19
      go_wp2_with (go_at_call 13; refine HC.out.mono ?_; rintro e w' ⟨rfl, rfl⟩)
      go_ret3
      rw [HE.out]
      exact ⟨_, rfl, own_none, Below.refl _ _⟩
    · have HE := Lib.hid (Wm.rtext_ok hl' hs)
      obtain ⟨ad, rfl, _⟩ := hx.getU (i := 0) (x := xs[0]) (List.getElem?_eq_getElem (by omega))
      obtain ⟨i0, hi, hz0, hz1, hz2⟩ := info_parts info_u8
      have hsl := fun W => run_cut_lh (P := Try.prog) Try.underlying22 (size_of_info hi hz1) (some ad) n cap f (f + k) (by omega) (by omega) W
      have hr := (hx.dropU (k := f) (cap := cap) (by omega)).takeU k
      obtain ⟨ad', had⟩ := cutA_some ad f cap
      rw [had] at hsl hr
      rw [Int.natCast_add, Nat.add_sub_cancel_left] at hsl
      have HR := Lib.hid hr
      have HL : Hid (((xs.drop f).take k).length = k) := by
        show _ = _
        rw [List.length_take, List.length_drop]; omega
      have hfk : f + k ≤ n := by omega
      have hown := World.ownsRow_made (base := w.heap.size) (e := 5) (size := 1) w #[] 0 (Nat.le_refl _) (by unfold maxLen; omega) (by simp)
      clear hl' hx hb had hr
      go_enter Try.func19, Try.ntmps19
      go_wp2_with (first | (go_at_call 13; refine HC.out.mono ?_; rintro e w' ⟨rfl, rfl⟩) | (at_builtin; refine wpList_app rfl _ _ 22 rfl w.heap.size 5 i0 (.int .u8 0) 1 Try.underlying22 hi hz0 hz1 hz2 rfl _ _ _ rfl hown B (some ad') k (cap - f) (u8s ((xs.drop f).take k)) rfl (by rw [List.length_map]; exact HL.out) (HR.out.alloc hB _) (oneCell_ints _ _) (by unfold maxLen; omega) (by omega) (by simp) ?_; intro v' w2 hown' hgrow _))
      go_ret3
      rw [HE.out]
      refine ⟨_, rfl, ?_, below_app ((Below.refl _ w).alloc (Nat.le_refl _) _) hown hgrow (by simp)⟩
      dsimp only
      rw [HL.out]
      simpa [u8s] using hown'
  · have HE := Lib.hid (Wm.rtext_err he)
    by_cases hd : (Wm.rd xs t).2.2 = 0
    · by_cases hr : (Wm.rd xs t).1 < 0 ∨ 4096 < (Wm.rd xs t).1
      · rw [Wm.rlen_many hd hr] at HE
        have hfit := Wm.rd_some (n := (Wm.rd xs t).1) (k := (Wm.rd xs t).2.1) (by rw [← hd]) hb
        have hfit2 : -9223372036854775808 ≤ (Wm.rd xs t).1 ∧ (Wm.rd xs t).1 ≤ 9223372036854775807 := by
          obtain ⟨_, _, _, _, _, _, _, a, b⟩ := hfit; exact ⟨a, b⟩
        have HZ := Lib.hid hd
        clear hx hb he hd hfit
        generalize Wm.rd xs t = q at *
        obtain ⟨q1, q2, q3⟩ := q
        dsimp only at *
        obtain rfl : q3 = 0 := HZ.out
        by_cases hq : q1 < 0
        all_goals
          go_enter Try.func19, Try.ntmps19
          go_wp2_with (go_at_call 13; refine HC.out.mono ?_; rintro e w' ⟨rfl, rfl⟩)
          go_ret3
          rw [HE.out]
          exact ⟨_, rfl, own_none, Below.refl _ _⟩
      · rw [Wm.rlen_ok hd hr] at he; exact absurd rfl he
    · rw [Wm.rlen_err hd] at HE
      clear hx hb he
      generalize Wm.rd xs t = q at *
      obtain ⟨q1, q2, q3⟩ := q
      dsimp only at *
      have hq : (q3 != 0) = true := by rw [bne_iff_ne]; exact hd
      clear hd
      go_enter Try.func19, Try.ntmps19
      go_wp2_with (go_at_call 13; refine HC.out.mono ?_; rintro e w' ⟨rfl, rfl⟩)
      go_ret3
      rw [HE.out]
      exact ⟨_, rfl, own_none, Below.refl _ _⟩
end Go.Proofs.Ytnipaifkgjbanaa
