import Derived.Test.YtnipaifkgjbanaaW8
namespace Go.Proofs.Ytnipaifkgjbanaa
open Go.RowKit Go.Shelf

theorem cutA_some (ad : Addr) (k cap : Nat) : ∃ ad', cutA (some ad) k cap = some ad' := by
  unfold cutA; split
  · exact ⟨_, rfl⟩
  · exact ⟨_, rfl⟩

set_option maxRecDepth 100000 in
set_option maxHeartbeats 2000000 in
theorem Text_any (A : Option Addr) (n cap B : Nat) (xs : List Int) (t : Int) (w : World) (hx : Rd w B A (u8s xs)) (hn : xs.length = n) (hnc : n ≤ cap) (hcap : cap ≤ maxLen) (hB : B ≤ w.heap.size) (hb : ∀ x ∈ xs, 0 ≤ x ∧ x ≤ 255)
    (t0 : -9223372036854775808 ≤ t) (t1 : t ≤ 9223372036854775807) :
    Calls Try.prog 18 #[.slice A n cap, .int .i64 t] w fun e w' => ∃ v, e = .returned (.tuple #[v, .int .i64 (Wm.rtext xs t).2.1, .int .i64 (Wm.rtext xs t).2.2]) ∧
      w'.ownsRow w.heap.size 5 1 v (Wm.rtext xs t).1.length (u8s (Wm.rtext xs t).1) ∧ Below w.heap.size w w' := by
  have HC := Lib.hid (length_any A n cap B xs t 4096 w hx hn hnc hcap hb t0 t1)
  have hcap' := hcap
  unfold maxLen at hcap'
  by_cases he : (Wm.rlen xs t 4096).2.2 = 0
  · obtain ⟨k, m, hl, _, hk, ht, hm, hle, _⟩ := Wm.rlen_some he hb
    obtain ⟨t, rfl⟩ := Int.eq_ofNat_of_zero_le ht
    have hl' : Wm.rlen xs (t : Int) 4096 = ((k : Int), ((t + m : Nat) : Int), 0) := by rw [hl]; congr 2
    clear he hl ht t0 t1
    obtain ⟨f, hf⟩ : ∃ f, t + m = f := ⟨_, rfl⟩
    rw [hf] at hl'
    have hfl : f ≤ n := by omega
    rw [hl'] at HC
    have hf1 : 1 ≤ f := by omega
    clear hf hle hm
    by_cases hs : xs.length < f + k
    · have HE := Lib.hid (Wm.rtext_end hl' hs)
      clear hl' hx hb
      go_enter Try.func18, Try.ntmps18
      go_wp2_with (go_at_call 28; refine HC.out.mono ?_; rintro e w' ⟨rfl, rfl⟩)
      go_ret3
      rw [HE.out]
      exact ⟨_, rfl, own_none, Below.refl _ _⟩
    · have HE := Lib.hid (Wm.rtext_ok hl' hs)
      obtain ⟨ad, rfl, _⟩ := hx.getU (i := 0) (x := xs[0]) (List.getElem?_eq_getElem (by omega))
      obtain ⟨i0, hi, hz0, hz1, hz2⟩ := info_parts info_u8
      have hsl := fun W => run_cut_lh (P := Try.prog) Try.underlying22 (size_of_info hi hz1) (some ad) n cap f (f + k) (by omega) (by omega) W
      have hr := (hx.dropU (k := f) (cap := cap) (by omega)).takeU k
      obtain ⟨ad', had⟩ := cutA_some ad f cap
      rw [had] at hsl hr
      rw [Int.natCast_add, Nat.add_sub_cancel_left] at hsl
      have HR := Lib.hid hr
      have HL : Hid (((xs.drop f).take k).length = k) := by
        show _ = _
        rw [List.length_take, List.length_drop]; omega
      have hfk : f + k ≤ n := by omega
      clear hl' hx hb had hr hi hz0 hz1 hz2
      go_enter Try.func18, Try.ntmps18
      go_wp2_with (first | (go_at_call 28; refine HC.out.mono ?_; rintro e w' ⟨rfl, rfl⟩) | (go_at_call 29; refine (Clone_any ad' k (cap - f) B _ _ HR.out HL.out hB (by omega)).mono ?_; rintro e w' ⟨v, rfl, hown, hbw⟩))
      go_ret3
      rw [HE.out]
      exact ⟨_, rfl, hown, hbw⟩
  · have HE := Lib.hid (Wm.rtext_err he)
    clear hx hb
    generalize Wm.rlen xs t 4096 = q at *
    obtain ⟨q1, q2, q3⟩ := q
    dsimp only at *
    have hq : (q3 != 0) = true := by rw [bne_iff_ne]; exact he
    clear he
    go_enter Try.func18, Try.ntmps18
    go_wp2_with (go_at_call 28; refine HC.out.mono ?_; rintro e w' ⟨rfl, rfl⟩)
    go_ret3
    rw [HE.out]
    exact ⟨_, rfl, own_none, Below.refl _ _⟩
end Go.Proofs.Ytnipaifkgjbanaa
