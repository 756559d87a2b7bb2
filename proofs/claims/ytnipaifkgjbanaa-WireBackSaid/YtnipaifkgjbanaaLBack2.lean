import Derived.Test.YtnipaifkgjbanaaLBack
namespace Go.Proofs.Ytnipaifkgjbanaa
open Go.RowKit Go.Shelf

/-- all bytes that the statement lays, and how they are read -/
theorem back_facts {xs ss ls bs : List Int} {n : Int} (n0 : -9223372036854775808 ≤ n) (n1 : n ≤ 9223372036854775807) (hs : ss.length ≤ 4096) (hl : ls.length ≤ 64) (hf : Wm.Fits ls)
    (bx : ∀ c ∈ xs, 0 ≤ c ∧ c ≤ 255) (bb : ∀ c ∈ bs, 0 ≤ c ∧ c ≤ 255) (bt : ∀ c ∈ ss, 0 ≤ c ∧ c ≤ 255) :
    ∃ (FB : List Int) (p1 p2 p3 : Nat), FB = xs ++ Wm.pint n ++ Wm.ptext ss ++ Wm.pintsU ls ls.length ++ bs ∧ (∀ c ∈ FB, 0 ≤ c ∧ c ≤ 255) ∧
      Wm.rd FB (xs.length : Int) = (n, (p1 : Int), 0) ∧ Wm.rtext FB (p1 : Int) = (ss, (p2 : Int), 0) ∧ Wm.rints FB (p2 : Int) = (ls, (p3 : Int), 0) ∧ p3 + bs.length = FB.length ∧ p1 ≤ FB.length ∧ p2 ≤ FB.length := by
  refine ⟨_, (xs ++ Wm.pint n).length, (xs ++ Wm.pint n ++ Wm.ptext ss).length, (xs ++ Wm.pint n ++ Wm.ptext ss ++ Wm.pintsU ls ls.length).length, rfl, ?_, ?_, ?_, ?_, ?_, ?_, ?_⟩
  · intro c hc
    rcases List.mem_append.1 hc with hc | hc
    · rcases List.mem_append.1 hc with hc | hc
      · rcases List.mem_append.1 hc with hc | hc
        · rcases List.mem_append.1 hc with hc | hc
          · exact bx c hc
          · exact Wm.pint_byte n0 n1 c hc
        · exact Wm.ptext_byte hs bt c hc
      · exact Wm.pintsU_byte hl hf c hc
    · exact bb c hc
  · have h := Wm.rd_pint n0 n1 xs (Wm.ptext ss ++ (Wm.pintsU ls ls.length ++ bs))
    simp only [List.append_assoc]
    rw [h, List.length_append]
    congr 2
  · have h := Wm.rtext_back (a := xs ++ Wm.pint n) (r := Wm.pintsU ls ls.length ++ bs) hs
    simp only [List.append_assoc] at h ⊢
    exact h
  · have h := Wm.rints_back (a := xs ++ Wm.pint n ++ Wm.ptext ss) (r := bs) hl hf
    simp only [List.append_assoc] at h ⊢
    exact h
  · simp only [List.length_append]
  · simp only [List.length_append]; omega
  · simp only [List.length_append]; omega

set_option maxRecDepth 100000 in
set_option maxHeartbeats 8000000 in
theorem back_main (a0 : Option Addr) (len0 cap0 : Nat) (a1 : Int) (a2 : Option Addr) (len2 cap2 : Nat) (a3 : Option Addr) (len3 cap3 : Nat) (a4 : Option Addr) (len4 cap4 : Nat) (w : World)
    (xs ss ls bs : List Int) (hn0 : xs.length = len0) (hn2 : ss.length = len2) (hn3 : ls.length = len3) (hn4 : bs.length = len4)
    (hr0 : Rd w w.heap.size a0 (u8s xs)) (hr2 : Rd w w.heap.size a2 (u8s ss)) (hr3 : Rd w w.heap.size a3 (i64s ls)) (hr4 : Rd w w.heap.size a4 (u8s bs)) (hf : Wm.Fits ls)
    (bx : ∀ c ∈ xs, 0 ≤ c ∧ c ≤ 255) (bb : ∀ c ∈ bs, 0 ≤ c ∧ c ≤ 255) (bt : ∀ c ∈ ss, 0 ≤ c ∧ c ≤ 255)
    (n0 : -9223372036854775808 ≤ a1) (n1 : a1 ≤ 9223372036854775807) (l2 : len2 ≤ 4096) (l3 : len3 ≤ 64) (l0 : len0 ≤ 100000) (l4 : len4 ≤ 100000) :
    Calls Try.prog 6 #[.slice a0 len0 cap0, .int .i64 a1, .slice a2 len2 cap2, .slice a3 len3 cap3, .slice a4 len4 cap4] w fun e w' => e = .returned (.bool true) ∧ Below w.heap.size w w' := by
  obtain ⟨FB, p1, p2, p3, hFB, hFb, hR1, hR2, hR3, hp3, hp1, hp2⟩ := back_facts (xs := xs) (ss := ss) (ls := ls) (bs := bs) n0 n1 (by omega) (by omega) hf bx bb bt
  have HFB := Lib.hid hFB
  have HFb := Lib.hid hFb
  have HR1 := Lib.hid hR1
  have HR2 := Lib.hid hR2
  have HR3 := Lib.hid hR3
  have HP3 := Lib.hid hp3
  have HF : Hid (Wm.Fits ls) := hf
  have HN0 := Lib.hid hn0
  have HN2 := Lib.hid hn2
  have HN3 := Lib.hid hn3
  have HN4 := Lib.hid hn4
  have hpl := Wm.pint_len a1
  have htl := Wm.ptext_len ss
  have hul := Wm.pintsU_len ls ls.length
  have htl' : (Wm.ptext ss).length ≤ 4106 := by omega
  have hul' : (Wm.pintsU ls ls.length).length ≤ 650 := by omega
  have HPT := Lib.hid (Wm.ptextE_ok (xs := ss) (by omega))
  have HPU := Lib.hid (Wm.pintsE_ok (xs := ls) (by omega))
  have hFL : FB.length ≤ 250000 := by
    rw [hFB]; simp only [List.length_append]; omega
  obtain ⟨i0, hi, hz0, hz1, hz2⟩ := info_parts info_u8
  clear hFB hFb hR1 hR2 hR3 hp3 hf hn0 hn2 hn3 hn4 htl hul bx bb bt
  go_enter Try.func6, Try.ntmps6
  go_wp2_with (first | (go_at_call 11; refine (head_any _).mono ?_; rintro e w1 ⟨rfl, hb1⟩) | (go_at_call 16; fail))
  refine (PutText_all a2 len2 cap2 w.heap.size ss _ (by exact hr2.below hb1) HN2.out hb1.size).mono ?_
  rw [HPT.out]
  rintro e w2 ⟨vt, rfl, hot, hb2⟩
  have hb12 := hb1.trans (hb2.mono hb1.size)
  go_wp2_with fail
  refine (PutInts_all a3 len3 cap3 w.heap.size ls _ (by exact hr3.below hb12) HN3.out HF.out hb12.size).mono ?_
  rw [HPU.out]
  rintro e w3 ⟨vu, rfl, hou, hb3⟩
  have hb13 := hb12.trans (hb3.mono hb12.size)
  dsimp only at hot hou
  obtain ⟨At, ct, rfl, -, -, rt⟩ := own_view (own_below hot hb3 (Nat.le_refl _))
  obtain ⟨Au, cu, rfl, -, -, ru⟩ := own_view hou
  have hx3 := hr0.below hb13
  have hs3 := hr4.below hb13
  have hl3 := hr3.below hb13
  have hs2 := hr2.below hb13
  have hmade := World.ownsRow_made (base := w3.heap.size) (e := 5) (size := 1) w3 #[] 0 (Nat.le_refl _) (by unfold maxLen; omega) (by simp)
  clear hot hou hr0 hr2 hr3 hr4 hb1 hb2 hb3
  go_wp2_with (first | (at_builtin; have _t := hmade; refine wpList_app rfl _ _ 22 rfl w3.heap.size 5 i0 (.int .u8 0) 1 Try.underlying22 hi hz0 hz1 hz2 rfl _ _ _ rfl hmade w.heap.size a0 len0 cap0 (u8s xs) rfl (by rw [List.length_map]; exact HN0.out) (hx3.alloc hb13.size _) (oneCell_ints _ _) (by unfold maxLen; omega) (by omega) (by simp) ?_; intro v4 w4 how4 hg4 _; have hb4 := below_app ((Below.refl w3.heap.size w3).alloc (Nat.le_refl _) _) hmade hg4 (by simp); clear hg4 _t; clear hmade; rw [Nat.zero_add, List.nil_append] at how4) | (go_at_call 14; refine (PutInt_any _ _ n0 n1).mono ?_; rintro e w5 ⟨v5, rfl, hoi, hb5⟩; obtain ⟨A5, c5, rfl, -, -, r5⟩ := own_view hoi; have how5 := own_below how4 hb5 (Nat.le_refl _); have hb35 := hb4.trans (hb5.mono hb4.size); clear how4 hoi hb5 hb4) | (at_builtin; have _t := how5; refine wpList_app rfl _ _ 22 rfl w3.heap.size 5 i0 (.int .u8 0) 1 Try.underlying22 hi hz0 hz1 hz2 rfl _ _ _ rfl how5 w5.heap.size A5 _ c5 (u8s (Wm.pint a1)) rfl (by rw [List.length_map]) r5 (oneCell_ints _ _) (by unfold maxLen; omega) (by omega) hb35.size ?_; intro v6 w6 how6 hg6 _; have hb36 := below_app hb35 how5 hg6 hb35.size; clear hg6 _t; clear how5 hb35 r5) | (at_builtin; have _t := how6; refine wpList_app rfl _ _ 22 rfl w3.heap.size 5 i0 (.int .u8 0) 1 Try.underlying22 hi hz0 hz1 hz2 rfl _ _ _ rfl how6 w3.heap.size At _ ct (u8s (Wm.ptext ss)) rfl (by rw [List.length_map]) (rt.below hb36) (oneCell_ints _ _) (by unfold maxLen; omega) (by omega) hb36.size ?_; intro v7 w7 how7 hg7 _; have hb37 := below_app hb36 how6 hg7 hb36.size; clear hg7 _t; clear how6 hb36) | (at_builtin; have _t := how7; refine wpList_app rfl _ _ 22 rfl w3.heap.size 5 i0 (.int .u8 0) 1 Try.underlying22 hi hz0 hz1 hz2 rfl _ _ _ rfl how7 w3.heap.size Au _ cu (u8s (Wm.pintsU ls ls.length)) rfl (by rw [List.length_map]) (ru.below hb37) (oneCell_ints _ _) (by unfold maxLen; omega) (by omega) hb37.size ?_; intro v8 w8 how8 hg8 _; have hb38 := below_app hb37 how7 hg8 hb37.size; clear hg8 _t; clear how7 hb37) | (at_builtin; have _t := how8; refine wpList_app rfl _ _ 22 rfl w3.heap.size 5 i0 (.int .u8 0) 1 Try.underlying22 hi hz0 hz1 hz2 rfl _ _ _ rfl how8 w.heap.size a4 len4 cap4 (u8s bs) rfl (by rw [List.length_map]; exact HN4.out) (hs3.below (hb38.mono hb13.size)) (oneCell_ints _ _) (by unfold maxLen; omega) (by omega) hb38.size ?_; intro v9 w9 how9 hg9 _; have hb39 := below_app hb38 how8 hg9 hb38.size; clear hg9 _t; clear how8 hb38) | (go_at_call 12; fail))
  have HO : w9.ownsRow w3.heap.size 5 1 v9 FB.length (u8s FB) := by
    have e1 : u8s FB = u8s xs ++ u8s (Wm.pint a1) ++ u8s (Wm.ptext ss) ++ u8s (Wm.pintsU ls ls.length) ++ u8s bs := by
      rw [HFB.out]; simp [u8s]
    have e2 : FB.length = len0 + (Wm.pint a1).length + (Wm.ptext ss).length + (Wm.pintsU ls ls.length).length + len4 := by
      rw [HFB.out, ← HN0.out, ← HN4.out]; simp only [List.length_append]
    rw [e1, e2]
    exact how9
  obtain ⟨A9, c9, rfl, hc9, hm9, r9⟩ := own_view HO
  have HR1' : Hid (Wm.rd FB (len0 : Int) = (a1, (p1 : Int), 0)) := by
    have h := HR1.out
    rw [HN0.out] at h
    exact h
  have hbw9 := hb13.trans (hb39.mono hb13.size)
  have hl9 := hl3.below (hb39.mono hb13.size)
  have hs9 := hs2.below (hb39.mono hb13.size)
  clear how9 HO hx3 hs3 rt ru hl3 hs2 hb39 hb13 hb12 HFB HPT HPU HR1
  refine (Int_any A9 FB.length c9 w9.heap.size FB _ _ (by exact r9) rfl hc9 hm9 HFb.out (by omega) (by omega)).mono ?_
  rw [HR1'.out]
  rintro e w' ⟨rfl, rfl⟩
  go_wp2_with fail
  refine (Text_any A9 FB.length c9 w9.heap.size FB _ _ (by exact r9) rfl hc9 hm9 (Nat.le_refl _) HFb.out (by omega) (by omega)).mono ?_
  rw [HR2.out]
  rintro e w10 ⟨vy, rfl, hoy, hb10⟩
  obtain ⟨Ay, cy, rfl, -, -, ry⟩ := own_view hoy
  have k1 := str_of (cap := cy) ry rfl
  have k2 := str_of (cap := cap2) (hs9.below (hb10.mono hbw9.size)) HN2.out
  have hbw10 := hbw9.trans (hb10.mono hbw9.size)
  have r10 := r9.below hb10
  have hl10 := hl9.below (hb10.mono hbw9.size)
  have hs910 := hb10.size
  clear hoy ry hs9 hl9 r9 hb10 hbw9
  go_wp2_with fail
  refine (Ints_any A9 FB.length c9 w9.heap.size FB _ _ (by exact r10) rfl hc9 hm9 hs910 HFb.out (by omega) (by omega)).mono ?_
  rw [HR3.out]
  rintro e w11 ⟨vz, rfl, hoz, hb11⟩
  obtain ⟨Az, cz, rfl, -, -, rz⟩ := own_view hoz
  have HBB := Lib.hid (hbw10.trans (hb11.mono hbw10.size))
  have HS := Lib.hid (Same_any Az a3 ls.length len3 cz cap3 _ _ ls ls w11 rz (hl10.below (hb11.mono hbw10.size)) rfl HN3.out (by unfold maxLen; have := HN3.out; omega))
  have HEQ : Hid (((p3 : Int) == (FB.length : Int) - (len4 : Int)) = true) := by
    show _ = _
    rw [beq_iff_eq]
    have := HP3.out
    have := HN4.out
    omega
  have hle4 : len4 ≤ FB.length := by have := HP3.out; have := HN4.out; omega
  have heq := HEQ.out
  clear hoz rz hl10 r10 hb11 hbw10 k1 k2
  go_wp2_with (go_at_call 24; refine HS.out.mono ?_; rintro e w12 ⟨rfl, nd, rfl⟩)
  go_ret
  exact ⟨ret_bool (by simp), below_drawn HBB.out _⟩

theorem back_walk (a0 : Option Addr) (len0 cap0 : Nat) (z0 : List Int) (a1 : Int) (a2 : Option Addr) (len2 cap2 : Nat) (z2 : List Int) (a3 : Option Addr) (len3 cap3 : Nat) (z3 : List Int) (a4 : Option Addr) (len4 cap4 : Nat) (z4 : List Int) (w : World)
    (w0 : RowOf .u8 w a0 len0 cap0 z0) (w1 : (Lit.int .i64 a1).wf = true) (w2 : RowOf .u8 w a2 len2 cap2 z2) (w3 : RowOf .i64 w a3 len3 cap3 z3) (w4 : RowOf .u8 w a4 len4 cap4 z4) :
    Calls Try.prog 6 #[.slice a0 len0 cap0, .int .i64 a1, .slice a2 len2 cap2, .slice a3 len3 cap3, .slice a4 len4 cap4] w fun e w' => e = .returned (.bool true) ∧ Below w.heap.size w w' := by
  have b1 := wf_i64 w1
  obtain ⟨xs, hn0, _, _, hr0, hw0⟩ := row_rd w0
  obtain ⟨ss, hn2, _, _, hr2, hw2⟩ := row_rd w2
  obtain ⟨ls, hn3, _, _, hr3, hw3⟩ := row_rd w3
  obtain ⟨bs, hn4, _, _, hr4, hw4⟩ := row_rd w4
  have hf : Wm.Fits ls := fun n hn => wf_i64 (hw3 n hn)
  by_cases h : 4096 < len2 ∨ 64 < len3 ∨ 100000 < len0 ∨ 100000 < len4
  · exact back_early a0 len0 cap0 a1 a2 len2 cap2 a3 len3 cap3 a4 len4 cap4 w ss ls hn2 hn3 hr2 hr3 hf h
  · exact back_main a0 len0 cap0 a1 a2 len2 cap2 a3 len3 cap3 a4 len4 cap4 w xs ss ls bs hn0 hn2 hn3 hn4 hr0 hr2 hr3 hr4 hf (wf_u8 hw0) (wf_u8 hw4) (wf_u8 hw2) b1.1 b1.2 (by omega) (by omega) (by omega) (by omega)
end Go.Proofs.Ytnipaifkgjbanaa
