import Derived.Test.YtdcdlnmgbgeeeaaDoorW3
namespace Go.Proofs.YtdcdlnmgbgeeeaaDoor
open Go.RowKit Go.Shelf

set_option maxRecDepth 100000 in
set_option maxHeartbeats 4000000 in
theorem RInt_any (A : Option Addr) (n cap B : Nat) (xs : List Int) (t : Int) (w : World) (hx : Rd w B A (u8s xs)) (hn : xs.length = n) (hnc : n ≤ cap) (hcap : cap ≤ maxLen) (hb : ∀ x ∈ xs, 0 ≤ x ∧ x ≤ 255)
    (t0 : -9223372036854775808 ≤ t) (t1 : t ≤ 9223372036854775807) :
    Calls Tryd.prog 42 #[.slice A n cap, .int .i64 t] w fun e w' =>
      e = .returned (.tuple #[.int .i64 (Wm.rd xs t).1, .int .i64 (Wm.rd xs t).2.1, .int .i64 (Wm.rd xs t).2.2]) ∧ w = w' := by
  unfold maxLen at hcap
  by_cases ht : t < 0
  · have HE := Lib.hid (Wm.rd_arg (b := xs) (t := t) (.inl ht))
    have hd : decide (t < 0) = true := by simpa using ht
    clear hx hb
    go_enter Tryd.func42, Tryd.ntmps42
    go_wp2
    go_ret3
    rw [HE.out]
    exact ⟨rfl, rfl⟩
  by_cases ht2 : (n : Int) < t
  · have HE := Lib.hid (Wm.rd_arg (b := xs) (t := t) (.inr (by omega)))
    have hd : decide (t < 0) = false := by simpa using ht
    clear hx hb
    go_enter Tryd.func42, Tryd.ntmps42
    go_wp2
    go_ret3
    rw [HE.out]
    exact ⟨rfl, rfl⟩
  obtain ⟨m, rfl⟩ := Int.eq_ofNat_of_zero_le (show 0 ≤ t by omega)
  obtain ⟨i0, hi, hz0, hz1, hz2⟩ := info_parts info_u8
  have hsl := fun W => run_cut_l (P := Tryd.prog) Tryd.underlying28 (size_of_info hi hz1) A n cap m (by omega) W
  have hd1 : decide ((m : Int) < 0) = false := by simp
  have hr := hx.cutA (k := m) (cap := cap) (by simp; omega)
  generalize hA' : cutA A m cap = A' at hsl hr
  clear hA' hi hz0 hz1 hz2
  go_enter Tryd.func42, Tryd.ntmps42
  go_wp2
  clear hsl
  go_loop [8, 9] (fun u ix => ∃ (g : Nat) (v : Int), g ≤ n - m ∧ g ≤ 9 ∧ ix = .int .i64 (g : Int) ∧ u = .int .u64 v ∧ 0 ≤ v ∧ Hid (v < 2 ^ (7 * g)) ∧ Hid (Wm.scan (xs.drop m) 0 0 = Wm.scan (xs.drop (m + g)) g v))
    (fun _ ix => 10 - (intOf ix).toNat)
  case atStart =>
    exact ⟨0, 0, by omega, by omega, rfl, rfl, by omega, Lib.hid (by simp), Lib.hid (by simp)⟩
  case round =>
    obtain ⟨g, v, hg, hg9, rfl, rfl, hv0, hV, hS⟩ := hrel
    by_cases hlt : g < n - m
    · obtain ⟨ad, rfl, hbk, hcell⟩ := hr.get (k := g) (by simp; omega)
      obtain ⟨c, hc⟩ : ∃ c, xs[m + g]? = some c := ⟨xs[m + g], List.getElem?_eq_getElem (by omega)⟩
      have hmem := hb c (List.mem_of_getElem? hc)
      have hcl : w.cell? (ad.add g) = some (.int .u8 c) := by
        rw [hcell]
        congr 1
        have : xs[m + g] = c := by rw [List.getElem?_eq_getElem (by omega)] at hc; simpa using hc
        simp [this]
      have HD : Hid (xs.drop (m + g) = c :: xs.drop (m + g + 1)) := by
        have : xs[m + g] = c := by rw [List.getElem?_eq_getElem (by omega)] at hc; simpa using hc
        show xs.drop (m + g) = _
        rw [List.drop_eq_getElem_cons (by omega), this]
      clear hcell hc hb hr hx
      have ha := Bt.u8_and127 hmem.1 hmem.2
      by_cases hL : (g = 9 ∧ 1 < c) ∨ (0 < g ∧ c = 0)
      · have HE : Hid (Wm.rd xs (m : Int) = (0, 0, 12)) := by
          refine Wm.rd_err (by omega) ?_ (by omega)
          rw [Int.toNat_natCast, hS.out, HD.out, Wm.scan_long hL]
        rcases hL with ⟨h1, h2⟩ | ⟨h1, h2⟩
        · have hb1 : ((g : Int) == 9) = true := by rw [beq_iff_eq]; omega
          have h1' : 9 ≤ g := by omega
          clear h1
          go_wp2
          go_ret3
          rw [HE.out]
          exact ⟨rfl, rfl⟩
        · have hb3 : (c == 0) = true := by rw [beq_iff_eq]; omega
          have hb4 : c ≤ 0 := by omega
          clear h2
          by_cases h9 : 9 ≤ g
          · have hb1 : ((g : Int) == 9) = true := by rw [beq_iff_eq]; omega
            go_wp2
            go_ret3
            rw [HE.out]
            exact ⟨rfl, rfl⟩
          · have hb1 : ((g : Int) == 9) = false := by rw [beq_eq_false_iff_ne]; omega
            go_wp2
            go_ret3
            rw [HE.out]
            exact ⟨rfl, rfl⟩
      · by_cases hc : c < 128
        · obtain ⟨ho, hv1, hv2, _⟩ := Bt.or_step hv0 hV.out hmem.1 hc (by omega)
          generalize hv' : v + c * 2 ^ (7 * g) = v' at ho hv1 hv2
          have HE : Hid (Wm.rd xs (m : Int) = (Wm.unfold v', (m : Int) + ((g : Int) + 1), 0)) := by
            refine Wm.rd_ok (by omega) ?_
            rw [Int.toNat_natCast, hS.out, HD.out, Wm.scan_last hL hc, hv']
          clear hv'
          have hem : c % 128 = c := by omega
          rw [hem] at ha
          clear hem
          have ho1 := Bt.u64_and1 hv1 hv2
          have HG : Hid (¬ 9 ≤ g ∨ (9 ≤ g ∧ 0 < c ∧ c ≤ 1)) := by
            show ¬ 9 ≤ g ∨ _
            omega
          have HC : Hid (0 < c ∨ (c ≤ 0 ∧ g ≤ 0)) := by
            show 0 < c ∨ _
            omega
          clear hL
          have hnot := Bt.i64_not (v := v' / 2) (by omega) (by omega)
          by_cases hodd : v' % 2 = 1
          · have hb5 : (v' % 2 == 1) = true := by rw [beq_iff_eq]; omega
            have HU := Lib.hid (Wm.unfold_odd hodd)
            clear hodd
            rcases HC.out with h3 | ⟨h3, h4⟩
            · have hb3 : (c == 0) = false := by rw [beq_eq_false_iff_ne]; omega
              rcases HG.out with h9 | ⟨h9, h10, h11⟩
              · have hb1 : ((g : Int) == 9) = false := by rw [beq_eq_false_iff_ne]; omega
                go_wp2
                go_ret3
                rw [HE.out]
                exact ⟨ret3_i64 HU.out (Int.add_assoc _ _ _) rfl, rfl⟩
              · have hb1 : ((g : Int) == 9) = true := by rw [beq_iff_eq]; omega
                go_wp2
                go_ret3
                rw [HE.out]
                exact ⟨ret3_i64 HU.out (Int.add_assoc _ _ _) rfl, rfl⟩
            · have hb3 : (c == 0) = true := by rw [beq_iff_eq]; omega
              have hb1 : ((g : Int) == 9) = false := by rw [beq_eq_false_iff_ne]; omega
              go_wp2
              go_ret3
              rw [HE.out]
              exact ⟨ret3_i64 HU.out (Int.add_assoc _ _ _) rfl, rfl⟩
          · have hb5 : (v' % 2 == 1) = false := by rw [beq_eq_false_iff_ne]; omega
            have HU := Lib.hid (Wm.unfold_even hodd)
            clear hodd
            rcases HC.out with h3 | ⟨h3, h4⟩
            · have hb3 : (c == 0) = false := by rw [beq_eq_false_iff_ne]; omega
              rcases HG.out with h9 | ⟨h9, h10, h11⟩
              · have hb1 : ((g : Int) == 9) = false := by rw [beq_eq_false_iff_ne]; omega
                go_wp2
                go_ret3
                rw [HE.out]
                exact ⟨ret3_i64 HU.out (Int.add_assoc _ _ _) rfl, rfl⟩
              · have hb1 : ((g : Int) == 9) = true := by rw [beq_iff_eq]; omega
                go_wp2
                go_ret3
                rw [HE.out]
                exact ⟨ret3_i64 HU.out (Int.add_assoc _ _ _) rfl, rfl⟩
            · have hb3 : (c == 0) = true := by rw [beq_iff_eq]; omega
              have hb1 : ((g : Int) == 9) = false := by rw [beq_eq_false_iff_ne]; omega
              go_wp2
              go_ret3
              rw [HE.out]
              exact ⟨ret3_i64 HU.out (Int.add_assoc _ _ _) rfl, rfl⟩
        · obtain ⟨ho, hv1, hv2, hv3⟩ := Bt.or_step (c := c - 128) hv0 hV.out (by omega) (by omega) (by omega)
          have HS := Lib.hid (Wm.scan_more (l := xs.drop (m + g + 1)) (u := v) hL hc)
          generalize hv' : v + (c - 128) * 2 ^ (7 * g) = v' at ho hv1 hv2 hv3 HS
          have HV := Lib.hid hv3
          have hem : c % 128 = c - 128 := by omega
          rw [hem] at ha
          clear hem
          have hb1 : ((g : Int) == 9) = false := by rw [beq_eq_false_iff_ne]; omega
          have hg8 : g ≤ 8 := by omega
          clear hL hv' hv3
          go_wp2
          go_round
          case rel => exact ⟨g + 1, v', by omega, by omega, by go_num, rfl, hv1, HV, Lib.hid (by rw [hS.out, HD.out, HS.out, Nat.add_assoc])⟩
          case measure => simp [intOf]; omega
    · have hE : Wm.rd xs (m : Int) = (0, 0, 11) := by
        refine Wm.rd_err (by omega) ?_ (by omega)
        rw [Int.toNat_natCast, hS.out, List.drop_of_length_le (by omega)]; rfl
      have HE := Lib.hid hE
      clear hE
      go_wp2
      go_ret3
      rw [HE.out]
      exact ⟨rfl, rfl⟩
end Go.Proofs.YtdcdlnmgbgeeeaaDoor
