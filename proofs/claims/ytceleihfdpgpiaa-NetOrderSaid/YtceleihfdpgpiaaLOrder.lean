/- Messages sent one behind the other come in that order. -/
import Derived.Test.YtceleihfdpgpiaaNo
import Derived.Test.YtceleihfdpgpiaaKitF
namespace Go.Proofs.Ytceleihfdpgpiaa
open Go.RowKit Go.Shelf Km Kb Kz

theorem pick_drop {bs : List (List Int)} {n k : Nat} {b : List Int} (h : bs[k]? = some b) (hk : k < n) : Nm.pick ((bs.take n).drop k) 0 = some b := by
  have := Nm.pick_nat ((bs.take n).drop k) 0
  rw [List.getElem?_drop, Nat.add_zero, List.getElem?_take_of_lt hk, h] at this
  exact this
theorem less_drop {bs : List (List Int)} {n k : Nat} {b : List Int} (h : bs[k]? = some b) (hk : k < n) : Nm.less ((bs.take n).drop k) 0 = (bs.take n).drop (k + 1) := by
  rw [Nm.less_some (pick_drop h hk), show (0 : Int).toNat = 0 from rfl]
  unfold er
  rw [List.take_zero, List.nil_append, List.drop_drop]
theorem ok_drop {bs : List (List Int)} (h : ∀ b ∈ bs, b.length ≤ 140737488355328) {n : Nat} (hn : n ≤ 400) (k : Nat) : Nm.Ok ((bs.take n).drop k) :=
  ⟨by rw [List.length_drop, List.length_take]; omega, fun b hb => h b (List.mem_of_mem_take (List.mem_of_mem_drop hb))⟩

set_option maxRecDepth 100000 in
set_option maxHeartbeats 4000000 in
theorem order_walk (a : Option Addr) (len cap : Nat) (bs : List (List Int)) (W : World) (h : RowsAt W a len cap bs) :
    Calls Try.prog 5 #[.slice a len cap] W fun e W' => e = .returned (.bool true) ∧ Below W.heap.size W W' := by
  have HN := Lib.hid h.1
  have hcl := h.2.1
  have hm := h.2.2.1
  unfold maxLen at hm
  have HR := Lib.hid h.2.2.2
  clear h
  go_enter Try.func5, Try.ntmps5
  go_wp2_with (go_at_call 7; fail)
  refine (head_any W).mono ?_
  rintro e w1 ⟨rfl, hb1⟩
  go_wp2_with (go_at_call 8; fail)
  refine (new_own W w1 hb1).mono ?_
  rintro e w2 ⟨rfl, j2⟩
  by_cases hlen : len ≤ 1000
  · have d0 : decide ((1000 : Int) < (len : Int)) = false := by simp; omega
    have J := Lib.hid j2
    clear j2
    go_wp2_with fail
    go_loopw [5, 6] (fun ix ev wr => ∃ (k : Nat) (n : Int), ix = .int .i64 (k : Int) ∧ (ev = .int .i64 n ∨ k = 0) ∧ k ≤ len ∧ Hid (NOwn W wr w1.heap.size (bs.take (min k 400)))) (fun ix _ _ => len - (intOf ix).toNat)
    case atStart => exact ⟨0, 0, rfl, .inr rfl, by omega, by rw [show min 0 400 = 0 from rfl, List.take_zero]; exact J⟩
    case round =>
      obtain ⟨k, n, rfl, -, hk, JR⟩ := hrel
      by_cases hlt : k < len
      · have d1 : decide ((k : Int) < (len : Int)) = true := by simpa using hlt
        have d3 : (k : Int) < (len : Int) := by omega
        obtain ⟨b, hb⟩ : ∃ b, bs[k]? = some b := ⟨bs[k]'(by rw [HN.out]; exact hlt), List.getElem?_eq_getElem _⟩
        obtain ⟨ad, c, rfl, hbk, hcl2, hrow⟩ := HR.out k b hb
        have hcw : wr.cell? (ad.add k) = some c := (JR.out.bel.cell (by rw [addr_add_block]; exact hbk)).trans hcl2
        have HS := Lib.hid (sends JR.out hrow)
        rw [send_take hb] at HS
        dsimp only at HS
        obtain ⟨Ac, cc, rfl, -, -, -, -⟩ := hrow.form
        clear hb hrow hcl2
        go_wp2_with (go_at_call 9; fail)
        refine HS.out.mono ?_
        rintro e w3 ⟨rfl, j3⟩
        have J3 := Lib.hid j3
        clear j3 HS
        by_cases hq : k < 400
        · have d4 : decide ((k : Int) < 400) = true := by simp; omega
          rw [if_pos hq]
          go_wp2_with fail
          go_roundw
          case rel => exact ⟨k + 1, 0, by go_num, .inl rfl, by omega, J3⟩
          case measure => simp [intOf]; omega
        · have d4 : decide ((k : Int) < 400) = false := by simp; omega
          rw [if_neg hq]
          go_wp2_with fail
          go_roundw
          case rel => exact ⟨k + 1, 71, by go_num, .inl rfl, by omega, J3⟩
          case measure => simp [intOf]; omega
      · have hkl : k = len := by omega
        have HT := Lib.hid hkl
        have d1 : decide ((k : Int) < (len : Int)) = false := by simp; omega
        clear hkl
        have HOK := Lib.hid (fun k => ok_drop (fun b hb => by
          obtain ⟨i, hi, rfl⟩ := List.getElem_of_mem hb
          obtain ⟨_, _, _, _, _, q⟩ := HR.out i _ (List.getElem?_eq_getElem hi)
          exact Nat.le_trans q.le (by omega)) (show min len 400 ≤ 400 by omega) k)
        have J2 : Hid (NOwn W wr w1.heap.size ((bs.take (min len 400)).drop 0)) := by rw [List.drop_zero, ← HT.out]; exact JR
        clear JR
        go_wp2_with fail
        go_loopw [7, 8, 9] (fun ix bv iv wr => ∃ (k : Nat), ix = .int .i64 (k : Int) ∧ k ≤ min len 400 ∧ Hid (NOwn W wr w1.heap.size ((bs.take (min len 400)).drop k))) (fun ix _ _ _ => len - (intOf ix).toNat)
        case atStart => exact ⟨0, rfl, by omega, J2⟩
        case round =>
          obtain ⟨k, rfl, hk, JR⟩ := hrel
          by_cases hlt : k < min len 400
          · have d1 : decide ((k : Int) < (len : Int)) = true := by simp; omega
            have d2 : decide ((k : Int) < 400) = true := by simp; omega
            have d3 : (k : Int) < (len : Int) := by omega
            obtain ⟨b, hb⟩ : ∃ b, bs[k]? = some b := ⟨bs[k]'(by rw [HN.out]; omega), List.getElem?_eq_getElem _⟩
            obtain ⟨ad, c, rfl, hbk, hcl2, hrow⟩ := HR.out k b hb
            have HS := Lib.hid (take_own JR.out (HOK.out k) 0)
            rw [pick_drop hb hlt, less_drop hb hlt, show (some b).getD [] = b from rfl, show (some b).isSome = true from rfl] at HS
            obtain ⟨Ac, cc, rfl, -, -, -, hrc⟩ := hrow.form
            go_wp2_with (go_at_call 11; fail)
            refine HS.out.mono ?_
            rintro e w3 ⟨v, rfl, hown, j3⟩
            obtain ⟨A3, c3, rfl, -, -, hrd⟩ := own_view hown
            have hcw : w3.cell? (ad.add k) = some (.slice Ac b.length cc) := (j3.bel.cell (by rw [addr_add_block]; exact hbk)).trans hcl2
            have s1 : ∀ nq, (convert 30 9 (.slice A3 b.length c3)).run Try.prog (w3.drewN nq) = .ok (.string (strOfNums b)) (w3.drewN nq) := fun nq => str_of (hrd.drewN nq) rfl
            have s2 : ∀ nq, (convert 30 9 (.slice Ac b.length cc)).run Try.prog (w3.drewN nq) = .ok (.string (strOfNums b)) (w3.drewN nq) := fun nq => str_of ((hrc.below j3.bel).drewN nq) rfl
            have J3 := Lib.hid j3
            have hbq : ((strOfNums b).toList == (strOfNums b).toList) = true := by simp
            clear j3 HS hb hrow hcl2 hown hrd hrc JR
            go_wp2_with fail
            go_quiet (fail)
            go_wp2
            go_roundw
            case rel => exact ⟨k + 1, by go_num, by omega, Lib.hid (J3.out.below (below_drawn (Below.refl _ _) _))⟩
            case measure => simp [intOf]; omega
          · have J0 : Hid (NOwn W wr w1.heap.size []) := by
              have e : (bs.take (min len 400)).drop k = [] := List.drop_of_length_le (by rw [List.length_take]; omega)
              rw [e] at JR
              exact JR
            have HS := Lib.hid (take_own J0.out Nm.ok_nil 0)
            rw [show Nm.pick [] 0 = none from rfl, show Nm.less [] 0 = [] from rfl] at HS
            clear JR J0
            by_cases h1 : k < len
            · have d1 : decide ((k : Int) < (len : Int)) = true := by simpa using h1
              have d2 : decide ((k : Int) < 400) = false := by simp; omega
              go_wp2_with (go_at_call 11; fail)
              refine HS.out.mono ?_
              rintro e w3 ⟨v, rfl, hown, j3⟩
              obtain ⟨A3, c3, rfl, -, -, -⟩ := own_view hown
              have H4 := Lib.hid (len_own j3)
              have H5 := Lib.hid (drop_own j3 Nm.ok_nil 0)
              rw [show Nm.pick [] 0 = none from rfl, show Nm.less [] 0 = [] from rfl] at H5
              clear hown j3 HS
              go_wp2_with (first
                | (go_at_call 18; refine H4.out.mono ?_; rintro e w5 ⟨rfl, rfl⟩)
                | (go_at_call 13; refine H5.out.mono ?_; rintro e w6 ⟨rfl, j6⟩))
              go_ret
              exact ⟨rfl, j6.bel⟩
            · have d1 : decide ((k : Int) < (len : Int)) = false := by simpa using h1
              go_wp2_with (go_at_call 11; fail)
              refine HS.out.mono ?_
              rintro e w3 ⟨v, rfl, hown, j3⟩
              obtain ⟨A3, c3, rfl, -, -, -⟩ := own_view hown
              have H4 := Lib.hid (len_own j3)
              have H5 := Lib.hid (drop_own j3 Nm.ok_nil 0)
              rw [show Nm.pick [] 0 = none from rfl, show Nm.less [] 0 = [] from rfl] at H5
              clear hown j3 HS
              go_wp2_with (first
                | (go_at_call 18; refine H4.out.mono ?_; rintro e w5 ⟨rfl, rfl⟩)
                | (go_at_call 13; refine H5.out.mono ?_; rintro e w6 ⟨rfl, j6⟩))
              go_ret
              exact ⟨rfl, j6.bel⟩
  · have d0 : decide ((1000 : Int) < (len : Int)) = true := by simp; omega
    go_wp2
    go_ret
    exact ⟨rfl, j2.bel⟩
end Go.Proofs.Ytceleihfdpgpiaa
