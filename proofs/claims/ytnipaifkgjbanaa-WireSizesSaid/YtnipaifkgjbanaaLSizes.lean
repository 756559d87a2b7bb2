import Derived.Test.YtnipaifkgjbanaaKit2
namespace Go.Proofs.Ytnipaifkgjbanaa
open Go.RowKit Go.Shelf

set_option maxRecDepth 100000 in
set_option maxHeartbeats 2000000 in
theorem sizes_walk (a0 : Int) (w0 : (Lit.int .i64 a0).wf = true) (w : World) :
    Calls Try.prog 9 #[.int .i64 a0] w fun e w' => e = .returned (.bool true) ∧ Below w.heap.size w w' := by
  have b0 := wf_i64 w0
  clear w0
  have hpl := Wm.pint_len a0
  have hlo := Wm.mag_lo b0.1 b0.2
  have HC := Lib.hid (Wm.pint_cnt b0.1 b0.2)
  have HP := Lib.hid (Wm.mag_pow b0.1 b0.2)
  have hwl := Wm.wrap_lo a0
  have HI := Lib.hid (fun i c => Wm.pint_init b0.1 b0.2 (i := i) (c := c))
  have HF := Lib.hid (Wm.pint_final b0.1 b0.2)
  have HX : Hid (a0 < 0 → bits .xor .u64 IntKind.u64.max (IntKind.u64.wrap a0) = Wm.mag a0) := fun h => by
    rw [Bt.u64_xorMax hwl.1 hwl.2]; exact Wm.mag_xor h b0.1
  have HG : Hid (¬ a0 < 0 → a0 = Wm.mag a0) := fun h => (Wm.mag_pos h).symm
  clear hwl
  by_cases hn : a0 < 0
  all_goals
    go_enter Try.func9, Try.ntmps9
    go_wp2_with (first | (go_at_call 11; refine (head_any _).mono ?_; rintro e w1 ⟨rfl, hb1⟩) | (go_at_call 14; refine (PutInt_any _ _ b0.1 b0.2).mono ?_; rintro e w2 ⟨v, rfl, hown, hb2⟩; obtain ⟨g, cap, rfl, -, -⟩ := hown.form (by omega); have hcp := own_cap hown))
    go_loop [5, 6] (fun u wt => ∃ (j : Nat) (v : Int) (t : Nat), u = .int .u64 v ∧ wt = .int .i64 (t : Int) ∧ 0 ≤ v ∧ v ≤ 18446744073709551615 ∧ Hid (v < 128 ^ j) ∧ t ≤ 10 ∧ Hid ((Wm.pint a0).length = t + Wm.cntF j v))
      (fun u _ => (intOf u).toNat)
    case atStart =>
      refine ⟨9, Wm.mag a0 / 64, 1, ?_, rfl, by omega, by omega, HP, by omega, HC⟩
      first | rw [HX.out (by omega)] | rw [← HG.out (by omega)]
    case round =>
      obtain ⟨j, v, t, rfl, rfl, hv0, hv1, hV, ht, hL⟩ := hrel
      by_cases hlt : 0 < v
      · obtain ⟨j, rfl⟩ : ∃ i, j = i + 1 := by
          cases j with
          | zero => have := hV.out; simp at this; omega
          | succ i => exact ⟨i, rfl⟩
        have HL2 : Hid ((Wm.pint a0).length = (t + 1) + Wm.cntF j (v / 128)) := by
          have h := hL.out
          rw [Wm.cntF_more (by omega)] at h
          show _ = _
          omega
        have ht2 : t + 1 ≤ 10 := by have := HL2.out; omega
        go_wp2
        go_round
        case rel => exact ⟨j, v / 128, t + 1, rfl, by go_num, by omega, by omega, Lib.hid (Wm.lt_pow_cnt hV.out), ht2, HL2⟩
        case measure => simp [intOf]; omega
      · have e : t = (Wm.pint a0).length := by have h := hL.out; rw [Wm.cntF_end (by omega)] at h; omega
        subst e
        clear hL
        go_wp2
        go_loop [7] (fun ix => ∃ i : Nat, ix = .int .i64 (i : Int) ∧ i + 1 ≤ (Wm.pint a0).length) (fun ix => (Wm.pint a0).length - (intOf ix).toNat)
        case atStart => exact ⟨0, rfl, by omega⟩
        case round =>
          obtain ⟨i, rfl, hi⟩ := hrel
          by_cases hlt : i + 1 < (Wm.pint a0).length
          · obtain ⟨c, hc⟩ : ∃ c, (Wm.pint a0)[i]? = some c := ⟨(Wm.pint a0)[i], List.getElem?_eq_getElem (by omega)⟩
            have hc0 := HI.out i c hlt hc
            have hcl : w2.cell? ⟨g, i, none⟩ = some (.int .u8 c) := by
              rw [hown.cellAt i (by omega), List.getElem?_map, hc]; rfl
            clear hc
            go_wp2
            go_round
            case rel => exact ⟨i + 1, by go_num, by omega⟩
            case measure => simp [intOf]; omega
          · obtain ⟨c, hc, c0, c1, c2⟩ := HF.out
            have hcl : w2.cell? ⟨g, (Wm.pint a0).length - 1, none⟩ = some (.int .u8 c) := by
              rw [hown.cellAt _ (by omega), List.getElem?_map, hc]; rfl
            clear hc
            by_cases h1 : (Wm.pint a0).length ≤ 1
            · have hq1 : (((Wm.pint a0).length : Int) == 1) = true := by rw [beq_iff_eq]; omega
              have hcl0 : w2.cell? ⟨g, 0, none⟩ = some (.int .u8 c) := by rw [← hcl]; congr 2; omega
              clear c2
              go_wp2
              go_ret
              exact ⟨rfl, hb1.trans (hb2.mono hb1.size)⟩
            · have hq1 : (((Wm.pint a0).length : Int) == 1) = false := by rw [beq_eq_false_iff_ne]; omega
              have hq2 : (c != 0) = true := by rw [bne_iff_ne]; omega
              clear c2
              go_wp2
              go_ret
              exact ⟨rfl, hb1.trans (hb2.mono hb1.size)⟩
end Go.Proofs.Ytnipaifkgjbanaa
