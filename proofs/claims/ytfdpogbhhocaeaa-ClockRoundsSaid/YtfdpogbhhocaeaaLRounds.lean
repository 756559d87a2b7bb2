/- ClockRounds, walked. -/
import Derived.Test.YtfdpogbhhocaeaaCo
import Derived.Test.YtfdpogbhhocaeaaCz
import Derived.Test.YtfdpogbhhocaeaaLDrifts
import Derived.Test.YtfdpogbhhocaeaaCr
namespace Go.Proofs.Ytfdpogbhhocaeaa
open Go.RowKit Go.Shelf Km

/-- the nodes below n -/
def upTo (n : Nat) : List Int := (List.range n).map fun k : Nat => (k : Int)
theorem upTo_succ (n : Nat) : upTo (n + 1) = upTo n ++ [(n : Int)] := by unfold upTo; rw [List.range_succ, List.map_append]; rfl
theorem upTo_len (n : Nat) : (upTo n).length = n := by unfold upTo; rw [List.length_map, List.length_range]
theorem upTo_mem {n : Nat} {x : Int} (h : x ∈ upTo n) : 0 ≤ x ∧ x < (n : Int) := by
  unfold upTo at h
  obtain ⟨k, hk, rfl⟩ := List.mem_map.1 h
  have := List.mem_range.1 hk
  omega
theorem round_next (n : Nat) (b : Int) {k : Nat} (h : k < n) : (Cl.round n b).take (k + 1) = (Cl.round n b).take k ++ [((k : Int), b)] := by
  have e : (Cl.round n b)[k]? = some ((k : Int), b) := by
    unfold Cl.round
    rw [List.getElem?_map, List.getElem?_range h]
    rfl
  rw [List.take_add_one, e]
  rfl
theorem rounds_snoc (n : Nat) (bs : List Int) (b : Int) : Cl.rounds n (bs ++ [b]) = Cl.rounds n bs ++ Cl.round n b := by
  induction bs with
  | nil => show Cl.round n b ++ [] = [] ++ Cl.round n b; rw [List.append_nil, List.nil_append]
  | cons c bs ih => show Cl.round n c ++ Cl.rounds n (bs ++ [b]) = (Cl.round n c ++ Cl.rounds n bs) ++ Cl.round n b; rw [ih, List.append_assoc]
theorem rounds_wl (n : Nat) (hn : n ≤ 4) : ∀ (bs : List Int), (∀ b ∈ bs, 0 ≤ b ∧ b ≤ 255) → Wl (Cl.rounds n bs)
  | [], _ => fun p hp => by cases hp
  | b :: bs, h => fun p hp => by
    rcases List.mem_append.1 (show p ∈ Cl.round n b ++ Cl.rounds n bs from hp) with hp | hp
    · unfold Cl.round at hp
      obtain ⟨k, hk, rfl⟩ := List.mem_map.1 hp
      have h1 := List.mem_range.1 hk
      have h2 := h b List.mem_cons_self
      exact ⟨⟨by dsimp only; omega, by dsimp only; omega⟩, by dsimp only; omega, by dsimp only; omega⟩
    · exact rounds_wl n hn bs (fun b hb => h b (List.mem_cons_of_mem _ hb)) p hp

set_option maxRecDepth 100000 in
set_option maxHeartbeats 8000000 in
theorem rounds_walk (a0 : Option Addr) (len0 cap0 : Nat) (z0 : List Int) (a1 a2 : Int) (w : World)
    (w0 : RowOf .u8 w a0 len0 cap0 z0) (w1 : (Lit.int .u8 a1).wf = true) (w2 : (Lit.int .u8 a2).wf = true) :
    Calls Try.prog 6 #[.slice a0 len0 cap0, .int .u8 a1, .int .u8 a2] w fun e w' => e = .returned (.bool true) ∧ Below w.heap.size w w' := by
  obtain ⟨bs, hn, hnc, hcm, hr, hb⟩ := row_rd w0
  have one : ∀ a : Int, (Lit.int .u8 a).wf = true → 0 ≤ a ∧ a ≤ 255 := fun a h => wf_u8 (xs := [a]) (fun n hn => by rw [List.mem_singleton] at hn; subst hn; exact h) a (List.mem_singleton.2 rfl)
  have hu1 := one a1 w1
  have hu2 := one a2 w2
  have HBS : Hid (∀ b ∈ bs, 0 ≤ b ∧ b ≤ 255) := Lib.hid (wf_u8 hb)
  have hm9 : len0 ≤ 9223372036854775807 := by unfold maxLen at hcm; omega
  clear w0 w1 w2 one hb
  have HN := Lib.hid hn
  have HR := Lib.hid hr
  clear hn hr
  go_enter Try.func6, Try.ntmps6
  go_wp2_with (go_at_call 8; fail)
  refine (head_any _).mono ?_
  rintro e w1 ⟨rfl, hb1⟩
  by_cases hg : len0 ≤ 8
  · have d1 : decide ((8 : Int) < (len0 : Int)) = false := by simp; omega
    obtain ⟨q, hq, hql⟩ : ∃ q : Nat, a1 % 4 = (q : Int) ∧ q < 4 := ⟨(a1 % 4).toNat, by omega, by omega⟩
    have ht : a1.tmod 4 = (q : Int) := by rw [Int.tmod_eq_emod_of_nonneg hu1.1]; exact hq
    have hw1 : IntKind.i64.wrap (q : Int) = (q : Int) := by rw [IntKind.wrap_i64]; omega
    have hw2 : IntKind.i64.wrap (1 + (q : Int)) = ((q + 1 : Nat) : Int) := by rw [IntKind.wrap_i64]; omega
    go_wp2_with fail
    obtain ⟨i0, hi0, hz0, hy0, ht0⟩ := info_parts info_int
    obtain ⟨i1, hi1, hz1, hy1, ht1⟩ := info_parts info_step
    have HB1 := Lib.hid hb1
    clear hb1 ht hw1 hw2 d1 hq
    go_loopg [11, 12] (q + 1) (fun gh av ix wr => ∃ (k : Nat) (A : Option Addr) (c : Nat), gh + k = q + 1 ∧ av = .slice A k c ∧ ix = .int .i64 (k : Int) ∧ Hid (wr.ownsRow w.heap.size 3 1 (.slice A k c) k (i64s (upTo k))) ∧ Hid (Below w.heap.size w wr))
    case atStart => exact ⟨0, none, 0, by omega, rfl, rfl, Lib.hid (World.ownsRow_nil _ _ _ _), HB1⟩
    case round =>
      clear HB1
      obtain ⟨k, A, c, hk, rfl, rfl, HO, HB⟩ := hrel
      by_cases hlt : k < q + 1
      · have d3 : (k : Int) < (q : Int) + 1 := by omega
        have hsz := HB.out.size
        go_wp2_with (at_builtin; refine wpList_append_own _ rfl _ _ 23 rfl w.heap.size 3 i0 (.int .i64 0) 1 8 Try.underlying23 hi0 hz0 hy0 ht0 rfl (by decide) _ _ _ rfl (HO.out.alloc _) ⟨wr.heap.size, 0, none⟩ 1 1 [.int .i64 (k : Int)] rfl rfl (cell_one_new _ _ _) (by simp [Value.oneCell']) (by unfold maxLen; omega) (by omega) (by simp; omega) ?_; intro v' w2 hown' hgrow _; have HB2 := Lib.hid (below_appS (HB.out.alloc hsz _) (HO.out.alloc _) hgrow (by simp; omega)); obtain ⟨A2, c2, rfl, -⟩ := own_viewS hown'; clear hgrow)
        have HO2 : Hid (w2.ownsRow w.heap.size 3 1 (.slice A2 (k + 1) c2) (k + 1) (i64s (upTo (k + 1)))) := Lib.hid (by rw [upTo_succ]; unfold i64s at hown' ⊢; rw [List.map_append]; exact hown')
        clear hown'
        go_roundg (gk - 1)
        case measure => omega
        case rel => exact ⟨k + 1, A2, c2, by omega, rfl, by go_num, HO2, HB2⟩
      · obtain rfl : k = q + 1 := by omega
        have d3 : decide (((q + 1 : Nat) : Int) < (q : Int) + 1) = false := by simp
        go_wp2_with fail
        generalize hcap : c = c11 at *
        clear hcap hk
        go_loopg [9, 10, 13] len0 (fun gh mx lv ix wx => ∃ (i : Nat) (m : Int) (L : Option Addr) (d : Nat), gh + i = len0 ∧ mx = .int .i64 m ∧ lv = .slice L (i * (q + 1)) d ∧ ix = .int .i64 (i : Int) ∧ (0 ≤ m ∧ m ≤ 255) ∧ Hid (∀ b ∈ bs.take i, b ≤ m) ∧
          Hid (wx.ownsRow w.heap.size 30 2 (.slice L (i * (q + 1)) d) (i * (q + 1)) (svs (Cl.rounds (q + 1) (bs.take i)))) ∧ Hid (wx.ownsRow w.heap.size 3 1 (.slice A (q + 1) c11) (q + 1) (i64s (upTo (q + 1)))) ∧ Hid (Below w.heap.size w wx))
        case atStart => exact ⟨0, 0, none, 0, by omega, rfl, by rw [Nat.zero_mul], rfl, by omega, Lib.hid (fun b hb => by rw [List.take_zero] at hb; cases hb), Lib.hid (by rw [Nat.zero_mul]; exact World.ownsRow_nil _ _ _ _), HO, HB⟩
        case round =>
          clear HO HB
          obtain ⟨i, m, L, d, hi, rfl, rfl, rfl, hmb, HM, HO1, HO, HB⟩ := hrel
          obtain ⟨g0, rfl⟩ : ∃ z, z = gk := ⟨_, rfl⟩
          have hsz := HB.out.size
          by_cases hin : i < len0
          · have d4 : (i : Int) < (len0 : Int) := by omega
            obtain ⟨b, hbx⟩ : ∃ b, bs[i]? = some b := ⟨bs[i]'(by rw [HN.out]; exact hin), List.getElem?_eq_getElem _⟩
            obtain ⟨ad, rfl, hab, hcx⟩ := (HR.out.below HB.out) i (.int .u8 b) (by rw [List.getElem?_map, hbx]; rfl)
            have hbb := HBS.out b (List.mem_of_getElem? hbx)
            have hwb : IntKind.i64.wrap b = b := by rw [IntKind.wrap_i64]; omega
            have HBX := Lib.hid hbx
            clear hbx
            go_wp2_with fail
            clear hcx hab
            have hle : i * (q + 1) ≤ 7 * 4 := Nat.mul_le_mul (by omega) (by omega)
            go_loopg [10, 14] (q + 1) (fun gh lv kx wx => ∃ (k : Nat) (L : Option Addr) (d : Nat), gh + k = q + 1 ∧ lv = .slice L (i * (q + 1) + k) d ∧ kx = .int .i64 (k : Int) ∧
              Hid (wx.ownsRow w.heap.size 30 2 (.slice L (i * (q + 1) + k) d) (i * (q + 1) + k) (svs (Cl.rounds (q + 1) (bs.take i) ++ (Cl.round (q + 1) b).take k))) ∧ Hid (wx.ownsRow w.heap.size 3 1 (.slice A (q + 1) c11) (q + 1) (i64s (upTo (q + 1)))) ∧ Hid (Below w.heap.size w wx))
            case atStart => exact ⟨0, L, d, by omega, rfl, rfl, Lib.hid (by rw [List.take_zero, List.append_nil]; exact HO1.out), HO, HB⟩
            case round =>
              clear HO1 HO HB hsz
              obtain ⟨k, L, d, hk, rfl, rfl, HO1, HO, HB⟩ := hrel
              have hsz := HB.out.size
              by_cases hkn : k < q + 1
              · have d5 : (k : Int) < (q : Int) + 1 := by omega
                obtain ⟨ad2, e2, -, hcx⟩ := (HR.out.below HB.out) i (.int .u8 b) (by rw [List.getElem?_map, HBX.out]; rfl)
                cases e2
                go_wp2_with (at_builtin; refine wpList_append_own _ rfl _ _ 22 rfl w.heap.size 30 i1 (.agg #[.int .i64 0, .int .i64 0]) 2 16 Try.underlying22 hi1 hz1 hy1 ht1 rfl (by decide) (.slice L (i * (q + 1) + k) d) (i * (q + 1) + k) _ rfl (HO1.out.alloc _) ⟨wr.heap.size, 0, none⟩ 1 1 (sv ((k : Int), b)) rfl rfl (cells_new _ _ _) (by simp [sv, Value.oneCell']) (by unfold maxLen; omega) (by omega) (by simp; omega) ?_; intro v' w2 hown' hgrow _; obtain ⟨L2, d2, rfl, -⟩ := own_viewS hown'; have HGR := Lib.hid hgrow; clear hgrow)
                have HB2 := Lib.hid (below_appS (HB.out.alloc hsz _) (HO1.out.alloc _) HGR.out (by simp; omega))
                have HO2 := Lib.hid ((HO.out.alloc _).kept HGR.out (own_apart HO1.out HO.out (by decide)))
                have HO3 : Hid (w2.ownsRow w.heap.size 30 2 (.slice L2 (i * (q + 1) + (k + 1)) d2) (i * (q + 1) + (k + 1)) (svs (Cl.rounds (q + 1) (bs.take i) ++ (Cl.round (q + 1) b).take (k + 1)))) := Lib.hid (by rw [round_next _ _ hkn, ← List.append_assoc, svs_app]; exact hown')
                clear hown' hcx
                go_roundg (gk - 1)
                case measure => omega
                case rel => exact ⟨k + 1, L2, d2, by omega, rfl, by go_num, HO3, HO2, HB2⟩
              · obtain rfl : k = q + 1 := by omega
                have d5 : decide (((q + 1 : Nat) : Int) < (q : Int) + 1) = false := by simp
                have ht : bs.take (i + 1) = bs.take i ++ [b] := by rw [List.take_add_one, HBX.out]; rfl
                have HM2 : Hid (∀ c ∈ bs.take (i + 1), c ≤ max m b) := Lib.hid (fun c hc => by
                  rw [ht] at hc
                  rcases List.mem_append.1 hc with h | h
                  · exact Int.le_trans (HM.out c h) (Int.le_max_left _ _)
                  · cases List.mem_singleton.1 h; exact Int.le_max_right _ _)
                have HO2 : Hid (wr.ownsRow w.heap.size 30 2 (.slice L ((i + 1) * (q + 1)) d) ((i + 1) * (q + 1)) (svs (Cl.rounds (q + 1) (bs.take (i + 1))))) := Lib.hid (by
                  have h := HO1.out
                  rw [List.take_of_length_le (l := Cl.round (q + 1) b) (by rw [Cl.round_len]; exact Nat.le_refl _)] at h
                  rw [ht, rounds_snoc, Nat.succ_mul]
                  exact h)
                have hmm : 0 ≤ max m b ∧ max m b ≤ 255 := by omega
                clear HM HO1 ht
                go_wp2
                go_roundg (g0 - 1)
                case measure => omega
                case rel => exact ⟨i + 1, max m b, L, d, by omega, rfl, by rw [Nat.succ_mul], by go_num, hmm, HM2, HO2, HO, HB⟩
          · obtain rfl : i = len0 := by omega
            have d4 : decide ((i : Int) < (i : Int)) = false := by simp
            have hle : i * (q + 1) ≤ 8 * 4 := Nat.mul_le_mul (by omega) (by omega)
            obtain ⟨A9, c9, e9, hc9, hm9', hr9⟩ := own_viewS HO.out
            obtain ⟨L9, d9, e8, hd9, hm8, hr8⟩ := own_viewS HO1.out
            cases e9
            cases e8
            have e7 : bs.take i = bs := List.take_of_length_le (by rw [HN.out]; exact Nat.le_refl _)
            rw [e7] at hr8 HM
            have hll : (Cl.rounds (q + 1) bs).length = i * (q + 1) := by rw [Cl.rounds_len, HN.out]
            have HDR := Lib.hid (Cl.dr_rounds (n := q + 1) hmb.1 (bs := bs) (fun b hb => ⟨(HBS.out b hb).1, by have := (HBS.out b hb).2; omega, HM.out b hb⟩) (upTo (q + 1)) (fun a ha => upTo_mem ha) a2)
            have HD := Lib.hid (Drift_any L (i * (q + 1)) d wr.heap.size (Cl.rounds (q + 1) bs) A (q + 1) c11 wr.heap.size (upTo (q + 1)) (a2 + 2 * m + 1) A (q + 1) c11 wr.heap.size (upTo (q + 1)) a2 wr hr8 hll hd9 (Nat.le_refl _) (rounds_wl (q + 1) (by omega) bs HBS.out) (by omega)
              hr9 (upTo_len _) (Nat.le_refl _) (fun x hx => by have := upTo_mem hx; unfold in64; omega) (by omega) hr9 (upTo_len _) (Nat.le_refl _) (fun x hx => by have := upTo_mem hx; unfold in64; omega) (by omega))
            have hw2 : IntKind.i64.wrap a2 = a2 := by rw [IntKind.wrap_i64]; omega
            have hw3 : IntKind.i64.wrap (2 * m) = 2 * m := by rw [IntKind.wrap_i64]; omega
            have hw4 : IntKind.i64.wrap (a2 + 2 * m) = a2 + 2 * m := by rw [IntKind.wrap_i64]; omega
            have hw5 : IntKind.i64.wrap (a2 + 2 * m + 1) = a2 + 2 * m + 1 := by rw [IntKind.wrap_i64]; omega
            clear hr8 hr9 HM e7 hll
            go_wp2_with (go_at_call 12; fail)
            refine HD.out.mono ?_
            rintro e w9 ⟨b9, rfl, hbi, hb9⟩
            obtain rfl := hbi.2 HDR.out
            have HB9 := Lib.hid (HB.out.trans (hb9.mono hsz))
            clear hbi hb9
            go_wp2
            go_ret
            exact ⟨rfl, HB9.out⟩
  · have d1 : decide ((8 : Int) < (len0 : Int)) = true := by simp; omega
    go_wp2
    go_ret
    exact ⟨rfl, hb1⟩
end Go.Proofs.Ytfdpogbhhocaeaa
