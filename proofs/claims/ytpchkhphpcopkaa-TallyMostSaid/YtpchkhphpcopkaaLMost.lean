/- TallyMost, walked. -/
import Derived.Test.YtpchkhphpcopkaaLAll
import Derived.Test.YtpchkhphpcopkaaTj
import Derived.Laws.BitsAllLaws
namespace Go.Proofs.Ytpchkhphpcopkaa
open Go.RowKit Go.Shelf Km Kx

theorem pow_small {k : Nat} (hk : k < 64) : 2 ^ k < 18446744073709551616 := by
  rw [show (18446744073709551616 : Nat) = 2 ^ 64 from rfl]; exact Nat.pow_lt_pow_right (by decide) hk
theorem and_pow (u k : Nat) : u &&& 2 ^ k = if u.testBit k = true then 2 ^ k else 0 := by
  apply Nat.eq_of_testBit_eq
  intro j
  rw [Nat.testBit_and, Nat.testBit_two_pow]
  by_cases e : k = j
  · subst e
    rw [decide_eq_true rfl, Bool.and_true]
    split
    · rename_i h; rw [h, Nat.testBit_two_pow_self]
    · rename_i h; rw [Nat.zero_testBit]; simpa using h
  · rw [decide_eq_false e, Bool.and_false]
    split
    · rw [Nat.testBit_two_pow, decide_eq_false e]
    · rw [Nat.zero_testBit]
/-- a bit of a mask, asked -/
theorem bit_asked {k : Nat} (hk : k < 64) : ∃ X : Nat, 0 < X ∧ IntKind.u64.wrap ((2 : Int) ^ k) = (X : Int) ∧ ∀ u : Nat, u < 18446744073709551616 → (u.testBit k = true → bits BinOp.and IntKind.u64 (u : Int) (X : Int) = (X : Int)) ∧ (u.testBit k = false → bits BinOp.and IntKind.u64 (u : Int) (X : Int) = 0) := by
  have e : ((2 : Int) ^ k) = ((2 ^ k : Nat) : Int) := by simp
  refine ⟨2 ^ k, Nat.two_pow_pos k, ?_, fun u hu => ?_⟩
  · have := pow_small hk
    rw [e]
    generalize 2 ^ k = q at *
    rw [IntKind.wrap_u64]; omega
  · rw [u64_and_nat u (2 ^ k) hu (pow_small hk), and_pow]
    exact ⟨fun h => by rw [if_pos h], fun h => by rw [h]; rfl⟩

set_option maxRecDepth 100000 in
set_option maxHeartbeats 4000000 in
theorem most_walk (a0 : Option Addr) (len0 cap0 : Nat) (l : List Tm.Vt) (a1 a2 a3 a4 a5 : Int) (w : World) (w0 : VtsAt w a0 len0 cap0 l) (w1 : (Lit.int .u8 a1).wf = true) (_w2 : (Lit.int .i64 a2).wf = true) (_w3 : (Lit.int .i64 a3).wf = true) (w4 : (Lit.int .u8 a4).wf = true) (w5 : (Lit.int .u8 a5).wf = true) :
    Calls Try.prog 4 #[.slice a0 len0 cap0, .int .u8 a1, .int .i64 a2, .int .i64 a3, .int .u8 a4, .int .u8 a5] w fun e w' => e = .returned (.bool true) ∧ Below w.heap.size w w' := by
  have HB := Lib.hid (Bxs.start w)
  obtain ⟨p1, q1⟩ := wf_one (lo := 0) (hi := 255) rfl rfl w1
  obtain ⟨p4, q4⟩ := wf_one (lo := 0) (hi := 255) rfl rfl w4
  obtain ⟨p5, q5⟩ := wf_one (lo := 0) (hi := 255) rfl rfl w5
  obtain ⟨n, rfl⟩ : ∃ n : Nat, a1 = (n : Int) := ⟨a1.toNat, by omega⟩
  obtain ⟨hn, -, -, hwl, hr⟩ := w0
  have HN := Lib.hid hn
  have HR := Lib.hid hr
  have HW := Lib.hid hwl
  have e1 : IntKind.i64.wrap (n : Int) = (n : Int) := by rw [IntKind.wrap_i64]; omega
  clear hn hr hwl w1 _w2 _w3 w4 w5
  by_cases hg : 300 < len0
  · have d1 : decide ((300 : Int) < (len0 : Int)) = true := by simp; omega
    go_enter Try.func4, Try.ntmps4
    go_wp2_with (first | (go_at_call 9; refine Calls.mono (head_any _) ?_; rintro e w_ ⟨rfl, hb_⟩; replace HB := Lib.hid (HB.out.call hb_); clear hb_))
    go_ret
    exact ⟨rfl, HB.out.below⟩
  have d1 : decide ((300 : Int) < (len0 : Int)) = false := by simp; omega
  obtain ⟨ka, hka⟩ : ∃ ka : Nat, a4 % 64 = (ka : Int) := ⟨(a4 % 64).toNat, by omega⟩
  obtain ⟨kb, hkb⟩ : ∃ kb : Nat, a5 % 64 = (kb : Int) := ⟨(a5 % 64).toNat, by omega⟩
  have ka1 : ka < 64 := by omega
  have kb1 : kb < 64 := by omega
  obtain ⟨tt, htt⟩ : ∃ tt, Tm.tally l n a2 a3 = tt := ⟨_, rfl⟩
  have ltt : tt < 18446744073709551616 := by rw [← htt]; exact Tm.tally_lt _ _ _ _
  have T0 : Hid (∀ W, Rd W W.heap.size a0 (vvs l) → Calls Try.prog 13 #[.slice a0 len0 cap0, .int .i64 (n : Int), .int .i64 a2, .int .i64 a3] W fun e w' => e = .returned (.int .u64 (tt : Int)) ∧ Below W.heap.size W w') := Lib.hid (fun W hr => by
    have h := Tally_any a0 len0 cap0 _ l n a2 a3 W hr (Nat.le_refl _) HN.out (by omega) HW.out ⟨by omega, by omega⟩
    rwa [htt] at h)
  have HTT := Lib.hid htt
  clear htt
  obtain ⟨X, hX, hwx, hxa⟩ := bit_asked ka1
  obtain ⟨Y, hY, hwy, hya⟩ := bit_asked kb1
  have HXA := Lib.hid hxa
  have HYA := Lib.hid hya
  have x0 : ((X : Int) == 0) = false := by simp; omega
  have y0 : ((Y : Int) == 0) = false := by simp; omega
  have x1 : ¬ ((X : Int) = 0) := by omega
  have y1 : ¬ ((Y : Int) = 0) := by omega
  have x2 : ((X : Int) != 0) = true := by simp; omega
  have y2 : ((Y : Int) != 0) = true := by simp; omega
  have x3 : ¬ (X = 0) := by omega
  have y3 : ¬ (Y = 0) := by omega
  clear hxa hya
  cases hbx : tt.testBit ka with
  | false =>
    have f1 := (HXA.out tt ltt).2 hbx
    clear hbx HXA HYA
    go_enter Try.func4, Try.ntmps4
    go_wp2_with (first | (go_at_call 9; refine Calls.mono (head_any _) ?_; rintro e w_ ⟨rfl, hb_⟩; replace HB := Lib.hid (HB.out.call hb_); clear hb_) | (go_at_call 13; refine Calls.mono (T0.out _ ((HR.out.below HB.out.below).more HB.out.size)) ?_; rintro e w_ ⟨rfl, hb_⟩; replace HB := Lib.hid (HB.out.call hb_); clear hb_))
    go_ret
    exact ⟨rfl, HB.out.below⟩
  | true =>
    have f1 := (HXA.out tt ltt).1 hbx
    cases hby : tt.testBit kb with
    | false =>
      have f2 := (HYA.out tt ltt).2 hby
      clear hbx hby HXA HYA
      go_enter Try.func4, Try.ntmps4
      go_wp2_with (first | (go_at_call 9; refine Calls.mono (head_any _) ?_; rintro e w_ ⟨rfl, hb_⟩; replace HB := Lib.hid (HB.out.call hb_); clear hb_) | (go_at_call 13; refine Calls.mono (T0.out _ ((HR.out.below HB.out.below).more HB.out.size)) ?_; rintro e w_ ⟨rfl, hb_⟩; replace HB := Lib.hid (HB.out.call hb_); clear hb_))
      go_ret
      exact ⟨rfl, HB.out.below⟩
    | true =>
      have f2 := (HYA.out tt ltt).1 hby
      have hn0 : 0 < n := by
        rcases Nat.eq_zero_or_pos n with h | h
        · exfalso
          have h2 := HTT.out
          rw [h, Tm.tally, if_neg (by decide)] at h2
          rw [← h2, Nat.zero_testBit] at hbx
          cases hbx
        · exact h
      have HEX : Hid (∃ v ∈ l, Tm.fresh n a2 a3 v = true ∧ v.u.testBit ka = true ∧ v.u.testBit kb = true) := Lib.hid (by
        rw [← HTT.out, Tm.tally_bit (by omega), Bool.and_eq_true] at hbx hby
        exact Tm.most_both (of_decide_eq_true hbx.2) (of_decide_eq_true hby.2))
      have hi : (Try.prog.info? 25).map (·.size) = some 3 := by kernel_rfl
      clear hbx hby hX hY hn0 HTT
      go_enter Try.func4, Try.ntmps4
      go_wp2_with (first | (go_at_call 9; refine Calls.mono (head_any _) ?_; rintro e w_ ⟨rfl, hb_⟩; replace HB := Lib.hid (HB.out.call hb_); clear hb_) | (go_at_call 13; refine Calls.mono (T0.out _ ((HR.out.below HB.out.below).more HB.out.size)) ?_; rintro e w_ ⟨rfl, hb_⟩; replace HB := Lib.hid (HB.out.call hb_); clear hb_))
      clear hka hkb
      go_loopg [17] len0 (fun gh ix wr => ∃ k : Nat, gh + k = len0 ∧ ix = .int .i64 (k : Int) ∧ Hid (Bxs w wr []) ∧ Hid (∀ (j : Nat) (x : Tm.Vt), j < k → l[j]? = some x → ¬ (Tm.fresh n a2 a3 x = true ∧ x.u.testBit ka = true ∧ x.u.testBit kb = true)))
      case atStart => exact ⟨0, by omega, rfl, HB, Lib.hid (fun j x hj => by omega)⟩
      case round =>
        clear HB
        obtain ⟨k, hk, rfl, HB, HI⟩ := hrel
        by_cases hlt : k < len0
        · obtain ⟨x, hx⟩ : ∃ x, l[k]? = some x := ⟨l[k]'(by rw [HN.out]; exact hlt), List.getElem?_eq_getElem _⟩
          obtain ⟨ad, rfl, -, hcc⟩ := HR.out.vts hx
          obtain ⟨ad', e', -, -, hcu, -⟩ := HR.out.who hx
          cases e'
          have HV := Lib.hid hcc
          have HC := Lib.hid hcu
          have HX := Lib.hid hx
          obtain ⟨-, hu, -⟩ := HW.out x (List.mem_of_getElem? hx)
          have HFR0 : Hid (∀ W, Calls Try.prog 15 #[.agg (vv x).toArray, .int .i64 (n : Int), .int .i64 a2, .int .i64 a3] W fun e w' => e = .returned (.bool (Tm.fresh n a2 a3 x)) ∧ Below W.heap.size W w') := Lib.hid (fun W => RFresh_any x n a2 a3 W)
          have d3 : (k : Int) < (len0 : Int) := by omega
          clear hcc hcu hx
          cases hux : x.u.testBit ka with
          | false =>
            have g1 := (HXA.out x.u hu).2 hux
            have HQ := Lib.hid hux
            have HFR := HFR0
            clear hux HFR0 hu
            go_wp2_with (first | (go_at_call 15; refine Calls.mono (HFR.out _) ?_; rintro e w_ ⟨rfl, hb_⟩; replace HB := Lib.hid (HB.out.call hb_); clear hb_) | ((with_reducible refine Kx.loadg_gate ?_); first | (refine wpList_loadg_any 25 _ rfl (ad.add (k * 3)) rfl (vv x) _ (fun j v hv => HB.out.old (HV.out j v hv)) Try.underlying25 rfl hi rfl ?_) | (refine wpList_loadg_cell 23 _ rfl _ rfl (Try.isAgg23 _) _ (HB.out.old HC.out) rfl ?_)) | (first | ((with_reducible refine Kx.absorb HB ?_); clear HB; intro w_ HB) | ((with_reducible refine Kx.box_gate ?_); first | (refine Kx.wpList_boxa_x HB rfl _ _ rfl _ rfl ?_; clear HB; intro b_ w_ HB; refine Kx.framed ?_ (by simp only [Act.put, List.setIfInBounds_toArray, List.set_cons_succ, List.set_cons_zero] <;> rfl)) | (refine Kx.wpList_boxt_x HB rfl _ _ rfl _ rfl rfl ?_; clear HB; intro b_ w_ HB; refine Kx.framed ?_ (by simp only [Act.put, List.setIfInBounds_toArray, List.set_cons_succ, List.set_cons_zero] <;> rfl)) | (refine Kx.wpList_box1_x HB rfl _ _ rfl _ rfl rfl ?_; clear HB; intro b_ w_ HB; refine Kx.framed ?_ (by simp only [Act.put, List.setIfInBounds_toArray, List.set_cons_succ, List.set_cons_zero] <;> rfl))) | ((with_reducible refine Kx.alloc_gate ?_); first | (refine Kx.wpList_alloc1_x HB rfl _ rfl _ (Try.zeroValue23 _) rfl ?_; clear HB; intro b_ w_ HB; refine Kx.framed ?_ (by simp only [Act.put, List.setIfInBounds_toArray, List.set_cons_succ, List.set_cons_zero] <;> rfl))) | ((with_reducible refine Kx.loads_gate ?_); first | (refine Kx.wpList_load1_x HB rfl _ _ rfl _ rfl _ (Try.isAgg23 _) _ rfl (Kx.framed ?_ (by simp only [Act.put, List.setIfInBounds_toArray, List.set_cons_succ, List.set_cons_zero] <;> rfl))) | (refine Kx.wpList_old_x HB rfl _ _ rfl _ rfl (Try.isAgg23 _) _ HC.out (Kx.framed ?_ (by simp only [Act.put, List.setIfInBounds_toArray, List.set_cons_succ, List.set_cons_zero] <;> rfl)))) | ((with_reducible refine Kx.loadg_gate ?_); first | (refine Kx.wpList_loadg_x HB _ _ rfl _ rfl _ (Try.isAgg23 _) _ rfl rfl (Kx.framed ?_ (by simp only [Act.put, List.setIfInBounds_toArray, List.set_cons_succ, List.set_cons_zero] <;> rfl))) | (refine Kx.wpList_oldg_x HB _ _ rfl _ rfl (Try.isAgg23 _) _ HC.out rfl (Kx.framed ?_ (by simp only [Act.put, List.setIfInBounds_toArray, List.set_cons_succ, List.set_cons_zero] <;> rfl)))) | ((with_reducible refine Kx.store_gate ?_); first | (refine Kx.wpList_storewa_x HB rfl rfl _ _ _ rfl _ rfl _ rfl _ (by rfl) (by simp <;> rfl) (by rfl) ?_; clear HB; intro w_ HB) | (refine Kx.wpList_storea_x HB rfl rfl _ _ _ rfl _ rfl _ rfl _ _ (by simp [Kx.splice] <;> rfl) (by simp) (by simp <;> rfl) (by rfl) ?_; clear HB; intro w_ HB) | (refine Kx.wpList_storec_x HB rfl rfl _ _ _ rfl _ rfl rfl _ _ (by simp <;> rfl) (by simp) (by simp <;> rfl) ?_; clear HB; intro w_ HB) | (refine Kx.wpList_storet_x HB rfl rfl _ _ _ rfl _ rfl _ rfl rfl _ _ (by simp <;> rfl) (by simp) (by simp <;> rfl) ?_; clear HB; intro w_ HB) | (refine Kx.wpList_store1_x HB rfl rfl _ _ _ rfl _ rfl _ rfl rfl _ _ (by simp <;> rfl) (by simp) (by simp <;> rfl) ?_; clear HB; intro w_ HB))))
            go_roundg (gk - 1)
            case measure => omega
            case rel => exact ⟨k + 1, by omega, by go_num, HB, Lib.hid (fun j y hj hy => by
              rcases Nat.lt_or_ge j k with h | h
              · exact HI.out j y h hy
              · obtain rfl : j = k := by omega
                rw [HX.out] at hy; cases hy
                intro q; rw [HQ.out] at q; exact absurd q.2.1 (by decide))⟩
          | true =>
            have g1 := (HXA.out x.u hu).1 hux
            cases huy : x.u.testBit kb with
            | false =>
              have g2 := (HYA.out x.u hu).2 huy
              have HQ := Lib.hid huy
              have HFR := HFR0
              clear hux huy HFR0 hu
              go_wp2_with (first | (go_at_call 15; refine Calls.mono (HFR.out _) ?_; rintro e w_ ⟨rfl, hb_⟩; replace HB := Lib.hid (HB.out.call hb_); clear hb_) | ((with_reducible refine Kx.loadg_gate ?_); first | (refine wpList_loadg_any 25 _ rfl (ad.add (k * 3)) rfl (vv x) _ (fun j v hv => HB.out.old (HV.out j v hv)) Try.underlying25 rfl hi rfl ?_) | (refine wpList_loadg_cell 23 _ rfl _ rfl (Try.isAgg23 _) _ (HB.out.old HC.out) rfl ?_)) | (first | ((with_reducible refine Kx.absorb HB ?_); clear HB; intro w_ HB) | ((with_reducible refine Kx.box_gate ?_); first | (refine Kx.wpList_boxa_x HB rfl _ _ rfl _ rfl ?_; clear HB; intro b_ w_ HB; refine Kx.framed ?_ (by simp only [Act.put, List.setIfInBounds_toArray, List.set_cons_succ, List.set_cons_zero] <;> rfl)) | (refine Kx.wpList_boxt_x HB rfl _ _ rfl _ rfl rfl ?_; clear HB; intro b_ w_ HB; refine Kx.framed ?_ (by simp only [Act.put, List.setIfInBounds_toArray, List.set_cons_succ, List.set_cons_zero] <;> rfl)) | (refine Kx.wpList_box1_x HB rfl _ _ rfl _ rfl rfl ?_; clear HB; intro b_ w_ HB; refine Kx.framed ?_ (by simp only [Act.put, List.setIfInBounds_toArray, List.set_cons_succ, List.set_cons_zero] <;> rfl))) | ((with_reducible refine Kx.alloc_gate ?_); first | (refine Kx.wpList_alloc1_x HB rfl _ rfl _ (Try.zeroValue23 _) rfl ?_; clear HB; intro b_ w_ HB; refine Kx.framed ?_ (by simp only [Act.put, List.setIfInBounds_toArray, List.set_cons_succ, List.set_cons_zero] <;> rfl))) | ((with_reducible refine Kx.loads_gate ?_); first | (refine Kx.wpList_load1_x HB rfl _ _ rfl _ rfl _ (Try.isAgg23 _) _ rfl (Kx.framed ?_ (by simp only [Act.put, List.setIfInBounds_toArray, List.set_cons_succ, List.set_cons_zero] <;> rfl))) | (refine Kx.wpList_old_x HB rfl _ _ rfl _ rfl (Try.isAgg23 _) _ HC.out (Kx.framed ?_ (by simp only [Act.put, List.setIfInBounds_toArray, List.set_cons_succ, List.set_cons_zero] <;> rfl)))) | ((with_reducible refine Kx.loadg_gate ?_); first | (refine Kx.wpList_loadg_x HB _ _ rfl _ rfl _ (Try.isAgg23 _) _ rfl rfl (Kx.framed ?_ (by simp only [Act.put, List.setIfInBounds_toArray, List.set_cons_succ, List.set_cons_zero] <;> rfl))) | (refine Kx.wpList_oldg_x HB _ _ rfl _ rfl (Try.isAgg23 _) _ HC.out rfl (Kx.framed ?_ (by simp only [Act.put, List.setIfInBounds_toArray, List.set_cons_succ, List.set_cons_zero] <;> rfl)))) | ((with_reducible refine Kx.store_gate ?_); first | (refine Kx.wpList_storewa_x HB rfl rfl _ _ _ rfl _ rfl _ rfl _ (by rfl) (by simp <;> rfl) (by rfl) ?_; clear HB; intro w_ HB) | (refine Kx.wpList_storea_x HB rfl rfl _ _ _ rfl _ rfl _ rfl _ _ (by simp [Kx.splice] <;> rfl) (by simp) (by simp <;> rfl) (by rfl) ?_; clear HB; intro w_ HB) | (refine Kx.wpList_storec_x HB rfl rfl _ _ _ rfl _ rfl rfl _ _ (by simp <;> rfl) (by simp) (by simp <;> rfl) ?_; clear HB; intro w_ HB) | (refine Kx.wpList_storet_x HB rfl rfl _ _ _ rfl _ rfl _ rfl rfl _ _ (by simp <;> rfl) (by simp) (by simp <;> rfl) ?_; clear HB; intro w_ HB) | (refine Kx.wpList_store1_x HB rfl rfl _ _ _ rfl _ rfl _ rfl rfl _ _ (by simp <;> rfl) (by simp) (by simp <;> rfl) ?_; clear HB; intro w_ HB))))
              go_roundg (gk - 1)
              case measure => omega
              case rel => exact ⟨k + 1, by omega, by go_num, HB, Lib.hid (fun j y hj hy => by
                rcases Nat.lt_or_ge j k with h | h
                · exact HI.out j y h hy
                · obtain rfl : j = k := by omega
                  rw [HX.out] at hy; cases hy
                  intro q; rw [HQ.out] at q; exact absurd q.2.2 (by decide))⟩
            | true =>
              have g2 := (HYA.out x.u hu).1 huy
              cases hfr : Tm.fresh n a2 a3 x with
              | false =>
                have HFR : Hid (∀ W, Calls Try.prog 15 #[.agg (vv x).toArray, .int .i64 (n : Int), .int .i64 a2, .int .i64 a3] W fun e w' => e = .returned (.bool false) ∧ Below W.heap.size W w') := Lib.hid (fun W => by have h := HFR0.out W; rwa [hfr] at h)
                have HQ := Lib.hid hfr
                clear hux huy hfr HFR0 hu
                go_wp2_with (first | (go_at_call 15; refine Calls.mono (HFR.out _) ?_; rintro e w_ ⟨rfl, hb_⟩; replace HB := Lib.hid (HB.out.call hb_); clear hb_) | ((with_reducible refine Kx.loadg_gate ?_); first | (refine wpList_loadg_any 25 _ rfl (ad.add (k * 3)) rfl (vv x) _ (fun j v hv => HB.out.old (HV.out j v hv)) Try.underlying25 rfl hi rfl ?_) | (refine wpList_loadg_cell 23 _ rfl _ rfl (Try.isAgg23 _) _ (HB.out.old HC.out) rfl ?_)) | (first | ((with_reducible refine Kx.absorb HB ?_); clear HB; intro w_ HB) | ((with_reducible refine Kx.box_gate ?_); first | (refine Kx.wpList_boxa_x HB rfl _ _ rfl _ rfl ?_; clear HB; intro b_ w_ HB; refine Kx.framed ?_ (by simp only [Act.put, List.setIfInBounds_toArray, List.set_cons_succ, List.set_cons_zero] <;> rfl)) | (refine Kx.wpList_boxt_x HB rfl _ _ rfl _ rfl rfl ?_; clear HB; intro b_ w_ HB; refine Kx.framed ?_ (by simp only [Act.put, List.setIfInBounds_toArray, List.set_cons_succ, List.set_cons_zero] <;> rfl)) | (refine Kx.wpList_box1_x HB rfl _ _ rfl _ rfl rfl ?_; clear HB; intro b_ w_ HB; refine Kx.framed ?_ (by simp only [Act.put, List.setIfInBounds_toArray, List.set_cons_succ, List.set_cons_zero] <;> rfl))) | ((with_reducible refine Kx.alloc_gate ?_); first | (refine Kx.wpList_alloc1_x HB rfl _ rfl _ (Try.zeroValue23 _) rfl ?_; clear HB; intro b_ w_ HB; refine Kx.framed ?_ (by simp only [Act.put, List.setIfInBounds_toArray, List.set_cons_succ, List.set_cons_zero] <;> rfl))) | ((with_reducible refine Kx.loads_gate ?_); first | (refine Kx.wpList_load1_x HB rfl _ _ rfl _ rfl _ (Try.isAgg23 _) _ rfl (Kx.framed ?_ (by simp only [Act.put, List.setIfInBounds_toArray, List.set_cons_succ, List.set_cons_zero] <;> rfl))) | (refine Kx.wpList_old_x HB rfl _ _ rfl _ rfl (Try.isAgg23 _) _ HC.out (Kx.framed ?_ (by simp only [Act.put, List.setIfInBounds_toArray, List.set_cons_succ, List.set_cons_zero] <;> rfl)))) | ((with_reducible refine Kx.loadg_gate ?_); first | (refine Kx.wpList_loadg_x HB _ _ rfl _ rfl _ (Try.isAgg23 _) _ rfl rfl (Kx.framed ?_ (by simp only [Act.put, List.setIfInBounds_toArray, List.set_cons_succ, List.set_cons_zero] <;> rfl))) | (refine Kx.wpList_oldg_x HB _ _ rfl _ rfl (Try.isAgg23 _) _ HC.out rfl (Kx.framed ?_ (by simp only [Act.put, List.setIfInBounds_toArray, List.set_cons_succ, List.set_cons_zero] <;> rfl)))) | ((with_reducible refine Kx.store_gate ?_); first | (refine Kx.wpList_storewa_x HB rfl rfl _ _ _ rfl _ rfl _ rfl _ (by rfl) (by simp <;> rfl) (by rfl) ?_; clear HB; intro w_ HB) | (refine Kx.wpList_storea_x HB rfl rfl _ _ _ rfl _ rfl _ rfl _ _ (by simp [Kx.splice] <;> rfl) (by simp) (by simp <;> rfl) (by rfl) ?_; clear HB; intro w_ HB) | (refine Kx.wpList_storec_x HB rfl rfl _ _ _ rfl _ rfl rfl _ _ (by simp <;> rfl) (by simp) (by simp <;> rfl) ?_; clear HB; intro w_ HB) | (refine Kx.wpList_storet_x HB rfl rfl _ _ _ rfl _ rfl _ rfl rfl _ _ (by simp <;> rfl) (by simp) (by simp <;> rfl) ?_; clear HB; intro w_ HB) | (refine Kx.wpList_store1_x HB rfl rfl _ _ _ rfl _ rfl _ rfl rfl _ _ (by simp <;> rfl) (by simp) (by simp <;> rfl) ?_; clear HB; intro w_ HB))))
                go_roundg (gk - 1)
                case measure => omega
                case rel => exact ⟨k + 1, by omega, by go_num, HB, Lib.hid (fun j y hj hy => by
                  rcases Nat.lt_or_ge j k with h | h
                  · exact HI.out j y h hy
                  · obtain rfl : j = k := by omega
                    rw [HX.out] at hy; cases hy
                    intro q; rw [HQ.out] at q; exact absurd q.1 (by decide))⟩
              | true =>
                have HFR : Hid (∀ W, Calls Try.prog 15 #[.agg (vv x).toArray, .int .i64 (n : Int), .int .i64 a2, .int .i64 a3] W fun e w' => e = .returned (.bool true) ∧ Below W.heap.size W w') := Lib.hid (fun W => by have h := HFR0.out W; rwa [hfr] at h)
                clear hux huy hfr HFR0 hu
                go_wp2_with (first | (go_at_call 15; refine Calls.mono (HFR.out _) ?_; rintro e w_ ⟨rfl, hb_⟩; replace HB := Lib.hid (HB.out.call hb_); clear hb_) | ((with_reducible refine Kx.loadg_gate ?_); first | (refine wpList_loadg_any 25 _ rfl (ad.add (k * 3)) rfl (vv x) _ (fun j v hv => HB.out.old (HV.out j v hv)) Try.underlying25 rfl hi rfl ?_) | (refine wpList_loadg_cell 23 _ rfl _ rfl (Try.isAgg23 _) _ (HB.out.old HC.out) rfl ?_)) | (first | ((with_reducible refine Kx.absorb HB ?_); clear HB; intro w_ HB) | ((with_reducible refine Kx.box_gate ?_); first | (refine Kx.wpList_boxa_x HB rfl _ _ rfl _ rfl ?_; clear HB; intro b_ w_ HB; refine Kx.framed ?_ (by simp only [Act.put, List.setIfInBounds_toArray, List.set_cons_succ, List.set_cons_zero] <;> rfl)) | (refine Kx.wpList_boxt_x HB rfl _ _ rfl _ rfl rfl ?_; clear HB; intro b_ w_ HB; refine Kx.framed ?_ (by simp only [Act.put, List.setIfInBounds_toArray, List.set_cons_succ, List.set_cons_zero] <;> rfl)) | (refine Kx.wpList_box1_x HB rfl _ _ rfl _ rfl rfl ?_; clear HB; intro b_ w_ HB; refine Kx.framed ?_ (by simp only [Act.put, List.setIfInBounds_toArray, List.set_cons_succ, List.set_cons_zero] <;> rfl))) | ((with_reducible refine Kx.alloc_gate ?_); first | (refine Kx.wpList_alloc1_x HB rfl _ rfl _ (Try.zeroValue23 _) rfl ?_; clear HB; intro b_ w_ HB; refine Kx.framed ?_ (by simp only [Act.put, List.setIfInBounds_toArray, List.set_cons_succ, List.set_cons_zero] <;> rfl))) | ((with_reducible refine Kx.loads_gate ?_); first | (refine Kx.wpList_load1_x HB rfl _ _ rfl _ rfl _ (Try.isAgg23 _) _ rfl (Kx.framed ?_ (by simp only [Act.put, List.setIfInBounds_toArray, List.set_cons_succ, List.set_cons_zero] <;> rfl))) | (refine Kx.wpList_old_x HB rfl _ _ rfl _ rfl (Try.isAgg23 _) _ HC.out (Kx.framed ?_ (by simp only [Act.put, List.setIfInBounds_toArray, List.set_cons_succ, List.set_cons_zero] <;> rfl)))) | ((with_reducible refine Kx.loadg_gate ?_); first | (refine Kx.wpList_loadg_x HB _ _ rfl _ rfl _ (Try.isAgg23 _) _ rfl rfl (Kx.framed ?_ (by simp only [Act.put, List.setIfInBounds_toArray, List.set_cons_succ, List.set_cons_zero] <;> rfl))) | (refine Kx.wpList_oldg_x HB _ _ rfl _ rfl (Try.isAgg23 _) _ HC.out rfl (Kx.framed ?_ (by simp only [Act.put, List.setIfInBounds_toArray, List.set_cons_succ, List.set_cons_zero] <;> rfl)))) | ((with_reducible refine Kx.store_gate ?_); first | (refine Kx.wpList_storewa_x HB rfl rfl _ _ _ rfl _ rfl _ rfl _ (by rfl) (by simp <;> rfl) (by rfl) ?_; clear HB; intro w_ HB) | (refine Kx.wpList_storea_x HB rfl rfl _ _ _ rfl _ rfl _ rfl _ _ (by simp [Kx.splice] <;> rfl) (by simp) (by simp <;> rfl) (by rfl) ?_; clear HB; intro w_ HB) | (refine Kx.wpList_storec_x HB rfl rfl _ _ _ rfl _ rfl rfl _ _ (by simp <;> rfl) (by simp) (by simp <;> rfl) ?_; clear HB; intro w_ HB) | (refine Kx.wpList_storet_x HB rfl rfl _ _ _ rfl _ rfl _ rfl rfl _ _ (by simp <;> rfl) (by simp) (by simp <;> rfl) ?_; clear HB; intro w_ HB) | (refine Kx.wpList_store1_x HB rfl rfl _ _ _ rfl _ rfl _ rfl rfl _ _ (by simp <;> rfl) (by simp) (by simp <;> rfl) ?_; clear HB; intro w_ HB))))
                go_ret
                exact ⟨rfl, HB.out.below⟩
        · exfalso
          obtain ⟨v, hv, h1, h2, h3⟩ := HEX.out
          obtain ⟨j, hj⟩ := List.mem_iff_getElem?.1 hv
          have hjl := (List.getElem?_eq_some_iff.1 hj).1
          have := HN.out
          exact HI.out j v (by omega) hj ⟨h1, h2, h3⟩
end Go.Proofs.Ytpchkhphpcopkaa
