/- TallyAll, walked. -/
import Derived.Test.YtpchkhphpcopkaaTl
import Derived.Test.YtpchkhphpcopkaaTo
namespace Go.Proofs.Ytpchkhphpcopkaa
open Go.RowKit Go.Shelf Km Kx

theorem wf_one {k : IntKind} {lo hi a : Int} (h1 : k.min = lo) (h2 : k.max = hi) (h : (Lit.int k a).wf = true) : lo ≤ a ∧ a ≤ hi := by
  simp [Lit.wf, h1, h2] at h; exact h
theorem builtv (o : Int) (u : Nat) (a : Int) : Try.prog.built 25 [(0, .int .i64 o), (1, .int .u64 (u : Int)), (2, .int .i64 a)] = some (vv ⟨o, u, a⟩).toArray := by kernel_rfl
theorem wl_alike {m : Nat} (hm : m < 18446744073709551616) {a : Int} (ha : in64 a) {n : Nat} (hn : n ≤ 1000) : Wl (Tm.alike m a n) := fun v hv => by
  unfold Tm.alike at hv
  obtain ⟨i, hi, rfl⟩ := List.mem_map.1 hv
  have : i < n := List.mem_range.1 hi
  exact ⟨⟨by show _ ≤ (i : Int); omega, by show (i : Int) ≤ _; omega⟩, hm, ha⟩

set_option maxRecDepth 100000 in
set_option maxHeartbeats 4000000 in
theorem all_walk (a0 a1 a2 a3 a4 : Int) (w : World) (w0 : (Lit.int .u8 a0).wf = true) (w1 : (Lit.int .u64 a1).wf = true) (w2 : (Lit.int .u16 a2).wf = true) (w3 : (Lit.int .u8 a3).wf = true) (w4 : (Lit.int .u8 a4).wf = true) :
    Calls Try.prog 7 #[.int .u8 a0, .int .u64 a1, .int .u16 a2, .int .u8 a3, .int .u8 a4] w fun e w' => e = .returned (.bool true) ∧ Below w.heap.size w w' := by
  have HB := Lib.hid (Bxs.start w)
  obtain ⟨p0, q0⟩ := wf_one (lo := 0) (hi := 255) rfl rfl w0
  obtain ⟨p1, q1⟩ := wf_u64 w1
  obtain ⟨p2, q2⟩ := wf_one (lo := 0) (hi := 65535) rfl rfl w2
  obtain ⟨p3, q3⟩ := wf_one (lo := 0) (hi := 255) rfl rfl w3
  obtain ⟨p4, q4⟩ := wf_one (lo := 0) (hi := 255) rfl rfl w4
  obtain ⟨m, rfl⟩ : ∃ m : Nat, a1 = (m : Int) := ⟨a1.toNat, by omega⟩
  clear w0 w1 w2 w3 w4
  obtain ⟨nn, hnn⟩ : ∃ nn : Nat, 1 + a0 % 9 = (nn : Int) := ⟨(1 + a0 % 9).toNat, by omega⟩
  have hn1 : 1 ≤ nn := by omega
  have hn2 : nn ≤ 9 := by omega
  have HA2 : Hid (in64 a2) := Lib.hid ⟨by omega, by omega⟩
  have HT : Hid (Tm.tally (Tm.alike m a2 nn) (nn : Int) (a2 + a3) a4 = if a3 ≤ a4 then m else 0) := Lib.hid (by
    rw [Tm.alike_tally (by omega) (by omega)]
    have hf : Tm.fresh (nn : Int) (a2 + a3) a4 ⟨0, m, a2⟩ = decide (a3 ≤ a4) := by
      unfold Tm.fresh
      refine decide_eq_decide.2 ?_
      unfold Tm.Fresh Tm.Tick
      dsimp only
      constructor
      · rintro ⟨-, -, h⟩; omega
      · intro h; refine ⟨⟨⟨?_, ?_⟩, ⟨?_, ?_⟩, ⟨?_, ?_⟩, ?_, ?_⟩, ?_, ?_⟩ <;> omega
    rw [hf]
    by_cases h : a3 ≤ a4 <;> simp [h])
  have hwa : IntKind.i64.wrap (a2 + a3) = a2 + a3 := by rw [IntKind.wrap_i64]; omega
  go_enter Try.func7, Try.ntmps7
  go_wp2_with (first | (go_at_call 9; refine Calls.mono (head_any _) ?_; rintro e w_ ⟨rfl, hb_⟩; replace HB := Lib.hid (HB.out.call hb_); clear hb_))
  clear hnn
  go_loopg [13, 15] nn (fun gh lx ix wr => ∃ (k c : Nat) (A : Option Addr), gh + k = nn ∧ lx = .slice A k c ∧ ix = .int .i64 (k : Int) ∧ Hid (Bxs w wr [] [⟨A, c, 25, 3, k, vvs (Tm.alike m a2 k)⟩]))
  case atStart => exact ⟨0, 0, none, by omega, rfl, rfl, Lib.hid (HB.out.nilrow _ _)⟩
  case round =>
    clear HB
    obtain ⟨k, c, A, hk, rfl, rfl, HB⟩ := hrel
    by_cases hlt : k < nn
    · have d3 : (k : Int) < (nn : Int) := by omega
      go_wp2_with (first | ((with_reducible refine Kx.build_gate ?_); refine Km.wpList_build rfl 25 _ rfl #[(0, .int .i64 (k : Int)), (1, .int .u64 (m : Int)), (2, .int .i64 a2)] rfl (vv ⟨k, m, a2⟩).toArray (builtv k m a2) ?_; refine Kx.framed ?_ (by simp only [Act.put, List.setIfInBounds_toArray, List.set_cons_succ, List.set_cons_zero] <;> rfl)) | (go_at_call 11; refine Calls.mono (Put_as (Tm.alike m a2 (k + 1)) (k + 1) A k c _ (Tm.alike m a2 k) ⟨k, m, a2⟩ _ (HB.out.rowRd (A := A)) (Nat.le_refl _) (Tm.alike_len ..) (by omega) (Tm.alike_succ ..) (Tm.alike_len ..)) ?_; rintro e w_ ⟨A', c', rfl, hb_, ho_⟩; replace HB := Lib.hid (HB.out.rowTail.callRow hb_ ho_); clear hb_ ho_))
      go_roundg (gk - 1)
      case measure => omega
      case rel => exact ⟨k + 1, _, _, by omega, rfl, by go_num, HB⟩
    · obtain rfl : k = nn := by omega
      have d0 : decide ((k : Int) < (k : Int)) = false := by simp
      have HTY : Hid (∀ W, Rd W W.heap.size A (vvs (Tm.alike m a2 k)) → Calls Try.prog 13 #[.slice A k c, .int .i64 (k : Int), .int .i64 (a2 + a3), .int .i64 a4] W fun e w' => e = .returned (.int .u64 ((if a3 ≤ a4 then m else 0 : Nat) : Int)) ∧ Below W.heap.size W w') := Lib.hid (fun W hr => by
        have h := Tally_any A k c _ _ (k : Int) (a2 + a3) a4 W hr (Nat.le_refl _) (Tm.alike_len ..) (by omega) (wl_alike (by omega) HA2.out (by omega)) ⟨by omega, by omega⟩
        rw [HT.out] at h; exact h)
      by_cases hle : a3 ≤ a4
      · have d4 : decide (a4 < a3) = false := by simp; omega
        rw [if_pos hle] at HTY
        clear hle HT
        go_wp2_with (first | (go_at_call 13; refine Calls.mono (HTY.out _ (HB.out.rowRd (A := A))) ?_; rintro e w_ ⟨rfl, hb_⟩; replace HB := Lib.hid (HB.out.call hb_); clear hb_))
        go_ret
        exact ⟨by simp, HB.out.below⟩
      · have d4 : decide (a4 < a3) = true := by simp; omega
        rw [if_neg hle] at HTY
        clear hle HT
        go_wp2_with (first | (go_at_call 13; refine Calls.mono (HTY.out _ (HB.out.rowRd (A := A))) ?_; rintro e w_ ⟨rfl, hb_⟩; replace HB := Lib.hid (HB.out.call hb_); clear hb_))
        go_ret
        exact ⟨by simp, HB.out.below⟩
end Go.Proofs.Ytpchkhphpcopkaa
