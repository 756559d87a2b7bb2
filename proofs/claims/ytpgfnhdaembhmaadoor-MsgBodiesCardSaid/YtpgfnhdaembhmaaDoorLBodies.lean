/- The law MsgBodies walked. -/
import Derived.Test.YtpgfnhdaembhmaaDoorMw
import Derived.Test.YtpgfnhdaembhmaaDoorMh
namespace Go.Proofs.YtpgfnhdaembhmaaDoor
open Go.RowKit Go.Shelf

theorem wf_u8one {n : Int} (h : (Lit.int .u8 n).wf = true) : 0 ≤ n ∧ n ≤ 255 := by
  simpa [Lit.wf, IntKind.min, IntKind.max, IntKind.signed, IntKind.bits] using h

set_option maxRecDepth 100000 in
set_option maxHeartbeats 8000000 in
theorem mbodies_walk (x : Mm.Ms) (l : Lo) (oth : Int) (w : World) (hp : MsAt w w.heap.size x l) (hoth : (Lit.int .u8 oth).wf = true) (ht : Tab w) (hh : HTab w) :
    Calls Tryd.prog 7 #[mv x l, .int .u8 oth] w fun e w' => e = .returned (.bool true) ∧ Below w.heap.size w w' := by
  have hx1 := range_new w (mvs x l) 30
  have hb1 : Hid (Below w.heap.size w (w.alloc (.cells (mvs x l).toArray 30))) := (Below.refl _ w).alloc (Nat.le_refl _) _
  have HO := Lib.hid (wf_u8one hoth)
  have hk64 : IntKind.i64.wrap oth = oth := by have := HO.out; simp [IntKind.wrap, IntKind.signed, IntKind.bits]; omega
  have HT := Lib.hid (fun (W : World) (h : Below w.heap.size w W) => ht.below h (Nat.le_refl _))
  have HH := Lib.hid (fun (W : World) (h : Below w.heap.size w W) => hh.below h (Nat.le_refl _))
  have HD := Lib.hid (fun (W : World) (h : Below w.heap.size w W) => mhead_any W (HT.out W h) (HH.out W h))
  have HPB := Lib.hid (fun (W : World) (h : Below w.heap.size w W) => MBody_any x l w.heap.size W (hp.below h (Nat.le_refl _)) h.size (HT.out W h))
  have HOF := Lib.hid (fun (k : Int) (A : Option Addr) (n cap B : Nat) (xs : List Int) (W : World) hk hx hn hnc hcap hB hb (h : Below w.heap.size w W) => MOf_any k A n cap B xs W hk hx hn hnc hcap hB hb (HT.out W h))
  have HSX := Lib.hid (fun (y : Mm.Ms) (m : Lo) (B2 : Nat) (W : World) (h : Below w.heap.size w W) (hq : MsAt W B2 y m) (hB2 : B2 ≤ W.heap.size) => RMSame_any x y l m w.heap.size B2 W (hp.below h (Nat.le_refl _)) hq h.size hB2)
  have HSY := Lib.hid (fun (y : Mm.Ms) (m : Lo) (B2 : Nat) (W : World) (h : Below w.heap.size w W) (hq : MsAt W B2 y m) (hB2 : B2 ≤ W.heap.size) => RMSame_any y x m l B2 w.heap.size W hq (hp.below h (Nat.le_refl _)) hB2 h.size)
  have HZ1 : Hid ((w.alloc (.cells (mvs x l).toArray 30)).heap.size = w.heap.size + 1) := World.size_alloc ..
  have HR : Hid (∀ (W : World), Below (w.heap.size + 1) (w.alloc (.cells (mvs x l).toArray 30)) W → W.rangeAt w.heap.size 0 (mvs x l)) := fun W h => range_below hx1 h (Nat.lt_succ_self _)
  have HW : Hid (∀ (W : World), Below (w.heap.size + 1) (w.alloc (.cells (mvs x l).toArray 30)) W → Below w.heap.size w W) := fun W h => hb1.out.trans (h.mono (Nat.le_succ _))
  have HI : Hid ((Tryd.prog.info? 30).map (·.size) = some (mvs x l).length) := info_msg
  have HOK := Lib.hid hp.ok
  unfold mv at HPB HSX HSY ⊢
  generalize mvs x l = L at *
  clear hx1 hp ht hh hoth
  go_enter Tryd.func7, Tryd.ntmps7
  go_wp2_with (go_at_call 9; fail)
  refine (HD.out _ hb1.out).mono ?_
  rintro e w2 ⟨rfl, hb2⟩
  have hC2 : Hid (Below (w.heap.size + 1) (w.alloc (.cells L.toArray 30)) w2) := hb2.mono (by rw [HZ1.out]; exact Nat.le_refl _)
  have hz2 : w.heap.size + 1 ≤ w2.heap.size := by have := hC2.out.size; rwa [HZ1.out] at this
  clear hb2 HD
  go_wp2_with (first | ((with_reducible refine wpList_gate ?_); refine wpList_load_mid rfl 30 _ rfl w.heap.size 0 rfl L _ (HR.out _ hC2.out) Tryd.underlying30 rfl HI.out ?_) | (go_at_call 12; fail))
  refine (HPB.out w2 (HW.out _ hC2.out)).mono ?_
  rintro e w3 ⟨v3, rfl, hown3, hb3⟩
  obtain ⟨A3, c3, rfl, hcp3, hcm3, hrd3⟩ := own_view hown3
  have hC3 := Lib.hid (hC2.out.trans (hb3.mono hz2))
  have hz3 := Nat.le_trans hz2 hb3.size
  have HRD3 := Lib.hid hrd3
  clear hb3 hC2 HPB hown3 hrd3
  cases hr : x.right with
  | false =>
    rw [Mm.bodyE_no hr] at *
    clear hr
    dsimp only [List.length_nil] at *
    go_wp2
    go_ret
    exact ⟨rfl, HW.out _ hC3.out⟩
  | true =>
    obtain ⟨k1, k2, -⟩ := Mm.right_iff.1 hr
    have hkx := Lib.hid (show 0 ≤ x.k ∧ x.k ≤ 255 from ⟨by omega, by omega⟩)
    have HBY := Lib.hid (Mm.body_by HOK.out hr)
    have HOP := Lib.hid (Mm.of_put HOK.out hr)
    rw [Mm.bodyE_ok hr] at *
    clear hr k1 k2
    dsimp only at *
    have H1 := Lib.hid (HOF.out x.k A3 x.body.length c3 w3.heap.size x.body w3 hkx.out HRD3.out rfl hcp3 hcm3 (Nat.le_refl _) HBY.out (HW.out _ hC3.out))
    rw [HOP.out] at H1
    have HKP := Lib.hid (Mm.of_kept (k := oth) HO.out HBY.out)
    have HOF2 := Lib.hid (HOF.out oth A3 x.body.length c3)
    go_wp2_with (go_at_call 18; fail)
    refine H1.out.mono ?_
    rintro e w4 ⟨l4, rfl, hms4, -, hb4⟩
    have hC4 := Lib.hid (hC3.out.trans (hb4.mono hz3))
    have hz4 := Nat.le_trans hz3 hb4.size
    have hb5 : Below w4.heap.size w4 (w4.alloc (.cells (mvs x l4).toArray 30)) := (Below.refl _ _).alloc (Nat.le_refl _) _
    have hz5 : Hid ((w4.alloc (.cells (mvs x l4).toArray 30)).heap.size = w4.heap.size + 1) := World.size_alloc ..
    have hC5 := Lib.hid (hC4.out.trans (hb5.mono (by omega)))
    have HMS5 := Lib.hid (hms4.below hb5 (Nat.le_refl _))
    have HRX5 := Lib.hid (range_new w4 (mvs x l4) 30)
    have HRD5 := Lib.hid (((HRD3.out.below hb4).more hb4.size).below hb5)
    have hi4 : Hid ((Tryd.prog.info? 30).map (·.size) = some (mvs x l4).toArray.size) := info_msg
    have hi5 : Hid ((Tryd.prog.info? 30).map (·.size) = some (mvs x l4).length) := info_msg
    have hs4 : Hid (26 = (mvs x l4).toArray.size) := rfl
    have ho4 := Lib.hid (mvs_one x l4)
    have HSX4 := Lib.hid (fun (W : World) => HSX.out x l4 w4.heap.size W)
    rw [show Mm.same x x = true from Mm.same_yes] at HSX4
    clear hb4 hms4 hb5 H1 HOF HSX
    unfold mv
    obtain ⟨M, hM⟩ : ∃ M, M = mvs x l4 := ⟨_, rfl⟩
    rw [← hM] at hz5 hC5 HMS5 HRX5 HRD5 hi4 hi5 hs4 ho4 HSX4 ⊢
    clear hM
    go_wp2_with (first | ((with_reducible refine wpList_gate ?_); refine wpList_store_new rfl 30 _ _ rfl _ M.toArray rfl rfl hi4.out hs4.out ho4.out ?_; generalize World.alloc w4 _ = w5 at *) | (go_at_call 18; fail))
    refine (HOF2.out w4.heap.size x.body w5 HO.out HRD5.out rfl hcp3 hcm3 (by rw [hz5.out]; omega) HBY.out (HW.out _ hC5.out)).mono ?_
    rintro e w6 ⟨l6, rfl, hms6, -, hb6⟩
    have hb6' : Below (w4.heap.size + 1) w5 w6 := hb6.mono (by rw [hz5.out]; exact Nat.le_refl _)
    have hz6 : w4.heap.size + 1 ≤ w6.heap.size := by have := hb6.size; rwa [hz5.out] at this
    have hb7 : Below w6.heap.size w6 (w6.alloc (.cells (mvs (Mm.of oth x.body).1 l6).toArray 30)) := (Below.refl _ _).alloc (Nat.le_refl _) _
    have hz7 : Hid ((w6.alloc (.cells (mvs (Mm.of oth x.body).1 l6).toArray 30)).heap.size = w6.heap.size + 1) := World.size_alloc ..
    have hC6 := Lib.hid (hC5.out.trans (hb6'.mono (by omega)))
    have hC7 := Lib.hid (hC6.out.trans (hb7.mono (by omega)))
    have hb57 : Below (w4.heap.size + 1) w5 (w6.alloc (.cells (mvs (Mm.of oth x.body).1 l6).toArray 30)) := hb6'.trans (hb7.mono (by omega))
    have HMS7 := Lib.hid (HMS5.out.below hb57 (by omega))
    have HRX7 := Lib.hid (range_below HRX5.out hb57 (Nat.lt_succ_self _))
    have HRY7 := Lib.hid (range_new w6 (mvs (Mm.of oth x.body).1 l6) 30)
    have HMY7 := Lib.hid (hms6.below hb7 (Nat.le_refl _))
    have hj4 : Hid ((Tryd.prog.info? 30).map (·.size) = some (mvs (Mm.of oth x.body).1 l6).toArray.size) := info_msg
    have hj5 : Hid ((Tryd.prog.info? 30).map (·.size) = some (mvs (Mm.of oth x.body).1 l6).length) := info_msg
    have ht4 : Hid (26 = (mvs (Mm.of oth x.body).1 l6).toArray.size) := rfl
    have hp4 := Lib.hid (mvs_one (Mm.of oth x.body).1 l6)
    have HN0 : Hid ((mvs (Mm.of oth x.body).1 l6)[0]? = some (.int .i64 (Mm.of oth x.body).1.k)) := rfl
    have HSY7 := Lib.hid (fun (W : World) => HSY.out (Mm.of oth x.body).1 l6 w6.heap.size W)
    clear hb6 hb6' hms6 hb7 hb57 HSY HMS5 HRX5 hC5 HOF2 hC3 hC4 HRD3 HRD5
    generalize Mm.of oth x.body = Y at *
    unfold mv
    obtain ⟨N, hN⟩ : ∃ N, N = mvs Y.1 l6 := ⟨_, rfl⟩
    rw [← hN] at hz7 hC7 HMS7 HRX7 HRY7 HMY7 hj4 hj5 ht4 hp4 HN0 HSY7 ⊢
    clear hN
    have HS1 := Lib.hid (fun (W : World) (h : Below (w.heap.size + 1) (w.alloc (.cells L.toArray 30)) W) => HR.out W h)
    go_wp2_with (first | ((with_reducible refine wpList_gate ?_); refine wpList_store_new rfl 30 _ _ rfl _ N.toArray rfl rfl hj4.out ht4.out hp4.out ?_; generalize World.alloc w6 _ = w7 at *) | ((with_reducible refine wpList_gate ?_); refine wpList_load_on 30 _ rfl w.heap.size 0 rfl L _ (HR.out _ hC7.out) Tryd.underlying30 rfl HI.out (by kernel_rfl) ?_) | ((with_reducible refine wpList_gate ?_); refine wpList_load_on 30 _ rfl w4.heap.size 0 rfl M _ HRX7.out Tryd.underlying30 rfl hi5.out (by kernel_rfl) ?_) | (go_at_call 20; fail))
    refine (HSX4.out w7 (HW.out _ hC7.out) HMS7.out (by rw [hz7.out]; omega)).mono ?_
    rintro e w8 ⟨rfl, hb8⟩
    have hb8' : Below (w6.heap.size + 1) w7 w8 := hb8.mono (by rw [hz7.out]; exact Nat.le_refl _)
    have hz8 : w6.heap.size + 1 ≤ w8.heap.size := by have := hb8.size; rwa [hz7.out] at this
    have hC8 := Lib.hid (hC7.out.trans (hb8'.mono (by omega)))
    have HRY8 := Lib.hid (range_below HRY7.out hb8' (Nat.lt_succ_self _))
    have HMY8 := Lib.hid (HMY7.out.below hb8' (by omega))
    clear hb8 hb8' HRX7 HRY7 HMY7 HMS7 HSX4 hC6 hC7
    by_cases hok : oth = x.k
    · have hq : (oth == x.k) = true := by rw [beq_iff_eq]; exact hok
      clear hok HKP
      go_wp2
      go_ret
      exact ⟨rfl, HW.out _ hC8.out⟩
    have hq : (oth == x.k) = false := by rw [beq_eq_false_iff_ne]; exact hok
    have HNE := Lib.hid hok
    clear hok
    obtain ⟨-, hy | ⟨hy2, -, hyk, -⟩⟩ := HKP.out
    · have hg : (Y.2 != 0) = true := by rw [hy]; rfl
      clear hy HKP
      go_wp2
      go_ret
      exact ⟨rfl, HW.out _ hC8.out⟩
    · have hg : (Y.2 != 0) = false := by rw [hy2]; rfl
      have HS8 := Lib.hid (HSY7.out w8 (HW.out _ hC8.out) HMY8.out (by omega))
      rw [show Mm.same Y.1 x = false from Mm.same_no (fun e => HNE.out (by rw [← hyk, e]))] at HS8
      rw [hyk] at HN0
      have k0 := range_at HRY8.out 0 HN0.out
      clear hy2 hyk HKP
      go_wp2_with (first | ((with_reducible refine wpList_gate ?_); refine wpList_load_on 30 _ rfl w.heap.size 0 rfl L _ (HR.out _ hC8.out) Tryd.underlying30 rfl HI.out (by kernel_rfl) ?_) | ((with_reducible refine wpList_gate ?_); refine wpList_load_on 30 _ rfl w6.heap.size 0 rfl N _ HRY8.out Tryd.underlying30 rfl hj5.out (by kernel_rfl) ?_) | (go_at_call 20; fail))
      refine HS8.out.mono ?_
      rintro e w9 ⟨rfl, hb9⟩
      have hw9 := Lib.hid (HW.out _ (hC8.out.trans (hb9.mono (by omega))))
      have hb9' : Below (w6.heap.size + 1) w8 w9 := hb9.mono hz8
      have k9 := range_at (range_below HRY8.out hb9' (Nat.lt_succ_self _)) 0 HN0.out
      have hbb : (oth == oth) = true := by rw [beq_self_eq_true]
      clear hb9 hb9' k0
      go_wp2
      go_ret
      exact ⟨rfl, hw9.out⟩
end Go.Proofs.YtpgfnhdaembhmaaDoor
