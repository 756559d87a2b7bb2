/- A message out of a frame: the program's. -/
import Derived.Test.YtpgfnhdaembhmaaDoorMu
namespace Go.Proofs.YtpgfnhdaembhmaaDoor
open Go.RowKit Go.Shelf

theorem Mm.fget_by {b : List Int} (hb : Fm.By b) : (0 ≤ (Fm.get b 0).1 ∧ (Fm.get b 0).1 ≤ 255) ∧ Fm.By (Fm.get b 0).2.1 := by
  by_cases he : (Fm.meas (b.drop 0)).2 = 0
  · have e : Fm.get b 0 = _ := Fm.get_ok (n := 0) (Nat.zero_le _) he
    rw [e]
    exact ⟨Fm.By.at (hb.drop 0) 1, ((hb.drop 0).drop 4).take _⟩
  · have e : Fm.get b 0 = _ := Fm.get_err (n := 0) (Nat.zero_le _) he
    rw [e]
    exact ⟨⟨Int.le_refl 0, by show (0 : Int) ≤ 255; decide⟩, Fm.By.nil⟩

set_option maxRecDepth 100000 in
set_option maxHeartbeats 4000000 in
theorem MGet_any (A : Option Addr) (n cap B : Nat) (xs : List Int) (w : World) (hx : Rd w B A (u8s xs)) (hn : xs.length = n) (hnc : n ≤ cap) (hcap : cap ≤ maxLen) (hB : B ≤ w.heap.size) (hb : Fm.By xs) (ht : Tab w) (hh : HTab w) :
    Calls Tryd.prog 16 #[.slice A n cap] w fun e w' => ∃ l, e = .returned (.tuple #[mv (Mm.get xs).1 l, .int .i64 (Mm.get xs).2]) ∧ MsAt w' w'.heap.size (Mm.get xs).1 l ∧ LoFr w.heap.size l ∧ Below w.heap.size w w' := by
  have hz1 : (w.alloc (.cells (mvs Mm.zero Lo.zero).toArray 30)).heap.size = w.heap.size + 1 := World.size_alloc ..
  have hb1 : Below w.heap.size w (w.alloc (.cells (mvs Mm.zero Lo.zero).toArray 30)) := (Below.refl _ w).alloc (Nat.le_refl _) _
  have ht4 := there_new w (mvs Mm.zero Lo.zero) 30
  have HF := Lib.hid (FGet_any A n cap B xs 0 (w.alloc (.cells (mvs Mm.zero Lo.zero).toArray 30)) (hx.below (hb1.mono hB)) hn hnc hcap (by omega) hb (hh.below hb1 (Nat.le_refl _)) (by omega) (by omega))
  have HT4 := Lib.hid (fun (W : World) (h : Below (w.heap.size + 1) (w.alloc (.cells (mvs Mm.zero Lo.zero).toArray 30)) W) => (there_below ht4 h (Nat.lt_succ_self _) : W.there w.heap.size 0 26))
  have HW := Lib.hid (fun (W : World) (h : Below (w.heap.size + 1) (w.alloc (.cells (mvs Mm.zero Lo.zero).toArray 30)) W) => hb1.trans (h.mono (Nat.le_succ _)))
  have HSB := Lib.hid (fun (W : World) (cs : List Value) (h : Below (w.heap.size + 1) (w.alloc (.cells (mvs Mm.zero Lo.zero).toArray 30)) W) => below_grown (HW.out W h) (grown_set w.heap.size cs 0 W) (Nat.le_refl _) (HW.out W h).size)
  have HZ := Lib.hid hz1
  have HT := Lib.hid ht
  have HNL := Lib.hid hn
  obtain ⟨hk, hy⟩ := Mm.fget_by hb
  have HK := Lib.hid hk
  have HY := Lib.hid hy
  have HE1 := Lib.hid (Mm.get_err (b := xs))
  have HE2 := Lib.hid (Mm.get_more (b := xs))
  have HE3 := Lib.hid (Mm.get_of (b := xs))
  clear hx hn hb hh ht hz1 hb1 ht4 hk hy
  generalize Mm.get xs = Y at *
  generalize Fm.get xs 0 = q at *
  obtain ⟨q1, q2, q3, q4⟩ := q
  dsimp only at *
  by_cases h4 : q4 = 0
  case neg =>
    have HE := Lib.hid (HE1.out h4)
    have hq : (q4 != 0) = true := by rw [bne_iff_ne]; exact h4
    clear h4 HE1 HE2 HE3
    go_enter Tryd.func16, Tryd.ntmps16
    go_wp2_with (go_at_call 36; fail)
    refine HF.out.mono ?_
    rintro e w2 ⟨v, rfl, hown, hb2⟩
    rw [HZ.out] at hb2
    have hC := Lib.hid hb2
    clear hown hb2 HF
    go_wp2_with (first | ((with_reducible refine wpList_gate ?_); refine wpList_build rfl 30 _ rfl #[] rfl (mvs Mm.zero Lo.zero).toArray zmsg_built ?_) | ((with_reducible refine wpList_gate ?_); refine wpList_store_mid rfl 30 _ _ rfl w.heap.size 0 (mvs Mm.zero Lo.zero).toArray rfl rfl (HT4.out _ hC.out) info_msg (mvs_one _ _) ?_))
    refine bodyPost_ret (results_ct rfl _ _ w.heap.size (mvs Mm.zero Lo.zero) _ rfl (World.rangeAt_setCells_same _ _ _ _ (HT4.out _ hC.out)) Tryd.underlying30 rfl info_msg) rfl ?_
    rw [HE.out]
    exact ⟨Lo.zero, rfl, MsAt.zero _ _, LoFr.zero _, HSB.out _ _ hC.out⟩
  subst h4
  by_cases h3 : q3 = (n : Int)
  case neg =>
    have HE := Lib.hid (HE2.out rfl (by rw [HNL.out]; exact h3))
    have hq : (q3 != (n : Int)) = true := by rw [bne_iff_ne]; exact h3
    clear h3 HE1 HE2 HE3
    go_enter Tryd.func16, Tryd.ntmps16
    go_wp2_with (go_at_call 36; fail)
    refine HF.out.mono ?_
    rintro e w2 ⟨v, rfl, hown, hb2⟩
    rw [HZ.out] at hb2
    have hC := Lib.hid hb2
    clear hown hb2 HF
    go_wp2_with (first | ((with_reducible refine wpList_gate ?_); refine wpList_build rfl 30 _ rfl #[] rfl (mvs Mm.zero Lo.zero).toArray zmsg_built ?_) | ((with_reducible refine wpList_gate ?_); refine wpList_store_mid rfl 30 _ _ rfl w.heap.size 0 (mvs Mm.zero Lo.zero).toArray rfl rfl (HT4.out _ hC.out) info_msg (mvs_one _ _) ?_))
    refine bodyPost_ret (results_ct rfl _ _ w.heap.size (mvs Mm.zero Lo.zero) _ rfl (World.rangeAt_setCells_same _ _ _ _ (HT4.out _ hC.out)) Tryd.underlying30 rfl info_msg) rfl ?_
    rw [HE.out]
    exact ⟨Lo.zero, rfl, MsAt.zero _ _, LoFr.zero _, HSB.out _ _ hC.out⟩
  have HE := Lib.hid (HE3.out rfl (by rw [HNL.out]; exact h3))
  have hq : (q3 != (n : Int)) = false := by rw [bne_eq_false_iff_eq]; exact h3
  clear h3 HE1 HE2 HE3
  go_enter Tryd.func16, Tryd.ntmps16
  go_wp2_with (go_at_call 36; fail)
  refine HF.out.mono ?_
  rintro e w2 ⟨v, rfl, hown, hb2⟩
  rw [HZ.out] at hb2
  obtain ⟨A2, c2, rfl, hc2, hm2, hrd2⟩ := own_view hown
  have hw2 := (HW.out _ hb2).size
  have hC := Lib.hid hb2
  have HO := Lib.hid (MOf_any q1 A2 q2.length c2 w2.heap.size q2 w2 HK.out hrd2 rfl hc2 hm2 (Nat.le_refl _) HY.out (HT.out.below (HW.out _ hb2) (Nat.le_refl _)))
  rw [← HE.out] at HO
  clear hown hb2 HF hrd2
  go_wp2_with (go_at_call 18; fail)
  refine HO.out.mono ?_
  rintro e w3 ⟨l, rfl, hms, hfr, hb3⟩
  have hz2 : w.heap.size + 1 ≤ w2.heap.size := by have := hC.out.size; rwa [HZ.out] at this
  have hC3 := Lib.hid (hC.out.trans (hb3.mono hz2))
  have hgs : Hid (w3.grownBy (w3.setCells w.heap.size 0 (mvs Y.1 l)) (some w.heap.size)) := grown_set w.heap.size (mvs Y.1 l) 0 w3
  have HMS := Lib.hid ((hms.other hfr hgs.out (by omega) (Nat.le_refl _)).more hgs.out.size)
  have HFR := Lib.hid (hfr.mono hw2)
  have HT3 : Hid (w3.there w.heap.size 0 (mvs Y.1 l).toArray.size) := HT4.out _ hC3.out
  have hi9 : Hid ((Tryd.prog.info? 30).map (·.size) = some (mvs Y.1 l).toArray.size) := info_msg
  have hi8 : Hid ((Tryd.prog.info? 30).map (·.size) = some (mvs Y.1 l).length) := info_msg
  have ho9 := Lib.hid (mvs_one Y.1 l)
  clear hms hfr hb3 HO
  unfold mv
  have HL : Hid (mv Y.1 l = .agg (mvs Y.1 l).toArray) := rfl
  obtain ⟨L, hL⟩ : ∃ L, L = mvs Y.1 l := ⟨_, rfl⟩
  have HL2 := Lib.hid hL
  rw [← hL] at hgs HMS HT3 hi9 hi8 ho9 ⊢
  clear hL
  go_wp2_with ((with_reducible refine wpList_gate ?_); refine wpList_store_mid rfl 30 _ _ rfl w.heap.size 0 L.toArray rfl rfl HT3.out hi9.out ho9.out ?_)
  refine bodyPost_ret (results_ct rfl _ _ w.heap.size L _ rfl (World.rangeAt_setCells_same _ _ _ _ HT3.out) Tryd.underlying30 rfl hi8.out) rfl ?_
  refine ⟨l, ?_, HMS.out, HFR.out, HSB.out _ _ hC3.out⟩
  rw [HL2.out]
  rfl
end Go.Proofs.YtpgfnhdaembhmaaDoor
