/- The numbers and the plan at a place of bytes: the program's. -/
import Derived.Test.YtpgfnhdaembhmaaDoorMe
namespace Go.Proofs.YtpgfnhdaembhmaaDoor
open Go.RowKit Go.Shelf

theorem Rd.other {w w' : World} {B b base : Nat} {A : Option Addr} {vs : List Value} (h : Rd w B A vs) (hf : Fr base A) (hg : w.grownBy w' (some b)) (hb : b < base) (hB : B ≤ w.heap.size) : Rd w' B A vs := fun j u hj => by
  obtain ⟨ad, e, hl, hc⟩ := h j u hj
  have h1 := hf ad e
  exact ⟨ad, e, hl, (World.cell?_of_block (by rw [addr_add_block]; exact hg.block _ (by omega) (fun q => by injection q with q; omega))).trans hc⟩
theorem PlAt.other {w w' : World} {B b base : Nat} {x : Pm.Pl} {A : Option Addr} {n c : Nat} {A' : Option Addr} {n' c' : Nat} (h : PlAt w B x A n c A' n' c') (hf : Fr base A) (hf' : Fr base A') (hg : w.grownBy w' (some b)) (hb : b < base) (hB : B ≤ w.heap.size) : PlAt w' B x A n c A' n' c' :=
  ⟨h.ok, h.r1.other hf hg hb hB, h.l1, h.c1, h.m1, h.r2.other hf' hg hb hB, h.l2, h.c2, h.m2⟩

theorem i64s_len (l : List Int) : (i64s l).length = l.length := by rw [List.length_map]
theorem zeros_built : Tryd.prog.built 49 [] = some (i64s Mm.zeros).toArray := by kernel_rfl
theorem zplan_built : Tryd.prog.built 27 [] = some (pvs Pm.zero none 0 0 none 0 0).toArray := by kernel_rfl
theorem zmsg_built : Tryd.prog.built 30 [] = some (mvs Mm.zero Lo.zero).toArray := by kernel_rfl

set_option maxRecDepth 100000 in
set_option maxHeartbeats 2000000 in
theorem numbersAt_any (A : Option Addr) (n cap B : Nat) (xs : List Int) (t : Int) (w : World) (hx : Rd w B A (u8s xs)) (hn : xs.length = n) (hnc : n ≤ cap) (hcap : cap ≤ maxLen) (hB : B ≤ w.heap.size) (hb : Fm.By xs)
    (t0 : -9223372036854775808 ≤ t) (t1 : t ≤ 9223372036854775807) :
    Calls Tryd.prog 39 #[.slice A n cap, .int .i64 t] w fun e w' => e = .returned (.tuple #[.agg (i64s (Mm.rN xs t).1).toArray, .int .i64 (Mm.rN xs t).2.1, .int .i64 (Mm.rN xs t).2.2]) ∧ Below w.heap.size w w' := by
  have hb1 : Hid (Below w.heap.size w (w.alloc (.cells (i64s Mm.zeros).toArray 49))) := (Below.refl _ w).alloc (Nat.le_refl _) _
  have hz1 : (w.alloc (.cells (i64s Mm.zeros).toArray 49)).heap.size = w.heap.size + 1 := World.size_alloc ..
  have hth := there_new w (i64s Mm.zeros) 49
  have HC := Lib.hid (Ints_any A n cap B xs t (w.alloc (.cells (i64s Mm.zeros).toArray 49)) (hx.below (hb1.out.mono hB)) hn hnc hcap (by omega) hb t0 t1)
  have HTH := Lib.hid (fun (W : World) (h : Below (w.heap.size + 1) (w.alloc (.cells (i64s Mm.zeros).toArray 49)) W) => (there_below hth h (Nat.lt_succ_self _) : W.there w.heap.size 0 10))
  have HST := Lib.hid (fun (W : World) (cs : List Value) (h : Below (w.heap.size + 1) (w.alloc (.cells (i64s Mm.zeros).toArray 49)) W) =>
    (below_grown (hb1.out.trans (h.mono (Nat.le_succ _))) (grown_set w.heap.size cs 0 W) (Nat.le_refl _) (hb1.out.trans (h.mono (Nat.le_succ _))).size : Below w.heap.size w (W.setCells w.heap.size 0 cs)))
  have HZ := Lib.hid hz1
  clear hx hth hz1
  by_cases he : (Wm.rints xs t).2.2 = 0
  case neg =>
    have HE := Lib.hid (Mm.rN_err he)
    generalize Wm.rints xs t = q at *
    obtain ⟨q1, q2, q3⟩ := q
    dsimp only at *
    have hq : (q3 != 0) = true := by rw [bne_iff_ne]; exact he
    clear he
    go_enter Tryd.func39, Tryd.ntmps39
    go_wp2_with (go_at_call 44; fail)
    refine HC.out.mono ?_
    rintro e w2 ⟨v, rfl, hown, hb2⟩
    rw [HZ.out] at hb2
    have ht2 := Lib.hid (HTH.out w2 hb2)
    have hs2 := Lib.hid (HST.out w2 (i64s Mm.zeros) hb2)
    clear hown
    go_wp2_with (first | (refine wpList_build rfl 49 _ rfl #[] rfl (i64s Mm.zeros).toArray zeros_built ?_) | (refine wpList_store_mid rfl 49 _ _ rfl w.heap.size 0 (i64s Mm.zeros).toArray rfl rfl ht2.out info_mnums (i64s_one _) ?_))
    refine bodyPost_ret (results_ctt rfl _ _ w.heap.size (i64s Mm.zeros) _ rfl (World.rangeAt_setCells_same _ _ _ _ ht2.out) Tryd.underlying49 rfl info_mnums) rfl ?_
    rw [HE.out]
    exact ⟨rfl, hs2.out⟩
  by_cases hl : (Wm.rints xs t).1.length = 10
  case neg =>
    have HE := Lib.hid (Mm.rN_few he hl)
    generalize Wm.rints xs t = q at *
    obtain ⟨q1, q2, q3⟩ := q
    dsimp only at *
    subst he
    have hq : ((q1.length : Int) != 10) = true := by rw [bne_iff_ne]; omega
    clear hl
    go_enter Tryd.func39, Tryd.ntmps39
    go_wp2_with (go_at_call 44; fail)
    refine HC.out.mono ?_
    rintro e w2 ⟨v, rfl, hown, hb2⟩
    obtain ⟨A2, c2, rfl, -, -, -⟩ := own_view hown
    rw [HZ.out] at hb2
    have ht2 := Lib.hid (HTH.out w2 hb2)
    have hs2 := Lib.hid (HST.out w2 (i64s Mm.zeros) hb2)
    clear hown
    go_wp2_with (first | (refine wpList_build rfl 49 _ rfl #[] rfl (i64s Mm.zeros).toArray zeros_built ?_) | (refine wpList_store_mid rfl 49 _ _ rfl w.heap.size 0 (i64s Mm.zeros).toArray rfl rfl ht2.out info_mnums (i64s_one _) ?_))
    refine bodyPost_ret (results_ctt rfl _ _ w.heap.size (i64s Mm.zeros) _ rfl (World.rangeAt_setCells_same _ _ _ _ ht2.out) Tryd.underlying49 rfl info_mnums) rfl ?_
    rw [HE.out]
    exact ⟨rfl, hs2.out⟩
  have HE := Lib.hid (Mm.rN_ok he hl)
  generalize Wm.rints xs t = q at *
  obtain ⟨q1, q2, q3⟩ := q
  dsimp only at *
  subst he
  have hl1 : Hid ((Tryd.prog.info? 49).map (·.size) = some (i64s q1).length) := by rw [i64s_len, hl]; exact Lib.hid info_mnums
  have HL : Hid ((i64s q1).length = 10) := by rw [i64s_len, hl]; exact Lib.hid rfl
  rw [hl] at HC
  clear hl
  go_enter Tryd.func39, Tryd.ntmps39
  go_wp2_with (go_at_call 44; fail)
  refine HC.out.mono ?_
  rintro e w2 ⟨v, rfl, hown, hb2⟩
  obtain ⟨g, c2, rfl, -, -⟩ := hown.form (by omega)
  have hr2 := Lib.hid (range_of_own hown)
  have hA := run_arrayAt (P := Tryd.prog) w2 49 2 10 (some ⟨g, 0, none⟩) 10 c2 Tryd.underlying49 (Nat.le_refl _)
  rw [HZ.out] at hb2
  have e10 : (i64s q1).toArray.size = 10 := by rw [List.size_toArray, HL.out]
  have ht2 : Hid (w2.there w.heap.size 0 (i64s q1).toArray.size) := by rw [e10]; exact Lib.hid (HTH.out w2 hb2)
  have hs2 := Lib.hid (HST.out w2 (i64s q1) hb2)
  have hl2 : Hid ((Tryd.prog.info? 49).map (·.size) = some (i64s q1).toArray.size) := by rw [List.size_toArray]; exact hl1
  clear hown hb2 e10
  go_wp2_with (first | (refine wpList_load_mid rfl 49 _ rfl g 0 rfl (i64s q1) _ hr2.out Tryd.underlying49 rfl hl1.out ?_) | (refine wpList_store_mid rfl 49 _ _ rfl w.heap.size 0 (i64s q1).toArray rfl rfl ht2.out hl2.out (i64s_one _) ?_))
  refine bodyPost_ret (results_ctt rfl _ _ w.heap.size (i64s q1) _ rfl (World.rangeAt_setCells_same _ _ _ _ (by have := ht2.out; rwa [List.size_toArray] at this)) Tryd.underlying49 rfl hl1.out) rfl ?_
  rw [HE.out]
  exact ⟨rfl, hs2.out⟩

set_option maxRecDepth 100000 in
set_option maxHeartbeats 2000000 in
theorem planAt_any (A : Option Addr) (n cap B : Nat) (xs : List Int) (t : Int) (w : World) (hx : Rd w B A (u8s xs)) (hn : xs.length = n) (hnc : n ≤ cap) (hcap : cap ≤ maxLen) (hB : B ≤ w.heap.size) (hb : Fm.By xs)
    (t0 : -9223372036854775808 ≤ t) (t1 : t ≤ 9223372036854775807) (htab : Tab w) :
    Calls Tryd.prog 42 #[.slice A n cap, .int .i64 t] w fun e w' => ∃ A1 n1 c1 A2 n2 c2, e = .returned (.tuple #[pv (Mm.rP xs t).1 A1 n1 c1 A2 n2 c2, .int .i64 (Mm.rP xs t).2.1, .int .i64 (Mm.rP xs t).2.2]) ∧ PlAt w' w'.heap.size (Mm.rP xs t).1 A1 n1 c1 A2 n2 c2 ∧ Fr w.heap.size A1 ∧ Fr w.heap.size A2 ∧ Below w.heap.size w w' := by
  have hb1 : Hid (Below w.heap.size w (w.alloc (.cells (pvs Pm.zero none 0 0 none 0 0).toArray 27))) := (Below.refl _ w).alloc (Nat.le_refl _) _
  have hz1 : (w.alloc (.cells (pvs Pm.zero none 0 0 none 0 0).toArray 27)).heap.size = w.heap.size + 1 := World.size_alloc ..
  have hth := there_new w (pvs Pm.zero none 0 0 none 0 0) 27
  have HC := Lib.hid (Text_any A n cap B xs t (w.alloc (.cells (pvs Pm.zero none 0 0 none 0 0).toArray 27)) (hx.below (hb1.out.mono hB)) hn hnc hcap (by omega) hb t0 t1)
  have HTH := Lib.hid (fun (W : World) (h : Below (w.heap.size + 1) (w.alloc (.cells (pvs Pm.zero none 0 0 none 0 0).toArray 27)) W) => (there_below hth h (Nat.lt_succ_self _) : W.there w.heap.size 0 12))
  have HST := Lib.hid (fun (W : World) (cs : List Value) (h : Below (w.heap.size + 1) (w.alloc (.cells (pvs Pm.zero none 0 0 none 0 0).toArray 27)) W) =>
    (below_grown (hb1.out.trans (h.mono (Nat.le_succ _))) (grown_set w.heap.size cs 0 W) (Nat.le_refl _) (hb1.out.trans (h.mono (Nat.le_succ _))).size : Below w.heap.size w (W.setCells w.heap.size 0 cs)))
  have HT := Lib.hid (htab.below hb1.out (Nat.le_refl _))
  have HBY : Hid (Fm.By (Wm.rtext xs t).1) := by
    by_cases h : (Wm.rtext xs t).2.2 = 0
    · by_cases h0 : 0 ≤ t
      · obtain ⟨k, rfl⟩ := Int.eq_ofNat_of_zero_le h0
        obtain ⟨s, to, e⟩ := Mm.rtext_num h hb
        rw [e]
        exact (Mm.rtext_at e hb).2.1
      · exfalso
        by_cases he : (Wm.rlen xs t 4096).2.2 = 0
        · obtain ⟨_, _, _, _, _, h1, _⟩ := Wm.rlen_some he hb
          exact h0 h1
        · rw [Wm.rtext_err he] at h; exact he h
    · have : (Wm.rtext xs t).1 = [] := by
        unfold Wm.rtext at h ⊢
        split
        · rfl
        · split
          · rfl
          · rename_i h1 h2
            rw [if_neg h1, if_neg h2] at h
            exact absurd rfl h
      rw [this]
      exact Lib.hid Fm.By.nil
  have HZ := Lib.hid hz1
  clear hx hth hz1 htab
  by_cases he : (Wm.rtext xs t).2.2 = 0
  case neg =>
    have HE := Lib.hid (Mm.rP_err he)
    generalize Wm.rtext xs t = q at *
    obtain ⟨q1, q2, q3⟩ := q
    dsimp only at *
    have hq : (q3 != 0) = true := by rw [bne_iff_ne]; exact he
    clear he
    go_enter Tryd.func42, Tryd.ntmps42
    go_wp2_with (go_at_call 46; fail)
    refine HC.out.mono ?_
    rintro e w2 ⟨v, rfl, hown, hb2⟩
    rw [HZ.out] at hb2
    have ht2 := Lib.hid (HTH.out w2 hb2)
    have hs2 := Lib.hid (HST.out w2 (pvs Pm.zero none 0 0 none 0 0) hb2)
    clear hown
    go_wp2_with (first | (refine wpList_build rfl 27 _ rfl #[] rfl (pvs Pm.zero none 0 0 none 0 0).toArray zplan_built ?_) | (refine wpList_store_mid rfl 27 _ _ rfl w.heap.size 0 (pvs Pm.zero none 0 0 none 0 0).toArray rfl rfl ht2.out info_plan (pvs_one _ _ _ _ _ _ _) ?_))
    refine bodyPost_ret (results_ctt rfl _ _ w.heap.size (pvs Pm.zero none 0 0 none 0 0) _ rfl (World.rangeAt_setCells_same _ _ _ _ ht2.out) Tryd.underlying27 rfl info_plan) rfl ?_
    rw [HE.out]
    exact ⟨none, 0, 0, none, 0, 0, rfl, PlAt.zero _ _, Fr.none, Fr.none, hs2.out⟩
  have HEN := Lib.hid (fun h => Mm.rP_no (b := xs) (t := t) he h)
  have HEO := Lib.hid (fun h => Mm.rP_ok (b := xs) (t := t) he h)
  generalize Wm.rtext xs t = q at *
  obtain ⟨q1, q2, q3⟩ := q
  dsimp only at *
  subst he
  go_enter Tryd.func42, Tryd.ntmps42
  go_wp2_with (go_at_call 46; fail)
  refine HC.out.mono ?_
  rintro e w2 ⟨v, rfl, hown, hb2⟩
  obtain ⟨A2, c2, rfl, hcp2, hcm2, hrd2⟩ := own_view hown
  rw [HZ.out] at hb2
  have hB2 := Lib.hid hb2
  have hw2 : w.heap.size + 1 ≤ w2.heap.size := by have := hb2.size; rw [HZ.out] at this; exact this
  have HGE := Lib.hid (Get_all A2 q1.length c2 w2.heap.size q1 w2 hrd2 rfl hcp2 hcm2 (Nat.le_refl _) HBY.out (HT.out.below hb2 (by rw [HZ.out]; exact Nat.le_refl _)))
  clear hown hrd2 hb2 HC HT
  go_wp2_with (go_at_call 67; fail)
  refine HGE.out.mono ?_
  rintro e w3 ⟨A1, n1, c1, A3, n3, c3, rfl, hpl, hf1, hf3, hb3⟩
  have HPL := Lib.hid hpl
  have HF1 := Lib.hid hf1
  have HF3 := Lib.hid hf3
  clear hpl hf1 hf3
  have hB3 := Lib.hid (hB2.out.trans (hb3.mono hw2))
  have hw3 := Nat.le_trans hw2 hb3.size
  clear HGE hb3
  by_cases hg : (Pm.get q1).2 = 0
  · have HE := Lib.hid (HEO.out hg)
    generalize Pm.get q1 = r at *
    obtain ⟨r1, r2⟩ := r
    dsimp only at *
    subst hg
    have hx4 := Lib.hid (Bx.new w3 r1 A1 n1 c1 A3 n3 c3 27 : (w3.alloc (.cells (pvs r1 A1 n1 c1 A3 n3 c3).toArray 27)).rangeAt w3.heap.size 0 (pvs r1 A1 n1 c1 A3 n3 c3))
    have hB4 := hB3.out.alloc (o := .cells (pvs r1 A1 n1 c1 A3 n3 c3).toArray 27) hw3
    have hk4 : Below w3.heap.size w3 (w3.alloc (.cells (pvs r1 A1 n1 c1 A3 n3 c3).toArray 27)) := (Below.refl _ _).alloc (Nat.le_refl _) _
    have ht4 := Lib.hid (HTH.out _ hB4)
    have hs4 := Lib.hid (HST.out _ (pvs r1 A1 n1 c1 A3 n3 c3) hB4)
    have hpf := Lib.hid ((HPL.out.below hk4 (Nat.le_refl _)).other HF1.out HF3.out (grown_set w.heap.size (pvs r1 A1 n1 c1 A3 n3 c3) 0 _) (by omega) (by rw [World.size_alloc]; omega))
    have hszf : w3.heap.size ≤ ((w3.alloc (.cells (pvs r1 A1 n1 c1 A3 n3 c3).toArray 27)).setCells w.heap.size 0 (pvs r1 A1 n1 c1 A3 n3 c3)).heap.size := Nat.le_trans (by rw [World.size_alloc]; omega) (grown_set w.heap.size (pvs r1 A1 n1 c1 A3 n3 c3) 0 _).size
    have HSZ := Lib.hid hszf
    clear hB4 hk4 hszf
    go_wp2_with (first | (refine wpList_store_new rfl 27 _ _ rfl _ (pvs r1 A1 n1 c1 A3 n3 c3).toArray rfl rfl info_plan rfl (pvs_one _ _ _ _ _ _ _) ?_) | (refine wpList_load_mid rfl 27 _ rfl w3.heap.size 0 rfl (pvs r1 A1 n1 c1 A3 n3 c3) _ hx4.out Tryd.underlying27 rfl info_plan ?_) | (refine wpList_store_mid rfl 27 _ _ rfl w.heap.size 0 (pvs r1 A1 n1 c1 A3 n3 c3).toArray rfl rfl ht4.out info_plan (pvs_one _ _ _ _ _ _ _) ?_))
    refine bodyPost_ret (results_ctt rfl _ _ w.heap.size (pvs r1 A1 n1 c1 A3 n3 c3) _ rfl (World.rangeAt_setCells_same _ _ _ _ ht4.out) Tryd.underlying27 rfl info_plan) rfl ?_
    rw [HE.out]
    exact ⟨A1, n1, c1, A3, n3, c3, rfl, hpf.out.more HSZ.out, HF1.out.mono (by omega), HF3.out.mono (by omega), hs4.out⟩
  · have HE := Lib.hid (HEN.out hg)
    generalize Pm.get q1 = r at *
    obtain ⟨r1, r2⟩ := r
    dsimp only at *
    have hq : (r2 != 0) = true := by rw [bne_iff_ne]; exact hg
    clear hg
    have hB4 := hB3.out.alloc (o := .cells (pvs r1 A1 n1 c1 A3 n3 c3).toArray 27) hw3
    have ht4 := Lib.hid (HTH.out _ hB4)
    have hs4 := Lib.hid (HST.out _ (pvs Pm.zero none 0 0 none 0 0) hB4)
    clear hB4
    go_wp2_with (first | (refine wpList_store_new rfl 27 _ _ rfl _ (pvs r1 A1 n1 c1 A3 n3 c3).toArray rfl rfl info_plan rfl (pvs_one _ _ _ _ _ _ _) ?_) | (refine wpList_build rfl 27 _ rfl #[] rfl (pvs Pm.zero none 0 0 none 0 0).toArray zplan_built ?_) | (refine wpList_store_mid rfl 27 _ _ rfl w.heap.size 0 (pvs Pm.zero none 0 0 none 0 0).toArray rfl rfl ht4.out info_plan (pvs_one _ _ _ _ _ _ _) ?_))
    refine bodyPost_ret (results_ctt rfl _ _ w.heap.size (pvs Pm.zero none 0 0 none 0 0) _ rfl (World.rangeAt_setCells_same _ _ _ _ ht4.out) Tryd.underlying27 rfl info_plan) rfl ?_
    rw [HE.out]
    exact ⟨none, 0, 0, none, 0, 0, rfl, PlAt.zero _ _, Fr.none, Fr.none, hs4.out⟩
end Go.Proofs.YtpgfnhdaembhmaaDoor
