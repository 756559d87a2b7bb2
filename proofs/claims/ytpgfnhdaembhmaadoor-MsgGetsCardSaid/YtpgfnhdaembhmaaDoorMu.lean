/- A message out of a kind and a body: the program's. -/
import Derived.Test.YtpgfnhdaembhmaaDoorMt
import Derived.Test.YtpgfnhdaembhmaaDoorMl
namespace Go.Proofs.YtpgfnhdaembhmaaDoor
open Go.RowKit Go.Shelf

theorem info_pos : (Tryd.prog.info? 66).map (·.size) = some 2 := by kernel_rfl

set_option maxRecDepth 100000 in
set_option maxHeartbeats 8000000 in
theorem MOf_any (k : Int) (A : Option Addr) (n cap B : Nat) (xs : List Int) (w : World) (hk : 0 ≤ k ∧ k ≤ 255) (hx : Rd w B A (u8s xs)) (hn : xs.length = n) (hnc : n ≤ cap) (hcap : cap ≤ maxLen) (hB : B ≤ w.heap.size) (hb : Fm.By xs) (ht : Tab w) :
    Calls Tryd.prog 18 #[.int .u8 k, .slice A n cap] w fun e w' => ∃ l, e = .returned (.tuple #[mv (Mm.of k xs).1 l, .int .i64 (Mm.of k xs).2]) ∧ MsAt w' w'.heap.size (Mm.of k xs).1 l ∧ LoFr w.heap.size l ∧ Below w.heap.size w w' := by
  have hk64 : IntKind.i64.wrap k = k := by simp [IntKind.wrap, IntKind.signed, IntKind.bits]; omega
  have HK := Lib.hid hk
  have hz1 : (w.alloc (.cells (mvs Mm.zero Lo.zero).toArray 30)).heap.size = w.heap.size + 1 := World.size_alloc ..
  have hz2 : ((w.alloc (.cells (mvs Mm.zero Lo.zero).toArray 30)).alloc (.cells (rdvs A n cap 0 0).toArray 68)).heap.size = w.heap.size + 2 := by rw [World.size_alloc, hz1]
  have hb2 : Below w.heap.size w ((w.alloc (.cells (mvs Mm.zero Lo.zero).toArray 30)).alloc (.cells (rdvs A n cap 0 0).toArray 68)) := ((Below.refl _ w).alloc (Nat.le_refl _) _).alloc (by omega) _
  have hr0 : Rdr ((w.alloc (.cells (mvs Mm.zero Lo.zero).toArray 30)).alloc (.cells (rdvs A n cap 0 0).toArray 68)) (w.heap.size + 1) A n cap 0 0 := by
    have h1 := range_new (w.alloc (.cells (mvs Mm.zero Lo.zero).toArray 30)) (rdvs A n cap 0 0) 68
    have h2 := there_new (w.alloc (.cells (mvs Mm.zero Lo.zero).toArray 30)) (rdvs A n cap 0 0) 68
    rw [hz1] at h1 h2
    exact ⟨h1, h2⟩
  have ht4 : ((w.alloc (.cells (mvs Mm.zero Lo.zero).toArray 30)).alloc (.cells (rdvs A n cap 0 0).toArray 68)).there w.heap.size 0 26 := World.there_alloc (there_new w (mvs Mm.zero Lo.zero) 30) _
  have HN := Lib.hid (readN_any (w.heap.size + 1) A n cap B xs 0 0 _ hr0 (by omega) (by rw [hz2]; omega) (hx.below (hb2.mono hB)) hn hnc hcap hb (fun _ => ⟨by omega, by omega⟩))
  rw [Mm.thenR_ok (s := (0, 0)) rfl] at HN
  have H2 := Lib.hid (And.intro hz2 (And.intro hb2 ht4))
  have HX := Lib.hid hx
  have HT := Lib.hid ht
  have HBY := Lib.hid hb
  have HNL := Lib.hid hn
  have HFN := Lib.hid (Mm.fits_N hb)
  have HPN := Lib.hid (Mm.pl_N hb)
  have HS2 : Hid (Mm.s2 xs = if (Mm.rN xs 0).1.getD 9 0 = 1 then Mm.thenR Pm.zero (Mm.rN xs 0).2 (Mm.rP xs) else (Pm.zero, (Mm.rN xs 0).2)) := rfl
  have HG : Hid (Mm.got k xs = { Mm.msOf k (Mm.rN xs 0).1 with plan := (Mm.s2 xs).1, id := (Mm.s3 xs).1, se := (Mm.s4 xs).1, pa := (Mm.s5 xs).1 }) := rfl
  have HNE : Hid ((Mm.got k xs).nums ≠ (Mm.rN xs 0).1 → Mm.of k xs = (Mm.zero, 51)) := fun h => Mm.of_no fun g => h g.2.2.1
  have HOK : Hid ((Mm.s5 xs).2.2 = 0 → (Mm.s5 xs).2.1 = (xs.length : Int) → (Mm.got k xs).nums = (Mm.rN xs 0).1 → (Mm.got k xs).right = true → Mm.of k xs = (Mm.got k xs, 0)) := fun h1 h2 h3 h4 => Mm.of_ok ⟨h1, h2, h3, h4⟩
  have HNLEN := Lib.hid (Mm.rN_len xs 0)
  have HS3 : Hid (Mm.s3 xs = Mm.thenR [] (Mm.s2 xs).2 (Wm.rints xs)) := rfl
  have HS4 : Hid (Mm.s4 xs = Mm.thenR [] (Mm.s3 xs).2 (Wm.rtext xs)) := rfl
  have HS5 : Hid (Mm.s5 xs = Mm.thenR [] (Mm.s4 xs).2 (Wm.rtext xs)) := rfl
  have HP2 := Lib.hid (Mm.pl_s2 hb)
  have HP3 := Lib.hid (Mm.pl_s3 hb)
  have HP4 := Lib.hid (Mm.pl_s4 hb)
  have HF3 : Hid (Wm.Fits (Mm.s3 xs).1) := Mm.fits_ints hb (Mm.pl_s2 hb)
  have HF4 : Hid (Fm.By (Mm.s4 xs).1) := Mm.by_text hb (Mm.pl_s3 hb)
  have HF5 : Hid (Fm.By (Mm.s5 xs).1) := Mm.by_text hb (Mm.pl_s4 hb)
  have HB5 : Hid ((Mm.s5 xs).2.2 ≠ 0 → Mm.of k xs = (Mm.zero, 51)) := Mm.bad5
  have HBL : Hid ((Mm.s5 xs).2.1 ≠ (xs.length : Int) → Mm.of k xs = (Mm.zero, 51)) := Mm.badL
  have HBR : Hid ((Mm.got k xs).right = false → Mm.of k xs = (Mm.zero, 51)) := Mm.badR
  clear hx ht hb hn hr0 ht4 hz1 hz2 hb2 hk
  generalize Mm.rN xs 0 = q at *
  obtain ⟨ns, a1, e1⟩ := q
  dsimp only at *
  generalize Mm.of k xs = Y at *
  generalize Mm.got k xs = X at *
  generalize Mm.s5 xs = q5 at *
  generalize Mm.s4 xs = q4 at *
  generalize Mm.s3 xs = q3 at *
  generalize Mm.s2 xs = q2 at *
  go_enter Tryd.func18, Tryd.ntmps18
  go_wp2_with (go_at_call 38; fail)
  refine HN.out.mono ?_
  rintro e w2 ⟨rfl, hr2, hg2⟩
  obtain ⟨z2, b2, t2⟩ := H2.out
  have hz2 : w.heap.size + 2 ≤ w2.heap.size := by have := hg2.size; rwa [z2] at this
  have hb2 := Lib.hid (below_grown b2 hg2 (by omega) b2.size)
  have ht2 := Lib.hid (there_grown t2 hg2 (by omega) (by rw [z2]; omega))
  have hr2' := Lib.hid hr2
  clear z2 b2 t2 hg2 hr2 H2 HN
  have hs1 : Hid ((Tryd.prog.info? 49).map (·.size) = some (i64s ns).toArray.size) := by rw [List.size_toArray, i64s_len, HNLEN.out]; exact Lib.hid info_mnums
  have hs2 : Hid ((Tryd.prog.info? 49).map (·.size) = some (i64s ns).length) := by rw [i64s_len, HNLEN.out]; exact Lib.hid info_mnums
  have hs3 : Hid (10 = (i64s ns).toArray.size) := by rw [List.size_toArray, i64s_len, HNLEN.out]; exact Lib.hid rfl
  have hone := Lib.hid (i64s_one ns)
  have hrn := Lib.hid (range_new w2 (i64s ns) 49)
  have HM := Lib.hid (msgOf_any ns HNLEN.out HFN.out (w2.alloc (.cells (i64s ns).toArray 49)))
  go_wp2_with (first | ((with_reducible refine wpList_gate ?_); refine wpList_store_new rfl 49 _ _ rfl _ (i64s ns).toArray rfl rfl hs1.out hs3.out hone.out ?_) | ((with_reducible refine wpList_gate ?_); refine wpList_load_mid rfl 49 _ rfl w2.heap.size 0 rfl (i64s ns) _ hrn.out Tryd.underlying49 rfl hs2.out ?_) | (go_at_call 40; fail))
  refine HM.out.mono ?_
  rintro e w3 ⟨rfl, hb3⟩
  have h4 := Ofs.start (ns := ns) HFN.out ht2.out hr2'.out hz2 hb2.out hb3
  have h5 := Lib.hid (h4.kind k (Mm.k_fit HK.out))
  obtain ⟨k0, f0⟩ := h4.cell 0 rfl
  obtain ⟨k10, -⟩ := h5.out.cell 10 rfl
  have ho : Hid ((mvs (Mm.msOf 0 ns) Lo.zero).toArray.all (·.oneCell') = true) := mvs_one _ _
  have hi : Hid ((Tryd.prog.info? 30).map (·.size) = some (mvs (Mm.msOf 0 ns) Lo.zero).toArray.size) := info_msg
  have hl : Hid (26 = (mvs (Mm.msOf 0 ns) Lo.zero).toArray.size) := rfl
  clear h4 hb3 HM hb2 ht2 hr2' hrn hone hs1 hs2 hs3 hz2
  have way : ns.getD 9 0 = 1 ∨ ns.getD 9 0 ≠ 1 := by omega
  rcases way with h9 | h9
  case' inl =>
    rw [if_pos h9] at HS2
    rw [show (Mm.msOf 0 ns).has = true from decide_eq_true h9] at k10
    clear h9
    go_wp2_with (first | ((with_reducible refine wpList_gate ?_); refine wpList_store_new rfl 30 _ _ rfl _ (mvs (Mm.msOf 0 ns) Lo.zero).toArray rfl rfl hi.out hl.out ho.out ?_; generalize World.alloc w3 _ = w4 at *) | (go_at_call 41; fail))
    clear k0 f0 k10 ho hi hl
    generalize World.setCell _ _ _ = w5 at *
    have HRP := Lib.hid (readP_any (w.heap.size + 1) A n cap B xs a1 e1 w5 h5.out.r (by omega) (by have := h5.out.h1; have := h5.out.h2; have := h5.out.h3; omega) (HX.out.below (h5.out.bel.mono hB)) HNL.out hnc hcap HBY.out (HT.out.below h5.out.bel (Nat.le_refl _)) (HPN.out.bounds HNL.out hnc hcap))
    rw [← HS2.out] at HRP
    refine HRP.out.mono ?_
    rintro e w5b ⟨A1, n1, c1, A2, n2, c2, rfl, hpl, hf1, hf2, hr6, hg6⟩
    have h6 := h5.out.read hr6 hg6
    have ht6 := Lib.hid (there_part h6.t8 (p := 11) (m := 12) (Nat.zero_le _) (by omega))
    obtain ⟨x, l, hx0, h7⟩ : ∃ x l, Hid (x = { Mm.msOf k ns with plan := q2.1 }) ∧ Hid (Ofs w (w5b.setCells w3.heap.size 11 (pvs (q2).1 A1 n1 c1 A2 n2 c2)) A n cap (q2).2.1 (q2).2.2 w2.heap.size w3.heap.size ns x l) := ⟨_, _, Lib.hid rfl, h6.plan _ A1 n1 c1 A2 n2 c2 hpl (hf1.mono h5.out.h3) (hf2.mono h5.out.h3)⟩
    clear hpl hf1 hf2 hr6 hg6 h6 HRP h5
    rw [pv_eq]
    go_wp2_with (first | ((with_reducible refine wpList_gate ?_); refine wpList_store_mid rfl 27 _ _ rfl w3.heap.size 11 (pvs (q2).1 A1 n1 c1 A2 n2 c2).toArray rfl rfl ht6.out info_plan (pvs_one _ _ _ _ _ _ _) ?_; generalize World.setCells _ _ _ _ = w6 at *) | (go_at_call 43; fail))
    clear ht6
  case' inr =>
    rw [if_neg h9] at HS2
    rw [show (Mm.msOf 0 ns).has = false from decide_eq_false h9] at k10
    clear h9
    go_wp2_with (first | ((with_reducible refine wpList_gate ?_); refine wpList_store_new rfl 30 _ _ rfl _ (mvs (Mm.msOf 0 ns) Lo.zero).toArray rfl rfl hi.out hl.out ho.out ?_; generalize World.alloc w3 _ = w4 at *) | (go_at_call 43; fail))
    clear k0 f0 k10 ho hi hl
    generalize World.setCell _ _ _ = w6 at *
    obtain ⟨x, l, hx0, h7⟩ : ∃ x l, Hid (x = { Mm.msOf k ns with plan := q2.1 }) ∧ Hid (Ofs w w6 A n cap (q2).2.1 (q2).2.2 w2.heap.size w3.heap.size ns x l) := ⟨_, _, Lib.hid rfl, by rw [HS2.out]; exact h5⟩
    clear h5
  all_goals clear HPN HFN HS2 hk64
  all_goals
    have HR3 := Lib.hid (readI_any (w.heap.size + 1) A n cap B xs q2.2.1 q2.2.2 w6 h7.out.r (by omega) (by have := h7.out.h1; have := h7.out.h2; have := h7.out.h3; omega) (HX.out.below (h7.out.bel.mono hB)) HNL.out hnc hcap HBY.out (HP2.out.bounds HNL.out hnc hcap))
    rw [show Mm.thenR [] (q2.2.1, q2.2.2) (Wm.rints xs) = q3 from HS3.out.symm] at HR3
    refine HR3.out.mono ?_
    rintro e w7 ⟨v, rfl, hown, hr, hg⟩
    obtain ⟨D3, d3, rfl, hc, hm, hrd⟩ := own_view hown
    have hh := h7.out.read hr hg
    have hf := (own_fr hown).mono h7.out.h3
    obtain ⟨kc, fc⟩ := hh.cell 23 rfl
    obtain ⟨x3, l3, hx3, h8⟩ : ∃ x' l', Hid (x' = { x with id := q3.1 }) ∧ Hid (Ofs w (w7.setCell ⟨w3.heap.size, 23, none⟩ (.slice D3 q3.1.length d3)) A n cap q3.2.1 q3.2.2 w2.heap.size w3.heap.size ns x' l') := ⟨_, _, Lib.hid rfl, hh.id q3.1 D3 _ d3 hrd rfl hc hm HF3.out hf⟩
    clear hown hr hg hh hrd HR3 h7 hc hm hf
    go_wp2_with (go_at_call 45; fail)
    clear kc fc
    generalize World.setCell _ _ _ = w7b at *
    have HR4 := Lib.hid (readT_any (w.heap.size + 1) A n cap B xs q3.2.1 q3.2.2 w7b h8.out.r (by omega) (by have := h8.out.h1; have := h8.out.h2; have := h8.out.h3; omega) (HX.out.below (h8.out.bel.mono hB)) HNL.out hnc hcap HBY.out (HP3.out.bounds HNL.out hnc hcap))
    rw [show Mm.thenR [] (q3.2.1, q3.2.2) (Wm.rtext xs) = q4 from HS4.out.symm] at HR4
    refine HR4.out.mono ?_
    rintro e w8 ⟨v, rfl, hown, hr, hg⟩
    obtain ⟨D4, d4, rfl, hc, hm, hrd⟩ := own_view hown
    have hh := h8.out.read hr hg
    have hf := (own_fr hown).mono h8.out.h3
    obtain ⟨kc, fc⟩ := hh.cell 24 rfl
    obtain ⟨x4, l4, hx4, h9⟩ : ∃ x' l', Hid (x' = { x3 with se := q4.1 }) ∧ Hid (Ofs w (w8.setCell ⟨w3.heap.size, 24, none⟩ (.slice D4 q4.1.length d4)) A n cap q4.2.1 q4.2.2 w2.heap.size w3.heap.size ns x' l') := ⟨_, _, Lib.hid rfl, hh.se q4.1 D4 _ d4 hrd rfl hc hm HF4.out hf⟩
    clear hown hr hg hh hrd HR4 h8 hc hm hf
    go_wp2_with (go_at_call 45; fail)
    clear kc fc
    generalize World.setCell _ _ _ = w8b at *
    have HR5 := Lib.hid (readT_any (w.heap.size + 1) A n cap B xs q4.2.1 q4.2.2 w8b h9.out.r (by omega) (by have := h9.out.h1; have := h9.out.h2; have := h9.out.h3; omega) (HX.out.below (h9.out.bel.mono hB)) HNL.out hnc hcap HBY.out (HP4.out.bounds HNL.out hnc hcap))
    rw [show Mm.thenR [] (q4.2.1, q4.2.2) (Wm.rtext xs) = q5 from HS5.out.symm] at HR5
    refine HR5.out.mono ?_
    rintro e w9 ⟨v, rfl, hown, hr, hg⟩
    obtain ⟨D5, d5, rfl, hc, hm, hrd⟩ := own_view hown
    have hh := h9.out.read hr hg
    have hf := (own_fr hown).mono h9.out.h3
    obtain ⟨kc, fc⟩ := hh.cell 25 rfl
    obtain ⟨x5, l5, hx5, h10⟩ : ∃ x' l', Hid (x' = { x4 with pa := q5.1 }) ∧ Hid (Ofs w (w9.setCell ⟨w3.heap.size, 25, none⟩ (.slice D5 q5.1.length d5)) A n cap q5.2.1 q5.2.2 w2.heap.size w3.heap.size ns x' l') := ⟨_, _, Lib.hid rfl, hh.pa q5.1 D5 _ d5 hrd rfl hc hm HF5.out hf⟩
    clear hown hr hg hh hrd HR5 h9 hc hm hf
    go_wp2_with (fail)
    clear kc fc
    generalize World.setCell _ _ _ = w9b at *
    have hX : X = x5 := by rw [HG.out, hx5.out, hx4.out, hx3.out, hx0.out]
    rw [hX] at HNE HOK HBR
    clear hX HG hx0 hx3 hx4 hx5 HP2 HP3 HP4 HF3 HF4 HF5 HS3 HS4 HS5 HBY HX
    obtain ⟨p5, a5, e5⟩ := q5
    dsimp only at *
    have hz8 : w9b.heap.size ≤ w9b.heap.size := Nat.le_refl _
    have hg9 : w.heap.size + 1 < w9b.heap.size := by have := h10.out.h1; have := h10.out.h2; have := h10.out.h3; omega
    have HRD := Lib.hid (fun (W : World) (h : Below w9b.heap.size w9b W) => h10.out.r.below h hg9)
    have HN7 := Lib.hid (fun (W : World) (h : Below w9b.heap.size w9b W) => range_below h10.out.n7 h (by have := h10.out.h2; have := h10.out.h3; omega))
    have HM8 := Lib.hid (fun (W : World) (h : Below w9b.heap.size w9b W) => range_below h10.out.m8 h h10.out.h3)
    have HMS := Lib.hid (fun (W : World) (h : Below w9b.heap.size w9b W) => h10.out.ms.below h (Nat.le_refl _))
    have HT4 := Lib.hid (fun (W : World) (h : Below w9b.heap.size w9b W) => there_below h10.out.t4 h (by omega))
    have HW := Lib.hid (fun (W : World) (h : Below w9b.heap.size w9b W) => h10.out.bel.trans (h.mono (by omega)))
    have HSB := Lib.hid (fun (W : World) (cs : List Value) (h : Below w9b.heap.size w9b W) => below_grown (HW.out W h) (grown_set w.heap.size cs 0 W) (Nat.le_refl _) (HW.out W h).size)
    have HFR := Lib.hid h10.out.fr
    have hb8 := Lib.hid (show w.heap.size < w3.heap.size + 1 from by have := h10.out.h1; have := h10.out.h2; omega)
    have HXO := Lib.hid h10.out.ms.ok
    have HNX := Lib.hid (fun W => mnums_any x5 l5 W h10.out.ms.ok)
    have HRI := Lib.hid (fun (W : World) (h : Below w9b.heap.size w9b W) (ht : Tab W) => MRight_any x5 l5 w9b.heap.size W (HMS.out W h) h.size ht)
    have hEN := Lib.hid (fun W => mnums_equal x5.nums ns rfl HNLEN.out W)
    have hi8 : Hid ((Tryd.prog.info? 30).map (·.size) = some (mvs x5 l5).length) := info_msg
    have hi9 : Hid ((Tryd.prog.info? 30).map (·.size) = some (mvs x5 l5).toArray.size) := info_msg
    have ho9 := Lib.hid (mvs_one x5 l5)
    have ht9 : Hid (∀ (W : World), Below w9b.heap.size w9b W → W.there w.heap.size 0 (mvs x5 l5).toArray.size) := HT4.out
    have hs7 : Hid ((Tryd.prog.info? 49).map (·.size) = some (i64s ns).length) := by rw [i64s_len, HNLEN.out]; exact Lib.hid info_mnums
    have hgd := mguard_nums
    clear hz8 h10 HNLEN
    unfold mv at HNX HRI
    obtain ⟨L, hL⟩ : ∃ L, L = mvs x5 l5 := ⟨_, rfl⟩
    have HL := Lib.hid hL
    rw [← hL] at HNX HRI HM8 hi8 hi9 ho9 ht9
    clear hL
  · go_wp2_with fail
    refine region_C (fun W => Below w9b.heap.size w9b W) (by kernel_rfl) ?_
    have hC : Below w9b.heap.size w9b w9b.drew := (Below.refl _ _).drew
    refine anyC_take (i := 0) (v := ?v0_490) (a' := ?a0_490) rfl (by kernel_rfl) (by kernel_rfl) (by kernel_rfl) (fun _ _ _ h => h) hC ?w0_490 ?y0_490 ?f0_490 ?r0_490
    case w0_490 => kernel_rfl
    case y0_490 => (intro w hC; go_simp; try with_reducible rfl)
    case f0_490 => (go_simp; try with_reducible rfl)
    refine anyC_take (i := 1) (v := ?v1_491) (a' := ?a1_491) rfl (by kernel_rfl) (by kernel_rfl) (by kernel_rfl) (fun _ _ _ h => h) hC ?w1_491 ?y1_491 ?f1_491 ?r1_491
    case w1_491 => kernel_rfl
    case y1_491 => (intro w hC; go_simp; try with_reducible rfl)
    case f1_491 => (go_simp; try with_reducible rfl)
    refine anyC_take (i := 2) (v := ?v2_492) (a' := ?a2_492) rfl (by kernel_rfl) (by kernel_rfl) (by kernel_rfl) (fun _ _ _ h => h) hC ?w2_492 ?y2_492 ?f2_492 ?r2_492
    case w2_492 => kernel_rfl
    case y2_492 => (intro w hC; go_simp; try with_reducible rfl)
    case f2_492 => (go_simp; try with_reducible rfl)
    refine anyC_take (i := 3) (v := ?v3_493) (a' := ?a3_493) rfl (by kernel_rfl) (by kernel_rfl) (by kernel_rfl) (fun _ _ _ h => h) hC ?w3_493 ?y3_493 ?f3_493 ?r3_493
    case w3_493 => kernel_rfl
    case y3_493 => (intro w hC; have h4 := (HRD.out w hC).c2; go_simp; try with_reducible rfl)
    case f3_493 => (go_simp; try with_reducible rfl)
    by_cases he5 : e5 = 0
    case neg =>
      have HE := Lib.hid (HB5.out he5)
      have hq : (e5 != 0) = true := by rw [bne_iff_ne]; exact he5
      clear he5
      refine anyC_take (i := 4) (v := ?v4_494) (a' := ?a4_494) rfl (by kernel_rfl) (by kernel_rfl) (by kernel_rfl) (fun _ _ _ h => h) hC ?w4_494 ?y4_494 ?f4_494 ?r4_494
      case w4_494 => kernel_rfl
      case y4_494 => (intro w hC; go_simp; try with_reducible rfl)
      case f4_494 => (go_simp; try with_reducible rfl)
      refine anyC_take (i := 5) (v := ?v5_495) (a' := ?a5_495) rfl (by kernel_rfl) (by kernel_rfl) (by kernel_rfl) (fun _ _ _ h => h) hC ?w5_495 ?y5_495 ?f5_495 ?r5_495
      case w5_495 => kernel_rfl
      case y5_495 => (intro w hC; go_simp; try with_reducible rfl)
      case f5_495 => (go_simp; try with_reducible rfl)
      refine anyC_skip (i := 6) (a' := ?a6_496) rfl (by kernel_rfl) (by kernel_rfl) (by kernel_rfl) (fun _ _ _ h => h) hC (by kernel_rfl) ?f6_496 ?r6_496
      case f6_496 => (go_simp; try with_reducible rfl)
      refine anyC_skip (i := 7) (a' := ?a7_497) rfl (by kernel_rfl) (by kernel_rfl) (by kernel_rfl) (fun _ _ _ h => h) hC (by kernel_rfl) ?f7_497 ?r7_497
      case f7_497 => (go_simp; try with_reducible rfl)
      refine anyC_skip (i := 8) (a' := ?a8_498) rfl (by kernel_rfl) (by kernel_rfl) (by kernel_rfl) (fun _ _ _ h => h) hC (by kernel_rfl) ?f8_498 ?r8_498
      case f8_498 => (go_simp; try with_reducible rfl)
      refine anyC_skip (i := 9) (a' := ?a9_499) rfl (by kernel_rfl) (by kernel_rfl) (by kernel_rfl) (fun _ _ _ h => h) hC (by kernel_rfl) ?f9_499 ?r9_499
      case f9_499 => (go_simp; try with_reducible rfl)
      refine anyC_skip (i := 10) (a' := ?a10_500) rfl (by kernel_rfl) (by kernel_rfl) (by kernel_rfl) (fun _ _ _ h => h) hC (by kernel_rfl) ?f10_500 ?r10_500
      case f10_500 => (go_simp; try with_reducible rfl)
      refine anyC_skip (i := 11) (a' := ?a11_501) rfl (by kernel_rfl) (by kernel_rfl) (by kernel_rfl) (fun _ _ _ h => h) hC (by kernel_rfl) ?f11_501 ?r11_501
      case f11_501 => (go_simp; try with_reducible rfl)
      refine anyC_take (i := 12) (v := ?v12_502) (a' := ?a12_502) rfl (by kernel_rfl) (by kernel_rfl) (by kernel_rfl) (fun _ _ _ h => h) hC ?w12_502 ?y12_502 ?f12_502 ?r12_502
      case w12_502 => kernel_rfl
      case y12_502 => (intro w hC; go_simp; try with_reducible rfl)
      case f12_502 => (go_simp; try with_reducible rfl)
      refine anyC_take (i := 13) (v := ?v13_503) (a' := ?a13_503) rfl (by kernel_rfl) (by kernel_rfl) (by kernel_rfl) (fun _ _ _ h => h) hC ?w13_503 ?y13_503 ?f13_503 ?r13_503
      case w13_503 => kernel_rfl
      case y13_503 => (intro w hC; go_simp; try with_reducible rfl)
      case f13_503 => (go_simp; try with_reducible rfl)
      refine anyC_skip (i := 14) (a' := ?a14_504) rfl (by kernel_rfl) (by kernel_rfl) (by kernel_rfl) (fun _ _ _ h => h) hC (by kernel_rfl) ?f14_504 ?r14_504
      case f14_504 => (go_simp; try with_reducible rfl)
      refine anyC_skip (i := 15) (a' := ?a15_505) rfl (by kernel_rfl) (by kernel_rfl) (by kernel_rfl) (fun _ _ _ h => h) hC (by kernel_rfl) ?f15_505 ?r15_505
      case f15_505 => (go_simp; try with_reducible rfl)
      refine anyC_skip (i := 16) (a' := ?a16_506) rfl (by kernel_rfl) (by kernel_rfl) (by kernel_rfl) (fun _ _ _ h => h) hC (by kernel_rfl) ?f16_506 ?r16_506
      case f16_506 => (go_simp; try with_reducible rfl)
      refine anyC_skip (i := 17) (a' := ?a17_507) rfl (by kernel_rfl) (by kernel_rfl) (by kernel_rfl) (fun _ _ _ h => h) hC (by kernel_rfl) ?f17_507 ?r17_507
      case f17_507 => (go_simp; try with_reducible rfl)
      refine anyC_take (i := 18) (v := ?v18_508) (a' := ?a18_508) rfl (by kernel_rfl) (by kernel_rfl) (by kernel_rfl) (fun _ _ _ h => h) hC ?w18_508 ?y18_508 ?f18_508 ?r18_508
      case w18_508 => kernel_rfl
      case y18_508 => (intro w hC; go_simp; try with_reducible rfl)
      case f18_508 => (go_simp; try with_reducible rfl)
      refine anyC_take (i := 19) (v := ?v19_509) (a' := ?a19_509) rfl (by kernel_rfl) (by kernel_rfl) (by kernel_rfl) (fun _ _ _ h => h) hC ?w19_509 ?y19_509 ?f19_509 ?r19_509
      case w19_509 => kernel_rfl
      case y19_509 => (intro w hC; go_simp; try with_reducible rfl)
      case f19_509 => (go_simp; try with_reducible rfl)
      refine anyC_skip (i := 20) (a' := ?a20_510) rfl (by kernel_rfl) (by kernel_rfl) (by kernel_rfl) (fun _ _ _ h => h) hC (by kernel_rfl) ?f20_510 ?r20_510
      case f20_510 => (go_simp; try with_reducible rfl)
      refine anyC_skip (i := 21) (a' := ?a21_511) rfl (by kernel_rfl) (by kernel_rfl) (by kernel_rfl) (fun _ _ _ h => h) hC (by kernel_rfl) ?f21_511 ?r21_511
      case f21_511 => (go_simp; try with_reducible rfl)
      refine anyC_skip (i := 22) (a' := ?a22_512) rfl (by kernel_rfl) (by kernel_rfl) (by kernel_rfl) (fun _ _ _ h => h) hC (by kernel_rfl) ?f22_512 ?r22_512
      case f22_512 => (go_simp; try with_reducible rfl)
      refine anyC_take (i := 23) (v := ?v23_513) (a' := ?a23_513) rfl (by kernel_rfl) (by kernel_rfl) (by kernel_rfl) (fun _ _ _ h => h) hC ?w23_513 ?y23_513 ?f23_513 ?r23_513
      case w23_513 => kernel_rfl
      case y23_513 => (intro w hC; go_simp; try with_reducible rfl)
      case f23_513 => (go_simp; try with_reducible rfl)
      refine anyC_done (by kernel_rfl) ?_
      clear hq
      go_wp2_with (first | ((with_reducible refine wpList_gate ?_); refine wpList_build rfl 30 _ rfl #[] rfl (mvs Mm.zero Lo.zero).toArray zmsg_built ?_) | ((with_reducible refine wpList_gate ?_); refine wpList_store_mid rfl 30 _ _ rfl w.heap.size 0 (mvs Mm.zero Lo.zero).toArray rfl rfl (HT4.out _ hC) info_msg (mvs_one _ _) ?_))
      refine bodyPost_ret (results_ct rfl _ _ w.heap.size (mvs Mm.zero Lo.zero) _ rfl (World.rangeAt_setCells_same _ _ _ _ (HT4.out _ hC)) Tryd.underlying30 rfl info_msg) rfl ?_
      rw [HE.out]
      exact ⟨Lo.zero, rfl, MsAt.zero _ _, LoFr.zero _, HSB.out _ _ hC⟩
    subst he5
    refine anyC_take (i := 4) (v := ?v4_514) (a' := ?a4_514) rfl (by kernel_rfl) (by kernel_rfl) (by kernel_rfl) (fun _ _ _ h => h) hC ?w4_514 ?y4_514 ?f4_514 ?r4_514
    case w4_514 => kernel_rfl
    case y4_514 => (intro w hC; go_simp; try with_reducible rfl)
    case f4_514 => (go_simp; try with_reducible rfl)
    refine anyC_take (i := 5) (v := ?v5_515) (a' := ?a5_515) rfl (by kernel_rfl) (by kernel_rfl) (by kernel_rfl) (fun _ _ _ h => h) hC ?w5_515 ?y5_515 ?f5_515 ?r5_515
    case w5_515 => kernel_rfl
    case y5_515 => (intro w hC; go_simp; try with_reducible rfl)
    case f5_515 => (go_simp; try with_reducible rfl)
    refine anyC_take (i := 6) (v := ?v6_516) (a' := ?a6_516) rfl (by kernel_rfl) (by kernel_rfl) (by kernel_rfl) (fun _ _ _ h => h) hC ?w6_516 ?y6_516 ?f6_516 ?r6_516
    case w6_516 => kernel_rfl
    case y6_516 => (intro w hC; go_simp; try with_reducible rfl)
    case f6_516 => (go_simp; try with_reducible rfl)
    refine anyC_take (i := 7) (v := ?v7_517) (a' := ?a7_517) rfl (by kernel_rfl) (by kernel_rfl) (by kernel_rfl) (fun _ _ _ h => h) hC ?w7_517 ?y7_517 ?f7_517 ?r7_517
    case w7_517 => kernel_rfl
    case y7_517 => (intro w hC; go_simp; try with_reducible rfl)
    case f7_517 => (go_simp; try with_reducible rfl)
    refine anyC_take (i := 8) (v := ?v8_518) (a' := ?a8_518) rfl (by kernel_rfl) (by kernel_rfl) (by kernel_rfl) (fun _ _ _ h => h) hC ?w8_518 ?y8_518 ?f8_518 ?r8_518
    case w8_518 => kernel_rfl
    case y8_518 => (intro w hC; go_simp; try with_reducible rfl)
    case f8_518 => (go_simp; try with_reducible rfl)
    refine anyC_take (i := 9) (v := ?v9_519) (a' := ?a9_519) rfl (by kernel_rfl) (by kernel_rfl) (by kernel_rfl) (fun _ _ _ h => h) hC ?w9_519 ?y9_519 ?f9_519 ?r9_519
    case w9_519 => kernel_rfl
    case y9_519 => (intro W hW; exact by refine exec_load 66 (.tmp 42) ?_ (w.heap.size + 1) ?_ [.slice A n cap, .int .i64 a5] _ (range_head (ys := [.int .i64 0]) (HRD.out _ hW).rng) Tryd.underlying66 rfl info_pos <;> rfl)
    case f9_519 => (go_simp; try with_reducible rfl)
    refine anyC_one (i := 10) rfl (by kernel_rfl) (by kernel_rfl) (fun K hK => ?_)
    go_simp
    refine (atEnd_any A n cap a5 _).mono ?_
    rintro e u3 ⟨rfl, hb⟩
    have hC3 : Below w9b.heap.size w9b u3 := hC.trans (hb.mono hC.size)
    refine hK _ _ ⟨hC3, ?_⟩
    clear hK K hb
    by_cases ha5 : a5 = (n : Int)
    case neg =>
      have HE := Lib.hid (HBL.out (by rw [HNL.out]; exact ha5))
      have hq : (a5 == (n : Int)) = false := by rw [beq_eq_false_iff_ne]; exact ha5
      clear ha5
      refine anyC_take (i := 11) (v := ?v11_520) (a' := ?a11_520) rfl (by kernel_rfl) (by kernel_rfl) (by kernel_rfl) (fun _ _ _ h => h) hC3 ?w11_520 ?y11_520 ?f11_520 ?r11_520
      case w11_520 => kernel_rfl
      case y11_520 => (intro w hC; go_simp; try with_reducible rfl)
      case f11_520 => (go_simp; try with_reducible rfl)
      refine anyC_take (i := 12) (v := ?v12_521) (a' := ?a12_521) rfl (by kernel_rfl) (by kernel_rfl) (by kernel_rfl) (fun _ _ _ h => h) hC3 ?w12_521 ?y12_521 ?f12_521 ?r12_521
      case w12_521 => kernel_rfl
      case y12_521 => (intro w hC; go_simp; try with_reducible rfl)
      case f12_521 => (go_simp; try with_reducible rfl)
      refine anyC_take (i := 13) (v := ?v13_522) (a' := ?a13_522) rfl (by kernel_rfl) (by kernel_rfl) (by kernel_rfl) (fun _ _ _ h => h) hC3 ?w13_522 ?y13_522 ?f13_522 ?r13_522
      case w13_522 => kernel_rfl
      case y13_522 => (intro w hC; go_simp; try with_reducible rfl)
      case f13_522 => (go_simp; try with_reducible rfl)
      refine anyC_skip (i := 14) (a' := ?a14_523) rfl (by kernel_rfl) (by kernel_rfl) (by kernel_rfl) (fun _ _ _ h => h) hC3 (by kernel_rfl) ?f14_523 ?r14_523
      case f14_523 => (go_simp; try with_reducible rfl)
      refine anyC_skip (i := 15) (a' := ?a15_524) rfl (by kernel_rfl) (by kernel_rfl) (by kernel_rfl) (fun _ _ _ h => h) hC3 (by kernel_rfl) ?f15_524 ?r15_524
      case f15_524 => (go_simp; try with_reducible rfl)
      refine anyC_skip (i := 16) (a' := ?a16_525) rfl (by kernel_rfl) (by kernel_rfl) (by kernel_rfl) (fun _ _ _ h => h) hC3 (by kernel_rfl) ?f16_525 ?r16_525
      case f16_525 => (go_simp; try with_reducible rfl)
      refine anyC_skip (i := 17) (a' := ?a17_526) rfl (by kernel_rfl) (by kernel_rfl) (by kernel_rfl) (fun _ _ _ h => h) hC3 (by kernel_rfl) ?f17_526 ?r17_526
      case f17_526 => (go_simp; try with_reducible rfl)
      refine anyC_take (i := 18) (v := ?v18_527) (a' := ?a18_527) rfl (by kernel_rfl) (by kernel_rfl) (by kernel_rfl) (fun _ _ _ h => h) hC3 ?w18_527 ?y18_527 ?f18_527 ?r18_527
      case w18_527 => kernel_rfl
      case y18_527 => (intro w hC; go_simp; try with_reducible rfl)
      case f18_527 => (go_simp; try with_reducible rfl)
      refine anyC_take (i := 19) (v := ?v19_528) (a' := ?a19_528) rfl (by kernel_rfl) (by kernel_rfl) (by kernel_rfl) (fun _ _ _ h => h) hC3 ?w19_528 ?y19_528 ?f19_528 ?r19_528
      case w19_528 => kernel_rfl
      case y19_528 => (intro w hC; go_simp; try with_reducible rfl)
      case f19_528 => (go_simp; try with_reducible rfl)
      refine anyC_skip (i := 20) (a' := ?a20_529) rfl (by kernel_rfl) (by kernel_rfl) (by kernel_rfl) (fun _ _ _ h => h) hC3 (by kernel_rfl) ?f20_529 ?r20_529
      case f20_529 => (go_simp; try with_reducible rfl)
      refine anyC_skip (i := 21) (a' := ?a21_530) rfl (by kernel_rfl) (by kernel_rfl) (by kernel_rfl) (fun _ _ _ h => h) hC3 (by kernel_rfl) ?f21_530 ?r21_530
      case f21_530 => (go_simp; try with_reducible rfl)
      refine anyC_skip (i := 22) (a' := ?a22_531) rfl (by kernel_rfl) (by kernel_rfl) (by kernel_rfl) (fun _ _ _ h => h) hC3 (by kernel_rfl) ?f22_531 ?r22_531
      case f22_531 => (go_simp; try with_reducible rfl)
      refine anyC_take (i := 23) (v := ?v23_532) (a' := ?a23_532) rfl (by kernel_rfl) (by kernel_rfl) (by kernel_rfl) (fun _ _ _ h => h) hC3 ?w23_532 ?y23_532 ?f23_532 ?r23_532
      case w23_532 => kernel_rfl
      case y23_532 => (intro w hC; go_simp; try with_reducible rfl)
      case f23_532 => (go_simp; try with_reducible rfl)
      refine anyC_done (by kernel_rfl) ?_
      clear hq
      go_wp2_with (first | ((with_reducible refine wpList_gate ?_); refine wpList_build rfl 30 _ rfl #[] rfl (mvs Mm.zero Lo.zero).toArray zmsg_built ?_) | ((with_reducible refine wpList_gate ?_); refine wpList_store_mid rfl 30 _ _ rfl w.heap.size 0 (mvs Mm.zero Lo.zero).toArray rfl rfl (HT4.out _ hC3) info_msg (mvs_one _ _) ?_))
      refine bodyPost_ret (results_ct rfl _ _ w.heap.size (mvs Mm.zero Lo.zero) _ rfl (World.rangeAt_setCells_same _ _ _ _ (HT4.out _ hC3)) Tryd.underlying30 rfl info_msg) rfl ?_
      rw [HE.out]
      exact ⟨Lo.zero, rfl, MsAt.zero _ _, LoFr.zero _, HSB.out _ _ hC3⟩
    have HA5 := Lib.hid ha5
    have hq : (a5 == (n : Int)) = true := by rw [beq_iff_eq]; exact ha5
    clear ha5
    refine anyC_take (i := 11) (v := ?v11_533) (a' := ?a11_533) rfl (by kernel_rfl) (by kernel_rfl) (by kernel_rfl) (fun _ _ _ h => h) hC3 ?w11_533 ?y11_533 ?f11_533 ?r11_533
    case w11_533 => kernel_rfl
    case y11_533 => (intro w hC; go_simp; try with_reducible rfl)
    case f11_533 => (go_simp; try with_reducible rfl)
    refine anyC_take (i := 12) (v := ?v12_534) (a' := ?a12_534) rfl (by kernel_rfl) (by kernel_rfl) (by kernel_rfl) (fun _ _ _ h => h) hC3 ?w12_534 ?y12_534 ?f12_534 ?r12_534
    case w12_534 => kernel_rfl
    case y12_534 => (intro w hC; go_simp; try with_reducible rfl)
    case f12_534 => (go_simp; try with_reducible rfl)
    refine anyC_take (i := 13) (v := ?v13_535) (a' := ?a13_535) rfl (by kernel_rfl) (by kernel_rfl) (by kernel_rfl) (fun _ _ _ h => h) hC3 ?w13_535 ?y13_535 ?f13_535 ?r13_535
    case w13_535 => kernel_rfl
    case y13_535 => (intro w hC; go_simp; try with_reducible rfl)
    case f13_535 => (go_simp; try with_reducible rfl)
    clear hq
    refine anyC_take (i := 14) (v := ?v14_536) (a' := ?a14_536) rfl (by kernel_rfl) (by kernel_rfl) (by kernel_rfl) (fun _ _ _ h => h) hC3 ?w14_536 ?y14_536 ?f14_536 ?r14_536
    case w14_536 => kernel_rfl
    case y14_536 => (intro W hW; exact by refine exec_load 30 (.tmp 8) ?_ w3.heap.size ?_ L _ (HM8.out _ hW) Tryd.underlying30 rfl hi8.out <;> rfl)
    case f14_536 => (go_simp; try with_reducible rfl)
    refine anyC_take (i := 16) (v := ?v16_537) (a' := ?a16_537) rfl (by kernel_rfl) (by kernel_rfl) (by kernel_rfl) (fun _ _ _ h => h) hC3 ?w16_537 ?y16_537 ?f16_537 ?r16_537
    case w16_537 => kernel_rfl
    case y16_537 => (intro W hW; exact by refine exec_load 49 (.tmp 7) ?_ w2.heap.size ?_ (i64s ns) _ (HN7.out _ hW) Tryd.underlying49 rfl hs7.out <;> rfl)
    case f16_537 => (go_simp; try with_reducible rfl)
    refine anyC_one (i := 15) rfl (by kernel_rfl) (by kernel_rfl) (fun K hK => ?_)
    go_simp
    refine (HNX.out _).mono ?_
    rintro e u4 ⟨rfl, hb⟩
    have hC4 : Below w9b.heap.size w9b u4 := hC3.trans (hb.mono hC3.size)
    refine hK _ _ ⟨hC4, ?_⟩
    clear hK K hb
    by_cases en : x5.nums = ns
    case neg =>
      have hbe : (x5.nums == ns) = false := by rw [beq_eq_false_iff_ne]; exact en
      have HE := Lib.hid (HNE.out en)
      rw [hbe] at hEN
      clear en hbe
      refine anyC_take (i := 17) (v := ?v17_538) (a' := ?a17_538) rfl (by kernel_rfl) (by kernel_rfl) (by kernel_rfl) (fun _ _ _ h => h) hC4 ?w17_538 ?y17_538 ?f17_538 ?r17_538
      case w17_538 => kernel_rfl
      case y17_538 => (intro w hC; have h4 := hEN.out w; go_simp; try with_reducible rfl)
      case f17_538 => (go_simp; try with_reducible rfl)
      refine anyC_take (i := 18) (v := ?v18_539) (a' := ?a18_539) rfl (by kernel_rfl) (by kernel_rfl) (by kernel_rfl) (fun _ _ _ h => h) hC4 ?w18_539 ?y18_539 ?f18_539 ?r18_539
      case w18_539 => kernel_rfl
      case y18_539 => (intro w hC; go_simp; try with_reducible rfl)
      case f18_539 => (go_simp; try with_reducible rfl)
      refine anyC_take (i := 19) (v := ?v19_540) (a' := ?a19_540) rfl (by kernel_rfl) (by kernel_rfl) (by kernel_rfl) (fun _ _ _ h => h) hC4 ?w19_540 ?y19_540 ?f19_540 ?r19_540
      case w19_540 => kernel_rfl
      case y19_540 => (intro w hC; go_simp; try with_reducible rfl)
      case f19_540 => (go_simp; try with_reducible rfl)
      refine anyC_skip (i := 20) (a' := ?a20_541) rfl (by kernel_rfl) (by kernel_rfl) (by kernel_rfl) (fun _ _ _ h => h) hC4 (by kernel_rfl) ?f20_541 ?r20_541
      case f20_541 => (go_simp; try with_reducible rfl)
      refine anyC_skip (i := 21) (a' := ?a21_542) rfl (by kernel_rfl) (by kernel_rfl) (by kernel_rfl) (fun _ _ _ h => h) hC4 (by kernel_rfl) ?f21_542 ?r21_542
      case f21_542 => (go_simp; try with_reducible rfl)
      refine anyC_skip (i := 22) (a' := ?a22_543) rfl (by kernel_rfl) (by kernel_rfl) (by kernel_rfl) (fun _ _ _ h => h) hC4 (by kernel_rfl) ?f22_543 ?r22_543
      case f22_543 => (go_simp; try with_reducible rfl)
      refine anyC_take (i := 23) (v := ?v23_544) (a' := ?a23_544) rfl (by kernel_rfl) (by kernel_rfl) (by kernel_rfl) (fun _ _ _ h => h) hC4 ?w23_544 ?y23_544 ?f23_544 ?r23_544
      case w23_544 => kernel_rfl
      case y23_544 => (intro w hC; go_simp; try with_reducible rfl)
      case f23_544 => (go_simp; try with_reducible rfl)
      refine anyC_done (by kernel_rfl) ?_
      go_wp2_with (first | ((with_reducible refine wpList_gate ?_); refine wpList_build rfl 30 _ rfl #[] rfl (mvs Mm.zero Lo.zero).toArray zmsg_built ?_) | ((with_reducible refine wpList_gate ?_); refine wpList_store_mid rfl 30 _ _ rfl w.heap.size 0 (mvs Mm.zero Lo.zero).toArray rfl rfl (HT4.out _ hC4) info_msg (mvs_one _ _) ?_))
      refine bodyPost_ret (results_ct rfl _ _ w.heap.size (mvs Mm.zero Lo.zero) _ rfl (World.rangeAt_setCells_same _ _ _ _ (HT4.out _ hC4)) Tryd.underlying30 rfl info_msg) rfl ?_
      rw [HE.out]
      exact ⟨Lo.zero, rfl, MsAt.zero _ _, LoFr.zero _, HSB.out _ _ hC4⟩
    have hbe : (x5.nums == ns) = true := by rw [beq_iff_eq]; exact en
    rw [hbe] at hEN
    have EN := Lib.hid en
    clear en hbe
    refine anyC_take (i := 17) (v := ?v17_545) (a' := ?a17_545) rfl (by kernel_rfl) (by kernel_rfl) (by kernel_rfl) (fun _ _ _ h => h) hC4 ?w17_545 ?y17_545 ?f17_545 ?r17_545
    case w17_545 => kernel_rfl
    case y17_545 => (intro w hC; have h4 := hEN.out w; go_simp; try with_reducible rfl)
    case f17_545 => (go_simp; try with_reducible rfl)
    refine anyC_take (i := 18) (v := ?v18_546) (a' := ?a18_546) rfl (by kernel_rfl) (by kernel_rfl) (by kernel_rfl) (fun _ _ _ h => h) hC4 ?w18_546 ?y18_546 ?f18_546 ?r18_546
    case w18_546 => kernel_rfl
    case y18_546 => (intro w hC; go_simp; try with_reducible rfl)
    case f18_546 => (go_simp; try with_reducible rfl)
    refine anyC_take (i := 19) (v := ?v19_547) (a' := ?a19_547) rfl (by kernel_rfl) (by kernel_rfl) (by kernel_rfl) (fun _ _ _ h => h) hC4 ?w19_547 ?y19_547 ?f19_547 ?r19_547
    case w19_547 => kernel_rfl
    case y19_547 => (intro w hC; go_simp; try with_reducible rfl)
    case f19_547 => (go_simp; try with_reducible rfl)
    refine anyC_take (i := 20) (v := ?v20_548) (a' := ?a20_548) rfl (by kernel_rfl) (by kernel_rfl) (by kernel_rfl) (fun _ _ _ h => h) hC4 ?w20_548 ?y20_548 ?f20_548 ?r20_548
    case w20_548 => kernel_rfl
    case y20_548 => (intro W hW; exact by refine exec_load 30 (.tmp 8) ?_ w3.heap.size ?_ L _ (HM8.out _ hW) Tryd.underlying30 rfl hi8.out <;> rfl)
    case f20_548 => (go_simp; try with_reducible rfl)
    refine anyC_one (i := 21) rfl (by kernel_rfl) (by kernel_rfl) (fun K hK => ?_)
    go_simp
    refine (HRI.out _ hC4 (HT.out.below (HW.out _ hC4) (Nat.le_refl _))).mono ?_
    rintro e u5 ⟨rfl, hb⟩
    have hC5 : Below w9b.heap.size w9b u5 := hC4.trans (hb.mono hC4.size)
    refine hK _ _ ⟨hC5, ?_⟩
    clear hK K hb
    cases hrr : x5.right
    case false =>
      have HE := Lib.hid (HBR.out hrr)
      clear hrr
      refine anyC_take (i := 22) (v := ?v22_549) (a' := ?a22_549) rfl (by kernel_rfl) (by kernel_rfl) (by kernel_rfl) (fun _ _ _ h => h) hC5 ?w22_549 ?y22_549 ?f22_549 ?r22_549
      case w22_549 => kernel_rfl
      case y22_549 => (intro w hC; go_simp; try with_reducible rfl)
      case f22_549 => (go_simp; try with_reducible rfl)
      refine anyC_take (i := 23) (v := ?v23_550) (a' := ?a23_550) rfl (by kernel_rfl) (by kernel_rfl) (by kernel_rfl) (fun _ _ _ h => h) hC5 ?w23_550 ?y23_550 ?f23_550 ?r23_550
      case w23_550 => kernel_rfl
      case y23_550 => (intro w hC; go_simp; try with_reducible rfl)
      case f23_550 => (go_simp; try with_reducible rfl)
      refine anyC_done (by kernel_rfl) ?_
      go_wp2_with (first | ((with_reducible refine wpList_gate ?_); refine wpList_build rfl 30 _ rfl #[] rfl (mvs Mm.zero Lo.zero).toArray zmsg_built ?_) | ((with_reducible refine wpList_gate ?_); refine wpList_store_mid rfl 30 _ _ rfl w.heap.size 0 (mvs Mm.zero Lo.zero).toArray rfl rfl (HT4.out _ hC5) info_msg (mvs_one _ _) ?_))
      refine bodyPost_ret (results_ct rfl _ _ w.heap.size (mvs Mm.zero Lo.zero) _ rfl (World.rangeAt_setCells_same _ _ _ _ (HT4.out _ hC5)) Tryd.underlying30 rfl info_msg) rfl ?_
      rw [HE.out]
      exact ⟨Lo.zero, rfl, MsAt.zero _ _, LoFr.zero _, HSB.out _ _ hC5⟩
    have HE := Lib.hid (HOK.out rfl (by rw [HNL.out]; exact HA5.out) EN.out hrr)
    clear hrr
    refine anyC_take (i := 22) (v := ?v22_551) (a' := ?a22_551) rfl (by kernel_rfl) (by kernel_rfl) (by kernel_rfl) (fun _ _ _ h => h) hC5 ?w22_551 ?y22_551 ?f22_551 ?r22_551
    case w22_551 => kernel_rfl
    case y22_551 => (intro w hC; go_simp; try with_reducible rfl)
    case f22_551 => (go_simp; try with_reducible rfl)
    refine anyC_take (i := 23) (v := ?v23_552) (a' := ?a23_552) rfl (by kernel_rfl) (by kernel_rfl) (by kernel_rfl) (fun _ _ _ h => h) hC5 ?w23_552 ?y23_552 ?f23_552 ?r23_552
    case w23_552 => kernel_rfl
    case y23_552 => (intro w hC; go_simp; try with_reducible rfl)
    case f23_552 => (go_simp; try with_reducible rfl)
    refine anyC_done (by kernel_rfl) ?_
    have HM := Lib.hid (HM8.out _ hC5)
    have HT5 := Lib.hid (ht9.out _ hC5)
    go_wp2_with (first | ((with_reducible refine wpList_gate ?_); refine wpList_load_mid rfl 30 _ rfl w3.heap.size 0 rfl L _ HM.out Tryd.underlying30 rfl hi8.out ?_) | ((with_reducible refine wpList_gate ?_); refine wpList_store_mid rfl 30 _ _ rfl w.heap.size 0 L.toArray rfl rfl HT5.out hi9.out ho9.out ?_))
    refine bodyPost_ret (results_ct rfl _ _ w.heap.size L _ rfl (World.rangeAt_setCells_same _ _ _ _ HT5.out) Tryd.underlying30 rfl hi8.out) rfl ?_
    rw [HE.out, HL.out]
    have hgs := grown_set w.heap.size (mvs x5 l5) 0 u5
    exact ⟨l5, rfl, (((HMS.out _ hC5).more hC5.size).other HFR.out hgs hb8.out (Nat.le_refl _)).more hgs.size, HFR.out.mono (Nat.le_of_lt hb8.out), HSB.out _ _ hC5⟩
  · go_wp2_with fail
    refine region_C (fun W => Below w9b.heap.size w9b W) (by kernel_rfl) ?_
    have hC : Below w9b.heap.size w9b w9b.drew := (Below.refl _ _).drew
    refine anyC_take (i := 0) (v := ?v0_553) (a' := ?a0_553) rfl (by kernel_rfl) (by kernel_rfl) (by kernel_rfl) (fun _ _ _ h => h) hC ?w0_553 ?y0_553 ?f0_553 ?r0_553
    case w0_553 => kernel_rfl
    case y0_553 => (intro w hC; go_simp; try with_reducible rfl)
    case f0_553 => (go_simp; try with_reducible rfl)
    refine anyC_take (i := 1) (v := ?v1_554) (a' := ?a1_554) rfl (by kernel_rfl) (by kernel_rfl) (by kernel_rfl) (fun _ _ _ h => h) hC ?w1_554 ?y1_554 ?f1_554 ?r1_554
    case w1_554 => kernel_rfl
    case y1_554 => (intro w hC; go_simp; try with_reducible rfl)
    case f1_554 => (go_simp; try with_reducible rfl)
    refine anyC_take (i := 2) (v := ?v2_555) (a' := ?a2_555) rfl (by kernel_rfl) (by kernel_rfl) (by kernel_rfl) (fun _ _ _ h => h) hC ?w2_555 ?y2_555 ?f2_555 ?r2_555
    case w2_555 => kernel_rfl
    case y2_555 => (intro w hC; go_simp; try with_reducible rfl)
    case f2_555 => (go_simp; try with_reducible rfl)
    refine anyC_take (i := 3) (v := ?v3_556) (a' := ?a3_556) rfl (by kernel_rfl) (by kernel_rfl) (by kernel_rfl) (fun _ _ _ h => h) hC ?w3_556 ?y3_556 ?f3_556 ?r3_556
    case w3_556 => kernel_rfl
    case y3_556 => (intro w hC; have h4 := (HRD.out w hC).c2; go_simp; try with_reducible rfl)
    case f3_556 => (go_simp; try with_reducible rfl)
    by_cases he5 : e5 = 0
    case neg =>
      have HE := Lib.hid (HB5.out he5)
      have hq : (e5 != 0) = true := by rw [bne_iff_ne]; exact he5
      clear he5
      refine anyC_take (i := 4) (v := ?v4_557) (a' := ?a4_557) rfl (by kernel_rfl) (by kernel_rfl) (by kernel_rfl) (fun _ _ _ h => h) hC ?w4_557 ?y4_557 ?f4_557 ?r4_557
      case w4_557 => kernel_rfl
      case y4_557 => (intro w hC; go_simp; try with_reducible rfl)
      case f4_557 => (go_simp; try with_reducible rfl)
      refine anyC_take (i := 5) (v := ?v5_558) (a' := ?a5_558) rfl (by kernel_rfl) (by kernel_rfl) (by kernel_rfl) (fun _ _ _ h => h) hC ?w5_558 ?y5_558 ?f5_558 ?r5_558
      case w5_558 => kernel_rfl
      case y5_558 => (intro w hC; go_simp; try with_reducible rfl)
      case f5_558 => (go_simp; try with_reducible rfl)
      refine anyC_skip (i := 6) (a' := ?a6_559) rfl (by kernel_rfl) (by kernel_rfl) (by kernel_rfl) (fun _ _ _ h => h) hC (by kernel_rfl) ?f6_559 ?r6_559
      case f6_559 => (go_simp; try with_reducible rfl)
      refine anyC_skip (i := 7) (a' := ?a7_560) rfl (by kernel_rfl) (by kernel_rfl) (by kernel_rfl) (fun _ _ _ h => h) hC (by kernel_rfl) ?f7_560 ?r7_560
      case f7_560 => (go_simp; try with_reducible rfl)
      refine anyC_skip (i := 8) (a' := ?a8_561) rfl (by kernel_rfl) (by kernel_rfl) (by kernel_rfl) (fun _ _ _ h => h) hC (by kernel_rfl) ?f8_561 ?r8_561
      case f8_561 => (go_simp; try with_reducible rfl)
      refine anyC_skip (i := 9) (a' := ?a9_562) rfl (by kernel_rfl) (by kernel_rfl) (by kernel_rfl) (fun _ _ _ h => h) hC (by kernel_rfl) ?f9_562 ?r9_562
      case f9_562 => (go_simp; try with_reducible rfl)
      refine anyC_skip (i := 10) (a' := ?a10_563) rfl (by kernel_rfl) (by kernel_rfl) (by kernel_rfl) (fun _ _ _ h => h) hC (by kernel_rfl) ?f10_563 ?r10_563
      case f10_563 => (go_simp; try with_reducible rfl)
      refine anyC_skip (i := 11) (a' := ?a11_564) rfl (by kernel_rfl) (by kernel_rfl) (by kernel_rfl) (fun _ _ _ h => h) hC (by kernel_rfl) ?f11_564 ?r11_564
      case f11_564 => (go_simp; try with_reducible rfl)
      refine anyC_take (i := 12) (v := ?v12_565) (a' := ?a12_565) rfl (by kernel_rfl) (by kernel_rfl) (by kernel_rfl) (fun _ _ _ h => h) hC ?w12_565 ?y12_565 ?f12_565 ?r12_565
      case w12_565 => kernel_rfl
      case y12_565 => (intro w hC; go_simp; try with_reducible rfl)
      case f12_565 => (go_simp; try with_reducible rfl)
      refine anyC_take (i := 13) (v := ?v13_566) (a' := ?a13_566) rfl (by kernel_rfl) (by kernel_rfl) (by kernel_rfl) (fun _ _ _ h => h) hC ?w13_566 ?y13_566 ?f13_566 ?r13_566
      case w13_566 => kernel_rfl
      case y13_566 => (intro w hC; go_simp; try with_reducible rfl)
      case f13_566 => (go_simp; try with_reducible rfl)
      refine anyC_skip (i := 14) (a' := ?a14_567) rfl (by kernel_rfl) (by kernel_rfl) (by kernel_rfl) (fun _ _ _ h => h) hC (by kernel_rfl) ?f14_567 ?r14_567
      case f14_567 => (go_simp; try with_reducible rfl)
      refine anyC_skip (i := 15) (a' := ?a15_568) rfl (by kernel_rfl) (by kernel_rfl) (by kernel_rfl) (fun _ _ _ h => h) hC (by kernel_rfl) ?f15_568 ?r15_568
      case f15_568 => (go_simp; try with_reducible rfl)
      refine anyC_skip (i := 16) (a' := ?a16_569) rfl (by kernel_rfl) (by kernel_rfl) (by kernel_rfl) (fun _ _ _ h => h) hC (by kernel_rfl) ?f16_569 ?r16_569
      case f16_569 => (go_simp; try with_reducible rfl)
      refine anyC_skip (i := 17) (a' := ?a17_570) rfl (by kernel_rfl) (by kernel_rfl) (by kernel_rfl) (fun _ _ _ h => h) hC (by kernel_rfl) ?f17_570 ?r17_570
      case f17_570 => (go_simp; try with_reducible rfl)
      refine anyC_take (i := 18) (v := ?v18_571) (a' := ?a18_571) rfl (by kernel_rfl) (by kernel_rfl) (by kernel_rfl) (fun _ _ _ h => h) hC ?w18_571 ?y18_571 ?f18_571 ?r18_571
      case w18_571 => kernel_rfl
      case y18_571 => (intro w hC; go_simp; try with_reducible rfl)
      case f18_571 => (go_simp; try with_reducible rfl)
      refine anyC_take (i := 19) (v := ?v19_572) (a' := ?a19_572) rfl (by kernel_rfl) (by kernel_rfl) (by kernel_rfl) (fun _ _ _ h => h) hC ?w19_572 ?y19_572 ?f19_572 ?r19_572
      case w19_572 => kernel_rfl
      case y19_572 => (intro w hC; go_simp; try with_reducible rfl)
      case f19_572 => (go_simp; try with_reducible rfl)
      refine anyC_skip (i := 20) (a' := ?a20_573) rfl (by kernel_rfl) (by kernel_rfl) (by kernel_rfl) (fun _ _ _ h => h) hC (by kernel_rfl) ?f20_573 ?r20_573
      case f20_573 => (go_simp; try with_reducible rfl)
      refine anyC_skip (i := 21) (a' := ?a21_574) rfl (by kernel_rfl) (by kernel_rfl) (by kernel_rfl) (fun _ _ _ h => h) hC (by kernel_rfl) ?f21_574 ?r21_574
      case f21_574 => (go_simp; try with_reducible rfl)
      refine anyC_skip (i := 22) (a' := ?a22_575) rfl (by kernel_rfl) (by kernel_rfl) (by kernel_rfl) (fun _ _ _ h => h) hC (by kernel_rfl) ?f22_575 ?r22_575
      case f22_575 => (go_simp; try with_reducible rfl)
      refine anyC_take (i := 23) (v := ?v23_576) (a' := ?a23_576) rfl (by kernel_rfl) (by kernel_rfl) (by kernel_rfl) (fun _ _ _ h => h) hC ?w23_576 ?y23_576 ?f23_576 ?r23_576
      case w23_576 => kernel_rfl
      case y23_576 => (intro w hC; go_simp; try with_reducible rfl)
      case f23_576 => (go_simp; try with_reducible rfl)
      refine anyC_done (by kernel_rfl) ?_
      clear hq
      go_wp2_with (first | ((with_reducible refine wpList_gate ?_); refine wpList_build rfl 30 _ rfl #[] rfl (mvs Mm.zero Lo.zero).toArray zmsg_built ?_) | ((with_reducible refine wpList_gate ?_); refine wpList_store_mid rfl 30 _ _ rfl w.heap.size 0 (mvs Mm.zero Lo.zero).toArray rfl rfl (HT4.out _ hC) info_msg (mvs_one _ _) ?_))
      refine bodyPost_ret (results_ct rfl _ _ w.heap.size (mvs Mm.zero Lo.zero) _ rfl (World.rangeAt_setCells_same _ _ _ _ (HT4.out _ hC)) Tryd.underlying30 rfl info_msg) rfl ?_
      rw [HE.out]
      exact ⟨Lo.zero, rfl, MsAt.zero _ _, LoFr.zero _, HSB.out _ _ hC⟩
    subst he5
    refine anyC_take (i := 4) (v := ?v4_577) (a' := ?a4_577) rfl (by kernel_rfl) (by kernel_rfl) (by kernel_rfl) (fun _ _ _ h => h) hC ?w4_577 ?y4_577 ?f4_577 ?r4_577
    case w4_577 => kernel_rfl
    case y4_577 => (intro w hC; go_simp; try with_reducible rfl)
    case f4_577 => (go_simp; try with_reducible rfl)
    refine anyC_take (i := 5) (v := ?v5_578) (a' := ?a5_578) rfl (by kernel_rfl) (by kernel_rfl) (by kernel_rfl) (fun _ _ _ h => h) hC ?w5_578 ?y5_578 ?f5_578 ?r5_578
    case w5_578 => kernel_rfl
    case y5_578 => (intro w hC; go_simp; try with_reducible rfl)
    case f5_578 => (go_simp; try with_reducible rfl)
    refine anyC_take (i := 6) (v := ?v6_579) (a' := ?a6_579) rfl (by kernel_rfl) (by kernel_rfl) (by kernel_rfl) (fun _ _ _ h => h) hC ?w6_579 ?y6_579 ?f6_579 ?r6_579
    case w6_579 => kernel_rfl
    case y6_579 => (intro w hC; go_simp; try with_reducible rfl)
    case f6_579 => (go_simp; try with_reducible rfl)
    refine anyC_take (i := 7) (v := ?v7_580) (a' := ?a7_580) rfl (by kernel_rfl) (by kernel_rfl) (by kernel_rfl) (fun _ _ _ h => h) hC ?w7_580 ?y7_580 ?f7_580 ?r7_580
    case w7_580 => kernel_rfl
    case y7_580 => (intro w hC; go_simp; try with_reducible rfl)
    case f7_580 => (go_simp; try with_reducible rfl)
    refine anyC_take (i := 8) (v := ?v8_581) (a' := ?a8_581) rfl (by kernel_rfl) (by kernel_rfl) (by kernel_rfl) (fun _ _ _ h => h) hC ?w8_581 ?y8_581 ?f8_581 ?r8_581
    case w8_581 => kernel_rfl
    case y8_581 => (intro w hC; go_simp; try with_reducible rfl)
    case f8_581 => (go_simp; try with_reducible rfl)
    refine anyC_take (i := 9) (v := ?v9_582) (a' := ?a9_582) rfl (by kernel_rfl) (by kernel_rfl) (by kernel_rfl) (fun _ _ _ h => h) hC ?w9_582 ?y9_582 ?f9_582 ?r9_582
    case w9_582 => kernel_rfl
    case y9_582 => (intro W hW; exact by refine exec_load 66 (.tmp 42) ?_ (w.heap.size + 1) ?_ [.slice A n cap, .int .i64 a5] _ (range_head (ys := [.int .i64 0]) (HRD.out _ hW).rng) Tryd.underlying66 rfl info_pos <;> rfl)
    case f9_582 => (go_simp; try with_reducible rfl)
    refine anyC_one (i := 10) rfl (by kernel_rfl) (by kernel_rfl) (fun K hK => ?_)
    go_simp
    refine (atEnd_any A n cap a5 _).mono ?_
    rintro e u3 ⟨rfl, hb⟩
    have hC3 : Below w9b.heap.size w9b u3 := hC.trans (hb.mono hC.size)
    refine hK _ _ ⟨hC3, ?_⟩
    clear hK K hb
    by_cases ha5 : a5 = (n : Int)
    case neg =>
      have HE := Lib.hid (HBL.out (by rw [HNL.out]; exact ha5))
      have hq : (a5 == (n : Int)) = false := by rw [beq_eq_false_iff_ne]; exact ha5
      clear ha5
      refine anyC_take (i := 11) (v := ?v11_583) (a' := ?a11_583) rfl (by kernel_rfl) (by kernel_rfl) (by kernel_rfl) (fun _ _ _ h => h) hC3 ?w11_583 ?y11_583 ?f11_583 ?r11_583
      case w11_583 => kernel_rfl
      case y11_583 => (intro w hC; go_simp; try with_reducible rfl)
      case f11_583 => (go_simp; try with_reducible rfl)
      refine anyC_take (i := 12) (v := ?v12_584) (a' := ?a12_584) rfl (by kernel_rfl) (by kernel_rfl) (by kernel_rfl) (fun _ _ _ h => h) hC3 ?w12_584 ?y12_584 ?f12_584 ?r12_584
      case w12_584 => kernel_rfl
      case y12_584 => (intro w hC; go_simp; try with_reducible rfl)
      case f12_584 => (go_simp; try with_reducible rfl)
      refine anyC_take (i := 13) (v := ?v13_585) (a' := ?a13_585) rfl (by kernel_rfl) (by kernel_rfl) (by kernel_rfl) (fun _ _ _ h => h) hC3 ?w13_585 ?y13_585 ?f13_585 ?r13_585
      case w13_585 => kernel_rfl
      case y13_585 => (intro w hC; go_simp; try with_reducible rfl)
      case f13_585 => (go_simp; try with_reducible rfl)
      refine anyC_skip (i := 14) (a' := ?a14_586) rfl (by kernel_rfl) (by kernel_rfl) (by kernel_rfl) (fun _ _ _ h => h) hC3 (by kernel_rfl) ?f14_586 ?r14_586
      case f14_586 => (go_simp; try with_reducible rfl)
      refine anyC_skip (i := 15) (a' := ?a15_587) rfl (by kernel_rfl) (by kernel_rfl) (by kernel_rfl) (fun _ _ _ h => h) hC3 (by kernel_rfl) ?f15_587 ?r15_587
      case f15_587 => (go_simp; try with_reducible rfl)
      refine anyC_skip (i := 16) (a' := ?a16_588) rfl (by kernel_rfl) (by kernel_rfl) (by kernel_rfl) (fun _ _ _ h => h) hC3 (by kernel_rfl) ?f16_588 ?r16_588
      case f16_588 => (go_simp; try with_reducible rfl)
      refine anyC_skip (i := 17) (a' := ?a17_589) rfl (by kernel_rfl) (by kernel_rfl) (by kernel_rfl) (fun _ _ _ h => h) hC3 (by kernel_rfl) ?f17_589 ?r17_589
      case f17_589 => (go_simp; try with_reducible rfl)
      refine anyC_take (i := 18) (v := ?v18_590) (a' := ?a18_590) rfl (by kernel_rfl) (by kernel_rfl) (by kernel_rfl) (fun _ _ _ h => h) hC3 ?w18_590 ?y18_590 ?f18_590 ?r18_590
      case w18_590 => kernel_rfl
      case y18_590 => (intro w hC; go_simp; try with_reducible rfl)
      case f18_590 => (go_simp; try with_reducible rfl)
      refine anyC_take (i := 19) (v := ?v19_591) (a' := ?a19_591) rfl (by kernel_rfl) (by kernel_rfl) (by kernel_rfl) (fun _ _ _ h => h) hC3 ?w19_591 ?y19_591 ?f19_591 ?r19_591
      case w19_591 => kernel_rfl
      case y19_591 => (intro w hC; go_simp; try with_reducible rfl)
      case f19_591 => (go_simp; try with_reducible rfl)
      refine anyC_skip (i := 20) (a' := ?a20_592) rfl (by kernel_rfl) (by kernel_rfl) (by kernel_rfl) (fun _ _ _ h => h) hC3 (by kernel_rfl) ?f20_592 ?r20_592
      case f20_592 => (go_simp; try with_reducible rfl)
      refine anyC_skip (i := 21) (a' := ?a21_593) rfl (by kernel_rfl) (by kernel_rfl) (by kernel_rfl) (fun _ _ _ h => h) hC3 (by kernel_rfl) ?f21_593 ?r21_593
      case f21_593 => (go_simp; try with_reducible rfl)
      refine anyC_skip (i := 22) (a' := ?a22_594) rfl (by kernel_rfl) (by kernel_rfl) (by kernel_rfl) (fun _ _ _ h => h) hC3 (by kernel_rfl) ?f22_594 ?r22_594
      case f22_594 => (go_simp; try with_reducible rfl)
      refine anyC_take (i := 23) (v := ?v23_595) (a' := ?a23_595) rfl (by kernel_rfl) (by kernel_rfl) (by kernel_rfl) (fun _ _ _ h => h) hC3 ?w23_595 ?y23_595 ?f23_595 ?r23_595
      case w23_595 => kernel_rfl
      case y23_595 => (intro w hC; go_simp; try with_reducible rfl)
      case f23_595 => (go_simp; try with_reducible rfl)
      refine anyC_done (by kernel_rfl) ?_
      clear hq
      go_wp2_with (first | ((with_reducible refine wpList_gate ?_); refine wpList_build rfl 30 _ rfl #[] rfl (mvs Mm.zero Lo.zero).toArray zmsg_built ?_) | ((with_reducible refine wpList_gate ?_); refine wpList_store_mid rfl 30 _ _ rfl w.heap.size 0 (mvs Mm.zero Lo.zero).toArray rfl rfl (HT4.out _ hC3) info_msg (mvs_one _ _) ?_))
      refine bodyPost_ret (results_ct rfl _ _ w.heap.size (mvs Mm.zero Lo.zero) _ rfl (World.rangeAt_setCells_same _ _ _ _ (HT4.out _ hC3)) Tryd.underlying30 rfl info_msg) rfl ?_
      rw [HE.out]
      exact ⟨Lo.zero, rfl, MsAt.zero _ _, LoFr.zero _, HSB.out _ _ hC3⟩
    have HA5 := Lib.hid ha5
    have hq : (a5 == (n : Int)) = true := by rw [beq_iff_eq]; exact ha5
    clear ha5
    refine anyC_take (i := 11) (v := ?v11_596) (a' := ?a11_596) rfl (by kernel_rfl) (by kernel_rfl) (by kernel_rfl) (fun _ _ _ h => h) hC3 ?w11_596 ?y11_596 ?f11_596 ?r11_596
    case w11_596 => kernel_rfl
    case y11_596 => (intro w hC; go_simp; try with_reducible rfl)
    case f11_596 => (go_simp; try with_reducible rfl)
    refine anyC_take (i := 12) (v := ?v12_597) (a' := ?a12_597) rfl (by kernel_rfl) (by kernel_rfl) (by kernel_rfl) (fun _ _ _ h => h) hC3 ?w12_597 ?y12_597 ?f12_597 ?r12_597
    case w12_597 => kernel_rfl
    case y12_597 => (intro w hC; go_simp; try with_reducible rfl)
    case f12_597 => (go_simp; try with_reducible rfl)
    refine anyC_take (i := 13) (v := ?v13_598) (a' := ?a13_598) rfl (by kernel_rfl) (by kernel_rfl) (by kernel_rfl) (fun _ _ _ h => h) hC3 ?w13_598 ?y13_598 ?f13_598 ?r13_598
    case w13_598 => kernel_rfl
    case y13_598 => (intro w hC; go_simp; try with_reducible rfl)
    case f13_598 => (go_simp; try with_reducible rfl)
    clear hq
    refine anyC_take (i := 14) (v := ?v14_599) (a' := ?a14_599) rfl (by kernel_rfl) (by kernel_rfl) (by kernel_rfl) (fun _ _ _ h => h) hC3 ?w14_599 ?y14_599 ?f14_599 ?r14_599
    case w14_599 => kernel_rfl
    case y14_599 => (intro W hW; exact by refine exec_load 30 (.tmp 8) ?_ w3.heap.size ?_ L _ (HM8.out _ hW) Tryd.underlying30 rfl hi8.out <;> rfl)
    case f14_599 => (go_simp; try with_reducible rfl)
    refine anyC_take (i := 16) (v := ?v16_600) (a' := ?a16_600) rfl (by kernel_rfl) (by kernel_rfl) (by kernel_rfl) (fun _ _ _ h => h) hC3 ?w16_600 ?y16_600 ?f16_600 ?r16_600
    case w16_600 => kernel_rfl
    case y16_600 => (intro W hW; exact by refine exec_load 49 (.tmp 7) ?_ w2.heap.size ?_ (i64s ns) _ (HN7.out _ hW) Tryd.underlying49 rfl hs7.out <;> rfl)
    case f16_600 => (go_simp; try with_reducible rfl)
    refine anyC_one (i := 15) rfl (by kernel_rfl) (by kernel_rfl) (fun K hK => ?_)
    go_simp
    refine (HNX.out _).mono ?_
    rintro e u4 ⟨rfl, hb⟩
    have hC4 : Below w9b.heap.size w9b u4 := hC3.trans (hb.mono hC3.size)
    refine hK _ _ ⟨hC4, ?_⟩
    clear hK K hb
    by_cases en : x5.nums = ns
    case neg =>
      have hbe : (x5.nums == ns) = false := by rw [beq_eq_false_iff_ne]; exact en
      have HE := Lib.hid (HNE.out en)
      rw [hbe] at hEN
      clear en hbe
      refine anyC_take (i := 17) (v := ?v17_601) (a' := ?a17_601) rfl (by kernel_rfl) (by kernel_rfl) (by kernel_rfl) (fun _ _ _ h => h) hC4 ?w17_601 ?y17_601 ?f17_601 ?r17_601
      case w17_601 => kernel_rfl
      case y17_601 => (intro w hC; have h4 := hEN.out w; go_simp; try with_reducible rfl)
      case f17_601 => (go_simp; try with_reducible rfl)
      refine anyC_take (i := 18) (v := ?v18_602) (a' := ?a18_602) rfl (by kernel_rfl) (by kernel_rfl) (by kernel_rfl) (fun _ _ _ h => h) hC4 ?w18_602 ?y18_602 ?f18_602 ?r18_602
      case w18_602 => kernel_rfl
      case y18_602 => (intro w hC; go_simp; try with_reducible rfl)
      case f18_602 => (go_simp; try with_reducible rfl)
      refine anyC_take (i := 19) (v := ?v19_603) (a' := ?a19_603) rfl (by kernel_rfl) (by kernel_rfl) (by kernel_rfl) (fun _ _ _ h => h) hC4 ?w19_603 ?y19_603 ?f19_603 ?r19_603
      case w19_603 => kernel_rfl
      case y19_603 => (intro w hC; go_simp; try with_reducible rfl)
      case f19_603 => (go_simp; try with_reducible rfl)
      refine anyC_skip (i := 20) (a' := ?a20_604) rfl (by kernel_rfl) (by kernel_rfl) (by kernel_rfl) (fun _ _ _ h => h) hC4 (by kernel_rfl) ?f20_604 ?r20_604
      case f20_604 => (go_simp; try with_reducible rfl)
      refine anyC_skip (i := 21) (a' := ?a21_605) rfl (by kernel_rfl) (by kernel_rfl) (by kernel_rfl) (fun _ _ _ h => h) hC4 (by kernel_rfl) ?f21_605 ?r21_605
      case f21_605 => (go_simp; try with_reducible rfl)
      refine anyC_skip (i := 22) (a' := ?a22_606) rfl (by kernel_rfl) (by kernel_rfl) (by kernel_rfl) (fun _ _ _ h => h) hC4 (by kernel_rfl) ?f22_606 ?r22_606
      case f22_606 => (go_simp; try with_reducible rfl)
      refine anyC_take (i := 23) (v := ?v23_607) (a' := ?a23_607) rfl (by kernel_rfl) (by kernel_rfl) (by kernel_rfl) (fun _ _ _ h => h) hC4 ?w23_607 ?y23_607 ?f23_607 ?r23_607
      case w23_607 => kernel_rfl
      case y23_607 => (intro w hC; go_simp; try with_reducible rfl)
      case f23_607 => (go_simp; try with_reducible rfl)
      refine anyC_done (by kernel_rfl) ?_
      go_wp2_with (first | ((with_reducible refine wpList_gate ?_); refine wpList_build rfl 30 _ rfl #[] rfl (mvs Mm.zero Lo.zero).toArray zmsg_built ?_) | ((with_reducible refine wpList_gate ?_); refine wpList_store_mid rfl 30 _ _ rfl w.heap.size 0 (mvs Mm.zero Lo.zero).toArray rfl rfl (HT4.out _ hC4) info_msg (mvs_one _ _) ?_))
      refine bodyPost_ret (results_ct rfl _ _ w.heap.size (mvs Mm.zero Lo.zero) _ rfl (World.rangeAt_setCells_same _ _ _ _ (HT4.out _ hC4)) Tryd.underlying30 rfl info_msg) rfl ?_
      rw [HE.out]
      exact ⟨Lo.zero, rfl, MsAt.zero _ _, LoFr.zero _, HSB.out _ _ hC4⟩
    have hbe : (x5.nums == ns) = true := by rw [beq_iff_eq]; exact en
    rw [hbe] at hEN
    have EN := Lib.hid en
    clear en hbe
    refine anyC_take (i := 17) (v := ?v17_608) (a' := ?a17_608) rfl (by kernel_rfl) (by kernel_rfl) (by kernel_rfl) (fun _ _ _ h => h) hC4 ?w17_608 ?y17_608 ?f17_608 ?r17_608
    case w17_608 => kernel_rfl
    case y17_608 => (intro w hC; have h4 := hEN.out w; go_simp; try with_reducible rfl)
    case f17_608 => (go_simp; try with_reducible rfl)
    refine anyC_take (i := 18) (v := ?v18_609) (a' := ?a18_609) rfl (by kernel_rfl) (by kernel_rfl) (by kernel_rfl) (fun _ _ _ h => h) hC4 ?w18_609 ?y18_609 ?f18_609 ?r18_609
    case w18_609 => kernel_rfl
    case y18_609 => (intro w hC; go_simp; try with_reducible rfl)
    case f18_609 => (go_simp; try with_reducible rfl)
    refine anyC_take (i := 19) (v := ?v19_610) (a' := ?a19_610) rfl (by kernel_rfl) (by kernel_rfl) (by kernel_rfl) (fun _ _ _ h => h) hC4 ?w19_610 ?y19_610 ?f19_610 ?r19_610
    case w19_610 => kernel_rfl
    case y19_610 => (intro w hC; go_simp; try with_reducible rfl)
    case f19_610 => (go_simp; try with_reducible rfl)
    refine anyC_take (i := 20) (v := ?v20_611) (a' := ?a20_611) rfl (by kernel_rfl) (by kernel_rfl) (by kernel_rfl) (fun _ _ _ h => h) hC4 ?w20_611 ?y20_611 ?f20_611 ?r20_611
    case w20_611 => kernel_rfl
    case y20_611 => (intro W hW; exact by refine exec_load 30 (.tmp 8) ?_ w3.heap.size ?_ L _ (HM8.out _ hW) Tryd.underlying30 rfl hi8.out <;> rfl)
    case f20_611 => (go_simp; try with_reducible rfl)
    refine anyC_one (i := 21) rfl (by kernel_rfl) (by kernel_rfl) (fun K hK => ?_)
    go_simp
    refine (HRI.out _ hC4 (HT.out.below (HW.out _ hC4) (Nat.le_refl _))).mono ?_
    rintro e u5 ⟨rfl, hb⟩
    have hC5 : Below w9b.heap.size w9b u5 := hC4.trans (hb.mono hC4.size)
    refine hK _ _ ⟨hC5, ?_⟩
    clear hK K hb
    cases hrr : x5.right
    case false =>
      have HE := Lib.hid (HBR.out hrr)
      clear hrr
      refine anyC_take (i := 22) (v := ?v22_612) (a' := ?a22_612) rfl (by kernel_rfl) (by kernel_rfl) (by kernel_rfl) (fun _ _ _ h => h) hC5 ?w22_612 ?y22_612 ?f22_612 ?r22_612
      case w22_612 => kernel_rfl
      case y22_612 => (intro w hC; go_simp; try with_reducible rfl)
      case f22_612 => (go_simp; try with_reducible rfl)
      refine anyC_take (i := 23) (v := ?v23_613) (a' := ?a23_613) rfl (by kernel_rfl) (by kernel_rfl) (by kernel_rfl) (fun _ _ _ h => h) hC5 ?w23_613 ?y23_613 ?f23_613 ?r23_613
      case w23_613 => kernel_rfl
      case y23_613 => (intro w hC; go_simp; try with_reducible rfl)
      case f23_613 => (go_simp; try with_reducible rfl)
      refine anyC_done (by kernel_rfl) ?_
      go_wp2_with (first | ((with_reducible refine wpList_gate ?_); refine wpList_build rfl 30 _ rfl #[] rfl (mvs Mm.zero Lo.zero).toArray zmsg_built ?_) | ((with_reducible refine wpList_gate ?_); refine wpList_store_mid rfl 30 _ _ rfl w.heap.size 0 (mvs Mm.zero Lo.zero).toArray rfl rfl (HT4.out _ hC5) info_msg (mvs_one _ _) ?_))
      refine bodyPost_ret (results_ct rfl _ _ w.heap.size (mvs Mm.zero Lo.zero) _ rfl (World.rangeAt_setCells_same _ _ _ _ (HT4.out _ hC5)) Tryd.underlying30 rfl info_msg) rfl ?_
      rw [HE.out]
      exact ⟨Lo.zero, rfl, MsAt.zero _ _, LoFr.zero _, HSB.out _ _ hC5⟩
    have HE := Lib.hid (HOK.out rfl (by rw [HNL.out]; exact HA5.out) EN.out hrr)
    clear hrr
    refine anyC_take (i := 22) (v := ?v22_614) (a' := ?a22_614) rfl (by kernel_rfl) (by kernel_rfl) (by kernel_rfl) (fun _ _ _ h => h) hC5 ?w22_614 ?y22_614 ?f22_614 ?r22_614
    case w22_614 => kernel_rfl
    case y22_614 => (intro w hC; go_simp; try with_reducible rfl)
    case f22_614 => (go_simp; try with_reducible rfl)
    refine anyC_take (i := 23) (v := ?v23_615) (a' := ?a23_615) rfl (by kernel_rfl) (by kernel_rfl) (by kernel_rfl) (fun _ _ _ h => h) hC5 ?w23_615 ?y23_615 ?f23_615 ?r23_615
    case w23_615 => kernel_rfl
    case y23_615 => (intro w hC; go_simp; try with_reducible rfl)
    case f23_615 => (go_simp; try with_reducible rfl)
    refine anyC_done (by kernel_rfl) ?_
    have HM := Lib.hid (HM8.out _ hC5)
    have HT5 := Lib.hid (ht9.out _ hC5)
    go_wp2_with (first | ((with_reducible refine wpList_gate ?_); refine wpList_load_mid rfl 30 _ rfl w3.heap.size 0 rfl L _ HM.out Tryd.underlying30 rfl hi8.out ?_) | ((with_reducible refine wpList_gate ?_); refine wpList_store_mid rfl 30 _ _ rfl w.heap.size 0 L.toArray rfl rfl HT5.out hi9.out ho9.out ?_))
    refine bodyPost_ret (results_ct rfl _ _ w.heap.size L _ rfl (World.rangeAt_setCells_same _ _ _ _ HT5.out) Tryd.underlying30 rfl hi8.out) rfl ?_
    rw [HE.out, HL.out]
    have hgs := grown_set w.heap.size (mvs x5 l5) 0 u5
    exact ⟨l5, rfl, (((HMS.out _ hC5).more hC5.size).other HFR.out hgs hb8.out (Nat.le_refl _)).more hgs.size, HFR.out.mono (Nat.le_of_lt hb8.out), HSB.out _ _ hC5⟩
end Go.Proofs.YtpgfnhdaembhmaaDoor
