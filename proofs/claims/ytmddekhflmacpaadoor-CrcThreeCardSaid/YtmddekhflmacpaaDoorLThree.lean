import Derived.Test.YtmddekhflmacpaaDoorLByte
import Derived.RegionTactic
import Derived.ChangeAlike
import Derived.BigRegion
namespace Go.Proofs.YtmddekhflmacpaaDoor
open Go.RowKit Go.Shelf

theorem set_take {us D : List Int} {k : Nat} {y : Int} (h : us.take k = D.take k) (hk : k < us.length) (hy : D[k]? = some y) : (us.set k y).take (k + 1) = D.take (k + 1) := by
  rw [List.take_add_one, List.take_add_one, hy, ← h, List.getElem?_set_self hk, List.take_set_of_le (Nat.le_refl _)]

theorem xors_fit : ∀ {xs ys : List Int}, (∀ u ∈ xs, 0 ≤ u ∧ u ≤ 255) → (∀ u ∈ ys, 0 ≤ u ∧ u ≤ 255) → ∀ u ∈ Cm.xors xs ys, 0 ≤ u ∧ u ≤ 255
  | [], _, _, _, u, hu => by simp [Cm.xors] at hu
  | _ :: _, [], _, _, u, hu => by simp [Cm.xors] at hu
  | x :: xs, y :: ys, hx, hy, u, hu => by
    rcases List.mem_cons.1 (show u ∈ bits .xor .u8 x y :: Cm.xors xs ys from hu) with h | h
    · rw [h]; exact (Cm.b8_xor (hx x (by simp)) (hy y (by simp))).2
    · exact xors_fit (fun z hz => hx z (by simp [hz])) (fun z hz => hy z (by simp [hz])) u h
theorem xors_length (xs ys : List Int) : (Cm.xors xs ys).length = min xs.length ys.length := List.length_zipWith
theorem xors_get {xs ys : List Int} {k : Nat} {x y : Int} (hx : xs[k]? = some x) (hy : ys[k]? = some y) : (Cm.xors xs ys)[k]? = some (bits .xor .u8 x y) := by
  unfold Cm.xors
  rw [List.getElem?_zipWith, hx, hy]

theorem three_sum {xs ys zs : List Int} (h1 : xs.length = ys.length) (h2 : ys.length = zs.length) (hx : ∀ u ∈ xs, 0 ≤ u ∧ u ≤ 255) (hy : ∀ u ∈ ys, 0 ≤ u ∧ u ≤ 255) (hz : ∀ u ∈ zs, 0 ≤ u ∧ u ≤ 255) :
    Cm.crc 0#32 (Cm.xors (Cm.xors xs ys) zs) = (Cm.crc 0#32 xs ^^^ Cm.crc 0#32 ys) ^^^ Cm.crc 0#32 zs := by
  have e1 := Cm.run_xor (Cm.xors xs ys) zs (~~~0#32 ^^^ ~~~0#32) (~~~0#32) (by rw [xors_length]; omega) (xors_fit hx hy) hz
  rw [Cm.run_xor xs ys (~~~0#32) (~~~0#32) h1 hx hy] at e1
  rw [show (~~~0#32 ^^^ ~~~0#32) ^^^ ~~~0#32 = ~~~0#32 from by decide] at e1
  unfold Cm.crc
  rw [e1]
  generalize Cm.run (~~~0#32) xs = A
  generalize Cm.run (~~~0#32) ys = B
  generalize Cm.run (~~~0#32) zs = C
  apply BitVec.eq_of_getLsbD_eq
  intro i hi
  simp only [BitVec.getLsbD_xor, BitVec.getLsbD_not, hi, decide_true, Bool.true_and]
  cases A.getLsbD i <;> cases B.getLsbD i <;> cases C.getLsbD i <;> rfl

set_option maxRecDepth 100000 in
set_option maxHeartbeats 4000000 in
theorem three_walk (a0 : Option Addr) (len0 cap0 : Nat) (z0 : List Int) (a1 : Option Addr) (len1 cap1 : Nat) (z1 : List Int) (a2 : Option Addr) (len2 cap2 : Nat) (z2 : List Int) (w : World) (w0 : RowOf .u8 w a0 len0 cap0 z0) (w1 : RowOf .u8 w a1 len1 cap1 z1) (w2 : RowOf .u8 w a2 len2 cap2 z2)
    (_s0 : cap0 * 1 ≤ 140737488351232) (_s1 : cap1 * 1 ≤ 140737488351232) (_s2 : cap2 * 1 ≤ 140737488351232) (t0 : TabAt w) :
    Calls Tryd.prog 6 #[.slice a0 len0 cap0, .slice a1 len1 cap1, .slice a2 len2 cap2] w fun e w' => e = .returned (.bool true) ∧ Below w.heap.size w w' := by
  obtain ⟨xs, hn, hc, hm, hr, hw⟩ := row_rd w0
  obtain ⟨ys, hn1, hc1, hm1, hr1, hw1⟩ := row_rd w1
  obtain ⟨zs, hn2, hc2, hm2, hr2, hw2⟩ := row_rd w2
  have HB := Lib.hid (wf_u8 hw)
  have HB1 := Lib.hid (wf_u8 hw1)
  have HB2 := Lib.hid (wf_u8 hw2)
  have HN := Lib.hid hn
  have HN1 := Lib.hid hn1
  have HN2 := Lib.hid hn2
  clear w0 w1 w2 hw hw1 hw2 hn hn1 hn2
  obtain ⟨i0, hi0, hz0, hz1, hz2⟩ := info_parts info_u8
  obtain ⟨n, hnm, hn0, hn1, hn2⟩ : ∃ n : Nat, (n = len0 ∨ n = len1 ∨ n = len2) ∧ n ≤ len0 ∧ n ≤ len1 ∧ n ≤ len2 := ⟨min len0 (min len1 len2), by omega, by omega, by omega, by omega⟩
  have HM : Hid ((if (len2 : Int) < (if len1 < len0 then (len1 : Int) else (len0 : Int)) then (len2 : Int) else if len1 < len0 then (len1 : Int) else (len0 : Int)) = (n : Int)) := by
    show _ = _
    by_cases h1 : len1 < len0
    · rw [if_pos h1]
      by_cases h2 : (len2 : Int) < len1
      · rw [if_pos h2]; omega
      · rw [if_neg h2]; omega
    · rw [if_neg h1]
      by_cases h2 : (len2 : Int) < len0
      · rw [if_pos h2]; omega
      · rw [if_neg h2]; omega
  have hml : n ≤ maxLen := by omega
  have hml' := hml
  unfold maxLen at hml'
  go_enter Tryd.func6, Tryd.ntmps6
  go_wp2_with (first
    | (go_at_call 9; refine (head_any _ t0.tab).mono ?_; rintro e w1 ⟨rfl, hb1⟩; have ht1 := t0.tab.below hb1 (Nat.le_refl _))
    | (at_make; rw [HM.out]; refine wpList_make_full _ rfl _ _ 23 rfl w1.heap.size 5 i0 (.int .u8 0) 1 Tryd.underlying23 hi0 hz0 hz1 .i64 .i64 (n : Int) (n : Int) n rfl rfl rfl rfl (by rw [hz2]; omega) hml (Nat.le_refl _) ?_; intro w2 hown2 hgrow2))
  have hb2 := ((Below.refl w1.heap.size w1).grown hgrow2 (Nat.le_refl _) (by simp))
  obtain ⟨us0, hus0, hul0⟩ : ∃ us : List Int, (madeCells (Value.int .u8 0).cells (n * 1)).toList = u8s us ∧ us.length = n := by
    refine ⟨List.replicate n 0, ?_, List.length_replicate⟩
    show (madeCells #[Value.int .u8 0] (n * 1)).toList = _
    rw [toList_madeCells_one]
    simp [u8s]
  rw [hus0] at hown2
  obtain ⟨g, hg⟩ : ∃ g, g = w1.heap.size := ⟨_, rfl⟩
  have HOWN : Hid (w2.ownsRow w1.heap.size 5 1 (.slice (some ⟨g, 0, none⟩) n n) n (u8s us0)) := by rw [hg]; exact hown2
  have HB0 := Lib.hid hb2
  rw [← hg]
  have hge : w1.heap.size ≤ g := by omega
  obtain ⟨D, hD⟩ : ∃ D, D = Cm.xors (Cm.xors (xs.take n) (ys.take n)) (zs.take n) := ⟨_, rfl⟩
  have HD := Lib.hid hD
  have HX0 : Hid ((xs.take n).length = n) := by show _ = _; rw [List.length_take, HN.out]; omega
  have HX1 : Hid ((ys.take n).length = n) := by show _ = _; rw [List.length_take, HN1.out]; omega
  have HX2 : Hid ((zs.take n).length = n) := by show _ = _; rw [List.length_take, HN2.out]; omega
  have HF0 : Hid (∀ u ∈ xs.take n, 0 ≤ u ∧ u ≤ 255) := fun u hu => HB.out u (List.mem_of_mem_take hu)
  have HF1 : Hid (∀ u ∈ ys.take n, 0 ≤ u ∧ u ≤ 255) := fun u hu => HB1.out u (List.mem_of_mem_take hu)
  have HF2 : Hid (∀ u ∈ zs.take n, 0 ≤ u ∧ u ≤ 255) := fun u hu => HB2.out u (List.mem_of_mem_take hu)
  have HDL : Hid (D.length = n) := by show _ = _; rw [hD, xors_length, xors_length, HX0.out, HX1.out, HX2.out]; omega
  have HDF : Hid (∀ u ∈ D, 0 ≤ u ∧ u ≤ 255) := by show ∀ u ∈ D, _; rw [hD]; exact xors_fit (xors_fit HF0.out HF1.out) HF2.out
  clear hown2 hb2 hgrow2 hus0 hg hD
  go_loopw [10] (fun ix wr => ∃ (k : Nat) (us : List Int), ix = .int .i64 (k : Int) ∧ k ≤ n ∧ Hid (us.length = n) ∧ Hid (us.take k = D.take k) ∧ Hid (wr.ownsRow w1.heap.size 5 1 (.slice (some ⟨g, 0, none⟩) n n) n (u8s us)) ∧ Hid (Below w1.heap.size w1 wr))
    (fun ix _ => n - (intOf ix).toNat)
  case atStart => exact ⟨0, us0, rfl, by omega, Lib.hid hul0, Lib.hid rfl, HOWN, HB0⟩
  case round =>
    obtain ⟨k, us, rfl, hk, HUL, HT, HO, HBW⟩ := hrel
    by_cases hlt : k < n
    · obtain ⟨x, hx⟩ : ∃ x, (xs.take n)[k]? = some x := ⟨(xs.take n)[k]'(by rw [HX0.out]; exact hlt), List.getElem?_eq_getElem _⟩
      obtain ⟨y, hy⟩ : ∃ y, (ys.take n)[k]? = some y := ⟨(ys.take n)[k]'(by rw [HX1.out]; exact hlt), List.getElem?_eq_getElem _⟩
      obtain ⟨z, hz⟩ : ∃ z, (zs.take n)[k]? = some z := ⟨(zs.take n)[k]'(by rw [HX2.out]; exact hlt), List.getElem?_eq_getElem _⟩
      obtain ⟨u, hu⟩ : ∃ u, us[k]? = some u := ⟨us[k]'(by rw [HUL.out]; exact hlt), List.getElem?_eq_getElem _⟩
      have hbw := hb1.trans (HBW.out.mono hb1.size)
      obtain ⟨p0, rfl, -, hc0⟩ := ((hr.below hbw).takeU n).getU hx
      obtain ⟨p1, rfl, -, hc1'⟩ := ((hr1.below hbw).takeU n).getU hy
      obtain ⟨p2, rfl, -, hc2'⟩ := ((hr2.below hbw).takeU n).getU hz
      have hcl : wr.cell? ⟨g, k, none⟩ = some (.int .u8 u) := by rw [HO.out.cellAt k (by omega), List.getElem?_map, hu]; rfl
      have hfz := HO.out.frozenAt k
      obtain ⟨v1, hv1⟩ : ∃ v1, bits .xor .u8 x y = v1 := ⟨_, rfl⟩
      obtain ⟨v2, hv2⟩ : ∃ v2, bits .xor .u8 v1 z = v2 := ⟨_, rfl⟩
      have hDk : D[k]? = some v2 := by rw [HD.out, xors_get (xors_get hx hy) hz, hv1, hv2]
      have hst := HO.out.stored k (.int .u8 v2)
      rw [u8s_set] at hst
      have HST := Lib.hid hst.1
      have HB3 := Lib.hid (HBW.out.setCell (p := ⟨g, k, none⟩) hge (.int .u8 v2))
      have HT2 : Hid ((us.set k v2).take (k + 1) = D.take (k + 1)) := set_take HT.out (by rw [HUL.out]; exact hlt) hDk
      have HUL2 : Hid ((us.set k v2).length = n) := by show _ = _; rw [List.length_set]; exact HUL.out
      clear hx hy hz hu hst hDk HO HBW HT HUL hr hr1 hr2 hbw
      go_wp2
      go_region
      go_wp2
      go_roundw
      case rel => exact ⟨k + 1, us.set k v2, by go_num, by omega, HUL2, HT2, HST, Lib.hid HB3.out.drew⟩
      case measure => simp [intOf]; omega
    · obtain rfl : k = n := by omega
      have hus : us = D := by
        have h := HT.out
        rwa [List.take_of_length_le (by rw [HUL.out]; omega), List.take_of_length_le (by rw [HDL.out]; omega)] at h
      have hb3 := hb1.trans (HBW.out.mono hb1.size)
      have ht3 := ht1.below HBW.out (Nat.le_refl _)
      have hrd := Rd.of_own HO.out
      rw [hus] at hrd
      have hsl0 := fun W => run_cut_h (P := Tryd.prog) Tryd.underlying23 (size_of_info hi0 hz1) a0 len0 cap0 k (by omega) W
      have hsl1 := fun W => run_cut_h (P := Tryd.prog) Tryd.underlying23 (size_of_info hi0 hz1) a1 len1 cap1 k (by omega) W
      have hsl2 := fun W => run_cut_h (P := Tryd.prog) Tryd.underlying23 (size_of_info hi0 hz1) a2 len2 cap2 k (by omega) W
      have hq0 := rd_cut0 (n := k) (hr.below hb3) (by rw [HN.out]; exact hc)
      have hq1 := rd_cut0 (n := k) (hr1.below hb3) (by rw [HN1.out]; exact hc1)
      have hq2 := rd_cut0 (n := k) (hr2.below hb3) (by rw [HN2.out]; exact hc2)
      generalize cutA a0 0 cap0 = A0 at hsl0 hq0
      generalize cutA a1 0 cap1 = A1 at hsl1 hq1
      generalize cutA a2 0 cap2 = A2 at hsl2 hq2
      obtain ⟨sA, hA⟩ : ∃ s, s = Cm.crc 0#32 (xs.take k) := ⟨_, rfl⟩
      obtain ⟨sB, hB⟩ : ∃ s, s = Cm.crc 0#32 (ys.take k) := ⟨_, rfl⟩
      obtain ⟨sC, hC⟩ : ∃ s, s = Cm.crc 0#32 (zs.take k) := ⟨_, rfl⟩
      obtain ⟨sD, hD⟩ : ∃ s, s = Cm.crc 0#32 D := ⟨_, rfl⟩
      obtain ⟨sE, hE⟩ : ∃ s, s = sA ^^^ sB := ⟨_, rfl⟩
      have hv1 := Cm.v_xor2 sA sB
      have hv2 := Cm.v_xor2 sE sC
      rw [← hE] at hv1
      rw [show sE ^^^ sC = sD by rw [hE, hA, hB, hC, hD, HD.out, three_sum (by rw [HX0.out, HX1.out]) (by rw [HX1.out, HX2.out]) HF0.out HF1.out HF2.out]] at hv2
      have CA : Hid (∀ m, Calls Tryd.prog 10 #[.slice A0 k cap0] (wr.drewN m) fun e w' => e = .returned (.int .u32 (Cm.V sA)) ∧ ∃ m, w' = wr.drewN m) := fun m => by
        rw [hA]; exact (Sum_any A0 k cap0 _ (xs.take k) (wr.drewN m) (hq0.drewN m) HX0.out hml HF0.out ht3).mono fun e w' ⟨he, hw⟩ => ⟨he, m, hw.symm⟩
      have CB : Hid (∀ m, Calls Tryd.prog 10 #[.slice A1 k cap1] (wr.drewN m) fun e w' => e = .returned (.int .u32 (Cm.V sB)) ∧ ∃ m, w' = wr.drewN m) := fun m => by
        rw [hB]; exact (Sum_any A1 k cap1 _ (ys.take k) (wr.drewN m) (hq1.drewN m) HX1.out hml HF1.out ht3).mono fun e w' ⟨he, hw⟩ => ⟨he, m, hw.symm⟩
      have CC : Hid (∀ m, Calls Tryd.prog 10 #[.slice A2 k cap2] (wr.drewN m) fun e w' => e = .returned (.int .u32 (Cm.V sC)) ∧ ∃ m, w' = wr.drewN m) := fun m => by
        rw [hC]; exact (Sum_any A2 k cap2 _ (zs.take k) (wr.drewN m) (hq2.drewN m) HX2.out hml HF2.out ht3).mono fun e w' ⟨he, hw⟩ => ⟨he, m, hw.symm⟩
      have CD : Hid (∀ m, Calls Tryd.prog 10 #[.slice (some ⟨g, 0, none⟩) k k] (wr.drewN m) fun e w' => e = .returned (.int .u32 (Cm.V sD)) ∧ ∃ m, w' = wr.drewN m) := fun m => by
        rw [hD]; exact (Sum_any (some ⟨g, 0, none⟩) k k _ D (wr.drewN m) (hrd.drewN m) HDL.out hml HDF.out ht3).mono fun e w' ⟨he, hw⟩ => ⟨he, m, hw.symm⟩
      have HE := Lib.hid hb3
      clear hA hB hC hD hE hq0 hq1 hq2 hrd hr hr1 hr2 hb1 ht1 hb3 ht3 HO HBW HT HUL hus HOWN HB0 HD HX0 HX1 HX2 HF0 HF1 HF2 HDL HDF
      go_wp2
      go_quiet (first | (go_at_call 10; exact CD.out _) | (go_at_call 10; exact CA.out _) | (go_at_call 10; exact CB.out _) | (go_at_call 10; exact CC.out _))
      go_wp2
      go_ret
      exact ⟨rfl, below_drawn HE.out _⟩
end Go.Proofs.YtmddekhflmacpaaDoor
