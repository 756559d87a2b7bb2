/- The frame at any place of any bytes: the document's. -/
import Derived.Test.YtgeaedoccdemeaaDoorFe
namespace Go.Proofs.YtgeaedoccdemeaaDoor
open Go.RowKit Go.Shelf

theorem or32 (i : Nat) {a b : Int} (h0 : 0 ≤ a) (h1 : a.toNat % 2 ^ i = 0) (h2 : 0 ≤ b) (h3 : b.toNat < 2 ^ i) (h4 : a < 4294967296) (h5 : b < 4294967296) : bits .or .u32 a b = a + b := by
  rw [u32_or a b h0 h4 h2 h5, nat_join i _ _ h1 h3]
  omega

theorem or_word {p q r s : Int} (hp : 0 ≤ p ∧ p ≤ 255) (hq : 0 ≤ q ∧ q ≤ 255) (hr : 0 ≤ r ∧ r ≤ 255) (hs : 0 ≤ s ∧ s ≤ 255) :
    bits .or .u32 (p * 16777216) (q * 65536) = p * 16777216 + q * 65536 ∧ bits .or .u32 (p * 16777216 + q * 65536) (r * 256) = p * 16777216 + q * 65536 + r * 256 ∧
      bits .or .u32 (p * 16777216 + q * 65536 + r * 256) s = p * 16777216 + q * 65536 + r * 256 + s :=
  ⟨or32 24 (by omega) (by omega) (by omega) (by omega) (by omega) (by omega), or32 16 (by omega) (by omega) (by omega) (by omega) (by omega) (by omega), or32 8 (by omega) (by omega) (by omega) (by omega) (by omega) (by omega)⟩

theorem four_of {l : List Int} {j : Nat} {p q r s : Int} (hp : l[j]? = some p) (hq : l[j + 1]? = some q) (hr : l[j + 2]? = some r) (hs : l[j + 3]? = some s) : (l.drop j).take 4 = [p, q, r, s] := by
  have e : ∀ (k : Nat) (x : Int), l[k]? = some x → l.drop k = x :: l.drop (k + 1) := fun k x h => by
    obtain ⟨hlt, rfl⟩ := List.getElem?_eq_some_iff.1 h
    exact List.drop_eq_getElem_cons hlt
  rw [e _ _ hp, e _ _ hq, e _ _ hr, e _ _ hs]
  rfl

set_option maxRecDepth 100000 in
set_option maxHeartbeats 8000000 in
theorem RGet_any (A : Option Addr) (n cap B : Nat) (xs : List Int) (t : Int) (w : World) (hx : Rd w B A (u8s xs)) (hn : xs.length = n) (hnc : n ≤ cap) (hcap : cap ≤ maxLen) (hB : B ≤ w.heap.size) (hb : Fm.By xs)
    (t0 : -9223372036854775808 ≤ t) (t1 : t ≤ 9223372036854775807) :
    Calls Tryd.prog 14 #[.slice A n cap, .int .i64 t] w fun e w' => ∃ v, e = .returned (.tuple #[.int .u8 (Fm.get xs t).1, v, .int .i64 (Fm.get xs t).2.2.1, .int .i64 (Fm.get xs t).2.2.2]) ∧
      w'.ownsRow w.heap.size 5 1 v (Fm.get xs t).2.1.length (u8s (Fm.get xs t).2.1) ∧ Below w.heap.size w w' := by
  have hcap' := hcap
  unfold maxLen at hcap'
  by_cases h1 : t < 0
  · have HE := Lib.hid (Fm.get_arg (b := xs) (t := t) (.inl h1))
    have hd : decide (t < 0) = true := by simpa using h1
    clear hx hb
    go_enter Tryd.func14, Tryd.ntmps14
    go_wp2
    (try simp only [Exit.inBlock, Exit.then]); refine bodyPost_ret (results_tmp4 rfl _ _ _) rfl ?_
    rw [HE.out]
    exact ⟨_, rfl, own_none, Below.refl _ _⟩
  by_cases h2 : (n : Int) < t
  · have HE := Lib.hid (Fm.get_arg (b := xs) (t := t) (.inr (by omega)))
    have hd : decide (t < 0) = false := by simpa using h1
    clear hx hb
    go_enter Tryd.func14, Tryd.ntmps14
    go_wp2
    (try simp only [Exit.inBlock, Exit.then]); refine bodyPost_ret (results_tmp4 rfl _ _ _) rfl ?_
    rw [HE.out]
    exact ⟨_, rfl, own_none, Below.refl _ _⟩
  obtain ⟨m, rfl⟩ := Int.eq_ofNat_of_zero_le (show 0 ≤ t by omega)
  obtain ⟨i0, hi, hz0, hz1, hz2⟩ := info_parts info_u8
  have hsl := fun W => run_cut_l (P := Tryd.prog) Tryd.underlying22 (size_of_info hi hz1) A n cap m (by omega) W
  have hd1 : decide ((m : Int) < 0) = false := by simp
  have hd2 : decide ((n : Int) < (m : Int)) = false := by simp; omega
  have hr := hx.dropU (k := m) (cap := cap) (by omega)
  have hyb := hb.drop m
  have hyl : (xs.drop m).length = n - m := by rw [List.length_drop, hn]
  have HER : Hid (∀ c, (Fm.meas (xs.drop m)).2 = c → c ≠ 0 → Fm.get xs (m : Int) = (0, [], 0, c)) := fun c h1 h2 => by
    rw [Fm.get_err (by omega) (by rw [h1]; exact h2), h1]
  have HOK : Hid ((Fm.meas (xs.drop m)).2 = 0 → Fm.get xs (m : Int) = ((xs.drop m).getD 1 0, ((xs.drop m).drop 4).take (Fm.ln (xs.drop m)), (m : Int) + ((Fm.ln (xs.drop m) + 8 : Nat) : Int), 0)) := fun h => Fm.get_ok (by omega) h
  generalize xs.drop m = ys at *
  obtain ⟨n', hn'⟩ : ∃ n', n' = n - m := ⟨_, rfl⟩
  obtain ⟨cap1, hcap1⟩ : ∃ c, c = cap - m := ⟨_, rfl⟩
  obtain ⟨A1, hA1⟩ : ∃ A1, A1 = cutA A m cap := ⟨_, rfl⟩
  rw [← hn'] at hsl hyl
  rw [← hcap1, ← hA1] at hsl
  rw [← hA1] at hr
  have hle : n' ≤ cap1 := by omega
  have hmn : m ≤ n := by omega
  have hmn' : (m : Int) + (n' : Int) ≤ 9223372036854775807 := by omega
  have HN' := Lib.hid hn'
  have HCAP := Lib.hid hcap1
  have hcn : cap1 ≤ 9223372036854775807 := by omega
  clear hA1 hx hb hcap hn h1 h2 hn' hcap1 hnc hcap'
  by_cases h0 : n' = 0
  · have HM := Lib.hid (HER.out 31 (by rw [Fm.meas_0 (by omega)]) (by omega))
    have k0 : ((n' : Int) == 0) = true := by rw [beq_iff_eq]; omega
    clear hr hyb
    go_enter Tryd.func14, Tryd.ntmps14
    go_wp2
    (try simp only [Exit.inBlock, Exit.then]); refine bodyPost_ret (results_tmp4 rfl _ _ _) rfl ?_
    rw [HM.out]
    exact ⟨_, rfl, own_none, Below.refl _ _⟩
  have k0 : ((n' : Int) == 0) = false := by rw [beq_eq_false_iff_ne]; omega
  obtain ⟨x0, hx0⟩ : ∃ x, ys[0]? = some x := ⟨ys[0], List.getElem?_eq_getElem (by omega)⟩
  obtain ⟨ad, rfl, hab, hc0⟩ := hr.getU hx0
  rw [show ad.add 0 = ad from rfl] at hc0
  have hd0 := getD_of hx0
  by_cases h1 : x0 = 247
  case neg =>
    have HM := Lib.hid (HER.out 32 (by rw [Fm.meas_1 (by omega) (by rw [hd0]; exact h1)]) (by omega))
    have k1 : (x0 != 247) = true := by rw [bne_iff_ne]; exact h1
    clear hr hyb hx0 hd0
    go_enter Tryd.func14, Tryd.ntmps14
    go_wp2
    (try simp only [Exit.inBlock, Exit.then]); refine bodyPost_ret (results_tmp4 rfl _ _ _) rfl ?_
    rw [HM.out]
    exact ⟨_, rfl, own_none, Below.refl _ _⟩
  subst h1
  by_cases h2 : n' < 8
  · have HM := Lib.hid (HER.out 31 (by rw [Fm.meas_2 (by omega) hd0 (by omega)]) (by omega))
    clear hr hyb hx0 hd0
    go_enter Tryd.func14, Tryd.ntmps14
    go_wp2
    (try simp only [Exit.inBlock, Exit.then]); refine bodyPost_ret (results_tmp4 rfl _ _ _) rfl ?_
    rw [HM.out]
    exact ⟨_, rfl, own_none, Below.refl _ _⟩
  obtain ⟨x1, hx1⟩ : ∃ x, ys[1]? = some x := ⟨ys[1], List.getElem?_eq_getElem (by omega)⟩
  obtain ⟨x2, hx2⟩ : ∃ x, ys[2]? = some x := ⟨ys[2], List.getElem?_eq_getElem (by omega)⟩
  obtain ⟨x3, hx3⟩ : ∃ x, ys[3]? = some x := ⟨ys[3], List.getElem?_eq_getElem (by omega)⟩
  obtain ⟨_, e1, _, hc1⟩ := hr.getU hx1
  cases e1
  obtain ⟨_, e2, _, hc2⟩ := hr.getU hx2
  cases e2
  obtain ⟨_, e3, _, hc3⟩ := hr.getU hx3
  cases e3
  have b2 := hyb _ (List.mem_of_getElem? hx2)
  have b3 := hyb _ (List.mem_of_getElem? hx3)
  have hor := or_len b2 b3
  have hln : Fm.ln ys = (x2 * 256 + x3).toNat := by unfold Fm.ln; rw [getD_of hx2, getD_of hx3]
  have hlb : Fm.ln ys ≤ 65535 := by omega
  rw [← hln] at hor
  obtain ⟨k, hk⟩ : ∃ k, k = Fm.ln ys := ⟨_, rfl⟩
  rw [← hk] at hor hlb
  have i1 : (1 : Int) < (n' : Int) := by omega
  have i2 : (2 : Int) < (n' : Int) := by omega
  have i3 : (3 : Int) < (n' : Int) := by omega
  have k2 : decide ((n' : Int) < 8) = false := by simp; omega
  have hg1 := getD_of hx1
  rw [show ad.add 1 = ⟨ad.block, ad.off + 1, none⟩ from rfl] at hc1
  rw [show ad.add 2 = ⟨ad.block, ad.off + 2, none⟩ from rfl] at hc2
  rw [show ad.add 3 = ⟨ad.block, ad.off + 3, none⟩ from rfl] at hc3
  clear hln hx0 hx1 hx2 hx3
  have HK := Lib.hid hk
  clear hk
  by_cases h3 : 8192 < k
  · have HM := Lib.hid (HER.out 2 (by rw [Fm.meas_3 (by omega) hd0 (by rw [← HK.out]; omega)]) (by omega))
    clear hr hyb hd0
    go_enter Tryd.func14, Tryd.ntmps14
    go_wp2
    go_quiet (fail)
    go_wp2
    (try simp only [Exit.inBlock, Exit.then]); refine bodyPost_ret (results_tmp4 rfl _ _ _) rfl ?_
    rw [HM.out]
    exact ⟨_, rfl, own_none, below_drawn (Below.refl _ _) nq⟩
  by_cases h4 : n' < k + 8
  · have HM := Lib.hid (HER.out 31 (by rw [Fm.meas_4 (by omega) hd0 (by rw [← HK.out]; omega) (by rw [← HK.out]; omega)]) (by omega))
    clear hr hyb hd0
    go_enter Tryd.func14, Tryd.ntmps14
    go_wp2
    go_quiet (fail)
    go_wp2
    (try simp only [Exit.inBlock, Exit.then]); refine bodyPost_ret (results_tmp4 rfl _ _ _) rfl ?_
    rw [HM.out]
    exact ⟨_, rfl, own_none, below_drawn (Below.refl _ _) nq⟩
  obtain ⟨p, hp⟩ : ∃ x, ys[k + 4]? = some x := ⟨ys[k + 4], List.getElem?_eq_getElem (by omega)⟩
  obtain ⟨q, hq⟩ : ∃ x, ys[k + 5]? = some x := ⟨ys[k + 5], List.getElem?_eq_getElem (by omega)⟩
  obtain ⟨r, hr6⟩ : ∃ x, ys[k + 6]? = some x := ⟨ys[k + 6], List.getElem?_eq_getElem (by omega)⟩
  obtain ⟨s, hs⟩ : ∃ x, ys[k + 7]? = some x := ⟨ys[k + 7], List.getElem?_eq_getElem (by omega)⟩
  obtain ⟨_, e1, _, cp⟩ := hr.getU hp
  cases e1
  obtain ⟨_, e1, _, cq⟩ := hr.getU hq
  cases e1
  obtain ⟨_, e1, _, cr⟩ := hr.getU hr6
  cases e1
  obtain ⟨_, e1, _, cs⟩ := hr.getU hs
  cases e1
  rw [show ad.add (k + 4) = ⟨ad.block, ad.off + (k + 4), none⟩ from rfl] at cp
  rw [show ad.add (k + 5) = ⟨ad.block, ad.off + (k + 5), none⟩ from rfl] at cq
  rw [show ad.add (k + 6) = ⟨ad.block, ad.off + (k + 6), none⟩ from rfl] at cr
  rw [show ad.add (k + 7) = ⟨ad.block, ad.off + (k + 7), none⟩ from rfl] at cs
  have bp := hyb _ (List.mem_of_getElem? hp)
  have bq := hyb _ (List.mem_of_getElem? hq)
  have br := hyb _ (List.mem_of_getElem? hr6)
  have bs := hyb _ (List.mem_of_getElem? hs)
  obtain ⟨o1, o2, o3⟩ := or_word bp bq br bs
  have HF := Lib.hid (four_of hp hq hr6 hs)
  have j4 : (k : Int) + 4 < (n' : Int) := by omega
  have j5 : (k : Int) + 5 < (n' : Int) := by omega
  have j6 : (k : Int) + 6 < (n' : Int) := by omega
  have j7 : (k : Int) + 7 < (n' : Int) := by omega
  have l4 : (0 : Int) ≤ (k : Int) + 4 := by omega
  have l5 : (0 : Int) ≤ (k : Int) + 5 := by omega
  have l6 : (0 : Int) ≤ (k : Int) + 6 := by omega
  have l7 : (0 : Int) ≤ (k : Int) + 7 := by omega
  have q4 : IntKind.i64.wrap ((k : Int) + 4) = (k : Int) + 4 := IntWalk.i64_in _ (by omega)
  have q8 : IntKind.i64.wrap ((m : Int) + (k : Int)) = (m : Int) + (k : Int) := IntWalk.i64_in _ (by omega)
  have q9 : IntKind.i64.wrap ((m : Int) + (k : Int) + 8) = (m : Int) + (k : Int) + 8 := IntWalk.i64_in _ (by omega)
  have k3 : decide (8192 < (k : Int)) = false := by simp; omega
  have k4 : decide ((n' : Int) < (k : Int) + 8) = false := by simp; omega
  have hsA : ∀ W, (Instr.slice 22 (.slice (some ad) n' cap1) (some (.int .i64 1)) (some (.int .i64 ((k : Int) + 4))) none).run Tryd.prog W = .ok (.slice (cutA (some ad) 1 cap1) (k + 3) (cap1 - 1)) W := fun W => by
    have h := run_cut_lh (P := Tryd.prog) Tryd.underlying22 (size_of_info hi hz1) (some ad) n' cap1 1 (k + 4) (by omega) (by omega) W
    rwa [show (((k + 4 : Nat)) : Int) = (k : Int) + 4 by omega, show k + 4 - 1 = k + 3 by omega] at h
  have hsB : ∀ W, (Instr.slice 22 (.slice (some ad) n' cap1) (some (.int .i64 4)) (some (.int .i64 ((k : Int) + 4))) none).run Tryd.prog W = .ok (.slice (cutA (some ad) 4 cap1) k (cap1 - 4)) W := fun W => by
    have h := run_cut_lh (P := Tryd.prog) Tryd.underlying22 (size_of_info hi hz1) (some ad) n' cap1 4 (k + 4) (by omega) (by omega) W
    rwa [show (((k + 4 : Nat)) : Int) = (k : Int) + 4 by omega, show k + 4 - 4 = k by omega] at h
  have HRA := Lib.hid ((hr.dropU (k := 1) (cap := cap1) (by omega)).takeU (k + 3))
  have HRB := Lib.hid ((hr.dropU (k := 4) (cap := cap1) (by omega)).takeU k)
  have HTD : Hid (((ys.take (k + 4)).drop 1) = (ys.drop 1).take (k + 3)) := by
    show _ = _
    rw [List.drop_take]; congr 1
  have HB1 := Lib.hid ((hyb.drop 1).take (k + 3))
  have HC1 : Hid (∀ w', Below w.heap.size w w' → w'.cell? ⟨ad.block, ad.off + 1, none⟩ = some (.int .u8 x1)) := fun w' h => (h.cell (by dsimp only; omega)).trans hc1
  have HS : Hid (Fm.sum (ys.take (k + 4)) = Fm.be4 (Cm.crc 0#32 ((ys.drop 1).take (k + 3)))) := by
    show _ = _
    rw [Fm.sum, HTD.out]
  obtain ⟨W4, hW4⟩ : ∃ W4, W4 = p * 16777216 + q * 65536 + r * 256 + s := ⟨_, rfl⟩
  rw [← hW4] at o3
  have HBE := Lib.hid (Fm.be4_eq (s := Cm.crc 0#32 ((ys.drop 1).take (k + 3))) bp bq br bs)
  rw [← hW4] at HBE
  have HCS := fun w' (h : Below w.heap.size w w') => RSum_any (cutA (some ad) 1 cap1) (k + 3) (cap1 - 1) B ((ys.drop 1).take (k + 3)) w' (HRA.out.below (h.mono hB)) (by rw [List.length_take, List.length_drop]; omega) (by unfold maxLen; omega) HB1.out
  obtain ⟨u, hu⟩ : ∃ u, u = Cm.V (Cm.crc 0#32 ((ys.drop 1).take (k + 3))) := ⟨_, rfl⟩
  rw [← hu] at HBE HCS
  have HD0 := Lib.hid hd0
  have HCS2 := Lib.hid HCS
  have HL : Hid (((ys.drop 4).take k).length = k) := by
    show _ = _
    rw [List.length_take, List.length_drop]; omega
  clear hW4 hp hq hr6 hs hr hyb hd0 HRA HTD HCS hu
  by_cases h5 : u = W4
  case neg =>
    have HM : Hid (Fm.get xs (m : Int) = (0, [], 0, 33)) := HER.out 33 (by
      rw [Fm.meas_5 HD0.out (by rw [← HK.out]; omega) (by rw [← HK.out]; omega) (by rw [← HK.out, HS.out, HF.out]; exact fun e => h5 (HBE.out.1 e))]) (by omega)
    have hne : (u != W4) = true := by rw [bne_iff_ne]; exact h5
    clear h5
    go_enter Tryd.func14, Tryd.ntmps14
    go_wp2
    go_quiet (fail)
    obtain ⟨n1, en⟩ : ∃ n1, n1 = nq := ⟨_, rfl⟩
    subst en
    go_wp2
    go_quiet (fail)
    have hC := below_drawn (below_drawn (Below.refl w.heap.size w) n1) nq
    generalize (w.drewN n1).drewN nq = w1 at hC ⊢
    clear hc0 hc1 hc2 hc3 cp cq cr cs o1 o2 o3 hor
    go_wp2_with (go_at_call 19; refine (HCS2.out _ hC).mono ?_; rintro e w' ⟨rfl, rfl⟩)
    (try simp only [Exit.inBlock, Exit.then]); refine bodyPost_ret (results_tmp4 rfl _ _ _) rfl ?_
    rw [HM.out]
    exact ⟨_, rfl, own_none, hC⟩
  subst h5
  have HM : Hid (Fm.get xs (m : Int) = (x1, (ys.drop 4).take k, (m : Int) + (k : Int) + 8, 0)) := by
    show _ = _
    rw [HOK.out (by rw [Fm.meas_6 HD0.out (by rw [← HK.out]; omega) (by rw [← HK.out]; omega) (by rw [← HK.out, HS.out, HF.out]; exact HBE.out.2 rfl)]), hg1, ← HK.out]
    congr 3
  have hne : (u != u) = false := by simp
  go_enter Tryd.func14, Tryd.ntmps14
  go_wp2
  go_quiet (fail)
  obtain ⟨n1, en⟩ : ∃ n1, n1 = nq := ⟨_, rfl⟩
  subst en
  go_wp2
  go_quiet (fail)
  have hC0 := below_drawn (below_drawn (Below.refl w.heap.size w) n1) nq
  generalize (w.drewN n1).drewN nq = w1 at hC0 ⊢
  clear hc0 hc1 hc2 hc3 cp cq cr cs o1 o2 o3 hor
  go_wp2_with (go_at_call 19; refine (HCS2.out _ hC0).mono ?_; rintro e w' ⟨rfl, rfl⟩)
  refine region_C (fun w' => Below w.heap.size w w') (by kernel_rfl) ?_
  obtain ⟨w2, hw2⟩ : ∃ w2, w2 = w1.drew := ⟨_, rfl⟩
  have hC : Below w.heap.size w w2 := by rw [hw2]; exact below_drawn hC0 1
  rw [← hw2]
  clear hw2 hC0
  refine anyC_take (i := 0) (v := ?v0_28) (a' := ?a0_28) rfl (by kernel_rfl) (by kernel_rfl) (by kernel_rfl) (fun _ _ _ h => h) hC ?w0_28 ?y0_28 ?f0_28 ?r0_28
  case w0_28 => kernel_rfl
  case y0_28 => (intro w hC; go_simp; try with_reducible rfl)
  case f0_28 => (go_simp; try with_reducible rfl)
  refine anyC_take (i := 1) (v := ?v1_29) (a' := ?a1_29) rfl (by kernel_rfl) (by kernel_rfl) (by kernel_rfl) (fun _ _ _ h => h) hC ?w1_29 ?y1_29 ?f1_29 ?r1_29
  case w1_29 => kernel_rfl
  case y1_29 => (intro w hC; go_simp; try with_reducible rfl)
  case f1_29 => (go_simp; try with_reducible rfl)
  refine anyC_take (i := 2) (v := ?v2_30) (a' := ?a2_30) rfl (by kernel_rfl) (by kernel_rfl) (by kernel_rfl) (fun _ _ _ h => h) hC ?w2_30 ?y2_30 ?f2_30 ?r2_30
  case w2_30 => kernel_rfl
  case y2_30 => (intro w hC; have h4 := HC1.out w hC; go_simp; try with_reducible rfl)
  case f2_30 => (go_simp; try with_reducible rfl)
  refine anyC_take (i := 4) (v := ?v4_31) (a' := ?a4_31) rfl (by kernel_rfl) (by kernel_rfl) (by kernel_rfl) (fun _ _ _ h => h) hC ?w4_31 ?y4_31 ?f4_31 ?r4_31
  case w4_31 => kernel_rfl
  case y4_31 => (intro w hC; go_simp; try with_reducible rfl)
  case f4_31 => (go_simp; try with_reducible rfl)
  refine anyC_take (i := 5) (v := ?v5_32) (a' := ?a5_32) rfl (by kernel_rfl) (by kernel_rfl) (by kernel_rfl) (fun _ _ _ h => h) hC ?w5_32 ?y5_32 ?f5_32 ?r5_32
  case w5_32 => kernel_rfl
  case y5_32 => (intro w hC; go_simp; try with_reducible rfl)
  case f5_32 => (go_simp; try with_reducible rfl)
  refine anyC_take (i := 6) (v := ?v6_33) (a' := ?a6_33) rfl (by kernel_rfl) (by kernel_rfl) (by kernel_rfl) (fun _ _ _ h => h) hC ?w6_33 ?y6_33 ?f6_33 ?r6_33
  case w6_33 => kernel_rfl
  case y6_33 => (intro w hC; go_simp; try with_reducible rfl)
  case f6_33 => (go_simp; try with_reducible rfl)
  refine anyC_take (i := 7) (v := ?v7_34) (a' := ?a7_34) rfl (by kernel_rfl) (by kernel_rfl) (by kernel_rfl) (fun _ _ _ h => h) hC ?w7_34 ?y7_34 ?f7_34 ?r7_34
  case w7_34 => kernel_rfl
  case y7_34 => (intro w hC; go_simp; try with_reducible rfl)
  case f7_34 => (go_simp; try with_reducible rfl)
  refine anyC_take (i := 9) (v := ?v9_35) (a' := ?a9_35) rfl (by kernel_rfl) (by kernel_rfl) (by kernel_rfl) (fun _ _ _ h => h) hC ?w9_35 ?y9_35 ?f9_35 ?r9_35
  case w9_35 => kernel_rfl
  case y9_35 => (intro w hC; go_simp; try with_reducible rfl)
  case f9_35 => (go_simp; try with_reducible rfl)
  refine anyC_take (i := 10) (v := ?v10_36) (a' := ?a10_36) rfl (by kernel_rfl) (by kernel_rfl) (by kernel_rfl) (fun _ _ _ h => h) hC ?w10_36 ?y10_36 ?f10_36 ?r10_36
  case w10_36 => kernel_rfl
  case y10_36 => (intro w hC; go_simp; try with_reducible rfl)
  case f10_36 => (go_simp; try with_reducible rfl)
  refine anyC_take (i := 11) (v := ?v11_37) (a' := ?a11_37) rfl (by kernel_rfl) (by kernel_rfl) (by kernel_rfl) (fun _ _ _ h => h) hC ?w11_37 ?y11_37 ?f11_37 ?r11_37
  case w11_37 => kernel_rfl
  case y11_37 => (intro w hC; go_simp; try with_reducible rfl)
  case f11_37 => (go_simp; try with_reducible rfl)
  refine anyC_take (i := 12) (v := ?v12_38) (a' := ?a12_38) rfl (by kernel_rfl) (by kernel_rfl) (by kernel_rfl) (fun _ _ _ h => h) hC ?w12_38 ?y12_38 ?f12_38 ?r12_38
  case w12_38 => kernel_rfl
  case y12_38 => (intro w hC; go_simp; try with_reducible rfl)
  case f12_38 => (go_simp; try with_reducible rfl)
  refine anyC_one (i := 3) rfl (by kernel_rfl) (by kernel_rfl) (fun K hK => ?_)
  go_simp
  have hmade := World.ownsRow_made (base := w2.heap.size) (e := 5) (size := 1) w2 #[] 0 (Nat.le_refl _) (by unfold maxLen; omega) (by simp)
  have hC3 := hC.alloc hC.size (.cells #[] 5)
  refine hK _ _ ⟨hC3, ?_⟩
  refine anyC_one (i := 8) rfl (by kernel_rfl) (by kernel_rfl) (fun K hK => ?_)
  refine op_app _ _ 22 rfl w2.heap.size 5 i0 (.int .u8 0) 1 Tryd.underlying22 hi hz0 hz1 hz2 rfl _ _ _ rfl hmade B (cutA (some ad) 4 cap1) k (cap1 - 4) (u8s ((ys.drop 4).take k)) rfl (by rw [List.length_map]; exact HL.out) (HRB.out.below (hC3.mono hB)) (oneCell_ints _ _) (by unfold maxLen; omega) (by omega) (by simp) ?_
  intro v w3 hown hgrow
  have hC4 := below_app hC3 (own_mono hmade hC.size) hgrow hC3.size
  refine hK _ _ ⟨hC4, ?_⟩
  refine anyC_take (i := 13) (v := ?v13_39) (a' := ?a13_39) rfl (by kernel_rfl) (by kernel_rfl) (by kernel_rfl) (fun _ _ _ h => h) hC4 ?w13_39 ?y13_39 ?f13_39 ?r13_39
  case w13_39 => kernel_rfl
  case y13_39 => (intro w hC; go_simp; try with_reducible rfl)
  case f13_39 => (go_simp; try with_reducible rfl)
  refine anyC_take (i := 14) (v := ?v14_40) (a' := ?a14_40) rfl (by kernel_rfl) (by kernel_rfl) (by kernel_rfl) (fun _ _ _ h => h) hC4 ?w14_40 ?y14_40 ?f14_40 ?r14_40
  case w14_40 => kernel_rfl
  case y14_40 => (intro w hC; go_simp; try with_reducible rfl)
  case f14_40 => (go_simp; try with_reducible rfl)
  refine anyC_take (i := 15) (v := ?v15_41) (a' := ?a15_41) rfl (by kernel_rfl) (by kernel_rfl) (by kernel_rfl) (fun _ _ _ h => h) hC4 ?w15_41 ?y15_41 ?f15_41 ?r15_41
  case w15_41 => kernel_rfl
  case y15_41 => (intro w hC; go_simp; try with_reducible rfl)
  case f15_41 => (go_simp; try with_reducible rfl)
  refine anyC_take (i := 16) (v := ?v16_42) (a' := ?a16_42) rfl (by kernel_rfl) (by kernel_rfl) (by kernel_rfl) (fun _ _ _ h => h) hC4 ?w16_42 ?y16_42 ?f16_42 ?r16_42
  case w16_42 => kernel_rfl
  case y16_42 => (intro w hC; go_simp; try with_reducible rfl)
  case f16_42 => (go_simp; try with_reducible rfl)
  refine anyC_done (by kernel_rfl) ?_
  go_wp2
  (try simp only [Exit.inBlock, Exit.then]); refine bodyPost_ret (results_tmp4 rfl _ _ _) rfl ?_
  rw [HM.out]
  refine ⟨v, rfl, ?_, hC4⟩
  rw [Nat.zero_add, List.nil_append] at hown
  dsimp only
  rw [HL.out]
  exact own_mono hown hC.size
end Go.Proofs.YtgeaedoccdemeaaDoor
