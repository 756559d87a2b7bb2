/- FrameCuts, walked. -/
import Derived.Test.YtgeaedoccdemeaaDoorFj
namespace Go.Proofs.YtgeaedoccdemeaaDoor
open Go.RowKit Go.Shelf

/-- what a law's argument of slices of bytes gives -/
def SlicesOf (w : World) (a : Option Addr) (len cap : Nat) : Prop :=
  ∃ vs bs, vs.length = len ∧ len ≤ cap ∧ cap ≤ maxLen ∧ Rd w w.heap.size a vs ∧ Bods w w.heap.size vs bs ∧ ∀ b ∈ bs, Fm.By b

abbrev ints (xs : List Int) : List Value := xs.map (Value.int .i64)

theorem info_int : (Tryd.prog.info? 3).map (fun i => (i.zero, i.size, i.bytes)) = some (some (.int .i64 0), 1, 8) := by kernel_rfl
theorem info_parts_int : ∃ i, Tryd.prog.info? 3 = some i ∧ i.zero = some (.int .i64 0) ∧ i.size = 1 ∧ i.bytes = 8 := by
  have h := info_int
  cases hi : Tryd.prog.info? 3 with
  | none => rw [hi] at h; cases h
  | some i => rw [hi] at h; simp only [Option.map_some, Option.some.injEq, Prod.mk.injEq] at h; exact ⟨i, rfl, h.1, h.2.1, h.2.2⟩

theorem rows_apart {w : World} {base base' : Nat} {e e' : TypeId} {v v' : Value} {n n' : Nat} {xs xs' : List Value} (h : w.ownsRow base e 1 v n xs) (k : w.ownsRow base' e' 1 v' n' xs') (he : e ≠ e') (g : Nat) (hg : v.ownBlock = some g) : v'.ownBlock ≠ some g := fun hg' => by
  rcases h.2 with ⟨rfl, _⟩ | ⟨b, cap, cur, rfl, _, hb, _⟩
  · cases hg
  · rcases k.2 with ⟨rfl, _⟩ | ⟨b', cap', cur', rfl, _, hb', _⟩
    · cases hg'
    · cases hg
      cases hg'
      rw [hb] at hb'
      cases hb'
      exact he rfl

/-! ### frames one behind the other, and where each ends -/
def Ends (ps : List (Int × List Int)) (k : Nat) : List Int := (List.range k).map fun j => (((Fm.cat (ps.take (j + 1))).length : Nat) : Int)

theorem ends_len (ps : List (Int × List Int)) (k : Nat) : (Ends ps k).length = k := by simp [Ends]
theorem ends_succ (ps : List (Int × List Int)) (k : Nat) : Ends ps (k + 1) = Ends ps k ++ [(((Fm.cat (ps.take (k + 1))).length : Nat) : Int)] := by simp [Ends, List.range_succ]
theorem ends_get {ps : List (Int × List Int)} {k j : Nat} (h : j < k) : (Ends ps k)[j]? = some (((Fm.cat (ps.take (j + 1))).length : Nat) : Int) := by
  simp [Ends, List.getElem?_range h]
theorem cat_succ {ps : List (Int × List Int)} {k : Nat} {a : Int} {b : List Int} (h : ps[k]? = some (a, b)) : Fm.cat (ps.take (k + 1)) = Fm.cat (ps.take k) ++ Fm.frm a b := by
  rw [List.take_add_one, h, Fm.cat_app]
  show _ ++ Fm.cat [(a, b)] = _
  rw [Fm.cat_cons, Fm.cat_nil, List.append_nil]
/-- where the first j end -/
def Cl (ps : List (Int × List Int)) (j : Nat) : Nat := (Fm.cat (ps.take j)).length

theorem cat_most {ps : List (Int × List Int)} (h : ∀ f ∈ ps, f.2.length ≤ 8192) : (Fm.cat ps).length ≤ 8200 * ps.length := by
  induction ps with
  | nil => simp [Fm.cat_nil]
  | cons f fs ih =>
    rw [Fm.cat_cons, List.length_append, Fm.frm_len, List.length_cons]
    have := h f (by simp)
    have := ih (fun g hg => h g (by simp [hg]))
    omega
theorem cat_by {ps : List (Int × List Int)} (h : ∀ f ∈ ps, f.2.length ≤ 8192 ∧ (0 ≤ f.1 ∧ f.1 ≤ 255) ∧ Fm.By f.2) : Fm.By (Fm.cat ps) := by
  induction ps with
  | nil => exact Fm.By.nil
  | cons f fs ih =>
    rw [Fm.cat_cons]
    obtain ⟨h1, h2, h3⟩ := h f (by simp)
    exact (Fm.frm_by h2 h3 h1).app (ih fun g hg => h g (by simp [hg]))

set_option maxRecDepth 100000 in
set_option maxHeartbeats 8000000 in
theorem cuts_walk (a0 : Option Addr) (len0 cap0 : Nat) (z0 : List Int) (a1 : Option Addr) (len1 cap1 : Nat) (a2 : Int) (w : World) (w0 : RowOf .u8 w a0 len0 cap0 z0) (w1 : SlicesOf w a1 len1 cap1) (w2 : (Lit.int .u32 a2).wf = true)
    (_s0 : cap0 * 1 ≤ 140737488351232) (t0 : TabAt w) :
    Calls Tryd.prog 6 #[.slice a0 len0 cap0, .slice a1 len1 cap1, .int .u32 a2] w fun e w' => e = .returned (.bool true) ∧ Below w.heap.size w w' := by
  have b2 := wf_u32 w2
  obtain ⟨ks, hn0, hc0, hm0, hr0, hw0⟩ := row_rd w0
  obtain ⟨vs, bs, hn1, hc1, hm1, hr1, hbd, hby⟩ := w1
  have HB0 : Hid (Fm.By ks) := wf_u8 hw0
  have HB1 := Lib.hid hby
  have HN0 := Lib.hid hn0
  have HN1 := Lib.hid hn1
  have HR0 := Lib.hid hr0
  have HR1 := Lib.hid hr1
  have HBD := Lib.hid hbd
  have HNB : Hid (bs.length = len1) := by show _ = _; rw [← hbd.1, hn1]
  clear w0 w2 hw0 hn0 hn1 hr0 hr1 hbd hby
  obtain ⟨i0, hi, hz0, hz1, hz2⟩ := info_parts info_u8
  obtain ⟨ti, hti, hy0, hy1, hy2⟩ := info_parts_int
  by_cases g0 : 50 < len0
  · have k0 : decide ((50 : Int) < (len0 : Int)) = true := by simp; omega
    go_enter Tryd.func6, Tryd.ntmps6
    go_wp2_with (go_at_call 10; refine (head_any _ t0.tab).mono ?_; rintro e w1 ⟨rfl, hb1⟩)
    go_ret
    exact ⟨rfl, hb1⟩
  have k0 : decide ((50 : Int) < (len0 : Int)) = false := by simp; omega
  by_cases g1 : 50 < len1
  · have k1 : decide ((50 : Int) < (len1 : Int)) = true := by simp; omega
    go_enter Tryd.func6, Tryd.ntmps6
    go_wp2_with (go_at_call 10; refine (head_any _ t0.tab).mono ?_; rintro e w1 ⟨rfl, hb1⟩)
    go_ret
    exact ⟨rfl, hb1⟩
  have k1 : decide ((50 : Int) < (len1 : Int)) = false := by simp; omega
  obtain ⟨ps, hps⟩ : ∃ ps, ps = ks.zip bs := ⟨_, rfl⟩
  have HPS := Lib.hid hps
  have hpl : ps.length = min len0 len1 := by rw [hps, List.length_zip, HN0.out, HNB.out]
  have HPL := Lib.hid hpl
  clear hps hpl
  go_enter Tryd.func6, Tryd.ntmps6
  go_wp2_with (go_at_call 10; refine (head_any _ t0.tab).mono ?_; rintro e w1 ⟨rfl, hb1⟩)
  have HW1 := Lib.hid hb1
  clear hb1
  go_loopw [8, 9, 10] (fun av ev ix wr => ∃ (k : Nat), ix = .int .i64 (k : Int) ∧ k ≤ len0 ∧ k ≤ len1 ∧ Hid (∀ f ∈ ps.take k, f.2.length ≤ 8192) ∧ Hid (wr.ownsRow w.heap.size 5 1 av (Fm.cat (ps.take k)).length (u8s (Fm.cat (ps.take k)))) ∧
      Hid (wr.ownsRow w.heap.size 3 1 ev k (ints (Ends ps k))) ∧ Hid (Below w.heap.size w wr))
    (fun _ _ ix _ => len0 - (intOf ix).toNat)
  case atStart => exact ⟨0, rfl, by omega, by omega, Lib.hid (by simp), Lib.hid (World.ownsRow_nil _ _ _ _), Lib.hid (World.ownsRow_nil _ _ _ _), HW1⟩
  case round =>
    obtain ⟨k, rfl, hk0, hk1, HS, HA, HE, HW⟩ := hrel
    by_cases hlt : k < len0 ∧ k < len1
    · obtain ⟨h0, h1⟩ := hlt
      obtain ⟨kd, hkd⟩ : ∃ x, ks[k]? = some x := ⟨ks[k]'(by rw [HN0.out]; exact h0), List.getElem?_eq_getElem _⟩
      obtain ⟨b, hbk⟩ : ∃ x, bs[k]? = some x := ⟨bs[k]'(by rw [HNB.out]; exact h1), List.getElem?_eq_getElem _⟩
      obtain ⟨v, hvk⟩ : ∃ x, vs[k]? = some x := ⟨vs[k]'(by rw [HN1.out]; exact h1), List.getElem?_eq_getElem _⟩
      obtain ⟨ad0, rfl, hab0, hcl0⟩ := HR0.out.getU hkd
      obtain ⟨ad1, rfl, hab1, hcl1⟩ := HR1.out k v hvk
      obtain ⟨Ab, cb, rfl, hcb, hmb, hrb⟩ := HBD.out.2 k v b hvk hbk
      have hpk : ps[k]? = some (kd, b) := by
        rw [HPS.out, List.getElem?_zip_eq_some]
        exact ⟨hkd, hbk⟩
      have bk := HB0.out kd (List.mem_of_getElem? hkd)
      have bb := HB1.out b (List.mem_of_getElem? hbk)
      have HC0 : Hid (∀ w', Below wr.heap.size wr w' → w'.cell? (ad0.add k) = some (.int .u8 kd)) := fun w' h => ((HW.out.trans (h.mono HW.out.size)).cell (by rw [addr_add_block]; exact hab0)).trans hcl0
      have HC1 : Hid (∀ w', Below wr.heap.size wr w' → w'.cell? (ad1.add k) = some (.slice Ab b.length cb)) := fun w' h => ((HW.out.trans (h.mono HW.out.size)).cell (by rw [addr_add_block]; exact hab1)).trans hcl1
      have HRB := Lib.hid hrb
      have HPK := Lib.hid hpk
      have hlt0 : (k : Int) < (len0 : Int) := by omega
      have hlt1 : (k : Int) < (len1 : Int) := by omega
      clear hkd hbk hvk hcl0 hcl1 hrb hpk
      go_wp2_with fail
      refine region_C (fun w' => Below wr.heap.size wr w') (by kernel_rfl) ?_
      obtain ⟨w2, hw2⟩ : ∃ w2, w2 = wr.drew := ⟨_, rfl⟩
      have hC : Below wr.heap.size wr w2 := by rw [hw2]; exact below_drawn (Below.refl _ _) 1
      rw [← hw2]
      clear hw2
      refine anyC_take (i := 0) (v := ?v0_43) (a' := ?a0_43) rfl (by kernel_rfl) (by kernel_rfl) (by kernel_rfl) (fun _ _ _ h => h) hC ?w0_43 ?y0_43 ?f0_43 ?r0_43
      case w0_43 => kernel_rfl
      case y0_43 => (intro w hC; go_simp; try with_reducible rfl)
      case f0_43 => (go_simp; try with_reducible rfl)
      refine anyC_take (i := 1) (v := ?v1_44) (a' := ?a1_44) rfl (by kernel_rfl) (by kernel_rfl) (by kernel_rfl) (fun _ _ _ h => h) hC ?w1_44 ?y1_44 ?f1_44 ?r1_44
      case w1_44 => kernel_rfl
      case y1_44 => (intro w hC; go_simp; try with_reducible rfl)
      case f1_44 => (go_simp; try with_reducible rfl)
      refine anyC_take (i := 2) (v := ?v2_45) (a' := ?a2_45) rfl (by kernel_rfl) (by kernel_rfl) (by kernel_rfl) (fun _ _ _ h => h) hC ?w2_45 ?y2_45 ?f2_45 ?r2_45
      case w2_45 => kernel_rfl
      case y2_45 => (intro w hC; go_simp; try with_reducible rfl)
      case f2_45 => (go_simp; try with_reducible rfl)
      refine anyC_take (i := 3) (v := ?v3_46) (a' := ?a3_46) rfl (by kernel_rfl) (by kernel_rfl) (by kernel_rfl) (fun _ _ _ h => h) hC ?w3_46 ?y3_46 ?f3_46 ?r3_46
      case w3_46 => kernel_rfl
      case y3_46 => (intro w hC; have h4 := HC0.out w hC; go_simp; try with_reducible rfl)
      case f3_46 => (go_simp; try with_reducible rfl)
      refine anyC_take (i := 4) (v := ?v4_47) (a' := ?a4_47) rfl (by kernel_rfl) (by kernel_rfl) (by kernel_rfl) (fun _ _ _ h => h) hC ?w4_47 ?y4_47 ?f4_47 ?r4_47
      case w4_47 => kernel_rfl
      case y4_47 => (intro w hC; go_simp; try with_reducible rfl)
      case f4_47 => (go_simp; try with_reducible rfl)
      refine anyC_take (i := 5) (v := ?v5_48) (a' := ?a5_48) rfl (by kernel_rfl) (by kernel_rfl) (by kernel_rfl) (fun _ _ _ h => h) hC ?w5_48 ?y5_48 ?f5_48 ?r5_48
      case w5_48 => kernel_rfl
      case y5_48 => (intro w hC; go_simp; try with_reducible rfl)
      case f5_48 => (go_simp; try with_reducible rfl)
      refine anyC_take (i := 6) (v := ?v6_49) (a' := ?a6_49) rfl (by kernel_rfl) (by kernel_rfl) (by kernel_rfl) (fun _ _ _ h => h) hC ?w6_49 ?y6_49 ?f6_49 ?r6_49
      case w6_49 => kernel_rfl
      case y6_49 => (intro w hC; go_simp; try with_reducible rfl)
      case f6_49 => (go_simp; try with_reducible rfl)
      refine anyC_take (i := 7) (v := ?v7_50) (a' := ?a7_50) rfl (by kernel_rfl) (by kernel_rfl) (by kernel_rfl) (fun _ _ _ h => h) hC ?w7_50 ?y7_50 ?f7_50 ?r7_50
      case w7_50 => kernel_rfl
      case y7_50 => (intro w hC; have h4 := HC1.out w hC; go_simp; try with_reducible rfl)
      case f7_50 => (go_simp; try with_reducible rfl)
      refine anyC_one (i := 8) rfl (by kernel_rfl) (by kernel_rfl) (fun K hK => ?_)
      go_simp
      go_wp2_with (go_at_call 11; fail)
      have HW2 := Lib.hid (HW.out.trans (hC.mono HW.out.size))
      refine (Put_any kd Ab b.length cb w.heap.size b w2 bk (HRB.out.below HW2.out) rfl hcb hmb HW2.out.size bb (t0.tab.below HW2.out (Nat.le_refl _))).mono ?_
      obtain ⟨q, hq⟩ : ∃ q, q = Fm.put kd b := ⟨_, rfl⟩
      rw [← hq]
      have HQ := Lib.hid hq
      clear hq
      rintro e w3 ⟨v3, rfl, hown3, hb3⟩
      obtain ⟨A3, c3, rfl, -, -, -⟩ := own_view hown3
      have HO3 := Lib.hid hown3
      clear hown3
      go_wp2_with fail
      have hC3 := hC.trans (hb3.mono hC.size)
      refine ⟨hC3, ?_⟩
      refine anyC_take (i := 9) (v := ?v9_51) (a' := ?a9_51) rfl (by kernel_rfl) (by kernel_rfl) (by kernel_rfl) (fun _ _ _ h => h) hC3 ?w9_51 ?y9_51 ?f9_51 ?r9_51
      case w9_51 => kernel_rfl
      case y9_51 => (intro w hC; go_simp; try with_reducible rfl)
      case f9_51 => (go_simp; try with_reducible rfl)
      refine anyC_take (i := 10) (v := ?v10_52) (a' := ?a10_52) rfl (by kernel_rfl) (by kernel_rfl) (by kernel_rfl) (fun _ _ _ h => h) hC3 ?w10_52 ?y10_52 ?f10_52 ?r10_52
      case w10_52 => kernel_rfl
      case y10_52 => (intro w hC; go_simp; try with_reducible rfl)
      case f10_52 => (go_simp; try with_reducible rfl)
      refine anyC_take (i := 11) (v := ?v11_53) (a' := ?a11_53) rfl (by kernel_rfl) (by kernel_rfl) (by kernel_rfl) (fun _ _ _ h => h) hC3 ?w11_53 ?y11_53 ?f11_53 ?r11_53
      case w11_53 => kernel_rfl
      case y11_53 => (intro w hC; go_simp; try with_reducible rfl)
      case f11_53 => (go_simp; try with_reducible rfl)
      refine anyC_take (i := 12) (v := ?v12_54) (a' := ?a12_54) rfl (by kernel_rfl) (by kernel_rfl) (by kernel_rfl) (fun _ _ _ h => h) hC3 ?w12_54 ?y12_54 ?f12_54 ?r12_54
      case w12_54 => kernel_rfl
      case y12_54 => (intro w hC; go_simp; try with_reducible rfl)
      case f12_54 => (go_simp; try with_reducible rfl)
      refine anyC_take (i := 13) (v := ?v13_55) (a' := ?a13_55) rfl (by kernel_rfl) (by kernel_rfl) (by kernel_rfl) (fun _ _ _ h => h) hC3 ?w13_55 ?y13_55 ?f13_55 ?r13_55
      case w13_55 => kernel_rfl
      case y13_55 => (intro w hC; go_simp; try with_reducible rfl)
      case f13_55 => (go_simp; try with_reducible rfl)
      refine anyC_done (by kernel_rfl) ?_
      have hA3 := own_below HA.out hC3 (Nat.le_refl _)
      have hE3 := own_below HE.out hC3 (Nat.le_refl _)
      have HW3 := Lib.hid (HW.out.trans (hC3.mono HW.out.size))
      have hs3 := HW3.out.size
      clear hC hC3 hb3 HC0 HC1 HRB
      by_cases hl : b.length ≤ 8192
      case neg =>
        have hq := HQ.out
        rw [Fm.put_many (by omega)] at hq
        subst hq
        dsimp only at *
        clear hA3 hE3
        go_wp2_with fail
        go_ret
        exact ⟨rfl, HW3.out⟩
      have hown3 := HO3.out
      have hq := HQ.out
      rw [Fm.put_ok hl] at hq
      subst hq
      dsimp only at *
      rw [Fm.frm_len] at hown3
      simp only [Fm.frm_len]
      obtain ⟨T, hT⟩ : ∃ T, T = (Fm.cat (ps.take k)).length := ⟨_, rfl⟩
      have hTm : T ≤ 8200 * 50 := by
        have h1 := cat_most HS.out
        have h2 : (ps.take k).length ≤ k := List.length_take_le ..
        omega
      rw [← hT] at hA3
      have HT := Lib.hid hT
      have hrd3 := Rd.of_own hown3
      have HX := Lib.hid (And.intro hA3 hE3)
      clear hT
      go_wp2_with (first
        | (at_builtin; refine wpList_app rfl _ _ 22 rfl w.heap.size 5 i0 (.int .u8 0) 1 Tryd.underlying22 hi hz0 hz1 hz2 rfl _ _ _ rfl hA3 w3.heap.size A3 (b.length + 8) c3 (u8s (Fm.frm kd b)) rfl (by rw [List.length_map, Fm.frm_len]) hrd3 (oneCell_ints _ _) (by unfold maxLen; omega) (by omega) hs3 ?_; intro av4 w4 hA4 hgrow4 hblk4; obtain ⟨A4, c4, rfl, -, -, -⟩ := own_view hA4; have hE4 := own_same hE3 (fun g hg => hgrow4.block g (hE3.lt g hg).2 (fun e => rows_apart hA3 hE3 (by decide) g e.symm hg)); have HW4 := Lib.hid (below_app HW3.out hA3 hgrow4 hs3); have hE4a := own_below hE4 ((Below.refl _ w4).alloc (Nat.le_refl _) (.cells #[.int .i64 ((T : Int) + ((b.length : Int) + 8))] 3)) (Nat.le_refl _); have hA4a := own_below hA4 ((Below.refl _ w4).alloc (Nat.le_refl _) (.cells #[.int .i64 ((T : Int) + ((b.length : Int) + 8))] 3)) (Nat.le_refl _); clear hA3 hE3 hgrow4 hblk4 hE4 hA4)
        | (at_builtin; refine wpList_app rfl _ _ 37 rfl w.heap.size 3 ti (.int .i64 0) 8 Tryd.underlying37 hti hy0 hy1 hy2 rfl _ _ _ rfl hE4a (w4.heap.size + 1) (some ⟨w4.heap.size, 0, none⟩) 1 1 [.int .i64 ((T : Int) + ((b.length : Int) + 8))] rfl rfl (by exact Rd.new w4 (w4.heap.size + 1) [.int .i64 ((T : Int) + ((b.length : Int) + 8))] 3 (0, 0) (by omega)) (by simp [Value.oneCell']) (by unfold maxLen; omega) (by omega) (by have := HW4.out.size; simp; omega) ?_; intro ev5 w5 hE5 hgrow5 hblk5; have hA5 := own_same hA4a (fun g hg => hgrow5.block g (hA4a.lt g hg).2 (fun e => rows_apart hA4a hE4a (by decide) g hg e.symm)); have HW5 := Lib.hid (below_app (HW4.out.alloc HW4.out.size _) hE4a hgrow5 (by have := HW4.out.size; simp; omega)))
        | fail)
      go_roundw
      case rel =>
        refine ⟨k + 1, by go_num, by omega, by omega, ?_, ?_, ?_, HW5⟩
        · show ∀ f ∈ ps.take (k + 1), f.2.length ≤ 8192
          intro f hf
          rw [List.take_add_one, HPK.out] at hf
          rcases List.mem_append.1 hf with h | h
          · exact HS.out f h
          · simp at h; subst h; exact hl
        · show World.ownsRow _ _ _ _ _ _ _
          rw [cat_succ HPK.out, List.length_append, Fm.frm_len, ← HT.out, u8s, List.map_append]
          exact hA5
        · show World.ownsRow _ _ _ _ _ _ _
          rw [ends_succ, cat_succ HPK.out, List.length_append, Fm.frm_len, ← HT.out, ints, List.map_append]
          rw [show (((T + (b.length + 8) : Nat)) : Int) = (T : Int) + ((b.length : Int) + 8) by omega]
          exact hE5
      case measure => simp [intOf]; omega
    · have hkp : k = ps.length := by rw [HPL.out]; omega
      have htk : ps.take k = ps := List.take_of_length_le (by omega)
      rw [htk] at HS HA
      have hpl := HPL.out
      obtain ⟨T, hT⟩ : ∃ T, T = (Fm.cat ps).length := ⟨_, rfl⟩
      have hTm : T ≤ 8200 * 50 := by
        have h1 := cat_most HS.out
        omega
      rw [← hT] at HA
      have HT := Lib.hid hT
      obtain ⟨A8, c8, e8, hcp8, hcm8, hrd8⟩ := own_view HA.out
      obtain ⟨A9, c9, e9, hcp9, hcm9, hrd9⟩ := own_view HE.out
      subst e8 e9
      obtain ⟨cut, rfl⟩ := Int.eq_ofNat_of_zero_le b2.1
      obtain ⟨t, ht⟩ : ∃ t, t = cut % (T + 1) := ⟨_, rfl⟩
      have htT : t ≤ T := by have := Nat.mod_lt cut (show 0 < T + 1 by omega); omega
      have hrem : ((cut : Int) % ((T : Int) + 1)) = (t : Int) := by
        rw [show ((T : Int) + 1) = ((T + 1 : Nat) : Int) from by omega, ht]; rfl
      have hsm := fun W => run_cut_h (P := Tryd.prog) Tryd.underlying22 (size_of_info hi hz1) A8 T c8 t (by omega) W
      obtain ⟨N, hN1, hN2, hN3, hN4⟩ := Fm.al_cut ps t HS.out
      have HBC : Hid (Fm.By (Fm.cat ps)) := cat_by (fun f hf => ⟨HS.out f hf, by
        rw [HPS.out] at hf
        obtain ⟨h1, h2⟩ := List.of_mem_zip (a := f.1) (b := f.2) hf
        exact ⟨HB0.out _ h1, HB1.out _ h2⟩⟩)
      have hcat : (Fm.cat ps).length ≤ c8 := by rw [← hT]; exact hcp8
      have hAll := All_any (cutA A8 0 c8) t c8 wr.heap.size ((Fm.cat ps).take t) wr (rd_cut0 hrd8 hcat) (by rw [List.length_take, ← hT]; omega) (by omega) hcm8 (Nat.le_refl _) (HBC.out.take t) (t0.tab.below HW.out (Nat.le_refl _)) (by omega)
      rw [hN2, show (Fm.cat (ps.take N)).length = Cl ps N from rfl] at hAll
      have HAll := Lib.hid hAll
      have hNl : (ps.take N).length = N := by rw [List.length_take]; omega
      have H3 := Lib.hid hN3
      have H4 := Lib.hid hN4
      have hcm8' := hcm8
      unfold maxLen at hcm8'
      have hk50 : k ≤ 50 := by omega
      have hNk : N ≤ k := by omega
      have HKP := Lib.hid hkp
      clear ht hT htk hrd8 hrd9 hAll hN1 hN2 hN3 hN4 hcat hi hz0 hz1 hz2 hti hy0 hy1 hy2 hkp hpl
      have hend : (decide ((k : Int) < (len0 : Int)) = false ∧ decide (k < len0) = false) ∨ ((decide ((k : Int) < (len0 : Int)) = true ∧ decide (k < len0) = true) ∧ decide ((k : Int) < (len1 : Int)) = false ∧ decide (k < len1) = false) := by
        by_cases h0 : k < len0
        · right
          refine ⟨⟨?_, ?_⟩, ?_, ?_⟩ <;> simp <;> omega
        · left
          refine ⟨?_, ?_⟩ <;> simp <;> omega
      clear hlt
      rcases hend with ⟨kd0, kd1⟩ | ⟨⟨kd0, kd1⟩, kd2, kd3⟩
      all_goals
        go_wp2_with (go_at_call 15; fail)
      all_goals
        refine HAll.out.mono ?_
        rintro e w5 ⟨kv, lv, rfl, acc, hb5⟩
        obtain ⟨Ak, ck, vl, Al, cl, e1, e2, -, -, rk, rl, bl⟩ := acc.outF
        rw [hNl] at e1 e2
        subst e1 e2
        have HE5 := Lib.hid (own_below HE.out hb5 (Nat.le_refl _))
        have HW5 := Lib.hid (HW.out.trans (hb5.mono HW.out.size))
        have HRK := Lib.hid (And.intro rk (And.intro rl bl))
        clear acc hb5 rk rl bl
        go_wp2_with fail
      all_goals
        have hst : Value.int .i64 0 = Value.int .i64 ((Cl ps 0 : Nat) : Int) := by simp [Cl, Fm.cat_nil]
        go_loopw [17, 18] (fun nx lx wq => ∃ (j : Nat), nx = .int .i64 (j : Int) ∧ j ≤ N ∧ lx = .int .i64 ((Cl ps j : Nat) : Int) ∧ w5 = wq) (fun nx _ _ => N - (intOf nx).toNat)
        case atStart => exact ⟨0, rfl, by omega, hst, rfl⟩
        case round =>
          obtain ⟨j, rfl, hj, rfl, rfl⟩ := hrel
          clear hst
          by_cases hjN : j < N
          · obtain ⟨g9, _, hv, _, _⟩ := HE5.out.form (by omega)
            obtain rfl : A9 = some ⟨g9, 0, none⟩ := by injection hv
            have hcl : w5.cell? ⟨g9, j, none⟩ = some (.int .i64 ((Cl ps (j + 1) : Nat) : Int)) := by
              rw [HE5.out.cellAt j (by omega), List.getElem?_map, ends_get (by omega)]; rfl
            have hle : Cl ps (j + 1) ≤ t := (H3.out (j + 1) (by rw [← HKP.out]; omega)).2 (by omega)
            have hle2 : (((Cl ps (j + 1) : Nat)) : Int) ≤ (t : Int) := by omega
            have hjk : (j : Int) < (k : Int) := by omega
            obtain ⟨c1, hc1'⟩ : ∃ c1, c1 = Cl ps (j + 1) := ⟨_, rfl⟩
            rw [← hc1'] at hcl hle hle2
            have HC := Lib.hid hc1'
            clear hc1' hv
            go_wp2
            go_roundw
            case rel => exact ⟨j + 1, by go_num, by omega, by rw [← HC.out], trivial⟩
            case measure => simp [intOf]; omega
          · obtain rfl : j = N := by omega
            have hout : (decide ((j : Int) < (k : Int)) = false ∧ decide (j < k) = false) ∨ (j < k ∧ t < Cl ps (j + 1)) := by
              by_cases h0 : j < k
              · exact .inr ⟨h0, H4.out (by rw [← HKP.out]; exact h0)⟩
              · exact .inl (by refine ⟨?_, ?_⟩ <;> simp <;> omega)
            rcases hout with ⟨o1, o2⟩ | ⟨o1, o2⟩
            · go_wp2_with fail
              go_loopw [19] (fun ix wq => ∃ (i nd : Nat), ix = .int .i64 (i : Int) ∧ i ≤ j ∧ Hid (wq = w5.drewN nd)) (fun ix _ => j - (intOf ix).toNat)
              case atStart => exact ⟨0, 0, rfl, by omega, Lib.hid rfl⟩
              case round =>
                obtain ⟨i, nd, rfl, hij, hWq⟩ := hrel
                by_cases hlt : i < j
                · have hip : i < ps.length := by rw [← HKP.out]; omega
                  obtain ⟨⟨kd, b⟩, hpi⟩ : ∃ p, ps[i]? = some p := ⟨ps[i], List.getElem?_eq_getElem hip⟩
                  have hzz := hpi
                  rw [HPS.out, List.getElem?_zip_eq_some] at hzz
                  obtain ⟨hkd, hbk⟩ := hzz
                  dsimp only at hkd hbk
                  obtain ⟨v, hvk⟩ : ∃ x, vs[i]? = some x := ⟨vs[i]'(by rw [HN1.out]; omega), List.getElem?_eq_getElem _⟩
                  obtain ⟨ad0, rfl, hab0, hcl0⟩ := (HR0.out.below HW5.out).getU hkd
                  obtain ⟨ad1, rfl, hab1, hcl1⟩ := (HR1.out.below HW5.out) i v hvk
                  obtain ⟨Ab, cb, rfl, -, -, hrb⟩ := (HBD.out.below HW5.out).2 i v b hvk hbk
                  have htk : (ps.take j)[i]? = some (kd, b) := by rw [List.getElem?_take_of_lt hlt]; exact hpi
                  obtain ⟨rk, rl, bl⟩ := HRK.out
                  obtain ⟨adk, rfl, _, hclk⟩ := rk.getU (i := i) (x := kd) (by rw [List.getElem?_map, htk]; rfl)
                  have hbi : ((ps.take j).map (·.2))[i]? = some b := by rw [List.getElem?_map, htk]; rfl
                  obtain ⟨vv, hvv⟩ : ∃ x, vl[i]? = some x := ⟨vl[i]'(by rw [bl.1, List.length_map, hNl]; exact hlt), List.getElem?_eq_getElem _⟩
                  obtain ⟨adl, rfl, _, hcll⟩ := rl i vv hvv
                  obtain ⟨Av, cv, rfl, -, -, hrv⟩ := bl.2 i vv b hvv hbi
                  have q0 : wr.cell? (ad0.add i) = some (.int .u8 kd) := by rw [hWq.out]; exact hcl0
                  have q1 : wr.cell? (ad1.add i) = some (.slice Ab b.length cb) := by rw [hWq.out]; exact hcl1
                  have q2 : wr.cell? (adk.add i) = some (.int .u8 kd) := by rw [hWq.out]; exact hclk
                  have q3 : wr.cell? (adl.add i) = some (.slice Av b.length cv) := by rw [hWq.out]; exact hcll
                  have s1 : ∀ nq, (convert 22 9 (.slice Ab b.length cb)).run Tryd.prog (wr.drewN nq) = .ok (.string (strOfNums b)) (wr.drewN nq) := fun nq => by
                    rw [hWq.out]
                    exact str_of ((hrb.drewN nd).drewN nq) rfl
                  have s2 : ∀ nq, (convert 22 9 (.slice Av b.length cv)).run Tryd.prog (wr.drewN nq) = .ok (.string (strOfNums b)) (wr.drewN nq) := fun nq => by
                    rw [hWq.out]
                    exact str_of ((hrv.drewN nd).drewN nq) rfl
                  have n1 : (i : Int) < (j : Int) := by omega
                  have n2 : (i : Int) < (len0 : Int) := by omega
                  have n3 : (i : Int) < (len1 : Int) := by omega
                  clear hcl0 hcl1 hclk hcll hrb hrv hkd hbk hvk hvv hbi htk hpi rk rl bl hip
                  go_wp2_with fail
                  go_quiet (fail)
                  go_wp2
                  go_roundw
                  case rel => exact ⟨i + 1, nd + _, by go_num, by omega, Lib.hid (by rw [hWq.out, World.drewN_drewN])⟩
                  case measure => simp [intOf]; omega
                · go_wp2
                  go_ret
                  exact ⟨rfl, by rw [hWq.out]; exact below_drawn HW5.out nd⟩
            · obtain ⟨g9, _, hv, _, _⟩ := HE5.out.form (by omega)
              obtain rfl : A9 = some ⟨g9, 0, none⟩ := by injection hv
              have hcl : w5.cell? ⟨g9, j, none⟩ = some (.int .i64 ((Cl ps (j + 1) : Nat) : Int)) := by
                rw [HE5.out.cellAt j (by omega), List.getElem?_map, ends_get (by omega)]; rfl
              have hle2 : ¬ (((Cl ps (j + 1) : Nat)) : Int) ≤ (t : Int) := by omega
              have hjk : (j : Int) < (k : Int) := by omega
              clear hv
              go_wp2_with fail
              clear hcl hle2 hjk
              go_loopw [19] (fun ix wq => ∃ (i nd : Nat), ix = .int .i64 (i : Int) ∧ i ≤ j ∧ Hid (wq = w5.drewN nd)) (fun ix _ => j - (intOf ix).toNat)
              case atStart => exact ⟨0, 0, rfl, by omega, Lib.hid rfl⟩
              case round =>
                obtain ⟨i, nd, rfl, hij, hWq⟩ := hrel
                by_cases hlt : i < j
                · have hip : i < ps.length := by rw [← HKP.out]; omega
                  obtain ⟨⟨kd, b⟩, hpi⟩ : ∃ p, ps[i]? = some p := ⟨ps[i], List.getElem?_eq_getElem hip⟩
                  have hzz := hpi
                  rw [HPS.out, List.getElem?_zip_eq_some] at hzz
                  obtain ⟨hkd, hbk⟩ := hzz
                  dsimp only at hkd hbk
                  obtain ⟨v, hvk⟩ : ∃ x, vs[i]? = some x := ⟨vs[i]'(by rw [HN1.out]; omega), List.getElem?_eq_getElem _⟩
                  obtain ⟨ad0, rfl, hab0, hcl0⟩ := (HR0.out.below HW5.out).getU hkd
                  obtain ⟨ad1, rfl, hab1, hcl1⟩ := (HR1.out.below HW5.out) i v hvk
                  obtain ⟨Ab, cb, rfl, -, -, hrb⟩ := (HBD.out.below HW5.out).2 i v b hvk hbk
                  have htk : (ps.take j)[i]? = some (kd, b) := by rw [List.getElem?_take_of_lt hlt]; exact hpi
                  obtain ⟨rk, rl, bl⟩ := HRK.out
                  obtain ⟨adk, rfl, _, hclk⟩ := rk.getU (i := i) (x := kd) (by rw [List.getElem?_map, htk]; rfl)
                  have hbi : ((ps.take j).map (·.2))[i]? = some b := by rw [List.getElem?_map, htk]; rfl
                  obtain ⟨vv, hvv⟩ : ∃ x, vl[i]? = some x := ⟨vl[i]'(by rw [bl.1, List.length_map, hNl]; exact hlt), List.getElem?_eq_getElem _⟩
                  obtain ⟨adl, rfl, _, hcll⟩ := rl i vv hvv
                  obtain ⟨Av, cv, rfl, -, -, hrv⟩ := bl.2 i vv b hvv hbi
                  have q0 : wr.cell? (ad0.add i) = some (.int .u8 kd) := by rw [hWq.out]; exact hcl0
                  have q1 : wr.cell? (ad1.add i) = some (.slice Ab b.length cb) := by rw [hWq.out]; exact hcl1
                  have q2 : wr.cell? (adk.add i) = some (.int .u8 kd) := by rw [hWq.out]; exact hclk
                  have q3 : wr.cell? (adl.add i) = some (.slice Av b.length cv) := by rw [hWq.out]; exact hcll
                  have s1 : ∀ nq, (convert 22 9 (.slice Ab b.length cb)).run Tryd.prog (wr.drewN nq) = .ok (.string (strOfNums b)) (wr.drewN nq) := fun nq => by
                    rw [hWq.out]
                    exact str_of ((hrb.drewN nd).drewN nq) rfl
                  have s2 : ∀ nq, (convert 22 9 (.slice Av b.length cv)).run Tryd.prog (wr.drewN nq) = .ok (.string (strOfNums b)) (wr.drewN nq) := fun nq => by
                    rw [hWq.out]
                    exact str_of ((hrv.drewN nd).drewN nq) rfl
                  have n1 : (i : Int) < (j : Int) := by omega
                  have n2 : (i : Int) < (len0 : Int) := by omega
                  have n3 : (i : Int) < (len1 : Int) := by omega
                  clear hcl0 hcl1 hclk hcll hrb hrv hkd hbk hvk hvv hbi htk hpi rk rl bl hip
                  go_wp2_with fail
                  go_quiet (fail)
                  go_wp2
                  go_roundw
                  case rel => exact ⟨i + 1, nd + _, by go_num, by omega, Lib.hid (by rw [hWq.out, World.drewN_drewN])⟩
                  case measure => simp [intOf]; omega
                · go_wp2
                  go_ret
                  exact ⟨rfl, by rw [hWq.out]; exact below_drawn HW5.out nd⟩
end Go.Proofs.YtgeaedoccdemeaaDoor
