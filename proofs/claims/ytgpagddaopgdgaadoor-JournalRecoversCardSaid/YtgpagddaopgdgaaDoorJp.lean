/- A journal opened: the program's. -/
import Derived.Test.YtgpagddaopgdgaaDoorJo
namespace Go.Proofs.YtgpagddaopgdgaaDoor
open Go.RowKit Go.Shelf Km

section
variable {w w' w'' : World} {S : Nat → Prop} {g : Nat} {s s' : Jm.St} {kv rv : Value}

/-- what an opening tells -/
def Told (base : Nat) (w : World) (kk bb : Value) (l : List (Int × List Int)) : Prop := Acc base w kk bb (l.map (·.1)) (l.map (·.2))

theorem HTab.out (h : HTab w) (o : Out S w w') (nT : ¬ S 0) : HTab w' := fun k hk => cell_out (h k hk) o nT

theorem whole_le (h : Jm.Ok s) : Jm.whole s ≤ s.kept.length := (Fm.al_ok _ s.kept (Nat.le_refl _) h.k).2.1

/-- the effect of an opening that cuts -/
theorem opening_any (h : JAt w S g (Jm.up s) kv rv) {B D : Nat} (hB : w.cell? ⟨B, 0, none⟩ = some (.pointer (some ⟨g, 0, none⟩))) (nB : ¬ S B) (hD : w.cell? ⟨D, 0, none⟩ = some (.int .i64 ((Jm.whole s : Nat) : Int))) (nD : ¬ S D) (hw : Jm.whole s < s.kept.length) :
    Calls Tryd.prog 30 #[.pointer (some ⟨g, 0, none⟩), .func (.func 37) #[] #[.pointer (some ⟨B, 0, none⟩), .pointer (some ⟨D, 0, none⟩)]] w fun e w' => e = .returned (.int .i64 (Jm.opn s).2.2) ∧ Jat w' S g (Jm.opn s).1 ∧ Out S w w' := by
  have he0 := Jm.eff_kept (Jm.up s)
  have e2 : (Jm.opn s).2.2 = (Jm.eff (Jm.up s)).2 := by
    by_cases h0 : (Jm.eff (Jm.up s)).2 = 0
    · rw [Jm.opn_cut hw h0, h0]
    · rw [Jm.opn_err hw h0]
      exact ((Jm.eff_err _).resolve_left h0).symm
  rw [e2]
  refine perform_any (Q := fun w' => Jat w' S g (Jm.opn s).1 ∧ Out S w w') h 37 _ (fun W => callFunc_enter Tryd.func37 rfl rfl _ _) (fun h0 w' k1 k2 => ?_) (fun h0 w' k1 k2 => ?_)
  · refine (opens_any k1 (B := B) (D := D) (m := Jm.whole s) (cell_out hB k2 nB) (cell_out hD k2 nD) (by rw [he0.1]; exact Nat.le_of_lt hw)).mono ?_
    rintro e w'' ⟨rfl, d, o⟩
    rw [Jm.opn_cut hw h0]
    rw [he0.1] at d
    exact ⟨rfl, d, k2.trans (o.more fun _ q => .inl q)⟩
  · rw [Jm.opn_err hw h0]
    exact ⟨⟨_, _, k1⟩, k2⟩

theorem Out.in {w0 : World} (o : Out S w' w'') (hb : Below w0.heap.size w0 w') : Out S w0 w'' := (Out.below hb).trans (o.more fun _ q => .inl q)

set_option maxRecDepth 100000 in
set_option maxHeartbeats 2000000 in
theorem open_any (h : JAt w S g s kv rv) (ht : HTab w) (nT : ¬ S 0) (hz : Jm.size s ≤ 4194304) :
    Calls Tryd.prog 22 #[.pointer (some ⟨g, 0, none⟩)] w fun e w' => ∃ kk bb, e = .returned (.tuple #[kk, bb, .int .i64 (Jm.opn s).2.2]) ∧ Told w.heap.size w' kk bb (Jm.opn s).2.1 ∧ Jat w' S g (Jm.opn s).1 ∧ Out S w w' := by
  obtain ⟨w1, hw1⟩ : ∃ w1, w1 = w.alloc (.cells #[.pointer (some ⟨g, 0, none⟩)] 24) := ⟨_, rfl⟩
  have hb1 : Below w.heap.size w w1 := by rw [hw1]; exact (Below.refl _ w).alloc (Nat.le_refl _) _
  have hs1 : w1.heap.size = w.heap.size + 1 := by rw [hw1, World.size_alloc]
  have hc1 : w1.cell? ⟨w.heap.size, 0, none⟩ = some (.pointer (some ⟨g, 0, none⟩)) := by rw [hw1]; exact (Boxed.new w _ _).cell
  have nS : ¬ S w.heap.size := fun hs => by have := h.lt _ hs; omega
  have j1 := (h.below hb1).drew
  have j2 := j1.norest
  have j3 := j2.offs false
  obtain ⟨c1, f1⟩ := j1.at 1 rfl
  obtain ⟨c3, f3⟩ := (h.below hb1).at 3 rfl
  have o2 := j1.setOut 1 (.slice none 0 0)
  have o3 := j2.setOut 3 (.bool false)
  have hCa : w1.drew.cell? ⟨w.heap.size, 0, none⟩ = some (.pointer (some ⟨g, 0, none⟩)) := hc1
  have HU : Hid (JAt ((w1.drew.setCell ⟨g, 1, none⟩ (.slice none 0 0)).setCell ⟨g, 3, none⟩ (.bool false)) S g (Jm.up s) kv (.slice none 0 0) ∧ Out S w ((w1.drew.setCell ⟨g, 1, none⟩ (.slice none 0 0)).setCell ⟨g, 3, none⟩ (.bool false)) ∧
      ((w1.drew.setCell ⟨g, 1, none⟩ (.slice none 0 0)).setCell ⟨g, 3, none⟩ (.bool false)).cell? ⟨w.heap.size, 0, none⟩ = some (.pointer (some ⟨g, 0, none⟩))) :=
    ⟨j3, (o2.trans (o3.more fun _ q => .inl q)).in hb1.drew, cell_out (cell_out hCa o2 nS) o3 nS⟩
  have hCb : (w1.drew.setCell ⟨g, 1, none⟩ (.slice none 0 0)).cell? ⟨w.heap.size, 0, none⟩ = some (.pointer (some ⟨g, 0, none⟩)) := cell_out hCa o2 nS
  have HL := Lib.hid h.lt
  clear j1 j2 j3 o2 o3 h
  go_enter Tryd.func22, Tryd.ntmps22
  go_wp2_with fail
  rw [← hw1]
  clear hw1
  refine region_C (fun W => W.cell? ⟨w.heap.size, 0, none⟩ = some (.pointer (some ⟨g, 0, none⟩))) (by kernel_rfl) ?_
  refine anyC_take (i := 0) (v := ?v0_1) (a' := ?a0_1) rfl (by kernel_rfl) (by kernel_rfl) (by kernel_rfl) (fun _ _ _ h => h) hCa ?w0_1 ?y0_1 ?f0_1 ?r0_1
  case w0_1 => kernel_rfl
  case y0_1 => (intro w hC; have h4 := hC; go_simp; try with_reducible rfl)
  case f0_1 => (go_simp; try with_reducible rfl)
  refine anyC_take (i := 1) (v := ?v1_2) (a' := ?a1_2) rfl (by kernel_rfl) (by kernel_rfl) (by kernel_rfl) (fun _ _ _ h => h) hCa ?w1_2 ?y1_2 ?f1_2 ?r1_2
  case w1_2 => kernel_rfl
  case y1_2 => (intro w hC; have h4 := hC; go_simp; try with_reducible rfl)
  case f1_2 => (go_simp; try with_reducible rfl)
  refine anyC_take (i := 2) (v := ?v2_3) (a' := ?a2_3) rfl (by kernel_rfl) (by kernel_rfl) (by kernel_rfl) (fun _ _ _ h => h) hCa ?w2_3 ?y2_3 ?f2_3 ?r2_3
  case w2_3 => kernel_rfl
  case y2_3 => (intro w hC; go_simp; try with_reducible rfl)
  case f2_3 => (go_simp; try with_reducible rfl)
  refine anyC_take (i := 3) (v := ?v3_4) (a' := ?a3_4) rfl (by kernel_rfl) (by kernel_rfl) (by kernel_rfl) (fun _ _ _ h => h) hCa ?w3_4 ?y3_4 ?f3_4 ?r3_4
  case w3_4 => kernel_rfl
  case y3_4 => (intro w hC; go_simp; try with_reducible rfl)
  case f3_4 => (go_simp; try with_reducible rfl)
  refine anyC_one (i := 4) rfl (by kernel_rfl) (by kernel_rfl) (fun K hK => ?_)
  go_simp
  refine hK _ _ ⟨hCb, ?_⟩
  clear hK K c1 f1
  refine anyC_take (i := 5) (v := ?v5_5) (a' := ?a5_5) rfl (by kernel_rfl) (by kernel_rfl) (by kernel_rfl) (fun _ _ _ h => h) hCb ?w5_5 ?y5_5 ?f5_5 ?r5_5
  case w5_5 => kernel_rfl
  case y5_5 => (intro w hC; go_simp; try with_reducible rfl)
  case f5_5 => (go_simp; try with_reducible rfl)
  refine anyC_take (i := 6) (v := ?v6_6) (a' := ?a6_6) rfl (by kernel_rfl) (by kernel_rfl) (by kernel_rfl) (fun _ _ _ h => h) hCb ?w6_6 ?y6_6 ?f6_6 ?r6_6
  case w6_6 => kernel_rfl
  case y6_6 => (intro w hC; go_simp; try with_reducible rfl)
  case f6_6 => (go_simp; try with_reducible rfl)
  refine anyC_one (i := 7) rfl (by kernel_rfl) (by kernel_rfl) (fun K hK => ?_)
  go_simp
  refine hK _ _ ⟨HU.out.2.2, ?_⟩
  clear hK K c3 f3
  refine anyC_done (by kernel_rfl) ?_
  obtain ⟨j3, o3, b3⟩ : JAt ((w1.setCell ⟨g, 1, none⟩ (.slice none 0 0)).setCell ⟨g, 3, none⟩ (.bool false)).drew S g (Jm.up s) kv (.slice none 0 0) ∧ Out S w ((w1.setCell ⟨g, 1, none⟩ (.slice none 0 0)).setCell ⟨g, 3, none⟩ (.bool false)).drew ∧
      ((w1.setCell ⟨g, 1, none⟩ (.slice none 0 0)).setCell ⟨g, 3, none⟩ (.bool false)).drew.cell? ⟨w.heap.size, 0, none⟩ = some (.pointer (some ⟨g, 0, none⟩)) := HU.out
  generalize ((w1.setCell ⟨g, 1, none⟩ (.slice none 0 0)).setCell ⟨g, 3, none⟩ (.bool false)).drew = w2 at *
  clear hCa hCb HU
  have hwl := whole_le j3.ok
  have hok := j3.ok
  have hT2 := ht.out o3 nT
  obtain ⟨Ak, ck, rfl, hk1, hk2, hkd, -⟩ := own_view0 (show w2.ownsRow 0 5 1 kv s.kept.length (u8s s.kept) from j3.kr)
  have c0 : w2.cell? ⟨g, 0, none⟩ = some (.slice Ak s.kept.length ck) := (j3.at 0 rfl).1
  unfold Jm.size at hz
  have HC := Lib.hid (All_any Ak s.kept.length ck w2.heap.size s.kept w2 hkd rfl hk1 hk2 (Nat.le_refl _) hok.k hT2 (by omega))
  rw [show (Fm.cat (Fm.al s.kept)).length = Jm.whole s from rfl] at HC
  have HJ := Lib.hid (fun (W : World) (q : Below w2.heap.size w2 W) => j3.below q)
  have HB := Lib.hid (fun (W : World) (q : Below w2.heap.size w2 W) => cell_out b3 (Out.below (S := fun _ => False) q) (fun h => h))
  have HO := Lib.hid (fun (W : World) (q : Below w2.heap.size w2 W) => o3.trans ((Out.below q).more fun _ q => .inl q : Out (Sx S w w2) w2 W))
  have hs2 := o3.size
  have hwl' : Jm.whole s ≤ s.kept.length := hwl
  clear hkd hT2 ht hok j3 o3 hwl
  go_wp2_with (go_at_call 36; fail)
  refine HC.out.mono ?_
  rintro e w3 ⟨kk, bb, rfl, hacc, hb3⟩
  obtain ⟨A3, c3, vs, A4, c4, rfl, rfl, -⟩ := hacc.outF
  have hb4 : Below w2.heap.size w2 (w3.alloc (.cells #[.int .i64 ((Jm.whole s : Nat) : Int)] 3)) := hb3.alloc hb3.size _
  have hbx := HB.out _ hb4
  have hcx : (w3.alloc (.cells #[.int .i64 ((Jm.whole s : Nat) : Int)] 3)).cell? ⟨g, 0, none⟩ = some (.slice Ak s.kept.length ck) := ((HJ.out _ hb4).at 0 rfl).1
  have HA := Lib.hid (hacc.below ((Below.refl w3.heap.size w3).alloc (Nat.le_refl _) (.cells #[.int .i64 ((Jm.whole s : Nat) : Int)] 3)))
  have hdx : (w3.alloc (.cells #[.int .i64 ((Jm.whole s : Nat) : Int)] 3)).cell? ⟨w3.heap.size, 0, none⟩ = some (.int .i64 ((Jm.whole s : Nat) : Int)) := (Boxed.new w3 _ _).cell
  have hs3 := hb3.size
  have HB4 := Lib.hid hb4
  have HAl : Hid (Told w.heap.size (w3.alloc (.cells #[.int .i64 ((Jm.whole s : Nat) : Int)] 3)) (.slice A3 (Fm.al s.kept).length c3) (.slice A4 (Fm.al s.kept).length c4) (Fm.al s.kept)) := HA.out.mono hs2
  clear hacc hb3 hb4 HC HA c0 b3
  generalize (Fm.al s.kept).length = nl at *
  go_wp2_with fail
  generalize w3.alloc (.cells #[.int .i64 ((Jm.whole s : Nat) : Int)] 3) = w4 at *
  by_cases hw : Jm.whole s < s.kept.length
  · have HQ := Lib.hid (fun (W : World) => opening_any (w := W) (S := S) (g := g) (s := s) (kv := .slice Ak s.kept.length ck) (rv := .slice none 0 0) (B := w.heap.size) (D := w3.heap.size))
    have HW := Lib.hid hw
    have hd1 : decide (((Jm.whole s : Nat) : Int) < (s.kept.length : Int)) = true := by simpa using hw
    have nD : ¬ S w3.heap.size := fun q => by have := HL.out _ q; omega
    have hopn : ((Jm.opn s).2.2 = 0 ∧ (Jm.opn s).2.1 = Fm.al s.kept) ∨ ((Jm.opn s).2.2 ≠ 0 ∧ (Jm.opn s).2.1 = []) := by
      by_cases h0 : (Jm.eff (Jm.up s)).2 = 0
      · rw [Jm.opn_cut hw h0]; exact .inl ⟨rfl, rfl⟩
      · rw [Jm.opn_err hw h0]; exact .inr ⟨by show (61 : Int) ≠ 0; decide, rfl⟩
    obtain ⟨⟨s9, l9, e9⟩, hr⟩ : ∃ r, Jm.opn s = r := ⟨_, rfl⟩
    rw [hr] at HQ hopn
    have HR := Lib.hid hr
    clear hr
    dsimp only at HQ hopn
    rcases hopn with ⟨rfl, rfl⟩ | ⟨he9, rfl⟩
    · go_quiet (fail)
      go_wp2_with (go_at_call 30; fail)
      have hq := below_drawn HB4.out nq
      refine (HQ.out (w4.drewN nq) (HJ.out _ hq) (HB.out _ hq) nS hdx nD HW.out).mono ?_
      rintro e w5 ⟨rfl, k1, k2⟩
      have HF : Hid (Told w.heap.size w5 (.slice A3 nl c3) (.slice A4 nl c4) (Fm.al s.kept)) := Acc.keep (w := w4) HAl.out k2.size (fun b h1 h2 => k2.block b h2 (fun q => by have := HL.out b q; omega))
      have HX := Lib.hid ((HO.out _ hq).trans (k2.more fun _ q => .inl q : Out (Sx S w (w4.drewN nq)) (w4.drewN nq) w5))
      have HK := Lib.hid k1
      clear k1 k2 hbx hcx hdx
      go_wp2
      go_ret3
      rw [HR.out]
      exact ⟨_, _, rfl, HF.out, HK.out, HX.out⟩
    · have hne : (e9 != 0) = true := by rw [bne_iff_ne]; exact he9
      go_quiet (fail)
      go_wp2_with (go_at_call 30; fail)
      have hq := below_drawn HB4.out nq
      refine (HQ.out (w4.drewN nq) (HJ.out _ hq) (HB.out _ hq) nS hdx nD HW.out).mono ?_
      rintro e w5 ⟨rfl, k1, k2⟩
      have HX := Lib.hid ((HO.out _ hq).trans (k2.more fun _ q => .inl q : Out (Sx S w (w4.drewN nq)) (w4.drewN nq) w5))
      have HK := Lib.hid k1
      clear k1 k2 hbx hcx hdx
      go_wp2
      go_ret3
      rw [HR.out]
      exact ⟨_, _, rfl, Acc.nil _ _ HX.out.size, HK.out, HX.out⟩
  · have hd1 : decide (((Jm.whole s : Nat) : Int) < (s.kept.length : Int)) = false := by simpa using hw
    have HE := Lib.hid (Jm.opn_all hw)
    go_quiet (fail)
    go_wp2
    go_ret3
    rw [HE.out]
    have hq := below_drawn HB4.out nq
    exact ⟨_, _, rfl, HAl.out, ⟨_, _, HJ.out _ hq⟩, HO.out _ hq⟩
end
end Go.Proofs.YtgpagddaopgdgaaDoor
