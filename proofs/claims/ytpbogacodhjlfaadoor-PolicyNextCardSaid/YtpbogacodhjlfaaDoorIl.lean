/- A plan with another target: the program's. -/
import Derived.Test.YtpbogacodhjlfaaDoorIk
namespace Go.Proofs.YtpbogacodhjlfaaDoor
open Go.RowKit Go.Shelf Km Kx Kc Kt
set_option linter.unusedVariables false

theorem i64s_drop (l : List Int) (k : Nat) : (Kc.i64s l).drop k = Kc.i64s (l.drop k) := by unfold Kc.i64s; exact (List.map_drop).symm
theorem i64s_snoc (l : List Int) (v : Int) : Kc.i64s l ++ [.int .i64 v] = Kc.i64s (l ++ [v]) := by unfold Kc.i64s; rw [List.map_append]; rfl

set_option maxRecDepth 100000 in
set_option maxHeartbeats 4000000 in
theorem changed_any (c : Cf) (x : Gm.Pl) (A : Option Addr) (n c0 : Nat) (A' : Option Addr) (n' c' : Nat) (z : Int) (g b : Nat) (w : World) (hr : Rd w w.heap.size A' (Kc.i64s x.ch)) (hn : x.ch.length = n') (hnb : n' ≤ b) (hk : n' ≤ c') (hb : c.b = (b : Int)) (hb1 : 1 ≤ b ∧ b ≤ 8) (hg : g < 18446744073709551616) (hxt : -1 ≤ x.t ∧ x.t ≤ 15) :
    Calls Tryd.prog 18 #[.agg (cf c).toArray, .agg (pc x A n c0 A' n' c').toArray, .int .i64 z, .int .u64 (g : Int)] w fun e w' => ∃ A2 c2, e = .returned (.agg (pc (Gm.chg x z (if Gm.has g x.t = true then c.first else 100) b) A n c0 A2 (n' - (n' + 1 - b) + 1) c2).toArray) ∧ Below w.heap.size w w' ∧ w'.ownsRow w.heap.size 2 1 (.slice A2 (n' - (n' + 1 - b) + 1) c2) (n' - (n' + 1 - b) + 1) (Kc.i64s (Gm.chg x z (if Gm.has g x.t = true then c.first else 100) b).ch) := by
  have HB := Lib.hid (Bxs.start w)
  obtain ⟨i0, hi, hz0, hz1, hz2⟩ := info_parts (P := Tryd.prog) (e := 2) (z := .int .i64 0) (size := 1) (bytes := 8) (by kernel_rfl)
  have HH : Hid (∀ W, Calls Tryd.prog 41 #[.int .u64 (g : Int), .int .i64 x.t] W fun e w' => e = .returned (.bool (Gm.has g x.t)) ∧ Below W.heap.size W w') := Lib.hid (fun W => (PHas_any g x.t W hg hxt.1 hxt.2).mono fun _ _ h => ⟨h.1, h.2 ▸ Below.refl _ _⟩)
  have HBC : Hid ((cf c)[16]? = some (.int .i64 (b : Int))) := Lib.hid (by rw [← hb]; rfl)
  obtain ⟨k, hkk⟩ : ∃ k : Nat, n' + 1 - b = k := ⟨_, rfl⟩
  have hkn : k ≤ n' := by omega
  have hcut := fun W => run_cut_tail (P := Tryd.prog) Tryd.underlying26 (fun w => Tryd.sizeOf2 w) A' n' c' k hkn hk W
  have HRC : Hid (Rd w w.heap.size (cutA A' k n') (Kc.i64s (x.ch.drop k))) := Lib.hid (by rw [← i64s_drop]; exact Rd.cutA hr (by rw [i64s_len]; omega))
  have HLC : Hid ((Kc.i64s (x.ch.drop k)).length = n' - k) := Lib.hid (by rw [i64s_len, List.length_drop, hn])
  have HE : Hid (∀ q : Int, (Gm.chg x z q b) = ⟨x.e, z, x.t, x.s, q, x.st, x.st, x.st, x.up, x.su, x.pen, x.ch.drop k ++ [x.st]⟩) := Lib.hid (fun q => by unfold Gm.chg; rw [hn, hkk])
  have hw1 : IntKind.i64.wrap ((b : Int) - 1) = (b : Int) - 1 := by rw [IntKind.wrap_i64]; omega
  have hw2 : IntKind.i64.wrap ((n' : Int) - ((b : Int) - 1)) = (n' : Int) - ((b : Int) - 1) := by rw [IntKind.wrap_i64]; omega
  obtain ⟨f, hf⟩ : ∃ f : Int, (n' : Int) - ((b : Int) - 1) = f := ⟨_, rfl⟩
  have hw3 : IntKind.i64.wrap ((n' : Int) - ((b : Int) - 1)) = f := hw2.trans hf
  clear hw2
  rw [HE.out, hkk]
  generalize x.ch.drop k = CH at *
  generalize cutA A' k n' = CA at *
  clear hr hb hxt HE
  obtain ⟨xe, xt, xp, xs', xc, xst, xsi, xra, xup, xsu, pen, ch⟩ := x
  dsimp only [pc] at *
  have hb8 : n' ≤ 8 := by omega
  cases h6 : Gm.has g xt with
  | false =>
    rw [h6] at HH
    simp only [Bool.false_eq_true, if_false]
    by_cases h7 : 0 ≤ f
    · obtain rfl : f = (k : Int) := by omega
      have hk0 : (0 : Int) ≤ (k : Int) := h7
      clear h6 h7 hf hkk hnb hb1 hg hn
      go_enter Tryd.func18, Tryd.ntmps18
      go_wp2_with (first | (go_at_call 41; refine Calls.mono (HH.out _) ?_; rintro e w_ ⟨rfl, hb_⟩; replace HB := Lib.hid (HB.out.call hb_); clear hb_) | (first | ((with_reducible refine Kx.absorb HB ?_); clear HB; intro w_ HB) | ((with_reducible refine Kx.box_gate (d := some 4) ?_); (first | refine Kx.boxa HB rfl ?_ | refine Kx.boxt HB rfl rfl ?_ | refine Kx.box1 HB rfl rfl ?_); clear HB; intro b4 w_ HB; refine Kx.fr ?_) | ((with_reducible refine Kx.alloc_gate (d := some 4) ?_); (first | refine Kx.ala HB ?_ | refine Kx.al1 HB ?_); clear HB; intro b4 w_ HB; refine Kx.fr ?_) | ((with_reducible refine Kx.box_gate (d := some 5) ?_); (first | refine Kx.boxa HB rfl ?_ | refine Kx.boxt HB rfl rfl ?_ | refine Kx.box1 HB rfl rfl ?_); clear HB; intro b5 w_ HB; refine Kx.fr ?_) | ((with_reducible refine Kx.alloc_gate (d := some 5) ?_); (first | refine Kx.ala HB ?_ | refine Kx.al1 HB ?_); clear HB; intro b5 w_ HB; refine Kx.fr ?_) | ((with_reducible refine Kx.box_gate (d := some 8) ?_); (first | refine Kx.boxa HB rfl ?_ | refine Kx.boxt HB rfl rfl ?_ | refine Kx.box1 HB rfl rfl ?_); clear HB; intro b8 w_ HB; refine Kx.fr ?_) | ((with_reducible refine Kx.alloc_gate (d := some 8) ?_); (first | refine Kx.ala HB ?_ | refine Kx.al1 HB ?_); clear HB; intro b8 w_ HB; refine Kx.fr ?_) | ((with_reducible refine Kx.box_gate ?_); (first | refine Kx.boxa HB rfl ?_ | refine Kx.boxt HB rfl rfl ?_ | refine Kx.box1 HB rfl rfl ?_); clear HB; intro b_ w_ HB; refine Kx.fr ?_) | ((with_reducible refine Kx.alloc_gate ?_); (first | refine Kx.ala HB ?_ | refine Kx.al1 HB ?_); clear HB; intro b_ w_ HB; refine Kx.fr ?_) | ((with_reducible refine Kx.loads_gate ?_); first | refine Kx.l1 HB rfl rfl ?_ | refine Kx.la HB rfl ?_ | refine Kx.lo HB rfl HC.out ?_) | ((with_reducible refine Kx.loadg_gate ?_); first | refine Kx.l1g HB rfl rfl rfl ?_ | refine Kx.lag HB rfl rfl ?_ | refine Kx.log HB rfl HC.out rfl ?_) | ((with_reducible refine Kx.store_gate ?_); (first | refine Kx.stwa HB rfl rfl ?_ | refine Kx.sta HB rfl rfl ?_ | refine Kx.stc HB rfl rfl ?_ | refine Kx.stt HB rfl rfl rfl ?_ | refine Kx.st1 HB rfl rfl rfl ?_); clear HB; intro w_ HB)))
      refine Kx.region_x HB (fun i => false) (by kernel_rfl) ?_
      refine Kx.tk 0 rfl ?_
      first | refine Kx.xl1 1 rfl rfl rfl ?_ | refine Kx.xla 1 rfl rfl ?_ | refine Kx.xlo 1 rfl rfl HC.out ?_
      refine Kx.tk 2 rfl ?_
      refine Kx.tk 3 rfl ?_
      refine anyW_take (i := 4) (v := ?v4_156) (a' := ?a4_156) (by first | exact Kx.bears_x | exact bears_u | assumption) rfl (by kernel_rfl) (by kernel_rfl) (by kernel_rfl) (fun _ _ _ h => h) (by kernel_rfl) ?w4_156 ?y4_156 ?f4_156 ?r4_156
      case w4_156 => kernel_rfl
      case y4_156 => (intro W hW; first | (refine Eq.trans (Kx.tells_load1_x (v := .int .i64 (b : Int)) hW b4 16 rfl (cf c) inferInstance (Tryd.isAgg3 _) HBC.out) ?_; with_reducible rfl))
      case f4_156 => (go_simp; try with_reducible rfl)
      refine Kx.tk 5 rfl ?_
      refine Kx.tk 6 rfl ?_
      refine Kx.tk 7 rfl ?_
      refine Kx.tk 8 rfl ?_
      first | refine Kx.xl1 9 rfl rfl rfl ?_ | refine Kx.xla 9 rfl rfl ?_ | refine Kx.xlo 9 rfl rfl HC.out ?_
      refine Kx.tk 10 rfl ?_
      refine Kx.tk 11 rfl ?_
      refine Kx.tk 12 rfl ?_
      refine anyW_done (by kernel_rfl) ?_
      clear HB
      intro w_ HB_
      have HB := Lib.hid HB_
      clear HB_
      go_wp2_with fail
      refine Kx.region_x HB (fun i => i == 11) (by kernel_rfl) ?_
      refine Kx.tk 0 rfl ?_
      first | refine Kx.xl1 1 rfl rfl rfl ?_ | refine Kx.xla 1 rfl rfl ?_ | refine Kx.xlo 1 rfl rfl HC.out ?_
      refine Kx.tk 2 rfl ?_
      refine Kx.tk 3 rfl ?_
      refine Kx.tk 4 rfl ?_
      refine Kx.tk 5 rfl ?_
      refine Kx.tk 6 rfl ?_
      first | refine Kx.xl1 7 rfl rfl rfl ?_ | refine Kx.xla 7 rfl rfl ?_ | refine Kx.xlo 7 rfl rfl HC.out ?_
      refine Kx.anyW_build_x (i := 8) (cs := ?cs8_157) (t := ?t8_157) (m := ?m8_157) rfl (by kernel_rfl) (by kernel_rfl) rfl ?run8_157 ?nx8_157
      case run8_157 => (intro W; go_simp; first | (refine ⟨?_, ?_⟩ <;> with_reducible rfl) | with_reducible rfl)
      intro b50
      refine Kx.framedW (by simp only [Act.put, List.setIfInBounds_toArray, List.set_cons_succ, List.set_cons_zero] <;> rfl) ?_
      refine Kx.anyW_appFull_x (i := 9) rfl (by kernel_rfl) (by kernel_rfl) rfl _ _ 26 rfl 2 i0 (.int .i64 0) 8 Tryd.underlying26 hi hz0 hz1 hz2 rfl CA (n' - k) rfl (Kc.i64s CH) HLC.out (fun W hW => (HRC.out.below hW.below).more hW.size) b50 1 (.int .i64 xst) rfl (by omega) (by decide) ?_
      intro g51 c51
      refine Kx.framedW (by simp only [Act.put, List.setIfInBounds_toArray, List.set_cons_succ, List.set_cons_zero] <;> rfl) ?_
      refine Kx.tk 10 rfl ?_
      first | (refine Kx.anyW_storewa_x (i := 11) rfl (by kernel_rfl) (by kernel_rfl) (by rfl) rfl _ _ _ rfl _ rfl _ rfl _ (by rfl) (fun w => (Tryd.sizeOf26 w)) (by rfl) ?_) | (refine Kx.anyW_storea_x (i := 11) rfl (by kernel_rfl) (by kernel_rfl) (by rfl) rfl _ _ _ rfl _ rfl _ rfl _ _ (by simp [Kx.splice] <;> rfl) (by simp) (fun w => (Tryd.sizeOf26 w)) (by rfl) ?_) | (refine Kx.anyW_storec_x (i := 11) rfl (by kernel_rfl) (by kernel_rfl) (by rfl) rfl _ _ _ rfl _ rfl rfl _ _ (by simp <;> rfl) (by simp) (fun w => (Tryd.sizeOf26 w)) ?_) | (refine Kx.anyW_storet_x (i := 11) rfl (by kernel_rfl) (by kernel_rfl) (by rfl) rfl _ _ _ rfl _ rfl _ rfl rfl _ _ (by simp <;> rfl) (by simp) (fun w => (Tryd.sizeOf26 w)) ?_)
      refine anyW_done (by kernel_rfl) ?_
      clear HB
      intro w_ HB_
      have HB := Lib.hid HB_
      clear HB_
      go_wp2_with (first | ((with_reducible refine Kx.absorb HB ?_); clear HB; intro w_ HB) | ((with_reducible refine Kx.box_gate ?_); (first | refine Kx.boxa HB rfl ?_ | refine Kx.boxt HB rfl rfl ?_ | refine Kx.box1 HB rfl rfl ?_); clear HB; intro b_ w_ HB; refine Kx.fr ?_) | ((with_reducible refine Kx.alloc_gate ?_); (first | refine Kx.ala HB ?_ | refine Kx.al1 HB ?_); clear HB; intro b_ w_ HB; refine Kx.fr ?_) | ((with_reducible refine Kx.loads_gate ?_); first | refine Kx.l1 HB rfl rfl ?_ | refine Kx.la HB rfl ?_ | refine Kx.lo HB rfl HC.out ?_) | ((with_reducible refine Kx.loadg_gate ?_); first | refine Kx.l1g HB rfl rfl rfl ?_ | refine Kx.lag HB rfl rfl ?_ | refine Kx.log HB rfl HC.out rfl ?_) | ((with_reducible refine Kx.store_gate ?_); (first | refine Kx.stwa HB rfl rfl ?_ | refine Kx.sta HB rfl rfl ?_ | refine Kx.stc HB rfl rfl ?_ | refine Kx.stt HB rfl rfl rfl ?_ | refine Kx.st1 HB rfl rfl rfl ?_); clear HB; intro w_ HB))
      rw [← i64s_snoc]
      refine bodyPost_ret (Kx.results_x HB rfl _ _ _ rfl (by simp <;> rfl) (by simp <;> rfl)) rfl ?_; exact ⟨some ⟨g51, 0, none⟩, c51, rfl, HB.out.below, (HB.out.rows _ (List.mem_cons_self ..)).1⟩
    · obtain rfl : k = 0 := by omega
      have hf0 : f < 0 := by omega
      have hcut0 : ∀ W, (Instr.slice 26 (.slice A' n' c') (some (.int .i64 0)) (some (.int .i64 (n' : Int))) (some (.int .i64 (n' : Int)))).run Tryd.prog W = .ok (.slice CA n' n') W := hcut
      simp only [Nat.sub_zero] at HLC ⊢
      clear h6 h7 hf hkk hnb hb1 hg hn hcut
      go_enter Tryd.func18, Tryd.ntmps18
      go_wp2_with (first | (go_at_call 41; refine Calls.mono (HH.out _) ?_; rintro e w_ ⟨rfl, hb_⟩; replace HB := Lib.hid (HB.out.call hb_); clear hb_) | (first | ((with_reducible refine Kx.absorb HB ?_); clear HB; intro w_ HB) | ((with_reducible refine Kx.box_gate (d := some 4) ?_); (first | refine Kx.boxa HB rfl ?_ | refine Kx.boxt HB rfl rfl ?_ | refine Kx.box1 HB rfl rfl ?_); clear HB; intro b4 w_ HB; refine Kx.fr ?_) | ((with_reducible refine Kx.alloc_gate (d := some 4) ?_); (first | refine Kx.ala HB ?_ | refine Kx.al1 HB ?_); clear HB; intro b4 w_ HB; refine Kx.fr ?_) | ((with_reducible refine Kx.box_gate (d := some 5) ?_); (first | refine Kx.boxa HB rfl ?_ | refine Kx.boxt HB rfl rfl ?_ | refine Kx.box1 HB rfl rfl ?_); clear HB; intro b5 w_ HB; refine Kx.fr ?_) | ((with_reducible refine Kx.alloc_gate (d := some 5) ?_); (first | refine Kx.ala HB ?_ | refine Kx.al1 HB ?_); clear HB; intro b5 w_ HB; refine Kx.fr ?_) | ((with_reducible refine Kx.box_gate (d := some 8) ?_); (first | refine Kx.boxa HB rfl ?_ | refine Kx.boxt HB rfl rfl ?_ | refine Kx.box1 HB rfl rfl ?_); clear HB; intro b8 w_ HB; refine Kx.fr ?_) | ((with_reducible refine Kx.alloc_gate (d := some 8) ?_); (first | refine Kx.ala HB ?_ | refine Kx.al1 HB ?_); clear HB; intro b8 w_ HB; refine Kx.fr ?_) | ((with_reducible refine Kx.box_gate ?_); (first | refine Kx.boxa HB rfl ?_ | refine Kx.boxt HB rfl rfl ?_ | refine Kx.box1 HB rfl rfl ?_); clear HB; intro b_ w_ HB; refine Kx.fr ?_) | ((with_reducible refine Kx.alloc_gate ?_); (first | refine Kx.ala HB ?_ | refine Kx.al1 HB ?_); clear HB; intro b_ w_ HB; refine Kx.fr ?_) | ((with_reducible refine Kx.loads_gate ?_); first | refine Kx.l1 HB rfl rfl ?_ | refine Kx.la HB rfl ?_ | refine Kx.lo HB rfl HC.out ?_) | ((with_reducible refine Kx.loadg_gate ?_); first | refine Kx.l1g HB rfl rfl rfl ?_ | refine Kx.lag HB rfl rfl ?_ | refine Kx.log HB rfl HC.out rfl ?_) | ((with_reducible refine Kx.store_gate ?_); (first | refine Kx.stwa HB rfl rfl ?_ | refine Kx.sta HB rfl rfl ?_ | refine Kx.stc HB rfl rfl ?_ | refine Kx.stt HB rfl rfl rfl ?_ | refine Kx.st1 HB rfl rfl rfl ?_); clear HB; intro w_ HB)))
      refine Kx.region_x HB (fun i => false) (by kernel_rfl) ?_
      refine Kx.tk 0 rfl ?_
      first | refine Kx.xl1 1 rfl rfl rfl ?_ | refine Kx.xla 1 rfl rfl ?_ | refine Kx.xlo 1 rfl rfl HC.out ?_
      refine Kx.tk 2 rfl ?_
      refine Kx.tk 3 rfl ?_
      refine anyW_take (i := 4) (v := ?v4_158) (a' := ?a4_158) (by first | exact Kx.bears_x | exact bears_u | assumption) rfl (by kernel_rfl) (by kernel_rfl) (by kernel_rfl) (fun _ _ _ h => h) (by kernel_rfl) ?w4_158 ?y4_158 ?f4_158 ?r4_158
      case w4_158 => kernel_rfl
      case y4_158 => (intro W hW; first | (refine Eq.trans (Kx.tells_load1_x (v := .int .i64 (b : Int)) hW b4 16 rfl (cf c) inferInstance (Tryd.isAgg3 _) HBC.out) ?_; with_reducible rfl))
      case f4_158 => (go_simp; try with_reducible rfl)
      refine Kx.tk 5 rfl ?_
      refine Kx.tk 6 rfl ?_
      refine Kx.tk 7 rfl ?_
      refine Kx.tk 8 rfl ?_
      first | refine Kx.xl1 9 rfl rfl rfl ?_ | refine Kx.xla 9 rfl rfl ?_ | refine Kx.xlo 9 rfl rfl HC.out ?_
      refine Kx.tk 10 rfl ?_
      refine Kx.tk 11 rfl ?_
      refine Kx.tk 12 rfl ?_
      refine anyW_done (by kernel_rfl) ?_
      clear HB
      intro w_ HB_
      have HB := Lib.hid HB_
      clear HB_
      go_wp2_with fail
      refine Kx.region_x HB (fun i => i == 11) (by kernel_rfl) ?_
      refine Kx.tk 0 rfl ?_
      first | refine Kx.xl1 1 rfl rfl rfl ?_ | refine Kx.xla 1 rfl rfl ?_ | refine Kx.xlo 1 rfl rfl HC.out ?_
      refine Kx.tk 2 rfl ?_
      refine Kx.tk 3 rfl ?_
      refine Kx.tk 4 rfl ?_
      refine Kx.tk 5 rfl ?_
      refine Kx.tk 6 rfl ?_
      first | refine Kx.xl1 7 rfl rfl rfl ?_ | refine Kx.xla 7 rfl rfl ?_ | refine Kx.xlo 7 rfl rfl HC.out ?_
      refine Kx.anyW_build_x (i := 8) (cs := ?cs8_159) (t := ?t8_159) (m := ?m8_159) rfl (by kernel_rfl) (by kernel_rfl) rfl ?run8_159 ?nx8_159
      case run8_159 => (intro W; go_simp; first | (refine ⟨?_, ?_⟩ <;> with_reducible rfl) | with_reducible rfl)
      intro b50
      refine Kx.framedW (by simp only [Act.put, List.setIfInBounds_toArray, List.set_cons_succ, List.set_cons_zero] <;> rfl) ?_
      refine Kx.anyW_appFull_x (i := 9) rfl (by kernel_rfl) (by kernel_rfl) rfl _ _ 26 rfl 2 i0 (.int .i64 0) 8 Tryd.underlying26 hi hz0 hz1 hz2 rfl CA n' rfl (Kc.i64s CH) HLC.out (fun W hW => (HRC.out.below hW.below).more hW.size) b50 1 (.int .i64 xst) rfl (by omega) (by decide) ?_
      intro g51 c51
      refine Kx.framedW (by simp only [Act.put, List.setIfInBounds_toArray, List.set_cons_succ, List.set_cons_zero] <;> rfl) ?_
      refine Kx.tk 10 rfl ?_
      first | (refine Kx.anyW_storewa_x (i := 11) rfl (by kernel_rfl) (by kernel_rfl) (by rfl) rfl _ _ _ rfl _ rfl _ rfl _ (by rfl) (fun w => (Tryd.sizeOf26 w)) (by rfl) ?_) | (refine Kx.anyW_storea_x (i := 11) rfl (by kernel_rfl) (by kernel_rfl) (by rfl) rfl _ _ _ rfl _ rfl _ rfl _ _ (by simp [Kx.splice] <;> rfl) (by simp) (fun w => (Tryd.sizeOf26 w)) (by rfl) ?_) | (refine Kx.anyW_storec_x (i := 11) rfl (by kernel_rfl) (by kernel_rfl) (by rfl) rfl _ _ _ rfl _ rfl rfl _ _ (by simp <;> rfl) (by simp) (fun w => (Tryd.sizeOf26 w)) ?_) | (refine Kx.anyW_storet_x (i := 11) rfl (by kernel_rfl) (by kernel_rfl) (by rfl) rfl _ _ _ rfl _ rfl _ rfl rfl _ _ (by simp <;> rfl) (by simp) (fun w => (Tryd.sizeOf26 w)) ?_)
      refine anyW_done (by kernel_rfl) ?_
      clear HB
      intro w_ HB_
      have HB := Lib.hid HB_
      clear HB_
      go_wp2_with (first | ((with_reducible refine Kx.absorb HB ?_); clear HB; intro w_ HB) | ((with_reducible refine Kx.box_gate ?_); (first | refine Kx.boxa HB rfl ?_ | refine Kx.boxt HB rfl rfl ?_ | refine Kx.box1 HB rfl rfl ?_); clear HB; intro b_ w_ HB; refine Kx.fr ?_) | ((with_reducible refine Kx.alloc_gate ?_); (first | refine Kx.ala HB ?_ | refine Kx.al1 HB ?_); clear HB; intro b_ w_ HB; refine Kx.fr ?_) | ((with_reducible refine Kx.loads_gate ?_); first | refine Kx.l1 HB rfl rfl ?_ | refine Kx.la HB rfl ?_ | refine Kx.lo HB rfl HC.out ?_) | ((with_reducible refine Kx.loadg_gate ?_); first | refine Kx.l1g HB rfl rfl rfl ?_ | refine Kx.lag HB rfl rfl ?_ | refine Kx.log HB rfl HC.out rfl ?_) | ((with_reducible refine Kx.store_gate ?_); (first | refine Kx.stwa HB rfl rfl ?_ | refine Kx.sta HB rfl rfl ?_ | refine Kx.stc HB rfl rfl ?_ | refine Kx.stt HB rfl rfl rfl ?_ | refine Kx.st1 HB rfl rfl rfl ?_); clear HB; intro w_ HB))
      rw [← i64s_snoc]
      refine bodyPost_ret (Kx.results_x HB rfl _ _ _ rfl (by simp <;> rfl) (by simp <;> rfl)) rfl ?_; exact ⟨some ⟨g51, 0, none⟩, c51, rfl, HB.out.below, (HB.out.rows _ (List.mem_cons_self ..)).1⟩
  | true =>
    rw [h6] at HH
    simp only [if_true]
    by_cases h7 : 0 ≤ f
    · obtain rfl : f = (k : Int) := by omega
      have hk0 : (0 : Int) ≤ (k : Int) := h7
      clear h6 h7 hf hkk hnb hb1 hg hn
      go_enter Tryd.func18, Tryd.ntmps18
      go_wp2_with (first | (go_at_call 41; refine Calls.mono (HH.out _) ?_; rintro e w_ ⟨rfl, hb_⟩; replace HB := Lib.hid (HB.out.call hb_); clear hb_) | (first | ((with_reducible refine Kx.absorb HB ?_); clear HB; intro w_ HB) | ((with_reducible refine Kx.box_gate (d := some 4) ?_); (first | refine Kx.boxa HB rfl ?_ | refine Kx.boxt HB rfl rfl ?_ | refine Kx.box1 HB rfl rfl ?_); clear HB; intro b4 w_ HB; refine Kx.fr ?_) | ((with_reducible refine Kx.alloc_gate (d := some 4) ?_); (first | refine Kx.ala HB ?_ | refine Kx.al1 HB ?_); clear HB; intro b4 w_ HB; refine Kx.fr ?_) | ((with_reducible refine Kx.box_gate (d := some 5) ?_); (first | refine Kx.boxa HB rfl ?_ | refine Kx.boxt HB rfl rfl ?_ | refine Kx.box1 HB rfl rfl ?_); clear HB; intro b5 w_ HB; refine Kx.fr ?_) | ((with_reducible refine Kx.alloc_gate (d := some 5) ?_); (first | refine Kx.ala HB ?_ | refine Kx.al1 HB ?_); clear HB; intro b5 w_ HB; refine Kx.fr ?_) | ((with_reducible refine Kx.box_gate (d := some 8) ?_); (first | refine Kx.boxa HB rfl ?_ | refine Kx.boxt HB rfl rfl ?_ | refine Kx.box1 HB rfl rfl ?_); clear HB; intro b8 w_ HB; refine Kx.fr ?_) | ((with_reducible refine Kx.alloc_gate (d := some 8) ?_); (first | refine Kx.ala HB ?_ | refine Kx.al1 HB ?_); clear HB; intro b8 w_ HB; refine Kx.fr ?_) | ((with_reducible refine Kx.box_gate ?_); (first | refine Kx.boxa HB rfl ?_ | refine Kx.boxt HB rfl rfl ?_ | refine Kx.box1 HB rfl rfl ?_); clear HB; intro b_ w_ HB; refine Kx.fr ?_) | ((with_reducible refine Kx.alloc_gate ?_); (first | refine Kx.ala HB ?_ | refine Kx.al1 HB ?_); clear HB; intro b_ w_ HB; refine Kx.fr ?_) | ((with_reducible refine Kx.loads_gate ?_); first | refine Kx.l1 HB rfl rfl ?_ | refine Kx.la HB rfl ?_ | refine Kx.lo HB rfl HC.out ?_) | ((with_reducible refine Kx.loadg_gate ?_); first | refine Kx.l1g HB rfl rfl rfl ?_ | refine Kx.lag HB rfl rfl ?_ | refine Kx.log HB rfl HC.out rfl ?_) | ((with_reducible refine Kx.store_gate ?_); (first | refine Kx.stwa HB rfl rfl ?_ | refine Kx.sta HB rfl rfl ?_ | refine Kx.stc HB rfl rfl ?_ | refine Kx.stt HB rfl rfl rfl ?_ | refine Kx.st1 HB rfl rfl rfl ?_); clear HB; intro w_ HB)))
      refine Kx.region_x HB (fun i => false) (by kernel_rfl) ?_
      refine Kx.tk 0 rfl ?_
      first | refine Kx.xl1 1 rfl rfl rfl ?_ | refine Kx.xla 1 rfl rfl ?_ | refine Kx.xlo 1 rfl rfl HC.out ?_
      refine Kx.tk 2 rfl ?_
      refine Kx.tk 3 rfl ?_
      refine anyW_take (i := 4) (v := ?v4_160) (a' := ?a4_160) (by first | exact Kx.bears_x | exact bears_u | assumption) rfl (by kernel_rfl) (by kernel_rfl) (by kernel_rfl) (fun _ _ _ h => h) (by kernel_rfl) ?w4_160 ?y4_160 ?f4_160 ?r4_160
      case w4_160 => kernel_rfl
      case y4_160 => (intro W hW; first | (refine Eq.trans (Kx.tells_load1_x (v := .int .i64 (b : Int)) hW b4 16 rfl (cf c) inferInstance (Tryd.isAgg3 _) HBC.out) ?_; with_reducible rfl))
      case f4_160 => (go_simp; try with_reducible rfl)
      refine Kx.tk 5 rfl ?_
      refine Kx.tk 6 rfl ?_
      refine Kx.tk 7 rfl ?_
      refine Kx.tk 8 rfl ?_
      first | refine Kx.xl1 9 rfl rfl rfl ?_ | refine Kx.xla 9 rfl rfl ?_ | refine Kx.xlo 9 rfl rfl HC.out ?_
      refine Kx.tk 10 rfl ?_
      refine Kx.tk 11 rfl ?_
      refine Kx.tk 12 rfl ?_
      refine anyW_done (by kernel_rfl) ?_
      clear HB
      intro w_ HB_
      have HB := Lib.hid HB_
      clear HB_
      go_wp2_with fail
      refine Kx.region_x HB (fun i => i == 11) (by kernel_rfl) ?_
      refine Kx.tk 0 rfl ?_
      first | refine Kx.xl1 1 rfl rfl rfl ?_ | refine Kx.xla 1 rfl rfl ?_ | refine Kx.xlo 1 rfl rfl HC.out ?_
      refine Kx.tk 2 rfl ?_
      refine Kx.tk 3 rfl ?_
      refine Kx.tk 4 rfl ?_
      refine Kx.tk 5 rfl ?_
      refine Kx.tk 6 rfl ?_
      first | refine Kx.xl1 7 rfl rfl rfl ?_ | refine Kx.xla 7 rfl rfl ?_ | refine Kx.xlo 7 rfl rfl HC.out ?_
      refine Kx.anyW_build_x (i := 8) (cs := ?cs8_161) (t := ?t8_161) (m := ?m8_161) rfl (by kernel_rfl) (by kernel_rfl) rfl ?run8_161 ?nx8_161
      case run8_161 => (intro W; go_simp; first | (refine ⟨?_, ?_⟩ <;> with_reducible rfl) | with_reducible rfl)
      intro b50
      refine Kx.framedW (by simp only [Act.put, List.setIfInBounds_toArray, List.set_cons_succ, List.set_cons_zero] <;> rfl) ?_
      refine Kx.anyW_appFull_x (i := 9) rfl (by kernel_rfl) (by kernel_rfl) rfl _ _ 26 rfl 2 i0 (.int .i64 0) 8 Tryd.underlying26 hi hz0 hz1 hz2 rfl CA (n' - k) rfl (Kc.i64s CH) HLC.out (fun W hW => (HRC.out.below hW.below).more hW.size) b50 1 (.int .i64 xst) rfl (by omega) (by decide) ?_
      intro g51 c51
      refine Kx.framedW (by simp only [Act.put, List.setIfInBounds_toArray, List.set_cons_succ, List.set_cons_zero] <;> rfl) ?_
      refine Kx.tk 10 rfl ?_
      first | (refine Kx.anyW_storewa_x (i := 11) rfl (by kernel_rfl) (by kernel_rfl) (by rfl) rfl _ _ _ rfl _ rfl _ rfl _ (by rfl) (fun w => (Tryd.sizeOf26 w)) (by rfl) ?_) | (refine Kx.anyW_storea_x (i := 11) rfl (by kernel_rfl) (by kernel_rfl) (by rfl) rfl _ _ _ rfl _ rfl _ rfl _ _ (by simp [Kx.splice] <;> rfl) (by simp) (fun w => (Tryd.sizeOf26 w)) (by rfl) ?_) | (refine Kx.anyW_storec_x (i := 11) rfl (by kernel_rfl) (by kernel_rfl) (by rfl) rfl _ _ _ rfl _ rfl rfl _ _ (by simp <;> rfl) (by simp) (fun w => (Tryd.sizeOf26 w)) ?_) | (refine Kx.anyW_storet_x (i := 11) rfl (by kernel_rfl) (by kernel_rfl) (by rfl) rfl _ _ _ rfl _ rfl _ rfl rfl _ _ (by simp <;> rfl) (by simp) (fun w => (Tryd.sizeOf26 w)) ?_)
      refine anyW_done (by kernel_rfl) ?_
      clear HB
      intro w_ HB_
      have HB := Lib.hid HB_
      clear HB_
      go_wp2_with (first | ((with_reducible refine Kx.absorb HB ?_); clear HB; intro w_ HB) | ((with_reducible refine Kx.box_gate ?_); (first | refine Kx.boxa HB rfl ?_ | refine Kx.boxt HB rfl rfl ?_ | refine Kx.box1 HB rfl rfl ?_); clear HB; intro b_ w_ HB; refine Kx.fr ?_) | ((with_reducible refine Kx.alloc_gate ?_); (first | refine Kx.ala HB ?_ | refine Kx.al1 HB ?_); clear HB; intro b_ w_ HB; refine Kx.fr ?_) | ((with_reducible refine Kx.loads_gate ?_); first | refine Kx.l1 HB rfl rfl ?_ | refine Kx.la HB rfl ?_ | refine Kx.lo HB rfl HC.out ?_) | ((with_reducible refine Kx.loadg_gate ?_); first | refine Kx.l1g HB rfl rfl rfl ?_ | refine Kx.lag HB rfl rfl ?_ | refine Kx.log HB rfl HC.out rfl ?_) | ((with_reducible refine Kx.store_gate ?_); (first | refine Kx.stwa HB rfl rfl ?_ | refine Kx.sta HB rfl rfl ?_ | refine Kx.stc HB rfl rfl ?_ | refine Kx.stt HB rfl rfl rfl ?_ | refine Kx.st1 HB rfl rfl rfl ?_); clear HB; intro w_ HB))
      rw [← i64s_snoc]
      refine bodyPost_ret (Kx.results_x HB rfl _ _ _ rfl (by simp <;> rfl) (by simp <;> rfl)) rfl ?_; exact ⟨some ⟨g51, 0, none⟩, c51, rfl, HB.out.below, (HB.out.rows _ (List.mem_cons_self ..)).1⟩
    · obtain rfl : k = 0 := by omega
      have hf0 : f < 0 := by omega
      have hcut0 : ∀ W, (Instr.slice 26 (.slice A' n' c') (some (.int .i64 0)) (some (.int .i64 (n' : Int))) (some (.int .i64 (n' : Int)))).run Tryd.prog W = .ok (.slice CA n' n') W := hcut
      simp only [Nat.sub_zero] at HLC ⊢
      clear h6 h7 hf hkk hnb hb1 hg hn hcut
      go_enter Tryd.func18, Tryd.ntmps18
      go_wp2_with (first | (go_at_call 41; refine Calls.mono (HH.out _) ?_; rintro e w_ ⟨rfl, hb_⟩; replace HB := Lib.hid (HB.out.call hb_); clear hb_) | (first | ((with_reducible refine Kx.absorb HB ?_); clear HB; intro w_ HB) | ((with_reducible refine Kx.box_gate (d := some 4) ?_); (first | refine Kx.boxa HB rfl ?_ | refine Kx.boxt HB rfl rfl ?_ | refine Kx.box1 HB rfl rfl ?_); clear HB; intro b4 w_ HB; refine Kx.fr ?_) | ((with_reducible refine Kx.alloc_gate (d := some 4) ?_); (first | refine Kx.ala HB ?_ | refine Kx.al1 HB ?_); clear HB; intro b4 w_ HB; refine Kx.fr ?_) | ((with_reducible refine Kx.box_gate (d := some 5) ?_); (first | refine Kx.boxa HB rfl ?_ | refine Kx.boxt HB rfl rfl ?_ | refine Kx.box1 HB rfl rfl ?_); clear HB; intro b5 w_ HB; refine Kx.fr ?_) | ((with_reducible refine Kx.alloc_gate (d := some 5) ?_); (first | refine Kx.ala HB ?_ | refine Kx.al1 HB ?_); clear HB; intro b5 w_ HB; refine Kx.fr ?_) | ((with_reducible refine Kx.box_gate (d := some 8) ?_); (first | refine Kx.boxa HB rfl ?_ | refine Kx.boxt HB rfl rfl ?_ | refine Kx.box1 HB rfl rfl ?_); clear HB; intro b8 w_ HB; refine Kx.fr ?_) | ((with_reducible refine Kx.alloc_gate (d := some 8) ?_); (first | refine Kx.ala HB ?_ | refine Kx.al1 HB ?_); clear HB; intro b8 w_ HB; refine Kx.fr ?_) | ((with_reducible refine Kx.box_gate ?_); (first | refine Kx.boxa HB rfl ?_ | refine Kx.boxt HB rfl rfl ?_ | refine Kx.box1 HB rfl rfl ?_); clear HB; intro b_ w_ HB; refine Kx.fr ?_) | ((with_reducible refine Kx.alloc_gate ?_); (first | refine Kx.ala HB ?_ | refine Kx.al1 HB ?_); clear HB; intro b_ w_ HB; refine Kx.fr ?_) | ((with_reducible refine Kx.loads_gate ?_); first | refine Kx.l1 HB rfl rfl ?_ | refine Kx.la HB rfl ?_ | refine Kx.lo HB rfl HC.out ?_) | ((with_reducible refine Kx.loadg_gate ?_); first | refine Kx.l1g HB rfl rfl rfl ?_ | refine Kx.lag HB rfl rfl ?_ | refine Kx.log HB rfl HC.out rfl ?_) | ((with_reducible refine Kx.store_gate ?_); (first | refine Kx.stwa HB rfl rfl ?_ | refine Kx.sta HB rfl rfl ?_ | refine Kx.stc HB rfl rfl ?_ | refine Kx.stt HB rfl rfl rfl ?_ | refine Kx.st1 HB rfl rfl rfl ?_); clear HB; intro w_ HB)))
      refine Kx.region_x HB (fun i => false) (by kernel_rfl) ?_
      refine Kx.tk 0 rfl ?_
      first | refine Kx.xl1 1 rfl rfl rfl ?_ | refine Kx.xla 1 rfl rfl ?_ | refine Kx.xlo 1 rfl rfl HC.out ?_
      refine Kx.tk 2 rfl ?_
      refine Kx.tk 3 rfl ?_
      refine anyW_take (i := 4) (v := ?v4_162) (a' := ?a4_162) (by first | exact Kx.bears_x | exact bears_u | assumption) rfl (by kernel_rfl) (by kernel_rfl) (by kernel_rfl) (fun _ _ _ h => h) (by kernel_rfl) ?w4_162 ?y4_162 ?f4_162 ?r4_162
      case w4_162 => kernel_rfl
      case y4_162 => (intro W hW; first | (refine Eq.trans (Kx.tells_load1_x (v := .int .i64 (b : Int)) hW b4 16 rfl (cf c) inferInstance (Tryd.isAgg3 _) HBC.out) ?_; with_reducible rfl))
      case f4_162 => (go_simp; try with_reducible rfl)
      refine Kx.tk 5 rfl ?_
      refine Kx.tk 6 rfl ?_
      refine Kx.tk 7 rfl ?_
      refine Kx.tk 8 rfl ?_
      first | refine Kx.xl1 9 rfl rfl rfl ?_ | refine Kx.xla 9 rfl rfl ?_ | refine Kx.xlo 9 rfl rfl HC.out ?_
      refine Kx.tk 10 rfl ?_
      refine Kx.tk 11 rfl ?_
      refine Kx.tk 12 rfl ?_
      refine anyW_done (by kernel_rfl) ?_
      clear HB
      intro w_ HB_
      have HB := Lib.hid HB_
      clear HB_
      go_wp2_with fail
      refine Kx.region_x HB (fun i => i == 11) (by kernel_rfl) ?_
      refine Kx.tk 0 rfl ?_
      first | refine Kx.xl1 1 rfl rfl rfl ?_ | refine Kx.xla 1 rfl rfl ?_ | refine Kx.xlo 1 rfl rfl HC.out ?_
      refine Kx.tk 2 rfl ?_
      refine Kx.tk 3 rfl ?_
      refine Kx.tk 4 rfl ?_
      refine Kx.tk 5 rfl ?_
      refine Kx.tk 6 rfl ?_
      first | refine Kx.xl1 7 rfl rfl rfl ?_ | refine Kx.xla 7 rfl rfl ?_ | refine Kx.xlo 7 rfl rfl HC.out ?_
      refine Kx.anyW_build_x (i := 8) (cs := ?cs8_163) (t := ?t8_163) (m := ?m8_163) rfl (by kernel_rfl) (by kernel_rfl) rfl ?run8_163 ?nx8_163
      case run8_163 => (intro W; go_simp; first | (refine ⟨?_, ?_⟩ <;> with_reducible rfl) | with_reducible rfl)
      intro b50
      refine Kx.framedW (by simp only [Act.put, List.setIfInBounds_toArray, List.set_cons_succ, List.set_cons_zero] <;> rfl) ?_
      refine Kx.anyW_appFull_x (i := 9) rfl (by kernel_rfl) (by kernel_rfl) rfl _ _ 26 rfl 2 i0 (.int .i64 0) 8 Tryd.underlying26 hi hz0 hz1 hz2 rfl CA n' rfl (Kc.i64s CH) HLC.out (fun W hW => (HRC.out.below hW.below).more hW.size) b50 1 (.int .i64 xst) rfl (by omega) (by decide) ?_
      intro g51 c51
      refine Kx.framedW (by simp only [Act.put, List.setIfInBounds_toArray, List.set_cons_succ, List.set_cons_zero] <;> rfl) ?_
      refine Kx.tk 10 rfl ?_
      first | (refine Kx.anyW_storewa_x (i := 11) rfl (by kernel_rfl) (by kernel_rfl) (by rfl) rfl _ _ _ rfl _ rfl _ rfl _ (by rfl) (fun w => (Tryd.sizeOf26 w)) (by rfl) ?_) | (refine Kx.anyW_storea_x (i := 11) rfl (by kernel_rfl) (by kernel_rfl) (by rfl) rfl _ _ _ rfl _ rfl _ rfl _ _ (by simp [Kx.splice] <;> rfl) (by simp) (fun w => (Tryd.sizeOf26 w)) (by rfl) ?_) | (refine Kx.anyW_storec_x (i := 11) rfl (by kernel_rfl) (by kernel_rfl) (by rfl) rfl _ _ _ rfl _ rfl rfl _ _ (by simp <;> rfl) (by simp) (fun w => (Tryd.sizeOf26 w)) ?_) | (refine Kx.anyW_storet_x (i := 11) rfl (by kernel_rfl) (by kernel_rfl) (by rfl) rfl _ _ _ rfl _ rfl _ rfl rfl _ _ (by simp <;> rfl) (by simp) (fun w => (Tryd.sizeOf26 w)) ?_)
      refine anyW_done (by kernel_rfl) ?_
      clear HB
      intro w_ HB_
      have HB := Lib.hid HB_
      clear HB_
      go_wp2_with (first | ((with_reducible refine Kx.absorb HB ?_); clear HB; intro w_ HB) | ((with_reducible refine Kx.box_gate ?_); (first | refine Kx.boxa HB rfl ?_ | refine Kx.boxt HB rfl rfl ?_ | refine Kx.box1 HB rfl rfl ?_); clear HB; intro b_ w_ HB; refine Kx.fr ?_) | ((with_reducible refine Kx.alloc_gate ?_); (first | refine Kx.ala HB ?_ | refine Kx.al1 HB ?_); clear HB; intro b_ w_ HB; refine Kx.fr ?_) | ((with_reducible refine Kx.loads_gate ?_); first | refine Kx.l1 HB rfl rfl ?_ | refine Kx.la HB rfl ?_ | refine Kx.lo HB rfl HC.out ?_) | ((with_reducible refine Kx.loadg_gate ?_); first | refine Kx.l1g HB rfl rfl rfl ?_ | refine Kx.lag HB rfl rfl ?_ | refine Kx.log HB rfl HC.out rfl ?_) | ((with_reducible refine Kx.store_gate ?_); (first | refine Kx.stwa HB rfl rfl ?_ | refine Kx.sta HB rfl rfl ?_ | refine Kx.stc HB rfl rfl ?_ | refine Kx.stt HB rfl rfl rfl ?_ | refine Kx.st1 HB rfl rfl rfl ?_); clear HB; intro w_ HB))
      rw [← i64s_snoc]
      refine bodyPost_ret (Kx.results_x HB rfl _ _ _ rfl (by simp <;> rfl) (by simp <;> rfl)) rfl ?_; exact ⟨some ⟨g51, 0, none⟩, c51, rfl, HB.out.below, (HB.out.rows _ (List.mem_cons_self ..)).1⟩
end Go.Proofs.YtpbogacodhjlfaaDoor
