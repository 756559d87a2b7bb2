/- PolicyLeaves, walked. -/
import Derived.Test.YtnljpopjhjcocaaDoorHq
import Derived.Deep.CutBlock
import Derived.Deep.DeepCutAuto
namespace Go.Proofs.YtnljpopjhjcocaaDoor
open Go.RowKit Go.Shelf Km Kx Kc Kt
set_option linter.unusedVariables false

set_option maxRecDepth 100000 in
set_option maxHeartbeats 8000000 in
theorem leaves_walk (a0 : Option Addr) (len cap : Nat) (es : List Ev) (a1 : Int) (w : World) (he : EvsAt w a0 len cap es) (wf1 : (Lit.int .u8 a1).wf = true) (ht : Tabs w) :
    Calls Tryd.prog 7 #[.slice a0 len cap, .int .u8 a1] w fun e w' => e = .returned (.bool true) ∧ Below w.heap.size w w' := by
  obtain ⟨p1, p2⟩ := wf_one (lo := 0) (hi := 255) rfl rfl wf1
  have HB := Lib.hid (Bxs.start w)
  have HT := Lib.hid ht
  have HE := Lib.hid he
  clear ht he wf1
  go_enter Tryd.func7, Tryd.ntmps7
  go_wp2_with (first | (go_at_call 10; refine Calls.mono (head_any _ (HT.out.below HB.out.below (Nat.le_refl _))) ?_; rintro e w_ ⟨rfl, hb_⟩; replace HB := Lib.hid (HB.out.call hb_); clear hb_) | (go_at_call 20; fail) | (first | ((with_reducible refine Kx.absorb HB ?_); clear HB; intro w_ HB) | ((with_reducible refine Kx.box_gate ?_); (first | refine Kx.boxa HB rfl ?_ | refine Kx.boxt HB rfl rfl ?_ | refine Kx.box1 HB rfl rfl ?_); clear HB; intro b_ w_ HB; refine Kx.fr ?_) | ((with_reducible refine Kx.alloc_gate ?_); (first | refine Kx.ala HB ?_ | refine Kx.al1 HB ?_); clear HB; intro b_ w_ HB; refine Kx.fr ?_) | ((with_reducible refine Kx.loads_gate ?_); first | refine Kx.l1 HB rfl rfl ?_ | refine Kx.la HB rfl ?_ | refine Kx.lo HB rfl HC.out ?_) | ((with_reducible refine Kx.loadg_gate ?_); first | refine Kx.l1g HB rfl rfl rfl ?_ | refine Kx.lag HB rfl rfl ?_ | refine Kx.log HB rfl HC.out rfl ?_) | ((with_reducible refine Kx.store_gate ?_); (first | refine Kx.stwa HB rfl rfl ?_ | refine Kx.sta HB rfl rfl ?_ | refine Kx.stc HB rfl rfl ?_ | refine Kx.stt HB rfl rfl rfl ?_ | refine Kx.st1 HB rfl rfl rfl ?_); clear HB; intro w_ HB)))
  refine (Plain_any _).mono ?_
  rintro e w1 ⟨A, rfl, hb_, hn_⟩
  replace HB := Lib.hid (HB.out.stayNew hb_ hn_ (fun q hq => by cases hq))
  clear hb_ hn_
  have hok := plainC_ok A (w := 50) (hit := 0) (f := 20) (s := 40) (t := 5) ⟨by decide, by decide⟩ ⟨by decide, by decide⟩ ⟨by decide, by decide⟩ ⟨by decide, by decide⟩ ⟨by decide, by decide⟩
  have HOK := Lib.hid hok
  have HG : Hid ((Gm.plain 50 0 20 40 5).Ok) := Lib.hid (hok.gok rfl)
  clear hok
  by_cases h100 : 100 < len
  · have d1 : decide ((100 : Int) < (len : Int)) = true := by simp; omega
    go_upto_region 3 with (first | ((with_reducible refine Kx.absorb HB ?_); clear HB; intro w_ HB) | ((with_reducible refine Kx.box_gate (d := some 6) ?_); (first | refine Kx.boxa HB rfl ?_ | refine Kx.boxt HB rfl rfl ?_ | refine Kx.box1 HB rfl rfl ?_); clear HB; intro b6 w_ HB; refine Kx.fr ?_) | ((with_reducible refine Kx.alloc_gate (d := some 6) ?_); (first | refine Kx.ala HB ?_ | refine Kx.al1 HB ?_); clear HB; intro b6 w_ HB; refine Kx.fr ?_) | ((with_reducible refine Kx.box_gate ?_); (first | refine Kx.boxa HB rfl ?_ | refine Kx.boxt HB rfl rfl ?_ | refine Kx.box1 HB rfl rfl ?_); clear HB; intro b_ w_ HB; refine Kx.fr ?_) | ((with_reducible refine Kx.alloc_gate ?_); (first | refine Kx.ala HB ?_ | refine Kx.al1 HB ?_); clear HB; intro b_ w_ HB; refine Kx.fr ?_) | ((with_reducible refine Kx.loads_gate ?_); first | refine Kx.l1 HB rfl rfl ?_ | refine Kx.la HB rfl ?_ | refine Kx.lo HB rfl HC.out ?_) | ((with_reducible refine Kx.loadg_gate ?_); first | refine Kx.l1g HB rfl rfl rfl ?_ | refine Kx.lag HB rfl rfl ?_ | refine Kx.log HB rfl HC.out rfl ?_) | ((with_reducible refine Kx.store_gate ?_); (first | refine Kx.stwa HB rfl rfl ?_ | refine Kx.sta HB rfl rfl ?_ | refine Kx.stc HB rfl rfl ?_ | refine Kx.stt HB rfl rfl rfl ?_ | refine Kx.st1 HB rfl rfl rfl ?_); clear HB; intro w_ HB))
    go_wp2_with (first | ((with_reducible refine Kx.store_gate ?_); refine Kx.wpList_storec_x HB rfl rfl _ _ _ rfl b6 rfl rfl (cf (plainC A 50 1000 20 40 5)) (cf (plainC A 50 0 20 40 5)) (by rfl) (by show 17 < 30; decide) (Tryd.sizeOf3 _) ?_; clear HB; intro w_ HB) | (first | ((with_reducible refine Kx.absorb HB ?_); clear HB; intro w_ HB) | ((with_reducible refine Kx.box_gate ?_); (first | refine Kx.boxa HB rfl ?_ | refine Kx.boxt HB rfl rfl ?_ | refine Kx.box1 HB rfl rfl ?_); clear HB; intro b_ w_ HB; refine Kx.fr ?_) | ((with_reducible refine Kx.alloc_gate ?_); (first | refine Kx.ala HB ?_ | refine Kx.al1 HB ?_); clear HB; intro b_ w_ HB; refine Kx.fr ?_) | ((with_reducible refine Kx.loads_gate ?_); first | refine Kx.l1 HB rfl rfl ?_ | refine Kx.la HB rfl ?_ | refine Kx.lo HB rfl HC.out ?_) | ((with_reducible refine Kx.loadg_gate ?_); first | refine Kx.l1g HB rfl rfl rfl ?_ | refine Kx.lag HB rfl rfl ?_ | refine Kx.log HB rfl HC.out rfl ?_) | ((with_reducible refine Kx.store_gate ?_); (first | refine Kx.stwa HB rfl rfl ?_ | refine Kx.sta HB rfl rfl ?_ | refine Kx.stc HB rfl rfl ?_ | refine Kx.stt HB rfl rfl rfl ?_ | refine Kx.st1 HB rfl rfl rfl ?_); clear HB; intro w_ HB)))
    go_ret
    exact ⟨rfl, HB.out.below⟩
  have d1 : decide ((100 : Int) < (len : Int)) = false := by simp; omega
  go_upto_region 3 with (first | ((with_reducible refine Kx.absorb HB ?_); clear HB; intro w_ HB) | ((with_reducible refine Kx.box_gate (d := some 6) ?_); (first | refine Kx.boxa HB rfl ?_ | refine Kx.boxt HB rfl rfl ?_ | refine Kx.box1 HB rfl rfl ?_); clear HB; intro b6 w_ HB; refine Kx.fr ?_) | ((with_reducible refine Kx.alloc_gate (d := some 6) ?_); (first | refine Kx.ala HB ?_ | refine Kx.al1 HB ?_); clear HB; intro b6 w_ HB; refine Kx.fr ?_) | ((with_reducible refine Kx.box_gate ?_); (first | refine Kx.boxa HB rfl ?_ | refine Kx.boxt HB rfl rfl ?_ | refine Kx.box1 HB rfl rfl ?_); clear HB; intro b_ w_ HB; refine Kx.fr ?_) | ((with_reducible refine Kx.alloc_gate ?_); (first | refine Kx.ala HB ?_ | refine Kx.al1 HB ?_); clear HB; intro b_ w_ HB; refine Kx.fr ?_) | ((with_reducible refine Kx.loads_gate ?_); first | refine Kx.l1 HB rfl rfl ?_ | refine Kx.la HB rfl ?_ | refine Kx.lo HB rfl HC.out ?_) | ((with_reducible refine Kx.loadg_gate ?_); first | refine Kx.l1g HB rfl rfl rfl ?_ | refine Kx.lag HB rfl rfl ?_ | refine Kx.log HB rfl HC.out rfl ?_) | ((with_reducible refine Kx.store_gate ?_); (first | refine Kx.stwa HB rfl rfl ?_ | refine Kx.sta HB rfl rfl ?_ | refine Kx.stc HB rfl rfl ?_ | refine Kx.stt HB rfl rfl rfl ?_ | refine Kx.st1 HB rfl rfl rfl ?_); clear HB; intro w_ HB))
  go_wp2_with (first | ((with_reducible refine Kx.store_gate ?_); refine Kx.wpList_storec_x HB rfl rfl _ _ _ rfl b6 rfl rfl (cf (plainC A 50 1000 20 40 5)) (cf (plainC A 50 0 20 40 5)) (by rfl) (by show 17 < 30; decide) (Tryd.sizeOf3 _) ?_; clear HB; intro w_ HB) | (go_at_call 18; fail) | (first | ((with_reducible refine Kx.absorb HB ?_); clear HB; intro w_ HB) | ((with_reducible refine Kx.box_gate ?_); (first | refine Kx.boxa HB rfl ?_ | refine Kx.boxt HB rfl rfl ?_ | refine Kx.box1 HB rfl rfl ?_); clear HB; intro b_ w_ HB; refine Kx.fr ?_) | ((with_reducible refine Kx.alloc_gate ?_); (first | refine Kx.ala HB ?_ | refine Kx.al1 HB ?_); clear HB; intro b_ w_ HB; refine Kx.fr ?_) | ((with_reducible refine Kx.loads_gate ?_); first | refine Kx.l1 HB rfl rfl ?_ | refine Kx.la HB rfl ?_ | refine Kx.lo HB rfl HC.out ?_) | ((with_reducible refine Kx.loadg_gate ?_); first | refine Kx.l1g HB rfl rfl rfl ?_ | refine Kx.lag HB rfl rfl ?_ | refine Kx.log HB rfl HC.out rfl ?_) | ((with_reducible refine Kx.store_gate ?_); (first | refine Kx.stwa HB rfl rfl ?_ | refine Kx.sta HB rfl rfl ?_ | refine Kx.stc HB rfl rfl ?_ | refine Kx.stt HB rfl rfl rfl ?_ | refine Kx.st1 HB rfl rfl rfl ?_); clear HB; intro w_ HB)))
  refine (walk_any (plainC A 50 0 20 40 5) [1, 0] a0 len cap es _ (HT.out.below HB.out.below (Nat.le_refl _)) HOK.out (HB.out.stayRdM (List.mem_cons_self ..)) rfl ((HE.out.2.2.2.2.below HB.out.below).more HB.out.size) HE.out.1 (by omega) HE.out.2.2.2.1).mono ?_
  rintro e w6 ⟨A2, k', ps, p, rfl, hb_, hn_, hq_, hpl, hlen⟩
  replace HB := Lib.hid (HB.out.stayAll hb_ hn_ hq_)
  obtain ⟨ad, rfl⟩ := stay_ad HB.out (List.mem_cons_self ..) hpl.mem
  obtain ⟨hinv, hep⟩ := hpl.inv HOK.out rfl
  have HMP := Lib.hid hpl.mem
  have hlast : ∃ m, ps.length = m + 1 ∧ ps[m]? = some p := by
    obtain ⟨qs, rfl⟩ := hpl.last
    exact ⟨qs.length, by rw [List.length_append]; rfl, by rw [List.getElem?_append_right (Nat.le_refl _)]; simp⟩
  obtain ⟨m, hm, hpm⟩ := hlast
  have HCL : Hid (Gm.Clean (Gm.plain 50 0 20 40 5) p.x) := Lib.hid (Gm.chain_clean HG.out rfl hpl.chain m p.x (by rw [List.getElem?_map, hpm]; rfl))
  have HIN : Hid (Gm.Inv (gc (plainC A 50 0 20 40 5) [1, 0]) p.x) := Lib.hid hinv
  have HPO := Lib.hid (hpl.ok p hpl.mem)
  have HPE : Hid (p.x.e < 4611686018427387904) := Lib.hid (by omega)
  have HFEW := Lib.hid (few HOK.out HPO.out hinv.fits)
  have HCP : Hid (∀ W l r F, Bxs w W l r F → (some ad, cat Pt.cells ps) ∈ F → ∀ j u, p.cells[j]? = some u → W.cell? ((ad.add (m * 12)).add j) = some u) := Lib.hid (fun W l r F q hmm => stay_plan q hmm rfl hpm)
  have hm201 : m ≤ 200 := by omega
  rw [hm]
  have hw1 : IntKind.i64.wrap (((m + 1 : Nat) : Int) - 1) = (m : Int) := by rw [IntKind.wrap_i64]; omega
  have hw1' : IntKind.i64.wrap ((m : Int) + 1 - 1) = (m : Int) := by rw [IntKind.wrap_i64]; omega
  have hw2 : wrap64 ((m : Int) + 1 - 1) = (m : Int) := by rw [IntWalk.wrap64_in _ (by omega)]; omega
  have hlt : (m : Int) < (m : Int) + 1 := by omega
  have hi12 : (Tryd.prog.info? 28).map (·.size) = some 12 := by kernel_rfl
  have hlp : p.cells.length = 12 := rfl
  have hft : -1 ≤ p.x.t ∧ p.x.t < 2 := hinv.fits.t
  have hst : 0 ≤ p.x.st ∧ p.x.st ≤ 1099511627776 := hinv.fits.st
  clear hb_ hn_ hq_ hpl hlen hinv hep hm hpm
  go_upto_region 8 with (first | ((with_reducible refine Kx.loads_gate ?_); refine wpList_load_any rfl 28 _ rfl (ad.add (m * 12)) rfl p.cells _ (HCP.out _ _ _ _ HB.out (List.mem_cons_self ..)) Tryd.underlying28 rfl hi12 ?_; refine Kx.framed ?_ (by simp only [Act.put, List.setIfInBounds_toArray, List.set_cons_succ, List.set_cons_zero] <;> rfl)) | (first | ((with_reducible refine Kx.absorb HB ?_); clear HB; intro w_ HB) | ((with_reducible refine Kx.box_gate (d := some 8) ?_); (first | refine Kx.boxa HB rfl ?_ | refine Kx.boxt HB rfl rfl ?_ | refine Kx.box1 HB rfl rfl ?_); clear HB; intro b8 w_ HB; refine Kx.fr ?_) | ((with_reducible refine Kx.alloc_gate (d := some 8) ?_); (first | refine Kx.ala HB ?_ | refine Kx.al1 HB ?_); clear HB; intro b8 w_ HB; refine Kx.fr ?_) | ((with_reducible refine Kx.box_gate ?_); (first | refine Kx.boxa HB rfl ?_ | refine Kx.boxt HB rfl rfl ?_ | refine Kx.box1 HB rfl rfl ?_); clear HB; intro b_ w_ HB; refine Kx.fr ?_) | ((with_reducible refine Kx.alloc_gate ?_); (first | refine Kx.ala HB ?_ | refine Kx.al1 HB ?_); clear HB; intro b_ w_ HB; refine Kx.fr ?_) | ((with_reducible refine Kx.loads_gate ?_); first | refine Kx.l1 HB rfl rfl ?_ | refine Kx.la HB rfl ?_ | refine Kx.lo HB rfl HC.out ?_) | ((with_reducible refine Kx.loadg_gate ?_); first | refine Kx.l1g HB rfl rfl rfl ?_ | refine Kx.lag HB rfl rfl ?_ | refine Kx.log HB rfl HC.out rfl ?_) | ((with_reducible refine Kx.store_gate ?_); (first | refine Kx.stwa HB rfl rfl ?_ | refine Kx.sta HB rfl rfl ?_ | refine Kx.stc HB rfl rfl ?_ | refine Kx.stt HB rfl rfl rfl ?_ | refine Kx.st1 HB rfl rfl rfl ?_); clear HB; intro w_ HB)))
  obtain ⟨hft1, hft2⟩ := hft
  obtain ⟨hst1, hst2⟩ := hst
  by_cases h1 : p.x.t < 0
  · have e1 : decide (p.x.t < (0 : Int)) = true := by simp [h1]
    go_wp2_with (first | ((with_reducible refine Kx.absorb HB ?_); clear HB; intro w_ HB) | ((with_reducible refine Kx.box_gate ?_); (first | refine Kx.boxa HB rfl ?_ | refine Kx.boxt HB rfl rfl ?_ | refine Kx.box1 HB rfl rfl ?_); clear HB; intro b_ w_ HB; refine Kx.fr ?_) | ((with_reducible refine Kx.alloc_gate ?_); (first | refine Kx.ala HB ?_ | refine Kx.al1 HB ?_); clear HB; intro b_ w_ HB; refine Kx.fr ?_) | ((with_reducible refine Kx.loads_gate ?_); first | refine Kx.l1 HB rfl rfl ?_ | refine Kx.la HB rfl ?_ | refine Kx.lo HB rfl HC.out ?_) | ((with_reducible refine Kx.loadg_gate ?_); first | refine Kx.l1g HB rfl rfl rfl ?_ | refine Kx.lag HB rfl rfl ?_ | refine Kx.log HB rfl HC.out rfl ?_) | ((with_reducible refine Kx.store_gate ?_); (first | refine Kx.stwa HB rfl rfl ?_ | refine Kx.sta HB rfl rfl ?_ | refine Kx.stc HB rfl rfl ?_ | refine Kx.stt HB rfl rfl rfl ?_ | refine Kx.st1 HB rfl rfl rfl ?_); clear HB; intro w_ HB))
    go_ret
    exact ⟨rfl, HB.out.below⟩
  have e1 : decide (p.x.t < (0 : Int)) = false := by simp; omega
  by_cases h2 : 549755813888 < p.x.st
  · have e2 : decide ((549755813888 : Int) < p.x.st) = true := by simp [h2]
    go_wp2_with (first | ((with_reducible refine Kx.absorb HB ?_); clear HB; intro w_ HB) | ((with_reducible refine Kx.box_gate ?_); (first | refine Kx.boxa HB rfl ?_ | refine Kx.boxt HB rfl rfl ?_ | refine Kx.box1 HB rfl rfl ?_); clear HB; intro b_ w_ HB; refine Kx.fr ?_) | ((with_reducible refine Kx.alloc_gate ?_); (first | refine Kx.ala HB ?_ | refine Kx.al1 HB ?_); clear HB; intro b_ w_ HB; refine Kx.fr ?_) | ((with_reducible refine Kx.loads_gate ?_); first | refine Kx.l1 HB rfl rfl ?_ | refine Kx.la HB rfl ?_ | refine Kx.lo HB rfl HC.out ?_) | ((with_reducible refine Kx.loadg_gate ?_); first | refine Kx.l1g HB rfl rfl rfl ?_ | refine Kx.lag HB rfl rfl ?_ | refine Kx.log HB rfl HC.out rfl ?_) | ((with_reducible refine Kx.store_gate ?_); (first | refine Kx.stwa HB rfl rfl ?_ | refine Kx.sta HB rfl rfl ?_ | refine Kx.stc HB rfl rfl ?_ | refine Kx.stt HB rfl rfl rfl ?_ | refine Kx.st1 HB rfl rfl rfl ?_); clear HB; intro w_ HB))
    go_ret
    exact ⟨rfl, HB.out.below⟩
  have e2 : decide ((549755813888 : Int) < p.x.st) = false := by simp; omega
  obtain ⟨o, ho⟩ : ∃ o : Nat, 1 - p.x.t = (o : Int) := ⟨(1 - p.x.t).toNat, by omega⟩
  have ho2 : o < 2 := by omega
  have hw3 : IntKind.i64.wrap (1 - p.x.t) = (o : Int) := by rw [IntKind.wrap_i64]; omega
  have hw4 : wrap64 (1 - p.x.t) = (o : Int) := by rw [ho]; exact IntWalk.wrap64_in _ (by omega)
  obtain ⟨v, hv⟩ : ∃ v : Nat, 2 ^ o = v := ⟨_, rfl⟩
  have hv4 : v ≤ 2 := by rw [← hv]; exact Nat.pow_le_pow_right (n := 2) (by decide) (show o ≤ 1 by omega)
  have hsl : IntKind.u64.wrap (2 ^ o) = (v : Int) := by
    have h3 : ((2 : Int) ^ o) = (v : Int) := by rw [← hv]; simp
    rw [h3]
    simp [IntKind.wrap, IntKind.bits, IntKind.signed]
    omega
  obtain ⟨x, hx, x1, x2, x3, x4⟩ := Gm.leaves HG.out rfl HIN.out HCL.out (by omega) (o := o) ho2 (by omega) (t := p.x.st + 3 + 50 + 1 + a1) (by show p.x.st + 3 + 50 + 1 ≤ _; omega) (by omega)
  have HTE : Hid (tell (plainC A 50 0 20 40 5) [1, 0] p.x v (p.x.st + 3 + 50 + 1 + a1) = some x) := Lib.hid (by
    rw [tell_next HOK.out HIN.out.fits HPO.out.ok HPE.out, ← hv]
    exact hx)
  have HTT : Hid (in64 (p.x.st + 3 + 50 + 1 + a1)) := Lib.hid ⟨by omega, by omega⟩
  have HVV : Hid (v < 18446744073709551616) := Lib.hid (by omega)
  have hc14 : (plainC A 50 0 20 40 5).d = 3 := rfl
  have hc15 : (plainC A 50 0 20 40 5).w = 50 := rfl
  have HO := Lib.hid ho
  have HXO : Hid (x.Ok) := Lib.hid (by
    have hs := Gm.step_inv HG.out HIN.out ⟨_, _, hx⟩
    have hd := (Gm.step_damp HG.out HIN.out ⟨_, _, hx⟩).1
    have he := HPE.out
    exact fits_num HOK.out hs.fits (by omega))
  clear hv hx ho hv4
  go_upto_region 12 with (first | ((with_reducible refine Kx.absorb HB ?_); clear HB; intro w_ HB) | ((with_reducible refine Kx.box_gate ?_); (first | refine Kx.boxa HB rfl ?_ | refine Kx.boxt HB rfl rfl ?_ | refine Kx.box1 HB rfl rfl ?_); clear HB; intro b_ w_ HB; refine Kx.fr ?_) | ((with_reducible refine Kx.alloc_gate ?_); (first | refine Kx.ala HB ?_ | refine Kx.al1 HB ?_); clear HB; intro b_ w_ HB; refine Kx.fr ?_) | ((with_reducible refine Kx.loads_gate ?_); first | refine Kx.l1 HB rfl rfl ?_ | refine Kx.la HB rfl ?_ | refine Kx.lo HB rfl HC.out ?_) | ((with_reducible refine Kx.loadg_gate ?_); first | refine Kx.l1g HB rfl rfl rfl ?_ | refine Kx.lag HB rfl rfl ?_ | refine Kx.log HB rfl HC.out rfl ?_) | ((with_reducible refine Kx.store_gate ?_); (first | refine Kx.stwa HB rfl rfl ?_ | refine Kx.sta HB rfl rfl ?_ | refine Kx.stc HB rfl rfl ?_ | refine Kx.stt HB rfl rfl rfl ?_ | refine Kx.st1 HB rfl rfl rfl ?_); clear HB; intro w_ HB))
  generalize p.x.st + 3 + 50 + 1 + a1 = tt at *
  go_cut [11, 12] from 53 to 61 (fun bp iv wx => ∃ (y : Pt × Bool) (b11 : Nat), Hid (y.1.Ok ∧ y.1.x = x ∧ y.2 = true) ∧ bp = .pointer (some ⟨b11, 0, none⟩) ∧ iv = .bool y.2 ∧ Hid (Bxs w wx [(b11, y.1.cells), (b8, p.cells), (b6, cf (plainC A 50 0 20 40 5))] [] (y.1.fz ++ ((some ad, cat Pt.cells ps) :: (fzs ps ++ [(A, i64s [1, 0])])))))
  case first =>
    refine Kx.region_x HB (fun i => false) (by kernel_rfl) ?_
    first | refine Kx.xl1 0 rfl rfl rfl ?_ | refine Kx.xla 0 rfl rfl ?_ | refine Kx.xlo 0 rfl rfl HC.out ?_
    first | refine Kx.xl1 1 rfl rfl rfl ?_ | refine Kx.xla 1 rfl rfl ?_ | refine Kx.xlo 1 rfl rfl HC.out ?_
    refine Kx.tk 2 rfl ?_
    refine Kx.tk 3 rfl ?_
    refine Kx.tk 4 rfl ?_
    refine anyW_two (i := 5) (j := 9) (by kernel_rfl) ?one ?two
    case one =>
      refine AtW.call (α := {y : Pt × Bool // y.1.Ok ∧ y.1.x = x ∧ y.2 = true}) ⟨(⟨x, none, x.pen.length, 0, none, x.ch.length, x.ch.length⟩, true), ⟨HXO.out, rfl, rfl, Nat.le_refl _⟩, rfl, rfl⟩ (fun y => .tuple #[.agg y.1.1.cells.toArray, .bool y.1.2]) (fun y w' => Bxs w w' [(b8, p.cells), (b6, cf (plainC A 50 0 20 40 5))] [] (y.1.1.fz ++ ((some ad, cat Pt.cells ps) :: (fzs ps ++ [(A, i64s [1, 0])])))) (fun y => bears_x) (fun y W z => z.stayLess (fun z hz => List.mem_append_right _ hz)) rfl (by kernel_rfl) 59 rfl (f := ?g1) (args := ?s1) ?y1 ?c1 ?r1
      case y1 => (intro W hW; go_simp; first | (refine ⟨?_, ?_⟩ <;> with_reducible rfl) | with_reducible rfl)
      case c1 =>
        intro W hW
        refine (PNext_any (plainC A 50 0 20 40 5) [1, 0] p v tt W (HT.out.below hW.below (Nat.le_refl _)) (hW.stayRdM (List.mem_cons_of_mem _ (List.mem_append_right _ (List.mem_cons_self ..)))) rfl (HPO.out.stays hW (fun q' hq => List.mem_cons_of_mem _ (List.mem_append_left _ (fzs_in HMP.out q' hq)))) HFEW.out HVV.out HTT.out).mono ?_
        rintro e w' ⟨q2, b2, rfl, hb, n1, n2, ok, yes, no⟩
        have hsm := toldx HTE.out yes no
        exact ⟨⟨(q2, b2), ok, hsm.2, hsm.1⟩, rfl, hW.stayNew2 hb n1 n2 (fun q' hq => List.mem_cons_of_mem _ (List.mem_append_left _ (fzs_in HMP.out q' hq)))⟩
      case r1 =>
      intro y
      refine Kx.framedW (by simp only [Act.put, List.setIfInBounds_toArray, List.set_cons_succ, List.set_cons_zero] <;> rfl) ?_
      refine Kx.tk 6 rfl ?_
      refine Kx.tk 7 rfl ?_
      refine Kx.tk 8 rfl ?_
      refine anyW_at (i := 9) (by kernel_rfl) (AtW.allocU rfl (by kernel_rfl) 11 rfl 28 rfl 12 _ rfl (fun w => (Tryd.zeroValue28 w)) ?_)
      intro b11
      refine Kx.framedW (by simp only [Act.put, List.setIfInBounds_toArray, List.set_cons_succ, List.set_cons_zero] <;> rfl) ?_
      refine anyW_storeU (i := 10) rfl (by kernel_rfl) (by kernel_rfl) rfl _ _ _ rfl _ 12 rfl _ rfl rfl (fun w => (Tryd.sizeOf28 w)) (by rfl) ?_
      refine Kx.tk 11 rfl ?_
      refine anyW_done (by kernel_rfl) ?_
      clear HB
      intro w_ HB_
      have HB := Lib.hid HB_
      clear HB_
      go_wp2_with fail
      go_meet
      case rel => exact ⟨y.1, b11, Lib.hid y.2, rfl, rfl, HB⟩
    case two =>
      refine AtW.allocU rfl (by kernel_rfl) 11 rfl 28 rfl 12 _ rfl (fun w => (Tryd.zeroValue28 w)) ?_
      intro b11
      refine Kx.framedW (by simp only [Act.put, List.setIfInBounds_toArray, List.set_cons_succ, List.set_cons_zero] <;> rfl) ?_
      refine anyW_at (i := 5) (by kernel_rfl) ?three
      case three =>
      refine AtW.call (α := {y : Pt × Bool // y.1.Ok ∧ y.1.x = x ∧ y.2 = true}) ⟨(⟨x, none, x.pen.length, 0, none, x.ch.length, x.ch.length⟩, true), ⟨HXO.out, rfl, rfl, Nat.le_refl _⟩, rfl, rfl⟩ (fun y => .tuple #[.agg y.1.1.cells.toArray, .bool y.1.2]) (fun y => Cu w b11 12 [(b8, p.cells), (b6, cf (plainC A 50 0 20 40 5))] [] (y.1.1.fz ++ ((some ad, cat Pt.cells ps) :: (fzs ps ++ [(A, i64s [1, 0])])))) (fun y => bears_u) (fun y W z => by obtain ⟨cs, e, z⟩ := z; exact ⟨cs, e, z.stayLess (fun z hz => List.mem_append_right _ hz)⟩) rfl (by kernel_rfl) 59 rfl (f := ?g2) (args := ?s2) ?y2 ?c2 ?r2
      case y2 => (intro W hW; go_simp; first | (refine ⟨?_, ?_⟩ <;> with_reducible rfl) | with_reducible rfl)
      case c2 =>
        rintro W ⟨cs8, e8, hW⟩
        refine (PNext_any (plainC A 50 0 20 40 5) [1, 0] p v tt W (HT.out.below hW.below (Nat.le_refl _)) (hW.stayRdM (List.mem_cons_of_mem _ (List.mem_append_right _ (List.mem_cons_self ..)))) rfl (HPO.out.stays hW (fun q' hq => List.mem_cons_of_mem _ (List.mem_append_left _ (fzs_in HMP.out q' hq)))) HFEW.out HVV.out HTT.out).mono ?_
        rintro e w' ⟨q2, b2, rfl, hb, n1, n2, ok, yes, no⟩
        have hsm := toldx HTE.out yes no
        exact ⟨⟨(q2, b2), ok, hsm.2, hsm.1⟩, rfl, cs8, e8, hW.stayNew2 hb n1 n2 (fun q' hq => List.mem_cons_of_mem _ (List.mem_append_left _ (fzs_in HMP.out q' hq)))⟩
      case r2 =>
      intro y
      refine Kx.framedW (by simp only [Act.put, List.setIfInBounds_toArray, List.set_cons_succ, List.set_cons_zero] <;> rfl) ?_
      refine Kx.tk 6 rfl ?_
      refine Kx.tk 7 rfl ?_
      refine Kx.tk 8 rfl ?_
      refine anyW_storeU (i := 10) rfl (by kernel_rfl) (by kernel_rfl) rfl _ _ _ rfl _ 12 rfl _ rfl rfl (fun w => (Tryd.sizeOf28 w)) (by rfl) ?_
      refine Kx.tk 11 rfl ?_
      refine anyW_done (by kernel_rfl) ?_
      clear HB
      intro w_ HB_
      have HB := Lib.hid HB_
      clear HB_
      go_wp2_with fail
      go_meet
      case rel => exact ⟨y.1, b11, Lib.hid y.2, rfl, rfl, HB⟩
  case rest =>
    obtain ⟨⟨y, yb⟩, b11, HYY, rfl, rfl, HB⟩ := hcut
    obtain ⟨yok, yx, ybb⟩ := HYY.out
    clear HYY
    dsimp only at yok yx ybb HB ⊢
    subst ybb
    have f1 : y.x.t = (o : Int) := by rw [yx]; exact x1
    have f2 : y.x.p = p.x.t := by rw [yx]; exact x2
    have f3 : y.x.c = 100 := by rw [yx]; exact x3
    have f4 : y.x.st = tt := by rw [yx]; exact x4
    have hly : y.cells.length = 12 := rfl
    clear yok yx x1 x2 x3 x4
    go_wp2_with (first | ((with_reducible refine Kx.absorb HB ?_); clear HB; intro w_ HB) | ((with_reducible refine Kx.box_gate ?_); (first | refine Kx.boxa HB rfl ?_ | refine Kx.boxt HB rfl rfl ?_ | refine Kx.box1 HB rfl rfl ?_); clear HB; intro b_ w_ HB; refine Kx.fr ?_) | ((with_reducible refine Kx.alloc_gate ?_); (first | refine Kx.ala HB ?_ | refine Kx.al1 HB ?_); clear HB; intro b_ w_ HB; refine Kx.fr ?_) | ((with_reducible refine Kx.loads_gate ?_); first | refine Kx.l1 HB rfl rfl ?_ | refine Kx.la HB rfl ?_ | refine Kx.lo HB rfl HC.out ?_) | ((with_reducible refine Kx.loadg_gate ?_); first | refine Kx.l1g HB rfl rfl rfl ?_ | refine Kx.lag HB rfl rfl ?_ | refine Kx.log HB rfl HC.out rfl ?_) | ((with_reducible refine Kx.store_gate ?_); (first | refine Kx.stwa HB rfl rfl ?_ | refine Kx.sta HB rfl rfl ?_ | refine Kx.stc HB rfl rfl ?_ | refine Kx.stt HB rfl rfl rfl ?_ | refine Kx.st1 HB rfl rfl rfl ?_); clear HB; intro w_ HB))
    go_ret
    exact ⟨by simp, HB.out.below⟩
end Go.Proofs.YtnljpopjhjcocaaDoor
