import Derived.Test.YteebjplkkglfjaaGreatDoorAk
import Derived.Test.YteebjplkkglfjaaGreatDoorAo
import Derived.Test.YteebjplkkglfjaaGreatDoorAvm
namespace Go.Proofs.YteebjplkkglfjaaGreatDoor
open Go.RowKit Go.Shelf Km Kx Kc Kt
set_option linter.unusedVariables false
set_option linter.unusedSimpArgs false
set_option maxRecDepth 100000 in
set_option maxHeartbeats 8000000 in
theorem zoj (y : Cf × List Int) (A : Option Addr) (len cap : Nat) (os : List Op) (w : World) (hc : CfAt w y.1 y.2) (w2 : os.length = len ∧ len ≤ cap ∧ cap ≤ maxLen ∧ (∀ p ∈ os, p.At w w.heap.size) ∧ Rd w w.heap.size A (cat Op.cells os)) (ht : Tbs w) :
  Calls Tryz.prog 5 #[.agg (cf y.1).toArray, .slice A len cap] w fun e w' => e = .returned (.bool true) ∧ Below w.heap.size w w' := by
 obtain ⟨c, xs⟩ := y
 dsimp only at hc ⊢
 obtain ⟨hlen, -, -, hat, hrd⟩ := w2
 have HB : Hid (Bxs w w [] [] (ofz os ++ [(c.ta, i64s xs)])) := Lib.hid (zgg ((Bxs.start w).zlx hc.rd) (zp7 hat))
 have HHd : Hid (∀ W, Below w.heap.size w W → Calls Tryz.prog 8 #[] W fun e w' => e = .returned (.bool true) ∧ Below W.heap.size W w') := Lib.hid (fun W hb => znn W (ht.1.below hb (Nat.le_refl _)) (ht.2.below hb (Nat.le_refl _)))
 obtain ⟨F0, hF0⟩ : ∃ F0, F0 = ofz os ++ [(c.ta, i64s xs)] := ⟨_, rfl⟩
 rw [← hF0] at HB
 have HF : Hid (Within [(c.ta, i64s xs)] F0) := Lib.hid (fun q hq => .inr (by rw [hF0]; exact List.mem_append.2 (.inr hq)))
 have HFo : Hid (∀ o ∈ os, ∀ q ∈ mfz o.m.ms o.m.lo, q ∈ F0) := Lib.hid (fun o ho q hq => by rw [hF0]; exact List.mem_append.2 (.inl (zp8 ho q hq)))
 clear hF0
 have HL := Lib.hid hc.len
 have HAt := Lib.hid hat
 have HRd := Lib.hid hrd
 have HLen := Lib.hid hlen
 have HT := Lib.hid ht
 have hio : (Tryz.prog.info? 39).map (·.size) = some 29 := by kernel_rfl
 clear hat hrd hlen
 by_cases hn : zrm c xs 1
 case neg =>
  have HNo := Lib.hid (fun (W : World) (L : List (Nat × List Value)) (r' : List Rw) (q : Bxs w W L r' F0) => zrl q c xs 1 HF.out HL.out hn)
  clear hc ht hn HFo HAt HRd HLen HT
  go_enter Tryz.func5, Tryz.ntmps5
  go_wp2_with (first | (go_at_call 8; refine Calls.mono (HHd.out _ HB.out.below) ?_; rintro e w_ ⟨rfl, hb_⟩; replace HB := Lib.hid (HB.out.call hb_); clear hb_) | (go_at_call 9; refine (HNo.out _ _ _ HB.out).mono ?_; rintro e w_ ⟨rfl, hb_⟩; replace HB := Lib.hid hb_; clear hb_) | (first | ((with_reducible refine zai HB ?_); clear HB; intro w_ HB) | ((with_reducible refine zaf ?_); (first | refine boxa HB rfl ?_ | refine boxt HB rfl rfl ?_ | refine box1 HB rfl rfl ?_); clear HB; intro b_ w_ HB; refine Kx.fr ?_) | ((with_reducible refine zaa ?_); (first | refine ala HB ?_ | refine al1 HB ?_); clear HB; intro b_ w_ HB; refine Kx.fr ?_) | ((with_reducible refine zab ?_); first | refine Kx.l1 HB rfl rfl ?_ | refine Kx.la HB rfl ?_ | refine Kx.lo HB rfl HC.out ?_) | ((with_reducible refine zac ?_); first | refine l1g HB rfl rfl rfl ?_ | refine Kx.lag HB rfl rfl ?_ | refine Kx.log HB rfl HC.out rfl ?_) | ((with_reducible refine zad ?_); (first | refine stwa HB rfl rfl ?_ | refine sta HB rfl rfl ?_ | refine Kx.stc HB rfl rfl ?_ | refine Kx.stt HB rfl rfl rfl ?_ | refine Kx.st1 HB rfl rfl rfl ?_); clear HB; intro w_ HB)))
  go_ret
  exact ⟨rfl, HB.out.below⟩
 obtain ⟨N, hN⟩ : ∃ N : Nat, c.targets = (N : Int) := ⟨c.targets.toNat, by have := hn.1.targets; omega⟩
 have HNw := Lib.hid (fun (W : World) (L : List (Nat × List Value)) (r' : List Rw) (q : Bxs w W L r' F0) => New_y q c xs 1 N HF.out HL.out hn hN)
 have hN16 : N ≤ 16 := by have := hn.1.targets.2; omega
 have hcl : 0 ≤ c.l ∧ c.l ≤ 1048576 := by have := hn.1.l; omega
 have hcm : 0 ≤ c.m ∧ c.m ≤ 1048576 := hn.1.m
 have hcs : 0 ≤ c.s ∧ c.s ≤ 1048576 := by have := hn.1.s; omega
 have HCf : Hid (∀ A2 c2, zem { c with ta := A2, tn := c.tn, tc := c2 } xs) := Lib.hid (fun A2 c2 => hn.1.re)
 have HN := Lib.hid hN
 clear hc ht hn hN
 by_cases hgr : 150 < (len : Int)
 ·have HG := Lib.hid (zgd A len cap true (decide_eq_true hgr))
  clear hgr HFo HAt HRd HLen HT
  go_enter Tryz.func5, Tryz.ntmps5
  go_wp2_with (first | (go_at_call 8; refine Calls.mono (HHd.out _ HB.out.below) ?_; rintro e w_ ⟨rfl, hb_⟩; replace HB := Lib.hid (HB.out.call hb_); clear hb_) | (go_at_call 9; fail) | (first | ((with_reducible refine zai HB ?_); clear HB; intro w_ HB) | ((with_reducible refine zaf ?_); (first | refine boxa HB rfl ?_ | refine boxt HB rfl rfl ?_ | refine box1 HB rfl rfl ?_); clear HB; intro b_ w_ HB; refine Kx.fr ?_) | ((with_reducible refine zaa ?_); (first | refine ala HB ?_ | refine al1 HB ?_); clear HB; intro b_ w_ HB; refine Kx.fr ?_) | ((with_reducible refine zab ?_); first | refine Kx.l1 HB rfl rfl ?_ | refine Kx.la HB rfl ?_ | refine Kx.lo HB rfl HC.out ?_) | ((with_reducible refine zac ?_); first | refine l1g HB rfl rfl rfl ?_ | refine Kx.lag HB rfl rfl ?_ | refine Kx.log HB rfl HC.out rfl ?_) | ((with_reducible refine zad ?_); (first | refine stwa HB rfl rfl ?_ | refine sta HB rfl rfl ?_ | refine Kx.stc HB rfl rfl ?_ | refine Kx.stt HB rfl rfl rfl ?_ | refine Kx.st1 HB rfl rfl rfl ?_); clear HB; intro w_ HB)))
  refine (HNw.out _ _ _ HB.out).mono ?_
  rintro e w2 ⟨⟨ga, g, A2, c2, p⟩, rfl, HJ, hx, hf⟩
  dsimp only at HJ hx hf
  obtain ⟨ok, KA, KC, RA, RC, HB2⟩ := HJ
  clear HB
  have HB := Lib.hid HB2
  clear HB2 hx hf ok
  go_wp2_with (first | (go_at_call 10; refine Calls.mono (HG.out _) ?_; rintro e w_ ⟨rfl, hb_⟩; replace HB := Lib.hid (HB.out.call hb_); clear hb_) | (first | ((with_reducible refine zai HB ?_); clear HB; intro w_ HB) | ((with_reducible refine zaf ?_); (first | refine boxa HB rfl ?_ | refine boxt HB rfl rfl ?_ | refine box1 HB rfl rfl ?_); clear HB; intro b_ w_ HB; refine Kx.fr ?_) | ((with_reducible refine zaa ?_); (first | refine ala HB ?_ | refine al1 HB ?_); clear HB; intro b_ w_ HB; refine Kx.fr ?_) | ((with_reducible refine zab ?_); first | refine Kx.l1 HB rfl rfl ?_ | refine Kx.la HB rfl ?_ | refine Kx.lo HB rfl HC.out ?_) | ((with_reducible refine zac ?_); first | refine l1g HB rfl rfl rfl ?_ | refine Kx.lag HB rfl rfl ?_ | refine Kx.log HB rfl HC.out rfl ?_) | ((with_reducible refine zad ?_); (first | refine stwa HB rfl rfl ?_ | refine sta HB rfl rfl ?_ | refine Kx.stc HB rfl rfl ?_ | refine Kx.stt HB rfl rfl rfl ?_ | refine Kx.st1 HB rfl rfl rfl ?_); clear HB; intro w_ HB)))
  go_ret
  exact ⟨rfl, HB.out.below⟩
 have hle : len ≤ 150 := by omega
 have HG := Lib.hid (zgd A len cap false (decide_eq_false hgr))
 clear hgr
 go_enter Tryz.func5, Tryz.ntmps5
 go_wp2_with (first | (go_at_call 8; refine Calls.mono (HHd.out _ HB.out.below) ?_; rintro e w_ ⟨rfl, hb_⟩; replace HB := Lib.hid (HB.out.call hb_); clear hb_) | (go_at_call 9; fail) | (first | ((with_reducible refine zai HB ?_); clear HB; intro w_ HB) | ((with_reducible refine zaf (d := some 2) ?_); (first | refine boxa HB rfl ?_ | refine boxt HB rfl rfl ?_ | refine box1 HB rfl rfl ?_); clear HB; intro b2 w_ HB; refine Kx.fr ?_) | ((with_reducible refine zaa (d := some 2) ?_); (first | refine ala HB ?_ | refine al1 HB ?_); clear HB; intro b2 w_ HB; refine Kx.fr ?_) | ((with_reducible refine zaf ?_); (first | refine boxa HB rfl ?_ | refine boxt HB rfl rfl ?_ | refine box1 HB rfl rfl ?_); clear HB; intro b_ w_ HB; refine Kx.fr ?_) | ((with_reducible refine zaa ?_); (first | refine ala HB ?_ | refine al1 HB ?_); clear HB; intro b_ w_ HB; refine Kx.fr ?_) | ((with_reducible refine zab ?_); first | refine Kx.l1 HB rfl rfl ?_ | refine Kx.la HB rfl ?_ | refine Kx.lo HB rfl HC.out ?_) | ((with_reducible refine zac ?_); first | refine l1g HB rfl rfl rfl ?_ | refine Kx.lag HB rfl rfl ?_ | refine Kx.log HB rfl HC.out rfl ?_) | ((with_reducible refine zad ?_); (first | refine stwa HB rfl rfl ?_ | refine sta HB rfl rfl ?_ | refine Kx.stc HB rfl rfl ?_ | refine Kx.stt HB rfl rfl rfl ?_ | refine Kx.st1 HB rfl rfl rfl ?_); clear HB; intro w_ HB)))
 refine (HNw.out _ _ _ HB.out).mono ?_
 rintro e w2 ⟨⟨ga, g, A2, c2, p⟩, rfl, HJ, hx, hf⟩
 dsimp only at HJ hx hf
 obtain ⟨F1, hF1⟩ : ∃ F1, F1 = (p.A, i64s p.x.pen) :: (A2, i64s xs) :: F0 := ⟨_, rfl⟩
 rw [← hF1] at HJ
 obtain ⟨c1, hc1⟩ : ∃ c1, c1 = ({ c with ta := A2, tn := c.tn, tc := c2 } : Cf) := ⟨_, rfl⟩
 rw [← hc1] at HJ
 have HC1 : Hid (c1.l = c.l ∧ c1.m = c.m ∧ c1.s = c.s ∧ c1.targets = (N : Int) ∧ zem c1 xs ∧ xs.length = c1.tn ∧ (c1.ta, i64s xs) ∈ F1) := Lib.hid (by rw [hc1]; exact ⟨rfl, rfl, rfl, HN.out, HCf.out _ _, HL.out, by rw [hF1]; exact List.mem_cons_of_mem _ (List.mem_cons_self ..)⟩)
 have HFo2 : Hid (∀ o ∈ os, ∀ q ∈ mfz o.m.ms o.m.lo, q ∈ F1) := Lib.hid (fun o ho q hq => by rw [hF1]; exact List.mem_cons_of_mem _ (List.mem_cons_of_mem _ (HFo.out o ho q hq)))
 have HI0 : Hid (LI (zp N) 1 c1 (0 * 8200) F1 F1 [] (newA c1 1 p) Jm.new) := Lib.hid ⟨⟨⟨hf, zkf hx (by rw [hF1]; exact List.mem_cons_self ..), by show p.x.right = true; rw [hx]; exact zg6 hN16 ⟨by decide, by decide⟩ ⟨by decide, by decide⟩⟩, .inl rfl, I0, I0, rfl, by show 0 ≤ c1.l ∧ c1.l ≤ 1048576; rw [HC1.out.1]; exact hcl, by show 0 ≤ c1.m ∧ c1.m ≤ 1048576; rw [HC1.out.2.1]; exact hcm⟩, .inl (JUp.new (by rw [zmf, hx])), Nat.le_refl _, rfl, fun q hq => hq⟩
 have HV0 : Hid (LInv (-1) (-1) 0 (KK (zp N) []) (newA c1 1 p) Jm.new) := Lib.hid ⟨Int.le_refl _, by decide, fun q => absurd q (by decide), fun _ => ⟨fun q => absurd rfl q, fun q => absurd q (by decide)⟩⟩
 obtain ⟨a0, ha0⟩ : ∃ a, a = newA c1 1 p := ⟨_, rfl⟩
 rw [← ha0] at HJ HI0 HV0
 obtain ⟨ok, KA, KC, RA, RC, HB2⟩ := HJ
 clear HB HNw HHd HF HFo hF1 ha0 hc1 HCf HN
 have HB := Lib.hid HB2
 clear HB2 hx hf ok hN16
 go_wp2_with (first | (go_at_call 10; refine Calls.mono (HG.out _) ?_; rintro e w_ ⟨rfl, hb_⟩; replace HB := Lib.hid (HB.out.call hb_); clear hb_) | (first | ((with_reducible refine zai HB ?_); clear HB; intro w_ HB) | ((with_reducible refine zaf ?_); (first | refine boxa HB rfl ?_ | refine boxt HB rfl rfl ?_ | refine box1 HB rfl rfl ?_); clear HB; intro b_ w_ HB; refine Kx.fr ?_) | ((with_reducible refine zaa ?_); (first | refine ala HB ?_ | refine al1 HB ?_); clear HB; intro b_ w_ HB; refine Kx.fr ?_) | ((with_reducible refine zab ?_); first | refine Kx.l1 HB rfl rfl ?_ | refine Kx.la HB rfl ?_ | refine Kx.lo HB rfl HC.out ?_) | ((with_reducible refine zac ?_); first | refine l1g HB rfl rfl rfl ?_ | refine Kx.lag HB rfl rfl ?_ | refine Kx.log HB rfl HC.out rfl ?_) | ((with_reducible refine zad ?_); (first | refine stwa HB rfl rfl ?_ | refine sta HB rfl rfl ?_ | refine Kx.stc HB rfl rfl ?_ | refine Kx.stt HB rfl rfl rfl ?_ | refine Kx.st1 HB rfl rfl rfl ?_); clear HB; intro w_ HB)))
 go_loopg [7, 8, 9, 10] len (fun gh ax wx nx ix wr => ∃ (k : Nat) (a : Ac) (s : Jm.St) (rs : List Mm.Ms) (F : Fz) (at_ who nw : Int), gh + k = len ∧ ax = .int .i64 at_ ∧ wx = .int .i64 who ∧ nx = .int .i64 nw ∧ ix = .int .i64 (k : Int) ∧ Hid (0 ≤ nw ∧ nw ≤ 1099511627776) ∧ Hid (LI (zp N) 1 c1 (k * 8200) F1 F rs a s) ∧ Hid (LInv at_ who nw (KK (zp N) rs) a s) ∧ Hid (Jbx w wr g s [(ga, a.cells g), (b2, cf c)] [] F))
 case atStart => exact ⟨0, a0, Jm.new, [], F1, -1, -1, 0, by omega, rfl, rfl, rfl, rfl, Lib.hid ⟨by decide, by decide⟩, HI0, HV0, Lib.hid ⟨Jm.zng, _, _, _, _, HB.out⟩⟩
 case round =>
  clear HB HI0 HV0 HG
  obtain ⟨k, a, s, rs, F, at_, who, nw, hk, rfl, rfl, rfl, rfl, HNw, HI, HV, HJ⟩ := hrel
  by_cases hlt : k < len
  ·obtain ⟨o, ho⟩ : ∃ o, os[k]? = some o := ⟨os[k]'(by rw [HLen.out]; exact hlt), List.getElem?_eq_getElem _⟩
   have hmem := List.mem_of_getElem? ho
   obtain ⟨ad, rfl, hlt2, hcc⟩ := Rd.part Op.zd9 HRd.out ho (by decide)
   have d3 : (k : Int) < (len : Int) := by omega
   have HC := Lib.hid (fun j v (hj : o.cells[j]? = some v) => (by rw [addr_add_add]; exact hcc j v hj : w.cell? ((ad.add (k * 29)).add j) = some v))
   have HAo := Lib.hid (HAt.out o hmem)
   have HWi : Hid (Within (mfz o.m.ms o.m.lo) F) := Lib.hid (fun q hq => .inr (HI.out.more q (HFo2.out o hmem q hq)))
   have hsz : Jm.size s ≤ 1230000 := by have h := HI.out.sz; have h2 : k * 8200 ≤ 150 * 8200 := Nat.mul_le_mul_right _ (by omega); omega
   have HSz := Lib.hid hsz
   obtain ⟨ok, KA, KC, RA, RC, HB2⟩ := HJ.out
   have HB := Lib.hid HB2
   have HOk := Lib.hid ok
   clear HB2 ok hcc hmem ho HFo2 HAt HRd HLen hlt2 HJ hsz
   go_upto_region 12 with (first | ((with_reducible refine zao ?_); (refine zev rfl 39 _ rfl _ rfl o.cells _ (fun j v hv => HB.out.old (HC.out j v hv)) Tryz.underlying39 rfl hio ?_)) | (first | ((with_reducible refine zai HB ?_); clear HB; intro w_ HB) | ((with_reducible refine zaf (d := some 11) ?_); (first | refine boxa HB rfl ?_ | refine boxt HB rfl rfl ?_ | refine box1 HB rfl rfl ?_); clear HB; intro b11 w_ HB; refine Kx.fr ?_) | ((with_reducible refine zaa (d := some 11) ?_); (first | refine ala HB ?_ | refine al1 HB ?_); clear HB; intro b11 w_ HB; refine Kx.fr ?_) | ((with_reducible refine zaf ?_); (first | refine boxa HB rfl ?_ | refine boxt HB rfl rfl ?_ | refine box1 HB rfl rfl ?_); clear HB; intro b_ w_ HB; refine Kx.fr ?_) | ((with_reducible refine zaa ?_); (first | refine ala HB ?_ | refine al1 HB ?_); clear HB; intro b_ w_ HB; refine Kx.fr ?_) | ((with_reducible refine zab ?_); first | refine Kx.l1 HB rfl rfl ?_ | refine Kx.la HB rfl ?_ | refine Kx.lo HB rfl HC.out ?_) | ((with_reducible refine zac ?_); first | refine l1g HB rfl rfl rfl ?_ | refine Kx.lag HB rfl rfl ?_ | refine Kx.log HB rfl HC.out rfl ?_) | ((with_reducible refine zad ?_); (first | refine stwa HB rfl rfl ?_ | refine sta HB rfl rfl ?_ | refine Kx.stc HB rfl rfl ?_ | refine Kx.stt HB rfl rfl rfl ?_ | refine Kx.st1 HB rfl rfl rfl ?_); clear HB; intro w_ HB)))
   have HJ := Lib.hid (Jbx.box HOk.out HB.out).swap
   clear HB HOk HC KA KC RA RC
   obtain ⟨ok, KA, KC, RA, RC, HB2⟩ := HJ.out
   have HB := Lib.hid HB2
   have HOk := Lib.hid ok
   clear HB2 ok
   obtain ⟨m1, hm1⟩ : ∃ m1 : Int, min o.now 1099511627776 = m1 := ⟨_, rfl⟩
   obtain ⟨n2, hn2⟩ : ∃ n2 : Int, max nw m1 = n2 := ⟨_, rfl⟩
   have HN2 : Hid ((0 ≤ n2 ∧ n2 ≤ 1099511627776) ∧ nw ≤ n2) := Lib.hid (by have := HNw.out; omega)
   have HV2 := Lib.hid (HV.out.later HN2.out.2)
   have HLv : Hid (-1 ≤ at_ ∧ at_ ≤ n2) := Lib.hid ⟨HV2.out.lo, HV2.out.hi⟩
   clear HV HNw
   obtain ⟨V, hV⟩ : ∃ V, bits BinOp.and IntKind.i64 o.what 3 = V := ⟨_, rfl⟩
   by_cases v1 : V = 1
   ·have e1 : (V == 1) = true := beq_iff_eq.2 v1
    have e0 : (V != 0) = true := by rw [v1]; rfl
    clear v1
    go_upto_region 15 with (first | ((with_reducible refine zai HB ?_); clear HB; intro w_ HB) | ((with_reducible refine zab ?_); first | refine Kx.l1 HB rfl rfl ?_ | refine Kx.la HB rfl ?_) | ((with_reducible refine zac ?_); first | refine l1g HB rfl rfl rfl ?_ | refine Kx.lag HB rfl rfl ?_))
    refine Kx.zcy (fun w' => ∃ (s' : Jm.St), Jbx w w' g s' [(ga, a.cells g), (b11, o.cells), (b2, cf c)] [] F) (fun w' => Jbx w w' g s [(ga, a.cells g), (b11, o.cells), (b2, cf c)] [] F) (fun i => false) (by kernel_rfl) (show Jbx w _ g s _ [] F from ⟨HOk.out, _, _, _, _, HB.out.drew⟩) ?_
    refine tkS 0 rfl (fun w' q => ⟨s, q⟩) ?_ (hC := Jbx.bears)
    refine tkS 2 rfl (fun w' q => ⟨s, q⟩) ?_ (hC := Jbx.bears)
    refine tkS 3 rfl (fun w' q => ⟨s, q⟩) ?_ (hC := Jbx.bears) (v := .int .i64 o.n) (hy := fun w1 ⟨s', ok, KA, KC, RA, RC, hB⟩ => Kx.zav hB b11 28 rfl o.cells inferInstance (Tryz.isAgg3 _) rfl)
    refine Kx.zfg (ι := Unit) 1 (fun _ => .pointer (some ⟨g, 0, none⟩)) (fun _ w' => Jbx w w' g s [(ga, a.cells g), (b11, o.cells), (b2, cf c)] [] F) () rfl (fun _ => Jbx.bears) (fun _ w' q => ⟨s, q⟩) ?eFuse1 (fun w hw => zf7 hw) ?hFuse1
    case eFuse1 => (intro w hw; go_simp; try (first | (refine ⟨?_, ?_⟩ <;> with_reducible rfl) | with_reducible rfl))
    intro _
    refine Kx.zfg (ι := Unit) 4 (fun _ => .tuple #[]) (fun _ w' => Jbx w w' g (Jm.fuse s o.n) [(ga, a.cells g), (b11, o.cells), (b2, cf c)] [] F) () rfl (fun _ => Jbx.bears) (fun _ w' q => ⟨_, q⟩) ?eFuse2 (fun w hw => (fuse_x hw o.n HAo.out.n.2).mono fun e w' q => ⟨(), q.1, q.2⟩) ?hFuse2
    case eFuse2 => (intro w hw; go_simp; try (first | (refine ⟨?_, ?_⟩ <;> with_reducible rfl) | with_reducible rfl))
    intro _
    refine zak (by kernel_rfl) ?_
    clear HB
    intro w_ HJ_
    have HJn := Lib.hid HJ_
    obtain ⟨ok, KA, KC, RA, RC, HB2⟩ := HJ_
    have HB := Lib.hid HB2
    clear HB2 ok HOk
    go_wp2_with (first | ((with_reducible refine zai HB ?_); clear HB; intro w_ HB) | ((with_reducible refine zab ?_); first | refine Kx.l1 HB rfl rfl ?_ | refine Kx.la HB rfl ?_) | ((with_reducible refine zac ?_); first | refine l1g HB rfl rfl rfl ?_ | refine Kx.lag HB rfl rfl ?_))
    go_roundg (gk - 1)
    case measure => omega
    case rel => exact ⟨k + 1, a, Jm.fuse s o.n, rs, F, at_, who, n2, by omega, rfl, rfl, rfl, by go_num, Lib.hid HN2.out.1, Lib.hid (by have := HI.out.fuse o.n; rwa [show (k + 1) * 8200 = k * 8200 + 8200 by omega]), Lib.hid (HV2.out.fuse o.n), Lib.hid (HJn.out.zbl)⟩
   have f1 : (V == 1) = false := beq_false_of_ne v1
   by_cases v2 : V = 2
   ·have e2 : (V == 2) = true := beq_iff_eq.2 v2
    have e0 : (V != 0) = true := by rw [v2]; rfl
    clear v1 v2
    go_upto_region 17 with (first | ((with_reducible refine zai HB ?_); clear HB; intro w_ HB) | ((with_reducible refine zab ?_); first | refine Kx.l1 HB rfl rfl ?_ | refine Kx.la HB rfl ?_) | ((with_reducible refine zac ?_); first | refine l1g HB rfl rfl rfl ?_ | refine Kx.lag HB rfl rfl ?_))
    refine Kx.zcy (fun w' => ∃ (s' : Jm.St), Jbx w w' g s' [(ga, a.cells g), (b11, o.cells), (b2, cf c)] [] F) (fun w' => Jbx w w' g s [(ga, a.cells g), (b11, o.cells), (b2, cf c)] [] F) (fun i => false) (by kernel_rfl) (show Jbx w _ g s _ [] F from ⟨HOk.out, _, _, _, _, HB.out.drew⟩) ?_
    refine tkS 0 rfl (fun w' q => ⟨s, q⟩) ?_ (hC := Jbx.bears)
    refine tkS 2 rfl (fun w' q => ⟨s, q⟩) ?_ (hC := Jbx.bears)
    refine tkS 3 rfl (fun w' q => ⟨s, q⟩) ?_ (hC := Jbx.bears) (v := .int .i64 o.n) (hy := fun w1 ⟨s', ok, KA, KC, RA, RC, hB⟩ => Kx.zav hB b11 28 rfl o.cells inferInstance (Tryz.isAgg3 _) rfl)
    refine Kx.zfg (ι := Unit) 1 (fun _ => .pointer (some ⟨g, 0, none⟩)) (fun _ w' => Jbx w w' g s [(ga, a.cells g), (b11, o.cells), (b2, cf c)] [] F) () rfl (fun _ => Jbx.bears) (fun _ w' q => ⟨s, q⟩) ?eCrash1 (fun w hw => zf7 hw) ?hCrash1
    case eCrash1 => (intro w hw; go_simp; try (first | (refine ⟨?_, ?_⟩ <;> with_reducible rfl) | with_reducible rfl))
    intro _
    refine Kx.zfg (ι := Unit) 4 (fun _ => .tuple #[]) (fun _ w' => Jbx w w' g (Jm.crash s o.n) [(ga, a.cells g), (b11, o.cells), (b2, cf c)] [] F) () rfl (fun _ => Jbx.bears) (fun _ w' q => ⟨_, q⟩) ?eCrash2 (fun w hw => (zmr hw o.n (Nat.le_trans HSz.out (by decide))).mono fun e w' q => ⟨(), q.1, q.2⟩) ?hCrash2
    case eCrash2 => (intro w hw; go_simp; try (first | (refine ⟨?_, ?_⟩ <;> with_reducible rfl) | with_reducible rfl))
    intro _
    refine zak (by kernel_rfl) ?_
    clear HB
    intro w_ HJ_
    have HJn := Lib.hid HJ_
    obtain ⟨ok, KA, KC, RA, RC, HB2⟩ := HJ_
    have HB := Lib.hid HB2
    clear HB2 ok HOk
    rcases HI.out.ji.crash o.n with hd | ⟨x, hx, hxn, hd⟩
    ·have HD := Lib.hid hd
     clear hd
     go_wp2_with (first | ((with_reducible refine zai HB ?_); clear HB; intro w_ HB) | ((with_reducible refine zab ?_); first | refine Kx.l1 HB rfl rfl ?_ | refine Kx.la HB rfl ?_) | ((with_reducible refine zac ?_); first | refine l1g HB rfl rfl rfl ?_ | refine Kx.lag HB rfl rfl ?_))
     go_roundg (gk - 1)
     case measure => omega
     case rel => exact ⟨k + 1, a, Jm.crash s o.n, rs, F, at_, who, n2, by omega, rfl, rfl, rfl, by go_num, Lib.hid HN2.out.1, Lib.hid (by have := HI.out.crash o.n HD.out; rwa [show (k + 1) * 8200 = k * 8200 + 8200 by omega]), Lib.hid (HV2.out.down id rfl), Lib.hid (HJn.out.zbl)⟩
    ·have HD := Lib.hid hd
     clear hd hx hxn
     go_wp2_with (first | ((with_reducible refine zai HB ?_); clear HB; intro w_ HB) | ((with_reducible refine zab ?_); first | refine Kx.l1 HB rfl rfl ?_ | refine Kx.la HB rfl ?_) | ((with_reducible refine zac ?_); first | refine l1g HB rfl rfl rfl ?_ | refine Kx.lag HB rfl rfl ?_))
     go_roundg (gk - 1)
     case measure => omega
     case rel => exact ⟨k + 1, a, Jm.crash s o.n, rs ++ [x], F, at_, who, n2, by omega, rfl, rfl, rfl, by go_num, Lib.hid HN2.out.1, Lib.hid (by have := HI.out.crash o.n HD.out; rwa [show (k + 1) * 8200 = k * 8200 + 8200 by omega]), Lib.hid (HV2.out.down (fun q => by rw [zek]; exact zhz q) rfl), Lib.hid (HJn.out.zbl)⟩
   have f2 : (V == 2) = false := beq_false_of_ne v2
   by_cases v3 : V = 3
   ·have e3 : (V == 3) = true := beq_iff_eq.2 v3
    have e0 : (V != 0) = true := by rw [v3]; rfl
    have HRs := Lib.hid (zic HJ.out HI.out.inv xs N (by rw [HI.out.c]; exact fun q hq => .inr (by rw [List.mem_singleton.1 hq]; exact HI.out.more _ HC1.out.2.2.2.2.2.2)) (by rw [HI.out.c]; exact HC1.out.2.2.2.2.2.1) (by rw [HI.out.c]; exact HC1.out.2.2.2.2.1) (by rw [HI.out.c]; exact HC1.out.2.2.2.1) rs HI.out.ji (Nat.le_trans HSz.out (by decide)) HT.out.1 HT.out.2 n2)
    clear v1 v2 v3
    go_wp2_with (first | (go_at_call 14; fail) | (first | ((with_reducible refine zai HB ?_); clear HB; intro w_ HB) | ((with_reducible refine zab ?_); first | refine Kx.l1 HB rfl rfl ?_ | refine Kx.la HB rfl ?_) | ((with_reducible refine zac ?_); first | refine l1g HB rfl rfl rfl ?_ | refine Kx.lag HB rfl rfl ?_)))
    refine HRs.out.mono ?_
    rintro e w3 ⟨a', F', er, rfl, HJ3, hst⟩
    have HJn := Lib.hid HJ3
    have HSt := Lib.hid hst
    obtain ⟨ok3, KA3, KC3, RA3, RC3, HB3⟩ := HJ3
    clear HB hst
    have HB := Lib.hid HB3
    clear HB3 ok3 HRs HJ
    go_wp2_with (first | ((with_reducible refine zai HB ?_); clear HB; intro w_ HB) | ((with_reducible refine zab ?_); first | refine Kx.l1 HB rfl rfl ?_ | refine Kx.la HB rfl ?_) | ((with_reducible refine zac ?_); first | refine l1g HB rfl rfl rfl ?_ | refine Kx.lag HB rfl rfl ?_))
    go_roundg (gk - 1)
    case measure => omega
    case rel => exact ⟨k + 1, a', (Jm.opn s).1, rs, F', at_, who, n2, by omega, rfl, rfl, rfl, by go_num, Lib.hid HN2.out.1, Lib.hid (by have := HI.out.rst HSt.out; rwa [show (k + 1) * 8200 = k * 8200 + 8200 by omega]), Lib.hid (HV2.out.rst HSt.out), Lib.hid (HJn.out.zbl)⟩
   have f3 : (V == 3) = false := beq_false_of_ne v3
   by_cases v0 : V = 0
   case neg =>
    have e0 : (V != 0) = true := bne_iff_ne.2 v0
    have HLi : Hid (LI (zp N) 1 c1 (k * 8200 + 8200) F1 F rs a s) := Lib.hid ⟨HI.out.inv, HI.out.ji, Nat.le_trans HI.out.sz (Nat.le_add_right ..), HI.out.c, HI.out.more⟩
    clear v0 v1 v2 v3
    go_wp2_with (first | ((with_reducible refine zai HB ?_); clear HB; intro w_ HB) | ((with_reducible refine zab ?_); first | refine Kx.l1 HB rfl rfl ?_ | refine Kx.la HB rfl ?_) | ((with_reducible refine zac ?_); first | refine l1g HB rfl rfl rfl ?_ | refine Kx.lag HB rfl rfl ?_))
    go_roundg (gk - 1)
    case measure => omega
    case rel => exact ⟨k + 1, a, s, rs, F, at_, who, n2, by omega, rfl, rfl, rfl, by go_num, Lib.hid HN2.out.1, Lib.hid (by have := HLi.out; rwa [show (k + 1) * 8200 = k * 8200 + 8200 by omega]), Lib.hid (HV2.out), Lib.hid (Jbx.zbl (p := (ga, a.cells g)) (q := (b11, o.cells)) ⟨HOk.out, _, _, _, _, HB.out⟩)⟩
   have e0 : (V != 0) = false := by rw [v0]; rfl
   clear v0 v1 v2 v3
   obtain ⟨R, hR⟩ : ∃ R, handle a s o.m.ms o.m.lo n2 = R := ⟨_, rfl⟩
   obtain ⟨rs', hst⟩ := zk4 (now := n2) HI.out.inv HI.out.ji (Mg.msOk HAo.out.m) HWi.out
   rw [hR] at hst
   have HLi := Lib.hid (HI.out.handle (show Pm.I o.m.ms.b from HAo.out.m.b) hst)
   have hls := zok (fun q => (Mm.zbe.1 q.1).2.2.1.1) HV2.out hst
   have hcc1 : a.c.l + a.c.m = c.l + c.m := by rw [HI.out.c, HC1.out.1, HC1.out.2.1]
   rw [hcc1] at hls
   have HCl : Hid (Calls Tryz.prog 15 #[.pointer (some ⟨ga, 0, none⟩), .agg o.m.cells.toArray, .int .i64 n2] w_ fun e w' => Outs w w' ga g [(b11, o.cells), (b2, cf c)] [] F R e) := Lib.hid (by
    rw [← hR]
    exact zd7 HJ.out HI.out.inv.ok o.m.ms o.m.lo n2 (Mg.msOk HAo.out.m) HWi.out HT.out.1 HT.out.2 (Nat.le_trans HSz.out (by decide)))
   clear hR hst hcc1 HI HV2 HWi HSz HC1 HT HAo
   obtain ⟨a1, s1, o1⟩ := R
   go_wp2_with (first | (go_at_call 15; fail) | (first | ((with_reducible refine zai HB ?_); clear HB; intro w_ HB) | ((with_reducible refine zab ?_); first | refine Kx.l1 HB rfl rfl ?_ | refine Kx.la HB rfl ?_) | ((with_reducible refine zac ?_); first | refine l1g HB rfl rfl rfl ?_ | refine Kx.lag HB rfl rfl ?_)))
   refine HCl.out.mono ?_
   clear HB HJ HOk
   cases o1 with
   | none =>
     rintro e w3 ⟨rfl, HJ3⟩
     have HLs := Lib.hid (hls.1 rfl)
     have HJn := Lib.hid HJ3
     obtain ⟨ok3, KA3, KC3, RA3, RC3, HB3⟩ := HJ3
     have HB := Lib.hid HB3
     clear HB3 ok3 HCl hls
     obtain ⟨gq, rfl⟩ : ∃ q, q = gk := ⟨_, rfl⟩
     go_wp2_with (first | ((with_reducible refine zai HB ?_); clear HB; intro w_ HB) | ((with_reducible refine zab ?_); first | refine Kx.l1 HB rfl rfl ?_ | refine Kx.la HB rfl ?_) | ((with_reducible refine zac ?_); first | refine l1g HB rfl rfl rfl ?_ | refine Kx.lag HB rfl rfl ?_))
     go_loopg [7, 8, 13] 1 (fun gh ax wx kx wr => gh = 1 ∧ ax = .int .i64 at_ ∧ wx = .int .i64 who ∧ kx = .int .i64 0 ∧ Hid (Jbx w wr g s1 [(ga, a1.cells g), (b11, o.cells), (b2, cf c)] [] F))
     case atStart => exact ⟨rfl, rfl, rfl, rfl, HJn⟩
     case round =>
      clear HB HJn
      obtain ⟨-, rfl, rfl, rfl, HJn⟩ := hrel
      obtain ⟨ok3, KA3, KC3, RA3, RC3, HB3⟩ := HJn.out
      have HB := Lib.hid HB3
      clear HB3 ok3
      go_wp2_with (first | ((with_reducible refine zai HB ?_); clear HB; intro w_ HB) | ((with_reducible refine zab ?_); first | refine Kx.l1 HB rfl rfl ?_ | refine Kx.la HB rfl ?_) | ((with_reducible refine zac ?_); first | refine l1g HB rfl rfl rfl ?_ | refine Kx.lag HB rfl rfl ?_))
      go_roundg (gq - 1)
      case measure => omega
      case rel => exact ⟨k + 1, a1, s1, rs', F, at_, who, n2, by omega, rfl, rfl, rfl, by go_num, Lib.hid HN2.out.1, Lib.hid (by have := HLi.out; rwa [show (k + 1) * 8200 = k * 8200 + 8200 by omega]), Lib.hid (HLs.out), Lib.hid (HJn.out.zbl)⟩
   | some q =>
     obtain ⟨x, lo⟩ := q
     rintro e w3 ⟨bx, rfl, HJ3⟩
     have HLs := Lib.hid (hls.2 x lo rfl)
     have HJn := Lib.hid HJ3
     obtain ⟨ok3, KA3, KC3, RA3, RC3, HB3⟩ := HJ3
     have HB := Lib.hid HB3
     clear HB3 ok3 HCl hls
     obtain ⟨gq, rfl⟩ : ∃ q, q = gk := ⟨_, rfl⟩
     go_wp2_with (first | ((with_reducible refine zai HB ?_); clear HB; intro w_ HB) | ((with_reducible refine zab ?_); first | refine Kx.l1 HB rfl rfl ?_ | refine Kx.la HB rfl ?_) | ((with_reducible refine zac ?_); first | refine l1g HB rfl rfl rfl ?_ | refine Kx.lag HB rfl rfl ?_))
     go_loopg [7, 8, 13] 2 (fun gh ax wx kx wr => ∃ (at2 who2 : Int), ax = .int .i64 at2 ∧ wx = .int .i64 who2 ∧ Hid (Jbx w wr g s1 [(bx, mvs x lo), (ga, a1.cells g), (b11, o.cells), (b2, cf c)] [] F) ∧ ((gh = 2 ∧ kx = .int .i64 0 ∧ at2 = at_ ∧ who2 = who) ∨ (gh = 1 ∧ kx = .int .i64 1 ∧ Hid (LInv at2 who2 n2 (KK (zp N) rs') a1 s1))))
     case atStart => exact ⟨at_, who, rfl, rfl, HJn, .inl ⟨rfl, rfl, rfl, rfl⟩⟩
     case round =>
      clear HB HJn
      obtain ⟨at2, who2, rfl, rfl, HJn, hph⟩ := hrel
      obtain ⟨ok3, KA3, KC3, RA3, RC3, HB3⟩ := HJn.out
      have HB := Lib.hid HB3
      clear HB3 ok3
      rcases hph with ⟨hg1, rfl, rfl, rfl⟩ | ⟨hg1, rfl, HFin⟩
      ·rcases HLs.out with ⟨hno, hli⟩ | ⟨h11, h2, hch, -, hli⟩
       ·have HFin := Lib.hid hli
        clear hli HLs
        by_cases k11 : x.k = 11
        ·have t1 : (x.k != 11) = false := by rw [k11]; rfl
         have t2 : (x.co != 2) = true := bne_iff_ne.2 (fun q => hno ⟨k11, q⟩)
         clear hno k11
         go_wp2_with (first | ((with_reducible refine zai HB ?_); clear HB; intro w_ HB) | ((with_reducible refine zab ?_); first | refine Kx.l1 HB rfl rfl ?_ | refine Kx.la HB rfl ?_) | ((with_reducible refine zac ?_); first | refine l1g HB rfl rfl rfl ?_ | refine Kx.lag HB rfl rfl ?_))
         go_roundg 1
         case measure => omega
         case rel => exact ⟨_, _, rfl, rfl, HJn, .inr ⟨rfl, rfl, HFin⟩⟩
        ·have t1 : (x.k != 11) = true := bne_iff_ne.2 k11
         clear hno k11
         go_wp2_with (first | ((with_reducible refine zai HB ?_); clear HB; intro w_ HB) | ((with_reducible refine zab ?_); first | refine Kx.l1 HB rfl rfl ?_ | refine Kx.la HB rfl ?_) | ((with_reducible refine zac ?_); first | refine l1g HB rfl rfl rfl ?_ | refine Kx.lag HB rfl rfl ?_))
         go_roundg 1
         case measure => omega
         case rel => exact ⟨_, _, rfl, rfl, HJn, .inr ⟨rfl, rfl, HFin⟩⟩
       ·have HFin := Lib.hid hli
        have t1 : (x.k != 11) = false := by rw [h11]; rfl
        have t2 : (x.co != 2) = false := by rw [h2]; rfl
        have hmx := HN2.out
        have hlo := HLv.out
        clear hli HLs h11 h2
        by_cases z1 : 0 ≤ at2
        ·have t3 : decide (0 ≤ at2) = true := decide_eq_true z1
         by_cases z2 : who2 = x.t
         ·have t4 : (who2 != x.t) = false := by rw [z2]; simp
          clear hch z1 z2 hmx hlo
          go_wp2_with (first | ((with_reducible refine zai HB ?_); clear HB; intro w_ HB) | ((with_reducible refine zab ?_); first | refine Kx.l1 HB rfl rfl ?_ | refine Kx.la HB rfl ?_) | ((with_reducible refine zac ?_); first | refine l1g HB rfl rfl rfl ?_ | refine Kx.lag HB rfl rfl ?_))
          go_roundg 1
          case measure => omega
          case rel => exact ⟨_, _, rfl, rfl, HJn, .inr ⟨rfl, rfl, HFin⟩⟩
         ·have t4 : (who2 != x.t) = true := bne_iff_ne.2 z2
          have z3 : c.l + c.m ≤ n2 - at2 := by
           rcases hch with q | q | q
           ·omega
           ·exact absurd q z2
           ·exact q
          have t5 : decide (n2 - at2 < c.l + c.m) = false := decide_eq_false (by omega)
          have t6 : IntKind.i64.wrap (n2 - at2) = n2 - at2 := by rw [IntKind.wrap_i64]; omega
          have t7 : IntKind.i64.wrap (c.l + c.m) = c.l + c.m := by rw [IntKind.wrap_i64]; omega
          clear hch z1 z2 z3 hmx hlo
          go_wp2_with (first | ((with_reducible refine zai HB ?_); clear HB; intro w_ HB) | ((with_reducible refine zab ?_); first | refine Kx.l1 HB rfl rfl ?_ | refine Kx.la HB rfl ?_) | ((with_reducible refine zac ?_); first | refine l1g HB rfl rfl rfl ?_ | refine Kx.lag HB rfl rfl ?_))
          go_roundg 1
          case measure => omega
          case rel => exact ⟨_, _, rfl, rfl, HJn, .inr ⟨rfl, rfl, HFin⟩⟩
        ·have t3 : decide (0 ≤ at2) = false := decide_eq_false z1
         clear hch z1 hmx hlo
         go_wp2_with (first | ((with_reducible refine zai HB ?_); clear HB; intro w_ HB) | ((with_reducible refine zab ?_); first | refine Kx.l1 HB rfl rfl ?_ | refine Kx.la HB rfl ?_) | ((with_reducible refine zac ?_); first | refine l1g HB rfl rfl rfl ?_ | refine Kx.lag HB rfl rfl ?_))
         go_roundg 1
         case measure => omega
         case rel => exact ⟨_, _, rfl, rfl, HJn, .inr ⟨rfl, rfl, HFin⟩⟩
      ·clear HLs
       go_wp2_with (first | ((with_reducible refine zai HB ?_); clear HB; intro w_ HB) | ((with_reducible refine zab ?_); first | refine Kx.l1 HB rfl rfl ?_ | refine Kx.la HB rfl ?_) | ((with_reducible refine zac ?_); first | refine l1g HB rfl rfl rfl ?_ | refine Kx.lag HB rfl rfl ?_))
       go_roundg (gq - 1)
       case measure => omega
       case rel => exact ⟨k + 1, a1, s1, rs', F, at2, who2, n2, by omega, rfl, rfl, rfl, by go_num, Lib.hid HN2.out.1, Lib.hid (by have := HLi.out; rwa [show (k + 1) * 8200 = k * 8200 + 8200 by omega]), Lib.hid (HFin.out), Lib.hid (HJn.out.tail.zbl)⟩
  ·obtain rfl : k = len := by omega
   obtain ⟨ok, KA, KC, RA, RC, HB2⟩ := HJ.out
   have HB := Lib.hid HB2
   have d0 : decide ((k : Int) < (k : Int)) = false := by simp
   clear HB2 ok HI HJ HFo2 HAt HRd HLen HT
   go_wp2_with (first | ((with_reducible refine zai HB ?_); clear HB; intro w_ HB) | ((with_reducible refine zab ?_); first | refine Kx.l1 HB rfl rfl ?_ | refine Kx.la HB rfl ?_) | ((with_reducible refine zac ?_); first | refine l1g HB rfl rfl rfl ?_ | refine Kx.lag HB rfl rfl ?_))
   go_ret
   exact ⟨rfl, HB.out.below⟩
end Go.Proofs.YteebjplkkglfjaaGreatDoor
