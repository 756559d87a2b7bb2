/- AcceptorAnswers: the law's walk. -/
import Derived.Test.YtbkdenlhfigjhaaDoorAk
import Derived.Test.YtbkdenlhfigjhaaDoorAo
import Derived.Test.YtbkdenlhfigjhaaDoorAzi
import Derived.Test.YtbkdenlhfigjhaaDoorBQM
namespace Go.Proofs.YtbkdenlhfigjhaaDoor
open Go.RowKit Go.Shelf Km Kx Kc Kt
set_option linter.unusedVariables false
set_option linter.unusedSimpArgs false

/-- a whole value from anywhere, as a region that draws asks it -/
theorem tells_cells {P : Program} {w : World} {f : Operand → Value} {d : Option Tmp} {ty t2 : TypeId} {x : Operand} {pos : String} {af : Array Edge} {g : Option (Nat × Bool)} (ad : Addr) (hx : f x = .pointer (some ad)) (cs : List Value)
  (hA : (isAgg ty).run P w = .ok true w) (hi : (P.info? ty).map (·.size) = some cs.length) (hc : ∀ j v, cs[j]? = some v → w.cell? (ad.add j) = some v) : (execOp f (Oper.mk d (.load ty x) t2 pos af g)).run P w = .ok (.value (.agg cs.toArray)) w := by
 have hl : (loadCells ad cs.length).run P w = .ok cs.toArray w := run_loadCells_list (P := P) w ad cs hc
 have hv : (loadVar ty ad).run P w = .ok (.agg cs.toArray) w := by
  cases hq : P.info? ty with
  | none => simp [hq] at hi
  | some i =>
   have hs : i.size = cs.length := by simpa [hq] using hi
   simp [loadVar, Sem.run_bind, hA, sizeOf, typeInfo, hq, hs, hl]
 unfold execOp
 simp only [hx, Instr.loadAt, Instr.sureAddr, Sem.run_bind, Sem.run_pure, Result.andThen_ok, hv]

theorem Great_any (A : Option Addr) (len cap : Nat) (b : Bool) (hb : decide (150 < (len : Int)) = b) (w : World) :
  Calls Tryd.prog 7 #[.slice A len cap] w fun e w' => e = .returned (.bool b) ∧ Below w.heap.size w w' := by
 have hB := Lib.hid (Below.refl w.heap.size w)
 go_enter Tryd.func7, Tryd.ntmps7
 go_wp2
 go_ret
 exact ⟨by first | rw [hb] | rfl, hB.out⟩

set_option maxRecDepth 100000 in
set_option maxHeartbeats 4000000 in
theorem answers_walk (y : Cf × List Int) (node : Int) (A : Option Addr) (len cap : Nat) (os : List Op) (w : World) (hc : CfAt w y.1 y.2) (w1 : (Lit.int .u8 node).wf = true) (w2 : os.length = len ∧ len ≤ cap ∧ cap ≤ maxLen ∧ (∀ p ∈ os, p.At w w.heap.size) ∧ Rd w w.heap.size A (cat Op.cells os)) (ht : Tbs w) :
  Calls Tryd.prog 3 #[.agg (cf y.1).toArray, .int .u8 node, .slice A len cap] w fun e w' => e = .returned (.bool true) ∧ Below w.heap.size w w' := by
 obtain ⟨c, xs⟩ := y
 dsimp only at hc ⊢
 obtain ⟨hlen, -, -, hat, hrd⟩ := w2
 have hnb : 0 ≤ node ∧ node ≤ 255 := wf_one rfl rfl w1
 have c1 : IntKind.i64.wrap node = node := IntWalk.i64_in _ (by omega)
 have c2' : wrap64 node = node := IntWalk.wrap64_in _ (by omega)
 clear w1
 have HB : Hid (Bxs w w [] [] (ofz os ++ [(c.ta, i64s xs)])) := Lib.hid (stayAllOld ((Bxs.start w).stayOld hc.rd) (ofz_rd hat))
 have HHd : Hid (∀ W, Below w.heap.size w W → Calls Tryd.prog 5 #[] W fun e w' => e = .returned (.bool true) ∧ Below W.heap.size W w') := Lib.hid (fun W hb => head_any W (ht.1.below hb (Nat.le_refl _)) (ht.2.below hb (Nat.le_refl _)))
 obtain ⟨F0, hF0⟩ : ∃ F0, F0 = ofz os ++ [(c.ta, i64s xs)] := ⟨_, rfl⟩
 rw [← hF0] at HB
 have HF : Hid (Within [(c.ta, i64s xs)] F0) := Lib.hid (fun q hq => .inr (by rw [hF0]; exact List.mem_append.2 (.inr hq)))
 have HFo : Hid (∀ o ∈ os, Within (mfz o.m.ms o.m.lo) F0) := Lib.hid (fun o ho q hq => .inr (by rw [hF0]; exact List.mem_append.2 (.inl (ofz_mem ho q hq))))
 clear hF0
 have HL := Lib.hid hc.len
 have HAt := Lib.hid hat
 have HRd := Lib.hid hrd
 have HLen := Lib.hid hlen
 have HT := Lib.hid ht
 clear hat hrd hlen
 by_cases hn : NewOk c xs node
 ·obtain ⟨N, hN⟩ : ∃ N : Nat, c.targets = (N : Int) := ⟨c.targets.toNat, by have := hn.1.targets; omega⟩
  have HNw := Lib.hid (fun (W : World) (L : List (Nat × List Value)) (r' : List Rw) (q : Bxs w W L r' F0) => New_x q c xs node N HF.out HL.out hn hN)
  have hN16 : N ≤ 16 := by have := hn.1.targets.2; omega
  have hcl : 0 ≤ c.l ∧ c.l ≤ 1048576 := by have := hn.1.l; omega
  have hcm : 0 ≤ c.m ∧ c.m ≤ 1048576 := hn.1.m
  clear hc ht hn hN
  by_cases hgr : 150 < (len : Int)
  ·have HG := Lib.hid (Great_any A len cap true (decide_eq_true hgr))
   clear hgr HFo HAt HRd HLen HT
   go_enter Tryd.func3, Tryd.ntmps3
   go_wp2_with (first | (go_at_call 5; refine Calls.mono (HHd.out _ HB.out.below) ?_; rintro e w_ ⟨rfl, hb_⟩; replace HB := Lib.hid (HB.out.call hb_); clear hb_) | (go_at_call 6; fail) | (first | ((with_reducible refine Kx.absorb HB ?_); clear HB; intro w_ HB) | ((with_reducible refine Kx.box_gate ?_); (first | refine Kx.boxa HB rfl ?_ | refine Kx.boxt HB rfl rfl ?_ | refine Kx.box1 HB rfl rfl ?_); clear HB; intro b_ w_ HB; refine Kx.fr ?_) | ((with_reducible refine Kx.alloc_gate ?_); (first | refine Kx.ala HB ?_ | refine Kx.al1 HB ?_); clear HB; intro b_ w_ HB; refine Kx.fr ?_) | ((with_reducible refine Kx.loads_gate ?_); first | refine Kx.l1 HB rfl rfl ?_ | refine Kx.la HB rfl ?_ | refine Kx.lo HB rfl HC.out ?_) | ((with_reducible refine Kx.loadg_gate ?_); first | refine Kx.l1g HB rfl rfl rfl ?_ | refine Kx.lag HB rfl rfl ?_ | refine Kx.log HB rfl HC.out rfl ?_) | ((with_reducible refine Kx.store_gate ?_); (first | refine Kx.stwa HB rfl rfl ?_ | refine Kx.sta HB rfl rfl ?_ | refine Kx.stc HB rfl rfl ?_ | refine Kx.stt HB rfl rfl rfl ?_ | refine Kx.st1 HB rfl rfl rfl ?_); clear HB; intro w_ HB)))
   refine (HNw.out _ _ _ HB.out).mono ?_
   rintro e w2 ⟨⟨ga, g, A2, c2, p⟩, rfl, HJ, hx, hf⟩
   dsimp only at HJ hx hf
   obtain ⟨ok, KA, KC, RA, RC, HB2⟩ := HJ
   clear HB
   have HB := Lib.hid HB2
   clear HB2 hx hf ok
   go_wp2_with (first | (go_at_call 7; refine Calls.mono (HG.out _) ?_; rintro e w_ ⟨rfl, hb_⟩; replace HB := Lib.hid (HB.out.call hb_); clear hb_) | (first | ((with_reducible refine Kx.absorb HB ?_); clear HB; intro w_ HB) | ((with_reducible refine Kx.box_gate ?_); (first | refine Kx.boxa HB rfl ?_ | refine Kx.boxt HB rfl rfl ?_ | refine Kx.box1 HB rfl rfl ?_); clear HB; intro b_ w_ HB; refine Kx.fr ?_) | ((with_reducible refine Kx.alloc_gate ?_); (first | refine Kx.ala HB ?_ | refine Kx.al1 HB ?_); clear HB; intro b_ w_ HB; refine Kx.fr ?_) | ((with_reducible refine Kx.loads_gate ?_); first | refine Kx.l1 HB rfl rfl ?_ | refine Kx.la HB rfl ?_ | refine Kx.lo HB rfl HC.out ?_) | ((with_reducible refine Kx.loadg_gate ?_); first | refine Kx.l1g HB rfl rfl rfl ?_ | refine Kx.lag HB rfl rfl ?_ | refine Kx.log HB rfl HC.out rfl ?_) | ((with_reducible refine Kx.store_gate ?_); (first | refine Kx.stwa HB rfl rfl ?_ | refine Kx.sta HB rfl rfl ?_ | refine Kx.stc HB rfl rfl ?_ | refine Kx.stt HB rfl rfl rfl ?_ | refine Kx.st1 HB rfl rfl rfl ?_); clear HB; intro w_ HB)))
   go_ret
   exact ⟨rfl, HB.out.below⟩
  have hle : len ≤ 150 := by omega
  have HG := Lib.hid (Great_any A len cap false (decide_eq_false hgr))
  clear hgr
  go_enter Tryd.func3, Tryd.ntmps3
  go_wp2_with (first | (go_at_call 5; refine Calls.mono (HHd.out _ HB.out.below) ?_; rintro e w_ ⟨rfl, hb_⟩; replace HB := Lib.hid (HB.out.call hb_); clear hb_) | (go_at_call 6; fail) | (first | ((with_reducible refine Kx.absorb HB ?_); clear HB; intro w_ HB) | ((with_reducible refine Kx.box_gate ?_); (first | refine Kx.boxa HB rfl ?_ | refine Kx.boxt HB rfl rfl ?_ | refine Kx.box1 HB rfl rfl ?_); clear HB; intro b_ w_ HB; refine Kx.fr ?_) | ((with_reducible refine Kx.alloc_gate ?_); (first | refine Kx.ala HB ?_ | refine Kx.al1 HB ?_); clear HB; intro b_ w_ HB; refine Kx.fr ?_) | ((with_reducible refine Kx.loads_gate ?_); first | refine Kx.l1 HB rfl rfl ?_ | refine Kx.la HB rfl ?_ | refine Kx.lo HB rfl HC.out ?_) | ((with_reducible refine Kx.loadg_gate ?_); first | refine Kx.l1g HB rfl rfl rfl ?_ | refine Kx.lag HB rfl rfl ?_ | refine Kx.log HB rfl HC.out rfl ?_) | ((with_reducible refine Kx.store_gate ?_); (first | refine Kx.stwa HB rfl rfl ?_ | refine Kx.sta HB rfl rfl ?_ | refine Kx.stc HB rfl rfl ?_ | refine Kx.stt HB rfl rfl rfl ?_ | refine Kx.st1 HB rfl rfl rfl ?_); clear HB; intro w_ HB)))
  refine (HNw.out _ _ _ HB.out).mono ?_
  rintro e w2 ⟨⟨ga, g, A2, c2, p⟩, rfl, HJ, hx, hf⟩
  dsimp only at HJ hx hf
  obtain ⟨F, hF⟩ : ∃ F, F = (p.A, i64s p.x.pen) :: F0 := ⟨_, rfl⟩
  rw [← hF] at HJ
  have HFo2 : Hid (∀ o ∈ os, Within (mfz o.m.ms o.m.lo) F) := Lib.hid (fun o ho q hq => (HFo.out o ho q hq).imp id (fun k => by rw [hF]; exact List.mem_cons_of_mem _ k))
  have HI0 : Hid (Inv F node (newA { c with ta := A2, tn := c.tn, tc := c2 } node p)) := Lib.hid ⟨⟨hf, zfz_in hx (by rw [hF]; exact List.mem_cons_self ..), by show p.x.right = true; rw [hx]; exact zq_right hN16 ⟨by decide, by decide⟩ ⟨by decide, by decide⟩⟩, .inl rfl, I0, I0, rfl, hcl, hcm⟩
  obtain ⟨a0, ha0⟩ : ∃ a, a = newA { c with ta := A2, tn := c.tn, tc := c2 } node p := ⟨_, rfl⟩
  rw [← ha0] at HJ HI0
  have HJ0 := Lib.hid HJ.tail2
  obtain ⟨ok, KA, KC, RA, RC, HB2⟩ := HJ
  clear HB HNw HHd HF HFo hF ha0
  have HB := Lib.hid HB2
  clear HB2 hx hf ok hcl hcm hN16
  go_wp2_with (first | (go_at_call 7; refine Calls.mono (HG.out _) ?_; rintro e w_ ⟨rfl, hb_⟩; replace HB := Lib.hid (HB.out.call hb_); clear hb_) | (first | ((with_reducible refine Kx.absorb HB ?_); clear HB; intro w_ HB) | ((with_reducible refine Kx.box_gate ?_); (first | refine Kx.boxa HB rfl ?_ | refine Kx.boxt HB rfl rfl ?_ | refine Kx.box1 HB rfl rfl ?_); clear HB; intro b_ w_ HB; refine Kx.fr ?_) | ((with_reducible refine Kx.alloc_gate ?_); (first | refine Kx.ala HB ?_ | refine Kx.al1 HB ?_); clear HB; intro b_ w_ HB; refine Kx.fr ?_) | ((with_reducible refine Kx.loads_gate ?_); first | refine Kx.l1 HB rfl rfl ?_ | refine Kx.la HB rfl ?_ | refine Kx.lo HB rfl HC.out ?_) | ((with_reducible refine Kx.loadg_gate ?_); first | refine Kx.l1g HB rfl rfl rfl ?_ | refine Kx.lag HB rfl rfl ?_ | refine Kx.log HB rfl HC.out rfl ?_) | ((with_reducible refine Kx.store_gate ?_); (first | refine Kx.stwa HB rfl rfl ?_ | refine Kx.sta HB rfl rfl ?_ | refine Kx.stc HB rfl rfl ?_ | refine Kx.stt HB rfl rfl rfl ?_ | refine Kx.st1 HB rfl rfl rfl ?_); clear HB; intro w_ HB)))
  go_loopg [9] len (fun gh ix wr => ∃ (k : Nat) (a : Ac) (s : Jm.St), gh + k = len ∧ ix = .int .i64 (k : Int) ∧ Hid (Inv F node a ∧ Live s (k * 8200)) ∧ Hid (Jbx w wr g s [(ga, a.cells g)] [] F))
  case atStart => exact ⟨0, a0, Jm.new, by omega, rfl, Lib.hid ⟨HI0.out, by rw [Nat.zero_mul]; exact live_new⟩, Lib.hid (Jbx.tail2 ⟨Jm.ok_new, _, _, _, _, HB.out⟩)⟩
  case round =>
   clear HB HJ0 HI0 HG
   obtain ⟨k, a, s, hk, rfl, HI, HJ⟩ := hrel
   by_cases hlt : k < len
   ·obtain ⟨o, ho⟩ : ∃ o, os[k]? = some o := ⟨os[k]'(by rw [HLen.out]; exact hlt), List.getElem?_eq_getElem _⟩
    have hmem := List.mem_of_getElem? ho
    obtain ⟨ad, rfl, hlt2, hcc⟩ := Rd.part Op.cells_len HRd.out ho (by decide)
    have d3 : (k : Int) < (len : Int) := by omega
    obtain ⟨R, hR⟩ : ∃ R, R = handle a s o.m.ms o.m.lo o.now := ⟨_, rfl⟩
    have hres : ResOk F node o.m.ms (k * 8200 + 8200) R := by rw [hR]; exact handle_ok HI.out.1 HI.out.2 (Mg.msOk (HAt.out o hmem).m) (HFo2.out o hmem) hnb
    have HCl : Hid (∀ W, Jbx w W g s [(ga, a.cells g)] [] F → Calls Tryd.prog 8 #[.pointer (some ⟨ga, 0, none⟩), .agg o.m.cells.toArray, .int .i64 o.now] W fun e w' => Outs w w' ga g [] [] F R e) := Lib.hid (fun W q => by
     rw [hR]
     exact handle_any q HI.out.1.ok o.m.ms o.m.lo o.now (Mg.msOk (HAt.out o hmem).m) (HFo2.out o hmem) HT.out.1 HT.out.2 (by have := HI.out.2.len; omega))
    have hcc' : ∀ j u, (Op.cells o)[j]? = some u → w.cell? ((ad.add (k * 29)).add j) = some u := fun j u hu => by rw [addr_add_add]; exact hcc j u hu
    have HC1 : Hid (∀ j v, o.m.cells[j]? = some v → w.cell? (Addr.add ⟨(ad.add (k * 29)).block, (ad.add (k * 29)).off + 1, none⟩ j) = some v) := Lib.hid (fun j v hj => by
     have h := hcc' (j + 1) v (by
      show (o.m.cells ++ [Value.int .i64 o.now, .int .i64 o.n])[j]? = some v
      rw [List.getElem?_append_left (List.getElem?_eq_some_iff.1 hj).1]
      exact hj)
     rw [Addr.add_succ'] at h
     have e : (ad.add (k * 29)).off + 1 + j = (ad.add (k * 29)).off + (j + 1) := by omega
     rw [Addr.add_lit, e]
     exact h)
    have HC2 : Hid (w.cell? ⟨(ad.add (k * 29)).block, (ad.add (k * 29)).off + 27, none⟩ = some (.int .i64 o.now)) := Lib.hid (hcc' 27 _ rfl)
    have HK : Hid (w.cell? ⟨(ad.add (k * 29)).block, (ad.add (k * 29)).off + 1, none⟩ = some (.int .i64 o.m.k)) := Lib.hid (hcc' 1 _ rfl)
    have HFr : Hid (w.cell? ⟨(ad.add (k * 29)).block, (ad.add (k * 29)).off + 1 + 1, none⟩ = some (.int .i64 o.m.f)) := Lib.hid (hcc' 2 _ rfl)
    have HEp : Hid (w.cell? ⟨(ad.add (k * 29)).block, (ad.add (k * 29)).off + 1 + 3, none⟩ = some (.int .i64 o.m.e)) := Lib.hid (hcc' 4 _ rfl)
    have HNo : Hid (w.cell? ⟨(ad.add (k * 29)).block, (ad.add (k * 29)).off + 1 + 6, none⟩ = some (.int .i64 o.m.n)) := Lib.hid (hcc' 7 _ rfl)
    have HCo : Hid (w.cell? ⟨(ad.add (k * 29)).block, (ad.add (k * 29)).off + 1 + 9, none⟩ = some (.int .i64 o.m.co)) := Lib.hid (hcc' 10 _ rfl)
    have HRes := Lib.hid hres
    have HAo := Lib.hid (HAt.out o hmem)
    have him : (Tryd.prog.info? 39).map (·.size) = some 26 := by kernel_rfl
    obtain ⟨ok, KA, KC, RA, RC, HB2⟩ := HJ.out
    have HB := Lib.hid HB2
    have HOk := Lib.hid ok
    clear HB2 ok hR hres HI HJ hcc hcc' hmem ho HFo2 HAt HRd HLen HT hlt2
    obtain ⟨a1, s1, o1⟩ := R
    go_upto_region 8 with (first | ((with_reducible refine Kx.absorb HB ?_); clear HB; intro w_ HB) | ((with_reducible refine Kx.box_gate ?_); (first | refine Kx.boxa HB rfl ?_ | refine Kx.boxt HB rfl rfl ?_ | refine Kx.box1 HB rfl rfl ?_); clear HB; intro b_ w_ HB; refine Kx.fr ?_) | ((with_reducible refine Kx.alloc_gate ?_); (first | refine Kx.ala HB ?_ | refine Kx.al1 HB ?_); clear HB; intro b_ w_ HB; refine Kx.fr ?_) | ((with_reducible refine Kx.loads_gate ?_); first | refine Kx.l1 HB rfl rfl ?_ | refine Kx.la HB rfl ?_ | refine Kx.lo HB rfl HC.out ?_) | ((with_reducible refine Kx.loadg_gate ?_); first | refine Kx.l1g HB rfl rfl rfl ?_ | refine Kx.lag HB rfl rfl ?_ | refine Kx.log HB rfl HC.out rfl ?_) | ((with_reducible refine Kx.store_gate ?_); (first | refine Kx.stwa HB rfl rfl ?_ | refine Kx.sta HB rfl rfl ?_ | refine Kx.stc HB rfl rfl ?_ | refine Kx.stt HB rfl rfl rfl ?_ | refine Kx.st1 HB rfl rfl rfl ?_); clear HB; intro w_ HB))
    have hsub : ∀ w', Jbx w w' g s [(ga, a.cells g)] [] F → ∃ (s' : Jm.St) (a' : Ac), Jbx w w' g s' [(ga, a'.cells g)] [] F := fun w' q => ⟨s, a, q⟩
    have hbe : BearsC (fun w' => Jbx w w' g s [(ga, a.cells g)] [] F) := Jbx.bears
    refine Kx.region_S (fun w' => ∃ (s' : Jm.St) (a' : Ac), Jbx w w' g s' [(ga, a'.cells g)] [] F) (fun w' => Jbx w w' g s [(ga, a.cells g)] [] F) (fun i => false) (by kernel_rfl) (show Jbx w _ g s [(ga, a.cells g)] [] F from ⟨HOk.out, _, _, _, _, HB.out.drew⟩) ?_
    refine Kx.tkS 0 rfl hsub ?_
    refine Kx.tkS 1 rfl hsub ?_
    refine Kx.tkS 2 rfl hsub ?_
    refine Kx.tkS 3 rfl hsub ?_
    refine Kx.tkS 4 rfl hsub ?_
    refine Kx.tkS 5 rfl hsub ?_ (v := .agg o.m.cells.toArray) (hy := fun w1 ⟨s', a', ok, KA, KC, RA, RC, hB⟩ => tells_cells ⟨(ad.add (k * 29)).block, (ad.add (k * 29)).off + 1, none⟩ rfl o.m.cells (Tryd.isAgg39 _) him (fun j v hj => hB.old (HC1.out j v hj)))
    refine Kx.tkS 6 rfl hsub ?_
    refine Kx.tkS 7 rfl hsub ?_
    refine Kx.tkS 8 rfl hsub ?_
    refine Kx.tkS 9 rfl hsub ?_
    refine Kx.tkS 10 rfl hsub ?_ (v := .int .i64 o.now) (hy := fun w1 ⟨s', a', ok, KA, KC, RA, RC, hB⟩ => tells_cell ⟨(ad.add (k * 29)).block, (ad.add (k * 29)).off + 27, none⟩ rfl (Tryd.isAgg2 _) (hB.old HC2.out))
    clear HB
    cases o1 with
    | none =>
     have hbe2 : BearsC (fun w' => Jbx w w' g s1 [(ga, a1.cells g)] [] F) := Jbx.bears
     refine Kx.callS (ι := Unit) 11 (fun _ => .slice none 0 0) (fun _ w' => Jbx w w' g s1 [(ga, a1.cells g)] [] F) () rfl (fun _ => hbe2) (fun _ w' q => ⟨_, _, q⟩) ?e (fun w hw => (HCl.out _ hw).mono fun e w' q => ⟨(), q⟩) ?h
     case e => (intro w hw; go_simp; try (first | (refine ⟨?_, ?_⟩ <;> with_reducible rfl) | with_reducible rfl))
     intro y_
     refine Kx.lsS 12 rfl (fun w q => ⟨_, _, q⟩) ?_
     refine anyW_done (by kernel_rfl) ?_
     intro w_ HJ_
     obtain ⟨ok, KA, KC, RA, RC, HB2⟩ := HJ_
     have HB := Lib.hid HB2
     clear HB2 HCl
     go_wp2_with (first | ((with_reducible refine Kx.absorb HB ?_); clear HB; intro w_ HB) | ((with_reducible refine Kx.box_gate ?_); (first | refine Kx.boxa HB rfl ?_ | refine Kx.boxt HB rfl rfl ?_ | refine Kx.box1 HB rfl rfl ?_); clear HB; intro b_ w_ HB; refine Kx.fr ?_) | ((with_reducible refine Kx.alloc_gate ?_); (first | refine Kx.ala HB ?_ | refine Kx.al1 HB ?_); clear HB; intro b_ w_ HB; refine Kx.fr ?_) | ((with_reducible refine Kx.loads_gate ?_); first | refine Kx.l1 HB rfl rfl ?_ | refine Kx.la HB rfl ?_ | refine Kx.lo HB rfl HC.out ?_) | ((with_reducible refine Kx.loadg_gate ?_); first | refine Kx.l1g HB rfl rfl rfl ?_ | refine Kx.lag HB rfl rfl ?_ | refine Kx.log HB rfl HC.out rfl ?_) | ((with_reducible refine Kx.store_gate ?_); (first | refine Kx.stwa HB rfl rfl ?_ | refine Kx.sta HB rfl rfl ?_ | refine Kx.stc HB rfl rfl ?_ | refine Kx.stt HB rfl rfl rfl ?_ | refine Kx.st1 HB rfl rfl rfl ?_); clear HB; intro w_ HB))
     go_roundg (gk - 1)
     case measure => omega
     case rel => exact ⟨k + 1, a1, s1, by omega, by go_num, Lib.hid ⟨HRes.out.1, by have := HRes.out.2.1; rwa [show (k + 1) * 8200 = k * 8200 + 8200 by omega]⟩, Lib.hid ⟨ok, _, _, _, _, HB.out⟩⟩
    | some q =>
     obtain ⟨x, lo⟩ := q
     have htd : AnsOk F node o.m.ms x lo := HRes.out.2.2 _ rfl
     have hbe2 : ∀ b, BearsC (fun w' => Jbx w w' g s1 [(b, mvs x lo), (ga, a1.cells g)] [] F) := fun _ => Jbx.bears
     refine Kx.callS (ι := Nat) 11 (fun b => .slice (some ⟨b, 0, none⟩) 1 1) (fun b w' => Jbx w w' g s1 [(b, mvs x lo), (ga, a1.cells g)] [] F) 0 rfl hbe2 (fun _ w' q => ⟨_, _, q.tail⟩) ?e2 (fun w hw => HCl.out _ hw) ?h2
     case e2 => (intro w hw; go_simp; try (first | (refine ⟨?_, ?_⟩ <;> with_reducible rfl) | with_reducible rfl))
     intro y_
     have hbe3 := hbe2 y_
     refine Kx.lsS 12 rfl (fun w q => ⟨_, _, q.tail⟩) ?_
     refine anyW_done (by kernel_rfl) ?_
     intro w_ HJ_
     obtain ⟨ok2, KA2, KC2, RA2, RC2, HB2⟩ := HJ_
     have HB := Lib.hid HB2
     have HOk2 := Lib.hid ok2
     clear HB2 HCl ok2 hbe hbe2 hbe3 hsub HOk HAo
     have HRg : Hid (∀ {W : World} {L : List (Nat × List Value)} {r' : List Rw}, Bxs w W L r' F → Calls Tryd.prog 9 #[.agg (mvs x lo).toArray] W fun e w' => e = .returned (.bool true) ∧ Below W.heap.size W w') := Lib.hid (fun q => by
      have := RMRight_any x lo _ _ (htd.ok.at htd.fz q) (Nat.le_refl _)
      rwa [htd.rt] at this)
     have d1 : (x.f != node) = false := by rw [htd.f]; simp
     have d2 : (x.t != o.m.f) = false := by rw [show x.t = o.m.f from htd.t]; simp
     have hkk : (o.m.k = 4 ∧ (x.k = 9 ∨ x.k = 5 ∨ x.k = 6)) ∨ (o.m.k = 7 ∧ (x.k = 9 ∨ x.k = 8 ∨ x.k = 6)) ∨ (o.m.k = 10 ∧ x.k = 11 ∧ x.n = o.m.n ∧ x.co = o.m.co ∧ x.e = o.m.e) := htd.k
     clear htd
     have HC := HK
     rcases hkk with ⟨hm, h | h | h⟩ | ⟨hm, h | h | h⟩ | ⟨hm, h, hn, hco, he⟩
     ·have f4 : (o.m.k == 4) = true := by rw [hm]; rfl
      have g9 : (x.k == 9) = true := by rw [h]; rfl
      have g5 : (x.k == 5) = false := by rw [h]; rfl
      have g6 : (x.k == 6) = false := by rw [h]; rfl
      clear hm h
      go_upto_region 22 with (first | ((with_reducible refine Kx.absorb HB ?_); clear HB; intro w_ HB) | ((with_reducible refine Kx.box_gate ?_); (first | refine Kx.boxa HB rfl ?_ | refine Kx.boxt HB rfl rfl ?_ | refine Kx.box1 HB rfl rfl ?_); clear HB; intro b_ w_ HB; refine Kx.fr ?_) | ((with_reducible refine Kx.alloc_gate ?_); (first | refine Kx.ala HB ?_ | refine Kx.al1 HB ?_); clear HB; intro b_ w_ HB; refine Kx.fr ?_) | ((with_reducible refine Kx.loads_gate ?_); first | refine Kx.l1 HB rfl rfl ?_ | refine Kx.la HB rfl ?_ | refine Kx.lo HB rfl HC.out ?_) | ((with_reducible refine Kx.loadg_gate ?_); first | refine Kx.l1g HB rfl rfl rfl ?_ | refine Kx.lag HB rfl rfl ?_ | refine Kx.log HB rfl HC.out rfl ?_) | ((with_reducible refine Kx.store_gate ?_); (first | refine Kx.stwa HB rfl rfl ?_ | refine Kx.sta HB rfl rfl ?_ | refine Kx.stc HB rfl rfl ?_ | refine Kx.stt HB rfl rfl rfl ?_ | refine Kx.st1 HB rfl rfl rfl ?_); clear HB; intro w_ HB))
      clear HC
      have HC := HFr
      refine Kx.region_x HB (fun i => false) (by kernel_rfl) ?_
      refine Kx.tk 0 rfl ?_
      refine Kx.tk 1 rfl ?_
      refine Kx.tk 2 rfl ?_
      refine Kx.tk 3 rfl ?_
      first | refine Kx.xl1 4 rfl rfl rfl ?_ | refine Kx.xla 4 rfl rfl ?_ | refine Kx.xlo 4 rfl rfl HC.out ?_
      refine Kx.tk 5 rfl ?_
      refine Kx.tk 6 rfl ?_
      refine Kx.tk 7 rfl ?_
      refine Kx.tk 8 rfl ?_
      refine Kx.tk 9 rfl ?_
      refine Kx.tk 10 rfl ?_
      first | refine Kx.xl1 11 rfl rfl rfl ?_ | refine Kx.xla 11 rfl rfl ?_ | refine Kx.xlo 11 rfl rfl HC.out ?_
      refine Kx.tk 12 rfl ?_
      refine Kx.tk 13 rfl ?_
      refine Kx.tk 14 rfl ?_
      refine Kx.tk 15 rfl ?_
      refine Kx.tk 16 rfl ?_
      first | refine Kx.xl1 17 rfl rfl rfl ?_ | refine Kx.xla 17 rfl rfl ?_ | refine Kx.xlo 17 rfl rfl HC.out ?_
      refine Kx.tk 18 rfl ?_
      refine Kx.tk 19 rfl ?_
      refine Kx.tk 20 rfl ?_
      first | refine Kx.xl1 21 rfl rfl rfl ?_ | refine Kx.xla 21 rfl rfl ?_ | refine Kx.xlo 21 rfl rfl HC.out ?_
      refine anyW_call (i := 22) (v := ?v22_1) (f := ?g22_1) (args := ?s22_1) (a' := ?a22_1) (by first | exact Kx.bears_x | exact bears_u | assumption) rfl (by kernel_rfl) (by kernel_rfl) (by kernel_rfl) (fun _ _ _ h => h) (by kernel_rfl) ?c22_1 ?w22_1 ?y22_1 ?f22_1 ?r22_1
      case w22_1 => kernel_rfl
      case y22_1 => (intro W hW; go_simp; first | (refine ⟨?_, ?_⟩ <;> with_reducible rfl) | with_reducible rfl)
      case c22_1 => (intro W hW; refine Calls.mono (HRg.out hW) ?_; rintro e w_ ⟨rfl, hb_⟩; refine ⟨?_, by first | exact hb_ | exact hb_ ▸ Below.refl _ _⟩; with_reducible rfl)
      case f22_1 => (go_simp; try with_reducible rfl)
      refine Kx.tk 23 rfl ?_
      refine Kx.tk 24 rfl ?_
      refine anyW_done (by kernel_rfl) ?_
      clear HB
      intro w_ HB_
      have HB := Lib.hid HB_
      clear HB_
      go_wp2_with (first | ((with_reducible refine Kx.absorb HB ?_); clear HB; intro w_ HB) | ((with_reducible refine Kx.box_gate ?_); (first | refine Kx.boxa HB rfl ?_ | refine Kx.boxt HB rfl rfl ?_ | refine Kx.box1 HB rfl rfl ?_); clear HB; intro b_ w_ HB; refine Kx.fr ?_) | ((with_reducible refine Kx.alloc_gate ?_); (first | refine Kx.ala HB ?_ | refine Kx.al1 HB ?_); clear HB; intro b_ w_ HB; refine Kx.fr ?_) | ((with_reducible refine Kx.loads_gate ?_); first | refine Kx.l1 HB rfl rfl ?_ | refine Kx.la HB rfl ?_ | refine Kx.lo HB rfl HC.out ?_) | ((with_reducible refine Kx.loadg_gate ?_); first | refine Kx.l1g HB rfl rfl rfl ?_ | refine Kx.lag HB rfl rfl ?_ | refine Kx.log HB rfl HC.out rfl ?_) | ((with_reducible refine Kx.store_gate ?_); (first | refine Kx.stwa HB rfl rfl ?_ | refine Kx.sta HB rfl rfl ?_ | refine Kx.stc HB rfl rfl ?_ | refine Kx.stt HB rfl rfl rfl ?_ | refine Kx.st1 HB rfl rfl rfl ?_); clear HB; intro w_ HB))
      go_roundg (gk - 1)
      case measure => omega
      case rel => exact ⟨k + 1, a1, s1, by omega, by go_num, Lib.hid ⟨HRes.out.1, by have := HRes.out.2.1; rwa [show (k + 1) * 8200 = k * 8200 + 8200 by omega]⟩, Lib.hid (Jbx.front HB.out HOk2.out).tail.tail⟩
     ·have f4 : (o.m.k == 4) = true := by rw [hm]; rfl
      have g9 : (x.k == 9) = false := by rw [h]; rfl
      have g5 : (x.k == 5) = true := by rw [h]; rfl
      have g6 : (x.k == 6) = false := by rw [h]; rfl
      clear hm h
      go_upto_region 22 with (first | ((with_reducible refine Kx.absorb HB ?_); clear HB; intro w_ HB) | ((with_reducible refine Kx.box_gate ?_); (first | refine Kx.boxa HB rfl ?_ | refine Kx.boxt HB rfl rfl ?_ | refine Kx.box1 HB rfl rfl ?_); clear HB; intro b_ w_ HB; refine Kx.fr ?_) | ((with_reducible refine Kx.alloc_gate ?_); (first | refine Kx.ala HB ?_ | refine Kx.al1 HB ?_); clear HB; intro b_ w_ HB; refine Kx.fr ?_) | ((with_reducible refine Kx.loads_gate ?_); first | refine Kx.l1 HB rfl rfl ?_ | refine Kx.la HB rfl ?_ | refine Kx.lo HB rfl HC.out ?_) | ((with_reducible refine Kx.loadg_gate ?_); first | refine Kx.l1g HB rfl rfl rfl ?_ | refine Kx.lag HB rfl rfl ?_ | refine Kx.log HB rfl HC.out rfl ?_) | ((with_reducible refine Kx.store_gate ?_); (first | refine Kx.stwa HB rfl rfl ?_ | refine Kx.sta HB rfl rfl ?_ | refine Kx.stc HB rfl rfl ?_ | refine Kx.stt HB rfl rfl rfl ?_ | refine Kx.st1 HB rfl rfl rfl ?_); clear HB; intro w_ HB))
      clear HC
      have HC := HFr
      refine Kx.region_x HB (fun i => false) (by kernel_rfl) ?_
      refine Kx.tk 0 rfl ?_
      refine Kx.tk 1 rfl ?_
      refine Kx.tk 2 rfl ?_
      refine Kx.tk 3 rfl ?_
      first | refine Kx.xl1 4 rfl rfl rfl ?_ | refine Kx.xla 4 rfl rfl ?_ | refine Kx.xlo 4 rfl rfl HC.out ?_
      refine Kx.tk 5 rfl ?_
      refine Kx.tk 6 rfl ?_
      refine Kx.tk 7 rfl ?_
      refine Kx.tk 8 rfl ?_
      refine Kx.tk 9 rfl ?_
      refine Kx.tk 10 rfl ?_
      first | refine Kx.xl1 11 rfl rfl rfl ?_ | refine Kx.xla 11 rfl rfl ?_ | refine Kx.xlo 11 rfl rfl HC.out ?_
      refine Kx.tk 12 rfl ?_
      refine Kx.tk 13 rfl ?_
      refine Kx.tk 14 rfl ?_
      refine Kx.tk 15 rfl ?_
      refine Kx.tk 16 rfl ?_
      first | refine Kx.xl1 17 rfl rfl rfl ?_ | refine Kx.xla 17 rfl rfl ?_ | refine Kx.xlo 17 rfl rfl HC.out ?_
      refine Kx.tk 18 rfl ?_
      refine Kx.tk 19 rfl ?_
      refine Kx.tk 20 rfl ?_
      first | refine Kx.xl1 21 rfl rfl rfl ?_ | refine Kx.xla 21 rfl rfl ?_ | refine Kx.xlo 21 rfl rfl HC.out ?_
      refine anyW_call (i := 22) (v := ?v22_2) (f := ?g22_2) (args := ?s22_2) (a' := ?a22_2) (by first | exact Kx.bears_x | exact bears_u | assumption) rfl (by kernel_rfl) (by kernel_rfl) (by kernel_rfl) (fun _ _ _ h => h) (by kernel_rfl) ?c22_2 ?w22_2 ?y22_2 ?f22_2 ?r22_2
      case w22_2 => kernel_rfl
      case y22_2 => (intro W hW; go_simp; first | (refine ⟨?_, ?_⟩ <;> with_reducible rfl) | with_reducible rfl)
      case c22_2 => (intro W hW; refine Calls.mono (HRg.out hW) ?_; rintro e w_ ⟨rfl, hb_⟩; refine ⟨?_, by first | exact hb_ | exact hb_ ▸ Below.refl _ _⟩; with_reducible rfl)
      case f22_2 => (go_simp; try with_reducible rfl)
      refine Kx.tk 23 rfl ?_
      refine Kx.tk 24 rfl ?_
      refine anyW_done (by kernel_rfl) ?_
      clear HB
      intro w_ HB_
      have HB := Lib.hid HB_
      clear HB_
      go_wp2_with (first | ((with_reducible refine Kx.absorb HB ?_); clear HB; intro w_ HB) | ((with_reducible refine Kx.box_gate ?_); (first | refine Kx.boxa HB rfl ?_ | refine Kx.boxt HB rfl rfl ?_ | refine Kx.box1 HB rfl rfl ?_); clear HB; intro b_ w_ HB; refine Kx.fr ?_) | ((with_reducible refine Kx.alloc_gate ?_); (first | refine Kx.ala HB ?_ | refine Kx.al1 HB ?_); clear HB; intro b_ w_ HB; refine Kx.fr ?_) | ((with_reducible refine Kx.loads_gate ?_); first | refine Kx.l1 HB rfl rfl ?_ | refine Kx.la HB rfl ?_ | refine Kx.lo HB rfl HC.out ?_) | ((with_reducible refine Kx.loadg_gate ?_); first | refine Kx.l1g HB rfl rfl rfl ?_ | refine Kx.lag HB rfl rfl ?_ | refine Kx.log HB rfl HC.out rfl ?_) | ((with_reducible refine Kx.store_gate ?_); (first | refine Kx.stwa HB rfl rfl ?_ | refine Kx.sta HB rfl rfl ?_ | refine Kx.stc HB rfl rfl ?_ | refine Kx.stt HB rfl rfl rfl ?_ | refine Kx.st1 HB rfl rfl rfl ?_); clear HB; intro w_ HB))
      go_roundg (gk - 1)
      case measure => omega
      case rel => exact ⟨k + 1, a1, s1, by omega, by go_num, Lib.hid ⟨HRes.out.1, by have := HRes.out.2.1; rwa [show (k + 1) * 8200 = k * 8200 + 8200 by omega]⟩, Lib.hid (Jbx.front HB.out HOk2.out).tail.tail⟩
     ·have f4 : (o.m.k == 4) = true := by rw [hm]; rfl
      have g9 : (x.k == 9) = false := by rw [h]; rfl
      have g5 : (x.k == 5) = false := by rw [h]; rfl
      have g6 : (x.k == 6) = true := by rw [h]; rfl
      clear hm h
      go_upto_region 22 with (first | ((with_reducible refine Kx.absorb HB ?_); clear HB; intro w_ HB) | ((with_reducible refine Kx.box_gate ?_); (first | refine Kx.boxa HB rfl ?_ | refine Kx.boxt HB rfl rfl ?_ | refine Kx.box1 HB rfl rfl ?_); clear HB; intro b_ w_ HB; refine Kx.fr ?_) | ((with_reducible refine Kx.alloc_gate ?_); (first | refine Kx.ala HB ?_ | refine Kx.al1 HB ?_); clear HB; intro b_ w_ HB; refine Kx.fr ?_) | ((with_reducible refine Kx.loads_gate ?_); first | refine Kx.l1 HB rfl rfl ?_ | refine Kx.la HB rfl ?_ | refine Kx.lo HB rfl HC.out ?_) | ((with_reducible refine Kx.loadg_gate ?_); first | refine Kx.l1g HB rfl rfl rfl ?_ | refine Kx.lag HB rfl rfl ?_ | refine Kx.log HB rfl HC.out rfl ?_) | ((with_reducible refine Kx.store_gate ?_); (first | refine Kx.stwa HB rfl rfl ?_ | refine Kx.sta HB rfl rfl ?_ | refine Kx.stc HB rfl rfl ?_ | refine Kx.stt HB rfl rfl rfl ?_ | refine Kx.st1 HB rfl rfl rfl ?_); clear HB; intro w_ HB))
      clear HC
      have HC := HFr
      refine Kx.region_x HB (fun i => false) (by kernel_rfl) ?_
      refine Kx.tk 0 rfl ?_
      refine Kx.tk 1 rfl ?_
      refine Kx.tk 2 rfl ?_
      refine Kx.tk 3 rfl ?_
      first | refine Kx.xl1 4 rfl rfl rfl ?_ | refine Kx.xla 4 rfl rfl ?_ | refine Kx.xlo 4 rfl rfl HC.out ?_
      refine Kx.tk 5 rfl ?_
      refine Kx.tk 6 rfl ?_
      refine Kx.tk 7 rfl ?_
      refine Kx.tk 8 rfl ?_
      refine Kx.tk 9 rfl ?_
      refine Kx.tk 10 rfl ?_
      first | refine Kx.xl1 11 rfl rfl rfl ?_ | refine Kx.xla 11 rfl rfl ?_ | refine Kx.xlo 11 rfl rfl HC.out ?_
      refine Kx.tk 12 rfl ?_
      refine Kx.tk 13 rfl ?_
      refine Kx.tk 14 rfl ?_
      refine Kx.tk 15 rfl ?_
      refine Kx.tk 16 rfl ?_
      first | refine Kx.xl1 17 rfl rfl rfl ?_ | refine Kx.xla 17 rfl rfl ?_ | refine Kx.xlo 17 rfl rfl HC.out ?_
      refine Kx.tk 18 rfl ?_
      refine Kx.tk 19 rfl ?_
      refine Kx.tk 20 rfl ?_
      first | refine Kx.xl1 21 rfl rfl rfl ?_ | refine Kx.xla 21 rfl rfl ?_ | refine Kx.xlo 21 rfl rfl HC.out ?_
      refine anyW_call (i := 22) (v := ?v22_3) (f := ?g22_3) (args := ?s22_3) (a' := ?a22_3) (by first | exact Kx.bears_x | exact bears_u | assumption) rfl (by kernel_rfl) (by kernel_rfl) (by kernel_rfl) (fun _ _ _ h => h) (by kernel_rfl) ?c22_3 ?w22_3 ?y22_3 ?f22_3 ?r22_3
      case w22_3 => kernel_rfl
      case y22_3 => (intro W hW; go_simp; first | (refine ⟨?_, ?_⟩ <;> with_reducible rfl) | with_reducible rfl)
      case c22_3 => (intro W hW; refine Calls.mono (HRg.out hW) ?_; rintro e w_ ⟨rfl, hb_⟩; refine ⟨?_, by first | exact hb_ | exact hb_ ▸ Below.refl _ _⟩; with_reducible rfl)
      case f22_3 => (go_simp; try with_reducible rfl)
      refine Kx.tk 23 rfl ?_
      refine Kx.tk 24 rfl ?_
      refine anyW_done (by kernel_rfl) ?_
      clear HB
      intro w_ HB_
      have HB := Lib.hid HB_
      clear HB_
      go_wp2_with (first | ((with_reducible refine Kx.absorb HB ?_); clear HB; intro w_ HB) | ((with_reducible refine Kx.box_gate ?_); (first | refine Kx.boxa HB rfl ?_ | refine Kx.boxt HB rfl rfl ?_ | refine Kx.box1 HB rfl rfl ?_); clear HB; intro b_ w_ HB; refine Kx.fr ?_) | ((with_reducible refine Kx.alloc_gate ?_); (first | refine Kx.ala HB ?_ | refine Kx.al1 HB ?_); clear HB; intro b_ w_ HB; refine Kx.fr ?_) | ((with_reducible refine Kx.loads_gate ?_); first | refine Kx.l1 HB rfl rfl ?_ | refine Kx.la HB rfl ?_ | refine Kx.lo HB rfl HC.out ?_) | ((with_reducible refine Kx.loadg_gate ?_); first | refine Kx.l1g HB rfl rfl rfl ?_ | refine Kx.lag HB rfl rfl ?_ | refine Kx.log HB rfl HC.out rfl ?_) | ((with_reducible refine Kx.store_gate ?_); (first | refine Kx.stwa HB rfl rfl ?_ | refine Kx.sta HB rfl rfl ?_ | refine Kx.stc HB rfl rfl ?_ | refine Kx.stt HB rfl rfl rfl ?_ | refine Kx.st1 HB rfl rfl rfl ?_); clear HB; intro w_ HB))
      go_roundg (gk - 1)
      case measure => omega
      case rel => exact ⟨k + 1, a1, s1, by omega, by go_num, Lib.hid ⟨HRes.out.1, by have := HRes.out.2.1; rwa [show (k + 1) * 8200 = k * 8200 + 8200 by omega]⟩, Lib.hid (Jbx.front HB.out HOk2.out).tail.tail⟩
     ·have f4 : (o.m.k == 4) = false := by rw [hm]; rfl
      have f7 : (o.m.k == 7) = true := by rw [hm]; rfl
      have g9 : (x.k == 9) = true := by rw [h]; rfl
      have g8 : (x.k == 8) = false := by rw [h]; rfl
      have g6 : (x.k == 6) = false := by rw [h]; rfl
      clear hm h
      go_upto_region 22 with (first | ((with_reducible refine Kx.absorb HB ?_); clear HB; intro w_ HB) | ((with_reducible refine Kx.box_gate ?_); (first | refine Kx.boxa HB rfl ?_ | refine Kx.boxt HB rfl rfl ?_ | refine Kx.box1 HB rfl rfl ?_); clear HB; intro b_ w_ HB; refine Kx.fr ?_) | ((with_reducible refine Kx.alloc_gate ?_); (first | refine Kx.ala HB ?_ | refine Kx.al1 HB ?_); clear HB; intro b_ w_ HB; refine Kx.fr ?_) | ((with_reducible refine Kx.loads_gate ?_); first | refine Kx.l1 HB rfl rfl ?_ | refine Kx.la HB rfl ?_ | refine Kx.lo HB rfl HC.out ?_) | ((with_reducible refine Kx.loadg_gate ?_); first | refine Kx.l1g HB rfl rfl rfl ?_ | refine Kx.lag HB rfl rfl ?_ | refine Kx.log HB rfl HC.out rfl ?_) | ((with_reducible refine Kx.store_gate ?_); (first | refine Kx.stwa HB rfl rfl ?_ | refine Kx.sta HB rfl rfl ?_ | refine Kx.stc HB rfl rfl ?_ | refine Kx.stt HB rfl rfl rfl ?_ | refine Kx.st1 HB rfl rfl rfl ?_); clear HB; intro w_ HB))
      clear HC
      have HC := HFr
      refine Kx.region_x HB (fun i => false) (by kernel_rfl) ?_
      refine Kx.tk 0 rfl ?_
      refine Kx.tk 1 rfl ?_
      refine Kx.tk 2 rfl ?_
      refine Kx.tk 3 rfl ?_
      first | refine Kx.xl1 4 rfl rfl rfl ?_ | refine Kx.xla 4 rfl rfl ?_ | refine Kx.xlo 4 rfl rfl HC.out ?_
      refine Kx.tk 5 rfl ?_
      refine Kx.tk 6 rfl ?_
      refine Kx.tk 7 rfl ?_
      refine Kx.tk 8 rfl ?_
      refine Kx.tk 9 rfl ?_
      refine Kx.tk 10 rfl ?_
      first | refine Kx.xl1 11 rfl rfl rfl ?_ | refine Kx.xla 11 rfl rfl ?_ | refine Kx.xlo 11 rfl rfl HC.out ?_
      refine Kx.tk 12 rfl ?_
      refine Kx.tk 13 rfl ?_
      refine Kx.tk 14 rfl ?_
      refine Kx.tk 15 rfl ?_
      refine Kx.tk 16 rfl ?_
      first | refine Kx.xl1 17 rfl rfl rfl ?_ | refine Kx.xla 17 rfl rfl ?_ | refine Kx.xlo 17 rfl rfl HC.out ?_
      refine Kx.tk 18 rfl ?_
      refine Kx.tk 19 rfl ?_
      refine Kx.tk 20 rfl ?_
      first | refine Kx.xl1 21 rfl rfl rfl ?_ | refine Kx.xla 21 rfl rfl ?_ | refine Kx.xlo 21 rfl rfl HC.out ?_
      refine anyW_call (i := 22) (v := ?v22_4) (f := ?g22_4) (args := ?s22_4) (a' := ?a22_4) (by first | exact Kx.bears_x | exact bears_u | assumption) rfl (by kernel_rfl) (by kernel_rfl) (by kernel_rfl) (fun _ _ _ h => h) (by kernel_rfl) ?c22_4 ?w22_4 ?y22_4 ?f22_4 ?r22_4
      case w22_4 => kernel_rfl
      case y22_4 => (intro W hW; go_simp; first | (refine ⟨?_, ?_⟩ <;> with_reducible rfl) | with_reducible rfl)
      case c22_4 => (intro W hW; refine Calls.mono (HRg.out hW) ?_; rintro e w_ ⟨rfl, hb_⟩; refine ⟨?_, by first | exact hb_ | exact hb_ ▸ Below.refl _ _⟩; with_reducible rfl)
      case f22_4 => (go_simp; try with_reducible rfl)
      refine Kx.tk 23 rfl ?_
      refine Kx.tk 24 rfl ?_
      refine anyW_done (by kernel_rfl) ?_
      clear HB
      intro w_ HB_
      have HB := Lib.hid HB_
      clear HB_
      go_wp2_with (first | ((with_reducible refine Kx.absorb HB ?_); clear HB; intro w_ HB) | ((with_reducible refine Kx.box_gate ?_); (first | refine Kx.boxa HB rfl ?_ | refine Kx.boxt HB rfl rfl ?_ | refine Kx.box1 HB rfl rfl ?_); clear HB; intro b_ w_ HB; refine Kx.fr ?_) | ((with_reducible refine Kx.alloc_gate ?_); (first | refine Kx.ala HB ?_ | refine Kx.al1 HB ?_); clear HB; intro b_ w_ HB; refine Kx.fr ?_) | ((with_reducible refine Kx.loads_gate ?_); first | refine Kx.l1 HB rfl rfl ?_ | refine Kx.la HB rfl ?_ | refine Kx.lo HB rfl HC.out ?_) | ((with_reducible refine Kx.loadg_gate ?_); first | refine Kx.l1g HB rfl rfl rfl ?_ | refine Kx.lag HB rfl rfl ?_ | refine Kx.log HB rfl HC.out rfl ?_) | ((with_reducible refine Kx.store_gate ?_); (first | refine Kx.stwa HB rfl rfl ?_ | refine Kx.sta HB rfl rfl ?_ | refine Kx.stc HB rfl rfl ?_ | refine Kx.stt HB rfl rfl rfl ?_ | refine Kx.st1 HB rfl rfl rfl ?_); clear HB; intro w_ HB))
      go_roundg (gk - 1)
      case measure => omega
      case rel => exact ⟨k + 1, a1, s1, by omega, by go_num, Lib.hid ⟨HRes.out.1, by have := HRes.out.2.1; rwa [show (k + 1) * 8200 = k * 8200 + 8200 by omega]⟩, Lib.hid (Jbx.front HB.out HOk2.out).tail.tail⟩
     ·have f4 : (o.m.k == 4) = false := by rw [hm]; rfl
      have f7 : (o.m.k == 7) = true := by rw [hm]; rfl
      have g9 : (x.k == 9) = false := by rw [h]; rfl
      have g8 : (x.k == 8) = true := by rw [h]; rfl
      have g6 : (x.k == 6) = false := by rw [h]; rfl
      clear hm h
      go_upto_region 22 with (first | ((with_reducible refine Kx.absorb HB ?_); clear HB; intro w_ HB) | ((with_reducible refine Kx.box_gate ?_); (first | refine Kx.boxa HB rfl ?_ | refine Kx.boxt HB rfl rfl ?_ | refine Kx.box1 HB rfl rfl ?_); clear HB; intro b_ w_ HB; refine Kx.fr ?_) | ((with_reducible refine Kx.alloc_gate ?_); (first | refine Kx.ala HB ?_ | refine Kx.al1 HB ?_); clear HB; intro b_ w_ HB; refine Kx.fr ?_) | ((with_reducible refine Kx.loads_gate ?_); first | refine Kx.l1 HB rfl rfl ?_ | refine Kx.la HB rfl ?_ | refine Kx.lo HB rfl HC.out ?_) | ((with_reducible refine Kx.loadg_gate ?_); first | refine Kx.l1g HB rfl rfl rfl ?_ | refine Kx.lag HB rfl rfl ?_ | refine Kx.log HB rfl HC.out rfl ?_) | ((with_reducible refine Kx.store_gate ?_); (first | refine Kx.stwa HB rfl rfl ?_ | refine Kx.sta HB rfl rfl ?_ | refine Kx.stc HB rfl rfl ?_ | refine Kx.stt HB rfl rfl rfl ?_ | refine Kx.st1 HB rfl rfl rfl ?_); clear HB; intro w_ HB))
      clear HC
      have HC := HFr
      refine Kx.region_x HB (fun i => false) (by kernel_rfl) ?_
      refine Kx.tk 0 rfl ?_
      refine Kx.tk 1 rfl ?_
      refine Kx.tk 2 rfl ?_
      refine Kx.tk 3 rfl ?_
      first | refine Kx.xl1 4 rfl rfl rfl ?_ | refine Kx.xla 4 rfl rfl ?_ | refine Kx.xlo 4 rfl rfl HC.out ?_
      refine Kx.tk 5 rfl ?_
      refine Kx.tk 6 rfl ?_
      refine Kx.tk 7 rfl ?_
      refine Kx.tk 8 rfl ?_
      refine Kx.tk 9 rfl ?_
      refine Kx.tk 10 rfl ?_
      first | refine Kx.xl1 11 rfl rfl rfl ?_ | refine Kx.xla 11 rfl rfl ?_ | refine Kx.xlo 11 rfl rfl HC.out ?_
      refine Kx.tk 12 rfl ?_
      refine Kx.tk 13 rfl ?_
      refine Kx.tk 14 rfl ?_
      refine Kx.tk 15 rfl ?_
      refine Kx.tk 16 rfl ?_
      first | refine Kx.xl1 17 rfl rfl rfl ?_ | refine Kx.xla 17 rfl rfl ?_ | refine Kx.xlo 17 rfl rfl HC.out ?_
      refine Kx.tk 18 rfl ?_
      refine Kx.tk 19 rfl ?_
      refine Kx.tk 20 rfl ?_
      first | refine Kx.xl1 21 rfl rfl rfl ?_ | refine Kx.xla 21 rfl rfl ?_ | refine Kx.xlo 21 rfl rfl HC.out ?_
      refine anyW_call (i := 22) (v := ?v22_5) (f := ?g22_5) (args := ?s22_5) (a' := ?a22_5) (by first | exact Kx.bears_x | exact bears_u | assumption) rfl (by kernel_rfl) (by kernel_rfl) (by kernel_rfl) (fun _ _ _ h => h) (by kernel_rfl) ?c22_5 ?w22_5 ?y22_5 ?f22_5 ?r22_5
      case w22_5 => kernel_rfl
      case y22_5 => (intro W hW; go_simp; first | (refine ⟨?_, ?_⟩ <;> with_reducible rfl) | with_reducible rfl)
      case c22_5 => (intro W hW; refine Calls.mono (HRg.out hW) ?_; rintro e w_ ⟨rfl, hb_⟩; refine ⟨?_, by first | exact hb_ | exact hb_ ▸ Below.refl _ _⟩; with_reducible rfl)
      case f22_5 => (go_simp; try with_reducible rfl)
      refine Kx.tk 23 rfl ?_
      refine Kx.tk 24 rfl ?_
      refine anyW_done (by kernel_rfl) ?_
      clear HB
      intro w_ HB_
      have HB := Lib.hid HB_
      clear HB_
      go_wp2_with (first | ((with_reducible refine Kx.absorb HB ?_); clear HB; intro w_ HB) | ((with_reducible refine Kx.box_gate ?_); (first | refine Kx.boxa HB rfl ?_ | refine Kx.boxt HB rfl rfl ?_ | refine Kx.box1 HB rfl rfl ?_); clear HB; intro b_ w_ HB; refine Kx.fr ?_) | ((with_reducible refine Kx.alloc_gate ?_); (first | refine Kx.ala HB ?_ | refine Kx.al1 HB ?_); clear HB; intro b_ w_ HB; refine Kx.fr ?_) | ((with_reducible refine Kx.loads_gate ?_); first | refine Kx.l1 HB rfl rfl ?_ | refine Kx.la HB rfl ?_ | refine Kx.lo HB rfl HC.out ?_) | ((with_reducible refine Kx.loadg_gate ?_); first | refine Kx.l1g HB rfl rfl rfl ?_ | refine Kx.lag HB rfl rfl ?_ | refine Kx.log HB rfl HC.out rfl ?_) | ((with_reducible refine Kx.store_gate ?_); (first | refine Kx.stwa HB rfl rfl ?_ | refine Kx.sta HB rfl rfl ?_ | refine Kx.stc HB rfl rfl ?_ | refine Kx.stt HB rfl rfl rfl ?_ | refine Kx.st1 HB rfl rfl rfl ?_); clear HB; intro w_ HB))
      go_roundg (gk - 1)
      case measure => omega
      case rel => exact ⟨k + 1, a1, s1, by omega, by go_num, Lib.hid ⟨HRes.out.1, by have := HRes.out.2.1; rwa [show (k + 1) * 8200 = k * 8200 + 8200 by omega]⟩, Lib.hid (Jbx.front HB.out HOk2.out).tail.tail⟩
     ·have f4 : (o.m.k == 4) = false := by rw [hm]; rfl
      have f7 : (o.m.k == 7) = true := by rw [hm]; rfl
      have g9 : (x.k == 9) = false := by rw [h]; rfl
      have g8 : (x.k == 8) = false := by rw [h]; rfl
      have g6 : (x.k == 6) = true := by rw [h]; rfl
      clear hm h
      go_upto_region 22 with (first | ((with_reducible refine Kx.absorb HB ?_); clear HB; intro w_ HB) | ((with_reducible refine Kx.box_gate ?_); (first | refine Kx.boxa HB rfl ?_ | refine Kx.boxt HB rfl rfl ?_ | refine Kx.box1 HB rfl rfl ?_); clear HB; intro b_ w_ HB; refine Kx.fr ?_) | ((with_reducible refine Kx.alloc_gate ?_); (first | refine Kx.ala HB ?_ | refine Kx.al1 HB ?_); clear HB; intro b_ w_ HB; refine Kx.fr ?_) | ((with_reducible refine Kx.loads_gate ?_); first | refine Kx.l1 HB rfl rfl ?_ | refine Kx.la HB rfl ?_ | refine Kx.lo HB rfl HC.out ?_) | ((with_reducible refine Kx.loadg_gate ?_); first | refine Kx.l1g HB rfl rfl rfl ?_ | refine Kx.lag HB rfl rfl ?_ | refine Kx.log HB rfl HC.out rfl ?_) | ((with_reducible refine Kx.store_gate ?_); (first | refine Kx.stwa HB rfl rfl ?_ | refine Kx.sta HB rfl rfl ?_ | refine Kx.stc HB rfl rfl ?_ | refine Kx.stt HB rfl rfl rfl ?_ | refine Kx.st1 HB rfl rfl rfl ?_); clear HB; intro w_ HB))
      clear HC
      have HC := HFr
      refine Kx.region_x HB (fun i => false) (by kernel_rfl) ?_
      refine Kx.tk 0 rfl ?_
      refine Kx.tk 1 rfl ?_
      refine Kx.tk 2 rfl ?_
      refine Kx.tk 3 rfl ?_
      first | refine Kx.xl1 4 rfl rfl rfl ?_ | refine Kx.xla 4 rfl rfl ?_ | refine Kx.xlo 4 rfl rfl HC.out ?_
      refine Kx.tk 5 rfl ?_
      refine Kx.tk 6 rfl ?_
      refine Kx.tk 7 rfl ?_
      refine Kx.tk 8 rfl ?_
      refine Kx.tk 9 rfl ?_
      refine Kx.tk 10 rfl ?_
      first | refine Kx.xl1 11 rfl rfl rfl ?_ | refine Kx.xla 11 rfl rfl ?_ | refine Kx.xlo 11 rfl rfl HC.out ?_
      refine Kx.tk 12 rfl ?_
      refine Kx.tk 13 rfl ?_
      refine Kx.tk 14 rfl ?_
      refine Kx.tk 15 rfl ?_
      refine Kx.tk 16 rfl ?_
      first | refine Kx.xl1 17 rfl rfl rfl ?_ | refine Kx.xla 17 rfl rfl ?_ | refine Kx.xlo 17 rfl rfl HC.out ?_
      refine Kx.tk 18 rfl ?_
      refine Kx.tk 19 rfl ?_
      refine Kx.tk 20 rfl ?_
      first | refine Kx.xl1 21 rfl rfl rfl ?_ | refine Kx.xla 21 rfl rfl ?_ | refine Kx.xlo 21 rfl rfl HC.out ?_
      refine anyW_call (i := 22) (v := ?v22_6) (f := ?g22_6) (args := ?s22_6) (a' := ?a22_6) (by first | exact Kx.bears_x | exact bears_u | assumption) rfl (by kernel_rfl) (by kernel_rfl) (by kernel_rfl) (fun _ _ _ h => h) (by kernel_rfl) ?c22_6 ?w22_6 ?y22_6 ?f22_6 ?r22_6
      case w22_6 => kernel_rfl
      case y22_6 => (intro W hW; go_simp; first | (refine ⟨?_, ?_⟩ <;> with_reducible rfl) | with_reducible rfl)
      case c22_6 => (intro W hW; refine Calls.mono (HRg.out hW) ?_; rintro e w_ ⟨rfl, hb_⟩; refine ⟨?_, by first | exact hb_ | exact hb_ ▸ Below.refl _ _⟩; with_reducible rfl)
      case f22_6 => (go_simp; try with_reducible rfl)
      refine Kx.tk 23 rfl ?_
      refine Kx.tk 24 rfl ?_
      refine anyW_done (by kernel_rfl) ?_
      clear HB
      intro w_ HB_
      have HB := Lib.hid HB_
      clear HB_
      go_wp2_with (first | ((with_reducible refine Kx.absorb HB ?_); clear HB; intro w_ HB) | ((with_reducible refine Kx.box_gate ?_); (first | refine Kx.boxa HB rfl ?_ | refine Kx.boxt HB rfl rfl ?_ | refine Kx.box1 HB rfl rfl ?_); clear HB; intro b_ w_ HB; refine Kx.fr ?_) | ((with_reducible refine Kx.alloc_gate ?_); (first | refine Kx.ala HB ?_ | refine Kx.al1 HB ?_); clear HB; intro b_ w_ HB; refine Kx.fr ?_) | ((with_reducible refine Kx.loads_gate ?_); first | refine Kx.l1 HB rfl rfl ?_ | refine Kx.la HB rfl ?_ | refine Kx.lo HB rfl HC.out ?_) | ((with_reducible refine Kx.loadg_gate ?_); first | refine Kx.l1g HB rfl rfl rfl ?_ | refine Kx.lag HB rfl rfl ?_ | refine Kx.log HB rfl HC.out rfl ?_) | ((with_reducible refine Kx.store_gate ?_); (first | refine Kx.stwa HB rfl rfl ?_ | refine Kx.sta HB rfl rfl ?_ | refine Kx.stc HB rfl rfl ?_ | refine Kx.stt HB rfl rfl rfl ?_ | refine Kx.st1 HB rfl rfl rfl ?_); clear HB; intro w_ HB))
      go_roundg (gk - 1)
      case measure => omega
      case rel => exact ⟨k + 1, a1, s1, by omega, by go_num, Lib.hid ⟨HRes.out.1, by have := HRes.out.2.1; rwa [show (k + 1) * 8200 = k * 8200 + 8200 by omega]⟩, Lib.hid (Jbx.front HB.out HOk2.out).tail.tail⟩
     ·have f4 : (o.m.k == 4) = false := by rw [hm]; rfl
      have f7 : (o.m.k == 7) = false := by rw [hm]; rfl
      have f10 : (o.m.k == 10) = true := by rw [hm]; rfl
      have g9 : (x.k == 9) = false := by rw [h]; rfl
      have g11 : (x.k == 11) = true := by rw [h]; rfl
      clear hm h
      have e1 : (x.n == o.m.n) = true := by rw [hn]; simp
      have e2 : (x.co == o.m.co) = true := by rw [hco]; simp
      have e3 : (x.e == o.m.e) = true := by rw [he]; simp
      clear hn hco he
      go_upto_region 21 with (first | ((with_reducible refine Kx.absorb HB ?_); clear HB; intro w_ HB) | ((with_reducible refine Kx.box_gate ?_); (first | refine Kx.boxa HB rfl ?_ | refine Kx.boxt HB rfl rfl ?_ | refine Kx.box1 HB rfl rfl ?_); clear HB; intro b_ w_ HB; refine Kx.fr ?_) | ((with_reducible refine Kx.alloc_gate ?_); (first | refine Kx.ala HB ?_ | refine Kx.al1 HB ?_); clear HB; intro b_ w_ HB; refine Kx.fr ?_) | ((with_reducible refine Kx.loads_gate ?_); first | refine Kx.l1 HB rfl rfl ?_ | refine Kx.la HB rfl ?_ | refine Kx.lo HB rfl HC.out ?_) | ((with_reducible refine Kx.loadg_gate ?_); first | refine Kx.l1g HB rfl rfl rfl ?_ | refine Kx.lag HB rfl rfl ?_ | refine Kx.log HB rfl HC.out rfl ?_) | ((with_reducible refine Kx.store_gate ?_); (first | refine Kx.stwa HB rfl rfl ?_ | refine Kx.sta HB rfl rfl ?_ | refine Kx.stc HB rfl rfl ?_ | refine Kx.stt HB rfl rfl rfl ?_ | refine Kx.st1 HB rfl rfl rfl ?_); clear HB; intro w_ HB))
      refine Kx.region_x HB (fun i => false) (by kernel_rfl) ?_
      refine Kx.tk 0 rfl ?_
      first | refine Kx.xl1 1 rfl rfl rfl ?_ | refine Kx.xla 1 rfl rfl ?_ | refine Kx.xlo 1 rfl rfl HC.out ?_
      refine Kx.tk 2 rfl ?_
      refine Kx.tk 3 rfl ?_
      refine Kx.tk 4 rfl ?_
      first | refine Kx.xl1 5 rfl rfl rfl ?_ | refine Kx.xla 5 rfl rfl ?_ | refine Kx.xlo 5 rfl rfl HC.out ?_
      refine Kx.tk 6 rfl ?_
      refine Kx.tk 7 rfl ?_
      refine Kx.tk 8 rfl ?_
      refine Kx.tk 9 rfl ?_
      refine Kx.tk 10 rfl ?_
      refine Kx.xlo 11 rfl rfl HNo.out ?_
      refine Kx.tk 12 rfl ?_
      refine Kx.tk 13 rfl ?_
      refine Kx.tk 14 rfl ?_
      refine Kx.tk 15 rfl ?_
      first | refine Kx.xl1 16 rfl rfl rfl ?_ | refine Kx.xla 16 rfl rfl ?_ | refine Kx.xlo 16 rfl rfl HC.out ?_
      refine Kx.tk 17 rfl ?_
      refine Kx.tk 18 rfl ?_
      refine Kx.tk 19 rfl ?_
      refine Kx.tk 20 rfl ?_
      refine Kx.tk 21 rfl ?_
      refine Kx.xlo 22 rfl rfl HCo.out ?_
      refine Kx.tk 23 rfl ?_
      refine Kx.tk 24 rfl ?_
      refine Kx.tk 25 rfl ?_
      refine Kx.tk 26 rfl ?_
      first | refine Kx.xl1 27 rfl rfl rfl ?_ | refine Kx.xla 27 rfl rfl ?_ | refine Kx.xlo 27 rfl rfl HC.out ?_
      refine Kx.tk 28 rfl ?_
      refine Kx.tk 29 rfl ?_
      refine Kx.tk 30 rfl ?_
      refine Kx.tk 31 rfl ?_
      refine Kx.tk 32 rfl ?_
      refine Kx.xlo 33 rfl rfl HEp.out ?_
      refine Kx.tk 34 rfl ?_
      refine Kx.tk 35 rfl ?_
      refine Kx.tk 36 rfl ?_
      refine anyW_done (by kernel_rfl) ?_
      clear HB
      intro w_ HB_
      have HB := Lib.hid HB_
      clear HB_
      go_upto_region 22 with (first | ((with_reducible refine Kx.absorb HB ?_); clear HB; intro w_ HB) | ((with_reducible refine Kx.box_gate ?_); (first | refine Kx.boxa HB rfl ?_ | refine Kx.boxt HB rfl rfl ?_ | refine Kx.box1 HB rfl rfl ?_); clear HB; intro b_ w_ HB; refine Kx.fr ?_) | ((with_reducible refine Kx.alloc_gate ?_); (first | refine Kx.ala HB ?_ | refine Kx.al1 HB ?_); clear HB; intro b_ w_ HB; refine Kx.fr ?_) | ((with_reducible refine Kx.loads_gate ?_); first | refine Kx.l1 HB rfl rfl ?_ | refine Kx.la HB rfl ?_ | refine Kx.lo HB rfl HC.out ?_) | ((with_reducible refine Kx.loadg_gate ?_); first | refine Kx.l1g HB rfl rfl rfl ?_ | refine Kx.lag HB rfl rfl ?_ | refine Kx.log HB rfl HC.out rfl ?_) | ((with_reducible refine Kx.store_gate ?_); (first | refine Kx.stwa HB rfl rfl ?_ | refine Kx.sta HB rfl rfl ?_ | refine Kx.stc HB rfl rfl ?_ | refine Kx.stt HB rfl rfl rfl ?_ | refine Kx.st1 HB rfl rfl rfl ?_); clear HB; intro w_ HB))
      clear HC
      have HC := HFr
      refine Kx.region_x HB (fun i => false) (by kernel_rfl) ?_
      refine Kx.tk 0 rfl ?_
      refine Kx.tk 1 rfl ?_
      refine Kx.tk 2 rfl ?_
      refine Kx.tk 3 rfl ?_
      first | refine Kx.xl1 4 rfl rfl rfl ?_ | refine Kx.xla 4 rfl rfl ?_ | refine Kx.xlo 4 rfl rfl HC.out ?_
      refine Kx.tk 5 rfl ?_
      refine Kx.tk 6 rfl ?_
      refine Kx.tk 7 rfl ?_
      refine Kx.tk 8 rfl ?_
      refine Kx.tk 9 rfl ?_
      refine Kx.tk 10 rfl ?_
      first | refine Kx.xl1 11 rfl rfl rfl ?_ | refine Kx.xla 11 rfl rfl ?_ | refine Kx.xlo 11 rfl rfl HC.out ?_
      refine Kx.tk 12 rfl ?_
      refine Kx.tk 13 rfl ?_
      refine Kx.tk 14 rfl ?_
      refine Kx.tk 15 rfl ?_
      refine Kx.tk 16 rfl ?_
      first | refine Kx.xl1 17 rfl rfl rfl ?_ | refine Kx.xla 17 rfl rfl ?_ | refine Kx.xlo 17 rfl rfl HC.out ?_
      refine Kx.tk 18 rfl ?_
      refine Kx.tk 19 rfl ?_
      refine Kx.tk 20 rfl ?_
      first | refine Kx.xl1 21 rfl rfl rfl ?_ | refine Kx.xla 21 rfl rfl ?_ | refine Kx.xlo 21 rfl rfl HC.out ?_
      refine anyW_call (i := 22) (v := ?v22_7) (f := ?g22_7) (args := ?s22_7) (a' := ?a22_7) (by first | exact Kx.bears_x | exact bears_u | assumption) rfl (by kernel_rfl) (by kernel_rfl) (by kernel_rfl) (fun _ _ _ h => h) (by kernel_rfl) ?c22_7 ?w22_7 ?y22_7 ?f22_7 ?r22_7
      case w22_7 => kernel_rfl
      case y22_7 => (intro W hW; go_simp; first | (refine ⟨?_, ?_⟩ <;> with_reducible rfl) | with_reducible rfl)
      case c22_7 => (intro W hW; refine Calls.mono (HRg.out hW) ?_; rintro e w_ ⟨rfl, hb_⟩; refine ⟨?_, by first | exact hb_ | exact hb_ ▸ Below.refl _ _⟩; with_reducible rfl)
      case f22_7 => (go_simp; try with_reducible rfl)
      refine Kx.tk 23 rfl ?_
      refine Kx.tk 24 rfl ?_
      refine anyW_done (by kernel_rfl) ?_
      clear HB
      intro w_ HB_
      have HB := Lib.hid HB_
      clear HB_
      go_wp2_with (first | ((with_reducible refine Kx.absorb HB ?_); clear HB; intro w_ HB) | ((with_reducible refine Kx.box_gate ?_); (first | refine Kx.boxa HB rfl ?_ | refine Kx.boxt HB rfl rfl ?_ | refine Kx.box1 HB rfl rfl ?_); clear HB; intro b_ w_ HB; refine Kx.fr ?_) | ((with_reducible refine Kx.alloc_gate ?_); (first | refine Kx.ala HB ?_ | refine Kx.al1 HB ?_); clear HB; intro b_ w_ HB; refine Kx.fr ?_) | ((with_reducible refine Kx.loads_gate ?_); first | refine Kx.l1 HB rfl rfl ?_ | refine Kx.la HB rfl ?_ | refine Kx.lo HB rfl HC.out ?_) | ((with_reducible refine Kx.loadg_gate ?_); first | refine Kx.l1g HB rfl rfl rfl ?_ | refine Kx.lag HB rfl rfl ?_ | refine Kx.log HB rfl HC.out rfl ?_) | ((with_reducible refine Kx.store_gate ?_); (first | refine Kx.stwa HB rfl rfl ?_ | refine Kx.sta HB rfl rfl ?_ | refine Kx.stc HB rfl rfl ?_ | refine Kx.stt HB rfl rfl rfl ?_ | refine Kx.st1 HB rfl rfl rfl ?_); clear HB; intro w_ HB))
      go_roundg (gk - 1)
      case measure => omega
      case rel => exact ⟨k + 1, a1, s1, by omega, by go_num, Lib.hid ⟨HRes.out.1, by have := HRes.out.2.1; rwa [show (k + 1) * 8200 = k * 8200 + 8200 by omega]⟩, Lib.hid (Jbx.front HB.out HOk2.out).tail.tail⟩
   ·obtain rfl : k = len := by omega
    obtain ⟨ok, KA, KC, RA, RC, HB2⟩ := HJ.out
    have HB := Lib.hid HB2
    have d0 : decide ((k : Int) < (k : Int)) = false := by simp
    clear HB2 ok HI HJ HFo2 HAt HRd HLen HT
    go_wp2_with (first | ((with_reducible refine Kx.absorb HB ?_); clear HB; intro w_ HB) | ((with_reducible refine Kx.box_gate ?_); (first | refine Kx.boxa HB rfl ?_ | refine Kx.boxt HB rfl rfl ?_ | refine Kx.box1 HB rfl rfl ?_); clear HB; intro b_ w_ HB; refine Kx.fr ?_) | ((with_reducible refine Kx.alloc_gate ?_); (first | refine Kx.ala HB ?_ | refine Kx.al1 HB ?_); clear HB; intro b_ w_ HB; refine Kx.fr ?_) | ((with_reducible refine Kx.loads_gate ?_); first | refine Kx.l1 HB rfl rfl ?_ | refine Kx.la HB rfl ?_ | refine Kx.lo HB rfl HC.out ?_) | ((with_reducible refine Kx.loadg_gate ?_); first | refine Kx.l1g HB rfl rfl rfl ?_ | refine Kx.lag HB rfl rfl ?_ | refine Kx.log HB rfl HC.out rfl ?_) | ((with_reducible refine Kx.store_gate ?_); (first | refine Kx.stwa HB rfl rfl ?_ | refine Kx.sta HB rfl rfl ?_ | refine Kx.stc HB rfl rfl ?_ | refine Kx.stt HB rfl rfl rfl ?_ | refine Kx.st1 HB rfl rfl rfl ?_); clear HB; intro w_ HB))
    go_ret
    exact ⟨rfl, HB.out.below⟩
 ·have HNo := Lib.hid (fun (W : World) (L : List (Nat × List Value)) (r' : List Rw) (q : Bxs w W L r' F0) => New_no q c xs node HF.out HL.out hn)
  clear hc ht hn HFo HAt HRd HLen HT
  go_enter Tryd.func3, Tryd.ntmps3
  go_wp2_with (first | (go_at_call 5; refine Calls.mono (HHd.out _ HB.out.below) ?_; rintro e w_ ⟨rfl, hb_⟩; replace HB := Lib.hid (HB.out.call hb_); clear hb_) | (go_at_call 6; refine (HNo.out _ _ _ HB.out).mono ?_; rintro e w_ ⟨rfl, hb_⟩; replace HB := Lib.hid hb_; clear hb_) | (first | ((with_reducible refine Kx.absorb HB ?_); clear HB; intro w_ HB) | ((with_reducible refine Kx.box_gate ?_); (first | refine Kx.boxa HB rfl ?_ | refine Kx.boxt HB rfl rfl ?_ | refine Kx.box1 HB rfl rfl ?_); clear HB; intro b_ w_ HB; refine Kx.fr ?_) | ((with_reducible refine Kx.alloc_gate ?_); (first | refine Kx.ala HB ?_ | refine Kx.al1 HB ?_); clear HB; intro b_ w_ HB; refine Kx.fr ?_) | ((with_reducible refine Kx.loads_gate ?_); first | refine Kx.l1 HB rfl rfl ?_ | refine Kx.la HB rfl ?_ | refine Kx.lo HB rfl HC.out ?_) | ((with_reducible refine Kx.loadg_gate ?_); first | refine Kx.l1g HB rfl rfl rfl ?_ | refine Kx.lag HB rfl rfl ?_ | refine Kx.log HB rfl HC.out rfl ?_) | ((with_reducible refine Kx.store_gate ?_); (first | refine Kx.stwa HB rfl rfl ?_ | refine Kx.sta HB rfl rfl ?_ | refine Kx.stc HB rfl rfl ?_ | refine Kx.stt HB rfl rfl rfl ?_ | refine Kx.st1 HB rfl rfl rfl ?_); clear HB; intro w_ HB)))
  go_ret
  exact ⟨rfl, HB.out.below⟩
end Go.Proofs.YtbkdenlhfigjhaaDoor
