/- PolicyPen, walked. -/
import Derived.Test.YtnljpopjhjcocaaDoorHq
namespace Go.Proofs.YtnljpopjhjcocaaDoor
open Go.RowKit Go.Shelf Km Kx Kc Kt
set_option linter.unusedVariables false

set_option maxRecDepth 100000 in
theorem pen_long (w : World) (ht : Tabs w) (c : Cf) (xs : List Int) (a1 : Option Addr) (len cap : Nat) (h : 200 < len) :
    Calls Tryd.prog 9 #[.agg (cf c).toArray, .slice a1 len cap] w fun e w' => e = .returned (.bool true) ∧ Below w.heap.size w w' := by
  have HB := Lib.hid (Bxs.start w)
  have HT := Lib.hid ht
  have d1 : decide ((200 : Int) < (len : Int)) = true := by simp; omega
  clear ht
  go_enter Tryd.func9, Tryd.ntmps9
  go_wp2_with (first | (go_at_call 10; refine Calls.mono (head_any _ (HT.out.below HB.out.below (Nat.le_refl _))) ?_; rintro e w_ ⟨rfl, hb_⟩; replace HB := Lib.hid (HB.out.call hb_); clear hb_) | (first | ((with_reducible refine Kx.absorb HB ?_); clear HB; intro w_ HB) | ((with_reducible refine Kx.box_gate ?_); (first | refine Kx.boxa HB rfl ?_ | refine Kx.boxt HB rfl rfl ?_ | refine Kx.box1 HB rfl rfl ?_); clear HB; intro b_ w_ HB; refine Kx.fr ?_) | ((with_reducible refine Kx.alloc_gate ?_); (first | refine Kx.ala HB ?_ | refine Kx.al1 HB ?_); clear HB; intro b_ w_ HB; refine Kx.fr ?_) | ((with_reducible refine Kx.loads_gate ?_); first | refine Kx.l1 HB rfl rfl ?_ | refine Kx.la HB rfl ?_ | refine Kx.lo HB rfl HC.out ?_) | ((with_reducible refine Kx.loadg_gate ?_); first | refine Kx.l1g HB rfl rfl rfl ?_ | refine Kx.lag HB rfl rfl ?_ | refine Kx.log HB rfl HC.out rfl ?_) | ((with_reducible refine Kx.store_gate ?_); (first | refine Kx.stwa HB rfl rfl ?_ | refine Kx.sta HB rfl rfl ?_ | refine Kx.stc HB rfl rfl ?_ | refine Kx.stt HB rfl rfl rfl ?_ | refine Kx.st1 HB rfl rfl rfl ?_); clear HB; intro w_ HB)))
  go_ret
  exact ⟨rfl, HB.out.below⟩
set_option maxRecDepth 100000 in
set_option maxHeartbeats 8000000 in
theorem pen_walk (y : Cf × List Int) (a1 : Option Addr) (len cap : Nat) (es : List Ev) (w : World) (hc : CfAt w y.1 y.2) (he : EvsAt w a1 len cap es) (ht : Tabs w) :
    Calls Tryd.prog 9 #[.agg (cf y.1).toArray, .slice a1 len cap] w fun e w' => e = .returned (.bool true) ∧ Below w.heap.size w w' := by
  obtain ⟨c, xs⟩ := y
  dsimp only at hc ⊢
  by_cases h200 : 200 < len
  · exact pen_long w ht c xs a1 len cap h200
  have HB := Lib.hid (Bxs.start w)
  have HT := Lib.hid ht
  have HR := Lib.hid hc.rd
  have HL := Lib.hid hc.len
  have HE := Lib.hid he
  have d1 : decide ((200 : Int) < (len : Int)) = false := by simp; omega
  clear hc he ht
  by_cases hok : ConfP c xs
  case neg =>
    go_enter Tryd.func9, Tryd.ntmps9
    go_wp2_with (first | (go_at_call 10; refine Calls.mono (head_any _ (HT.out.below HB.out.below (Nat.le_refl _))) ?_; rintro e w_ ⟨rfl, hb_⟩; replace HB := Lib.hid (HB.out.call hb_); clear hb_) | (go_at_call 13; fail) | (first | ((with_reducible refine Kx.absorb HB ?_); clear HB; intro w_ HB) | ((with_reducible refine Kx.box_gate ?_); (first | refine Kx.boxa HB rfl ?_ | refine Kx.boxt HB rfl rfl ?_ | refine Kx.box1 HB rfl rfl ?_); clear HB; intro b_ w_ HB; refine Kx.fr ?_) | ((with_reducible refine Kx.alloc_gate ?_); (first | refine Kx.ala HB ?_ | refine Kx.al1 HB ?_); clear HB; intro b_ w_ HB; refine Kx.fr ?_) | ((with_reducible refine Kx.loads_gate ?_); first | refine Kx.l1 HB rfl rfl ?_ | refine Kx.la HB rfl ?_ | refine Kx.lo HB rfl HC.out ?_) | ((with_reducible refine Kx.loadg_gate ?_); first | refine Kx.l1g HB rfl rfl rfl ?_ | refine Kx.lag HB rfl rfl ?_ | refine Kx.log HB rfl HC.out rfl ?_) | ((with_reducible refine Kx.store_gate ?_); (first | refine Kx.stwa HB rfl rfl ?_ | refine Kx.sta HB rfl rfl ?_ | refine Kx.stc HB rfl rfl ?_ | refine Kx.stt HB rfl rfl rfl ?_ | refine Kx.st1 HB rfl rfl rfl ?_); clear HB; intro w_ HB)))
    refine (PRight_any c xs _ (HT.out.below HB.out.below (Nat.le_refl _)) ((HR.out.below HB.out.below).more HB.out.size) HL.out).mono ?_
    intro e w5 hs
    obtain ⟨rfl, hb_⟩ := says_of hs false ⟨fun h => (by cases h), fun h => absurd h hok⟩
    replace HB := Lib.hid (HB.out.call hb_)
    clear hs hb_
    go_wp2_with (first | ((with_reducible refine Kx.absorb HB ?_); clear HB; intro w_ HB) | ((with_reducible refine Kx.box_gate ?_); (first | refine Kx.boxa HB rfl ?_ | refine Kx.boxt HB rfl rfl ?_ | refine Kx.box1 HB rfl rfl ?_); clear HB; intro b_ w_ HB; refine Kx.fr ?_) | ((with_reducible refine Kx.alloc_gate ?_); (first | refine Kx.ala HB ?_ | refine Kx.al1 HB ?_); clear HB; intro b_ w_ HB; refine Kx.fr ?_) | ((with_reducible refine Kx.loads_gate ?_); first | refine Kx.l1 HB rfl rfl ?_ | refine Kx.la HB rfl ?_ | refine Kx.lo HB rfl HC.out ?_) | ((with_reducible refine Kx.loadg_gate ?_); first | refine Kx.l1g HB rfl rfl rfl ?_ | refine Kx.lag HB rfl rfl ?_ | refine Kx.log HB rfl HC.out rfl ?_) | ((with_reducible refine Kx.store_gate ?_); (first | refine Kx.stwa HB rfl rfl ?_ | refine Kx.sta HB rfl rfl ?_ | refine Kx.stc HB rfl rfl ?_ | refine Kx.stt HB rfl rfl rfl ?_ | refine Kx.st1 HB rfl rfl rfl ?_); clear HB; intro w_ HB))
    go_ret
    exact ⟨rfl, HB.out.below⟩
  have HOK := Lib.hid hok
  clear hok
  go_enter Tryd.func9, Tryd.ntmps9
  go_wp2_with (first | (go_at_call 10; refine Calls.mono (head_any _ (HT.out.below HB.out.below (Nat.le_refl _))) ?_; rintro e w_ ⟨rfl, hb_⟩; replace HB := Lib.hid (HB.out.call hb_); clear hb_) | (go_at_call 13; fail) | (first | ((with_reducible refine Kx.absorb HB ?_); clear HB; intro w_ HB) | ((with_reducible refine Kx.box_gate (d := some 2) ?_); (first | refine Kx.boxa HB rfl ?_ | refine Kx.boxt HB rfl rfl ?_ | refine Kx.box1 HB rfl rfl ?_); clear HB; intro b2 w_ HB; refine Kx.fr ?_) | ((with_reducible refine Kx.alloc_gate (d := some 2) ?_); (first | refine Kx.ala HB ?_ | refine Kx.al1 HB ?_); clear HB; intro b2 w_ HB; refine Kx.fr ?_) | ((with_reducible refine Kx.box_gate ?_); (first | refine Kx.boxa HB rfl ?_ | refine Kx.boxt HB rfl rfl ?_ | refine Kx.box1 HB rfl rfl ?_); clear HB; intro b_ w_ HB; refine Kx.fr ?_) | ((with_reducible refine Kx.alloc_gate ?_); (first | refine Kx.ala HB ?_ | refine Kx.al1 HB ?_); clear HB; intro b_ w_ HB; refine Kx.fr ?_) | ((with_reducible refine Kx.loads_gate ?_); first | refine Kx.l1 HB rfl rfl ?_ | refine Kx.la HB rfl ?_ | refine Kx.lo HB rfl HC.out ?_) | ((with_reducible refine Kx.loadg_gate ?_); first | refine Kx.l1g HB rfl rfl rfl ?_ | refine Kx.lag HB rfl rfl ?_ | refine Kx.log HB rfl HC.out rfl ?_) | ((with_reducible refine Kx.store_gate ?_); (first | refine Kx.stwa HB rfl rfl ?_ | refine Kx.sta HB rfl rfl ?_ | refine Kx.stc HB rfl rfl ?_ | refine Kx.stt HB rfl rfl rfl ?_ | refine Kx.st1 HB rfl rfl rfl ?_); clear HB; intro w_ HB)))
  refine (PRight_any c xs _ (HT.out.below HB.out.below (Nat.le_refl _)) ((HR.out.below HB.out.below).more HB.out.size) HL.out).mono ?_
  intro e w5 hs
  obtain ⟨rfl, hb_⟩ := says_of hs true ⟨fun _ => HOK.out, fun _ => rfl⟩
  replace HB := Lib.hid (HB.out.call hb_)
  clear hs hb_
  go_wp2_with (first | (go_at_call 18; fail) | (first | ((with_reducible refine Kx.absorb HB ?_); clear HB; intro w_ HB) | ((with_reducible refine Kx.box_gate (d := some 2) ?_); (first | refine Kx.boxa HB rfl ?_ | refine Kx.boxt HB rfl rfl ?_ | refine Kx.box1 HB rfl rfl ?_); clear HB; intro b2 w_ HB; refine Kx.fr ?_) | ((with_reducible refine Kx.alloc_gate (d := some 2) ?_); (first | refine Kx.ala HB ?_ | refine Kx.al1 HB ?_); clear HB; intro b2 w_ HB; refine Kx.fr ?_) | ((with_reducible refine Kx.box_gate ?_); (first | refine Kx.boxa HB rfl ?_ | refine Kx.boxt HB rfl rfl ?_ | refine Kx.box1 HB rfl rfl ?_); clear HB; intro b_ w_ HB; refine Kx.fr ?_) | ((with_reducible refine Kx.alloc_gate ?_); (first | refine Kx.ala HB ?_ | refine Kx.al1 HB ?_); clear HB; intro b_ w_ HB; refine Kx.fr ?_) | ((with_reducible refine Kx.loads_gate ?_); first | refine Kx.l1 HB rfl rfl ?_ | refine Kx.la HB rfl ?_ | refine Kx.lo HB rfl HC.out ?_) | ((with_reducible refine Kx.loadg_gate ?_); first | refine Kx.l1g HB rfl rfl rfl ?_ | refine Kx.lag HB rfl rfl ?_ | refine Kx.log HB rfl HC.out rfl ?_) | ((with_reducible refine Kx.store_gate ?_); (first | refine Kx.stwa HB rfl rfl ?_ | refine Kx.sta HB rfl rfl ?_ | refine Kx.stc HB rfl rfl ?_ | refine Kx.stt HB rfl rfl rfl ?_ | refine Kx.st1 HB rfl rfl rfl ?_); clear HB; intro w_ HB)))
  refine (walk_any c xs a1 len cap es _ (HT.out.below HB.out.below (Nat.le_refl _)) HOK.out ((HR.out.below HB.out.below).more HB.out.size) HL.out ((HE.out.2.2.2.2.below HB.out.below).more HB.out.size) HE.out.1 (by omega) HE.out.2.2.2.1).mono ?_
  rintro e w6 ⟨A, k', ps, pl, rfl, hb_, hn_, hq_, hpl, hlen⟩
  replace HB := Lib.hid (HB.out.stayAll hb_ hn_ hq_)
  obtain ⟨ad, rfl⟩ := stay_ad HB.out (List.mem_cons_self ..) hpl.mem
  have HPL : Hid (∀ k a b, ps[k]? = some a → ps[k + 1]? = some b → Two c xs a b) := Lib.hid (fun k a b h1 h2 => hpl.two HOK.out HL.out h1 h2)
  have hm1 : ps.length ≤ 201 := by omega
  have hm0 : 0 < ps.length := List.length_pos_of_mem hpl.mem
  clear hb_ hn_ hq_ hpl hlen
  obtain ⟨m, hm⟩ : ∃ m, ps.length = m := ⟨_, rfl⟩
  rw [hm] at hm1 hm0
  have HM := Lib.hid hm
  rw [hm]
  clear hm
  go_wp2_with (first | ((with_reducible refine Kx.absorb HB ?_); clear HB; intro w_ HB) | ((with_reducible refine Kx.box_gate ?_); (first | refine Kx.boxa HB rfl ?_ | refine Kx.boxt HB rfl rfl ?_ | refine Kx.box1 HB rfl rfl ?_); clear HB; intro b_ w_ HB; refine Kx.fr ?_) | ((with_reducible refine Kx.alloc_gate ?_); (first | refine Kx.ala HB ?_ | refine Kx.al1 HB ?_); clear HB; intro b_ w_ HB; refine Kx.fr ?_) | ((with_reducible refine Kx.loads_gate ?_); first | refine Kx.l1 HB rfl rfl ?_ | refine Kx.la HB rfl ?_ | refine Kx.lo HB rfl HC.out ?_) | ((with_reducible refine Kx.loadg_gate ?_); first | refine Kx.l1g HB rfl rfl rfl ?_ | refine Kx.lag HB rfl rfl ?_ | refine Kx.log HB rfl HC.out rfl ?_) | ((with_reducible refine Kx.store_gate ?_); (first | refine Kx.stwa HB rfl rfl ?_ | refine Kx.sta HB rfl rfl ?_ | refine Kx.stc HB rfl rfl ?_ | refine Kx.stt HB rfl rfl rfl ?_ | refine Kx.st1 HB rfl rfl rfl ?_); clear HB; intro w_ HB))
  go_loopg [7] (m - 1) (fun gh ix wr => ∃ (k : Nat), gh + k = m - 1 ∧ ix = .int .i64 ((k + 1 : Nat) : Int) ∧ Hid (Bxs w wr [(b2, cf c)] [] ((some ad, cat Pt.cells ps) :: (fzs ps ++ []))))
  case atStart => exact ⟨0, by omega, rfl, HB⟩
  case round =>
    clear HB
    obtain ⟨k, hk, rfl, HB⟩ := hrel
    obtain ⟨i, hi⟩ : ∃ i : Nat, k + 1 = i := ⟨_, rfl⟩
    rw [hi]
    by_cases hlt : i < m
    · have d2 : (i : Int) < (m : Int) := by omega
      have d3 : (k : Int) < (m : Int) := by omega
      obtain ⟨a, ha⟩ : ∃ a, ps[k]? = some a := ⟨ps[k]'(by rw [HM.out]; omega), List.getElem?_eq_getElem _⟩
      obtain ⟨b, hb⟩ : ∃ b, ps[i]? = some b := ⟨ps[i]'(by rw [HM.out]; omega), List.getElem?_eq_getElem _⟩
      have HTW := Lib.hid (HPL.out k a b ha (by rw [hi]; exact hb))
      have HCA : Hid (∀ W l r, Bxs w W l r ((some ad, cat Pt.cells ps) :: (fzs ps ++ [])) → ∀ j u, a.cells[j]? = some u → W.cell? ((ad.add (k * 12)).add j) = some u) := Lib.hid (fun W l r q => stay_plan q (List.mem_cons_self ..) rfl ha)
      have HCB : Hid (∀ W l r, Bxs w W l r ((some ad, cat Pt.cells ps) :: (fzs ps ++ [])) → ∀ j u, b.cells[j]? = some u → W.cell? ((ad.add (i * 12)).add j) = some u) := Lib.hid (fun W l r q => stay_plan q (List.mem_cons_self ..) rfl hb)
      have HMA := Lib.hid (List.mem_of_getElem? ha)
      have HMB := Lib.hid (List.mem_of_getElem? hb)
      have hw1 : IntKind.i64.wrap ((i : Int) - 1) = (k : Int) := by rw [IntKind.wrap_i64]; omega
      have hw2 : wrap64 ((i : Int) - 1) = (k : Int) := by rw [IntWalk.wrap64_in _ (by omega)]; omega
      have hi12 : (Tryd.prog.info? 28).map (·.size) = some 12 := by kernel_rfl
      have hla : a.cells.length = 12 := rfl
      have hlb : b.cells.length = 12 := rfl
      have HIK := Lib.hid hi
      clear ha hb hi
      go_upto_region 9 with (first | ((with_reducible refine Kx.loads_gate ?_); refine wpList_load_any rfl 28 _ rfl (ad.add (k * 12)) rfl a.cells _ (HCA.out _ _ _ HB.out) Tryd.underlying28 rfl hi12 ?_; refine Kx.framed ?_ (by simp only [Act.put, List.setIfInBounds_toArray, List.set_cons_succ, List.set_cons_zero] <;> rfl)) | (first | ((with_reducible refine Kx.absorb HB ?_); clear HB; intro w_ HB) | ((with_reducible refine Kx.box_gate (d := some 8) ?_); (first | refine Kx.boxa HB rfl ?_ | refine Kx.boxt HB rfl rfl ?_ | refine Kx.box1 HB rfl rfl ?_); clear HB; intro b8 w_ HB; refine Kx.fr ?_) | ((with_reducible refine Kx.alloc_gate (d := some 8) ?_); (first | refine Kx.ala HB ?_ | refine Kx.al1 HB ?_); clear HB; intro b8 w_ HB; refine Kx.fr ?_) | ((with_reducible refine Kx.box_gate ?_); (first | refine Kx.boxa HB rfl ?_ | refine Kx.boxt HB rfl rfl ?_ | refine Kx.box1 HB rfl rfl ?_); clear HB; intro b_ w_ HB; refine Kx.fr ?_) | ((with_reducible refine Kx.alloc_gate ?_); (first | refine Kx.ala HB ?_ | refine Kx.al1 HB ?_); clear HB; intro b_ w_ HB; refine Kx.fr ?_) | ((with_reducible refine Kx.loads_gate ?_); first | refine Kx.l1 HB rfl rfl ?_ | refine Kx.la HB rfl ?_ | refine Kx.lo HB rfl HC.out ?_) | ((with_reducible refine Kx.loadg_gate ?_); first | refine Kx.l1g HB rfl rfl rfl ?_ | refine Kx.lag HB rfl rfl ?_ | refine Kx.log HB rfl HC.out rfl ?_) | ((with_reducible refine Kx.store_gate ?_); (first | refine Kx.stwa HB rfl rfl ?_ | refine Kx.sta HB rfl rfl ?_ | refine Kx.stc HB rfl rfl ?_ | refine Kx.stt HB rfl rfl rfl ?_ | refine Kx.st1 HB rfl rfl rfl ?_); clear HB; intro w_ HB)))
      go_upto_region 10 with (first | ((with_reducible refine Kx.loads_gate ?_); refine wpList_load_any rfl 28 _ rfl (ad.add (i * 12)) rfl b.cells _ (HCB.out _ _ _ HB.out) Tryd.underlying28 rfl hi12 ?_; refine Kx.framed ?_ (by simp only [Act.put, List.setIfInBounds_toArray, List.set_cons_succ, List.set_cons_zero] <;> rfl)) | (first | ((with_reducible refine Kx.absorb HB ?_); clear HB; intro w_ HB) | ((with_reducible refine Kx.box_gate (d := some 9) ?_); (first | refine Kx.boxa HB rfl ?_ | refine Kx.boxt HB rfl rfl ?_ | refine Kx.box1 HB rfl rfl ?_); clear HB; intro b9 w_ HB; refine Kx.fr ?_) | ((with_reducible refine Kx.alloc_gate (d := some 9) ?_); (first | refine Kx.ala HB ?_ | refine Kx.al1 HB ?_); clear HB; intro b9 w_ HB; refine Kx.fr ?_) | ((with_reducible refine Kx.box_gate ?_); (first | refine Kx.boxa HB rfl ?_ | refine Kx.boxt HB rfl rfl ?_ | refine Kx.box1 HB rfl rfl ?_); clear HB; intro b_ w_ HB; refine Kx.fr ?_) | ((with_reducible refine Kx.alloc_gate ?_); (first | refine Kx.ala HB ?_ | refine Kx.al1 HB ?_); clear HB; intro b_ w_ HB; refine Kx.fr ?_) | ((with_reducible refine Kx.loads_gate ?_); first | refine Kx.l1 HB rfl rfl ?_ | refine Kx.la HB rfl ?_ | refine Kx.lo HB rfl HC.out ?_) | ((with_reducible refine Kx.loadg_gate ?_); first | refine Kx.l1g HB rfl rfl rfl ?_ | refine Kx.lag HB rfl rfl ?_ | refine Kx.log HB rfl HC.out rfl ?_) | ((with_reducible refine Kx.store_gate ?_); (first | refine Kx.stwa HB rfl rfl ?_ | refine Kx.sta HB rfl rfl ?_ | refine Kx.stc HB rfl rfl ?_ | refine Kx.stt HB rfl rfl rfl ?_ | refine Kx.st1 HB rfl rfl rfl ?_); clear HB; intro w_ HB)))
      obtain ⟨N, hN⟩ : ∃ N : Nat, c.targets = (N : Int) := ⟨c.targets.toNat, by have := HOK.out.targets; omega⟩
      have hN16 : 1 ≤ N ∧ N ≤ 16 := by have := HOK.out.targets; omega
      have hNt : c.targets.toNat = N := by omega
      have hna : a.n = N := by rw [← HTW.out.oka.n, ← hNt]; exact HTW.out.inv.fits.pen.1
      have hnb : b.n = N := by rw [← HTW.out.okb.n, ← hNt]; exact HTW.out.inv'.fits.pen.1
      have HRA := Lib.hid (HTW.out.oka.stays HB.out (fun q hq => List.mem_cons_of_mem _ (List.mem_append_left _ (fzs_in HMA.out q hq)))).pen
      obtain ⟨ada, ea, -, -⟩ := Rd.num HRA.out (k := 0) (by rw [HTW.out.oka.n, hna]; omega)
      have HRB := Lib.hid (HTW.out.okb.stays HB.out (fun q hq => List.mem_cons_of_mem _ (List.mem_append_left _ (fzs_in HMB.out q hq)))).pen
      obtain ⟨adb, eb, -, -⟩ := Rd.num HRB.out (k := 0) (by rw [HTW.out.okb.n, hnb]; omega)
      clear HRA HRB
      have HXA : Hid (a.cells[10]? = some (.slice (some ada) N a.c)) := Lib.hid (by show some (Value.slice a.A a.n a.c) = _; rw [ea, hna])
      have HXB : Hid (b.cells[10]? = some (.slice (some adb) N b.c)) := Lib.hid (by show some (Value.slice b.A b.n b.c) = _; rw [eb, hnb])
      have HPA : Hid (∀ W l r, Bxs w W l r ((some ad, cat Pt.cells ps) :: (fzs ps ++ [])) → ∀ t, t < N → W.cell? (ada.add t) = some (.int .i64 (a.x.pen.getD t 0))) := Lib.hid (fun W l r q t ht => by
        obtain ⟨ad', e, -, hcell⟩ := Rd.num (HTW.out.oka.stays q (fun z hz => List.mem_cons_of_mem _ (List.mem_append_left _ (fzs_in HMA.out z hz)))).pen (k := t) (by rw [HTW.out.oka.n, hna]; exact ht)
        rw [ea] at e
        cases e
        exact hcell)
      have HPB : Hid (∀ W l r, Bxs w W l r ((some ad, cat Pt.cells ps) :: (fzs ps ++ [])) → ∀ t, t < N → W.cell? (adb.add t) = some (.int .i64 (b.x.pen.getD t 0))) := Lib.hid (fun W l r q t ht => by
        obtain ⟨ad', e, -, hcell⟩ := Rd.num (HTW.out.okb.stays q (fun z hz => List.mem_cons_of_mem _ (List.mem_append_left _ (fzs_in HMB.out z hz)))).pen (k := t) (by rw [HTW.out.okb.n, hnb]; exact ht)
        rw [eb] at e
        cases e
        exact hcell)
      have HTGT : Hid ((cf c)[2]? = some (.int .i64 (N : Int))) := Lib.hid (by rw [← hN]; rfl)
      have hne : ((b.n : Int) != c.targets) = false := by rw [hnb, hN]; simp
      have hne' : ((b.n : Int) == c.targets) = true := by rw [hnb, hN]; simp
      have HGC : Hid ((gc c xs).n = N) := Lib.hid hNt
      clear ea eb hna hnb hN hNt
      go_wp2_with (first | ((with_reducible refine Kx.absorb HB ?_); clear HB; intro w_ HB) | ((with_reducible refine Kx.box_gate ?_); (first | refine Kx.boxa HB rfl ?_ | refine Kx.boxt HB rfl rfl ?_ | refine Kx.box1 HB rfl rfl ?_); clear HB; intro b_ w_ HB; refine Kx.fr ?_) | ((with_reducible refine Kx.alloc_gate ?_); (first | refine Kx.ala HB ?_ | refine Kx.al1 HB ?_); clear HB; intro b_ w_ HB; refine Kx.fr ?_) | ((with_reducible refine Kx.loads_gate ?_); first | refine Kx.l1 HB rfl rfl ?_ | refine Kx.la HB rfl ?_ | refine Kx.lo HB rfl HC.out ?_) | ((with_reducible refine Kx.loadg_gate ?_); first | refine Kx.l1g HB rfl rfl rfl ?_ | refine Kx.lag HB rfl rfl ?_ | refine Kx.log HB rfl HC.out rfl ?_) | ((with_reducible refine Kx.store_gate ?_); (first | refine Kx.stwa HB rfl rfl ?_ | refine Kx.sta HB rfl rfl ?_ | refine Kx.stc HB rfl rfl ?_ | refine Kx.stt HB rfl rfl rfl ?_ | refine Kx.st1 HB rfl rfl rfl ?_); clear HB; intro w_ HB))
      obtain ⟨g0, rfl⟩ : ∃ q, q = gk := ⟨_, rfl⟩
      go_loopg [10] N (fun gh tx wr => ∃ (t : Nat), gh + t = N ∧ tx = .int .i64 (t : Int) ∧ Hid (Bxs w wr [(b9, b.cells), (b8, a.cells), (b2, cf c)] [] ((some ad, cat Pt.cells ps) :: (fzs ps ++ []))))
      case atStart => exact ⟨0, by omega, rfl, HB⟩
      case round =>
        clear HB
        obtain ⟨t, ht, rfl, HB⟩ := hrel
        by_cases htl : t < N
        · have d4 : (t : Int) < (N : Int) := by omega
          have d5 : (t : Int) ≤ 64 := by omega
          obtain ⟨ua, eua, hua, htua⟩ := mask_nat HOK.out HTW.out.inv.fits.up
          obtain ⟨ub, eub, hub, htub⟩ := mask_nat HOK.out HTW.out.inv'.fits.up
          obtain ⟨us, eus, hus, htus⟩ := mask_nat HOK.out HTW.out.inv'.fits.su
          have hpb := Gm.getD_in (P := fun v => 0 ≤ v ∧ v ≤ 1000000) HTW.out.inv'.fits.pen.2 (by decide) t
          have hsu := HTW.out.inv'.su t (by rw [HGC.out]; exact htl)
          have hgrow := Gm.step_pen (HOK.out.gok HL.out) HTW.out.inv HTW.out.step (i := t) (by rw [HGC.out]; exact htl)
          rw [htus] at hsu
          rw [htua, htub] at hgrow
          have HVA := Lib.hid (fun W l r q => HPA.out W l r q t htl)
          have HVB := Lib.hid (fun W l r q => HPB.out W l r q t htl)
          have hsup : Hid ((cf c)[18]? = some (.int .i64 c.suppress)) := Lib.hid rfl
          have hreu : Hid ((cf c)[19]? = some (.int .i64 c.reuse)) := Lib.hid rfl
          dsimp only [gc] at hsu
          generalize a.x.pen.getD t 0 = va at *
          generalize b.x.pen.getD t 0 = vb at *
          obtain ⟨v1, v2⟩ := hpb
          have e1 : decide (vb < (0 : Int)) = false := by simp; omega
          have e2 : decide ((1000000 : Int) < vb) = false := by simp; omega
          clear htua htub htus v1 v2
          cases hfa : ua.testBit t with
          | false =>
            have hb1 := bit_off hua hfa
            have e4 : decide (va < vb) = false := by have := hgrow (by rw [hfa]; rintro ⟨q, -⟩; cases q); simp; omega
            clear hgrow hfa
            cases hso : us.testBit t with
            | true =>
              have hb3 := bit_on hus hso
              have e5 : decide (vb ≤ c.reuse) = false := by have := hsu.1 hso; simp; omega
              clear hsu hso
              go_wp2_with (first | ((with_reducible refine Kx.loads_gate ?_); refine Kx.wpList_load1_x HB rfl _ _ rfl b2 rfl (cf c) (Tryd.isAgg3 _) _ HTGT.out ?_) | (first | ((with_reducible refine Kx.absorb HB ?_); clear HB; intro w_ HB) | ((with_reducible refine Kx.box_gate ?_); (first | refine Kx.boxa HB rfl ?_ | refine Kx.boxt HB rfl rfl ?_ | refine Kx.box1 HB rfl rfl ?_); clear HB; intro b_ w_ HB; refine Kx.fr ?_) | ((with_reducible refine Kx.alloc_gate ?_); (first | refine Kx.ala HB ?_ | refine Kx.al1 HB ?_); clear HB; intro b_ w_ HB; refine Kx.fr ?_) | ((with_reducible refine Kx.loads_gate ?_); first | refine Kx.l1 HB rfl rfl ?_ | refine Kx.la HB rfl ?_ | refine Kx.lo HB rfl HC.out ?_) | ((with_reducible refine Kx.loadg_gate ?_); first | refine Kx.l1g HB rfl rfl rfl ?_ | refine Kx.lag HB rfl rfl ?_ | refine Kx.log HB rfl HC.out rfl ?_) | ((with_reducible refine Kx.store_gate ?_); (first | refine Kx.stwa HB rfl rfl ?_ | refine Kx.sta HB rfl rfl ?_ | refine Kx.stc HB rfl rfl ?_ | refine Kx.stt HB rfl rfl rfl ?_ | refine Kx.st1 HB rfl rfl rfl ?_); clear HB; intro w_ HB)))
              refine Kx.region_x HB (fun i => false) (by kernel_rfl) ?_
              refine Kx.tk 0 rfl ?_
              refine anyW_take (i := 1) (v := ?v1_52) (a' := ?a1_52) (by first | exact Kx.bears_x | exact bears_u | assumption) rfl (by kernel_rfl) (by kernel_rfl) (by kernel_rfl) (fun _ _ _ h => h) (by kernel_rfl) ?w1_52 ?y1_52 ?f1_52 ?r1_52
              case w1_52 => kernel_rfl
              case y1_52 => (intro W hW; first | (refine Eq.trans (Kx.tells_load1_x (v := .slice (some adb) N b.c) hW b9 10 rfl b.cells inferInstance (Tryd.isAgg22 _) HXB.out) ?_; with_reducible rfl))
              case f1_52 => (go_simp; try with_reducible rfl)
              refine Kx.tk 2 rfl ?_
              refine Kx.tk 3 rfl ?_
              refine anyW_take (i := 4) (v := ?v4_53) (a' := ?a4_53) (by first | exact Kx.bears_x | exact bears_u | assumption) rfl (by kernel_rfl) (by kernel_rfl) (by kernel_rfl) (fun _ _ _ h => h) (by kernel_rfl) ?w4_53 ?y4_53 ?f4_53 ?r4_53
              case w4_53 => kernel_rfl
              case y4_53 => (intro W hW; first | (refine Eq.trans (tells_cell (v := .int .i64 vb) (adb.add t) rfl (Tryd.isAgg3 _) (HVB.out _ _ _ hW)) ?_; with_reducible rfl))
              case f4_53 => (go_simp; try with_reducible rfl)
              refine Kx.tk 5 rfl ?_
              refine Kx.tk 6 rfl ?_
              refine Kx.tk 7 rfl ?_
              refine anyW_take (i := 8) (v := ?v8_54) (a' := ?a8_54) (by first | exact Kx.bears_x | exact bears_u | assumption) rfl (by kernel_rfl) (by kernel_rfl) (by kernel_rfl) (fun _ _ _ h => h) (by kernel_rfl) ?w8_54 ?y8_54 ?f8_54 ?r8_54
              case w8_54 => kernel_rfl
              case y8_54 => (intro W hW; first | (refine Eq.trans (Kx.tells_load1_x (v := .slice (some adb) N b.c) hW b9 10 rfl b.cells inferInstance (Tryd.isAgg22 _) HXB.out) ?_; with_reducible rfl))
              case f8_54 => (go_simp; try with_reducible rfl)
              refine Kx.tk 9 rfl ?_
              refine Kx.tk 10 rfl ?_
              refine anyW_take (i := 11) (v := ?v11_55) (a' := ?a11_55) (by first | exact Kx.bears_x | exact bears_u | assumption) rfl (by kernel_rfl) (by kernel_rfl) (by kernel_rfl) (fun _ _ _ h => h) (by kernel_rfl) ?w11_55 ?y11_55 ?f11_55 ?r11_55
              case w11_55 => kernel_rfl
              case y11_55 => (intro W hW; first | (refine Eq.trans (tells_cell (v := .int .i64 vb) (adb.add t) rfl (Tryd.isAgg3 _) (HVB.out _ _ _ hW)) ?_; with_reducible rfl))
              case f11_55 => (go_simp; try with_reducible rfl)
              refine Kx.tk 12 rfl ?_
              refine Kx.tk 13 rfl ?_
              refine Kx.tk 14 rfl ?_
              refine Kx.tk 15 rfl ?_
              refine anyW_take (i := 16) (v := ?v16_56) (a' := ?a16_56) (by first | exact Kx.bears_x | exact bears_u | assumption) rfl (by kernel_rfl) (by kernel_rfl) (by kernel_rfl) (fun _ _ _ h => h) (by kernel_rfl) ?w16_56 ?y16_56 ?f16_56 ?r16_56
              case w16_56 => kernel_rfl
              case y16_56 => (intro W hW; first | (refine Eq.trans (Kx.tells_load1_x (v := .slice (some adb) N b.c) hW b9 10 rfl b.cells inferInstance (Tryd.isAgg22 _) HXB.out) ?_; with_reducible rfl))
              case f16_56 => (go_simp; try with_reducible rfl)
              refine Kx.tk 17 rfl ?_
              refine Kx.tk 18 rfl ?_
              refine anyW_take (i := 19) (v := ?v19_57) (a' := ?a19_57) (by first | exact Kx.bears_x | exact bears_u | assumption) rfl (by kernel_rfl) (by kernel_rfl) (by kernel_rfl) (fun _ _ _ h => h) (by kernel_rfl) ?w19_57 ?y19_57 ?f19_57 ?r19_57
              case w19_57 => kernel_rfl
              case y19_57 => (intro W hW; first | (refine Eq.trans (tells_cell (v := .int .i64 vb) (adb.add t) rfl (Tryd.isAgg3 _) (HVB.out _ _ _ hW)) ?_; with_reducible rfl))
              case f19_57 => (go_simp; try with_reducible rfl)
              refine Kx.tk 20 rfl ?_
              refine anyW_take (i := 21) (v := ?v21_58) (a' := ?a21_58) (by first | exact Kx.bears_x | exact bears_u | assumption) rfl (by kernel_rfl) (by kernel_rfl) (by kernel_rfl) (fun _ _ _ h => h) (by kernel_rfl) ?w21_58 ?y21_58 ?f21_58 ?r21_58
              case w21_58 => kernel_rfl
              case y21_58 => (intro W hW; first | (refine Eq.trans (Kx.tells_load1_x (v := .slice (some ada) N a.c) hW b8 10 rfl a.cells inferInstance (Tryd.isAgg22 _) HXA.out) ?_; with_reducible rfl))
              case f21_58 => (go_simp; try with_reducible rfl)
              refine Kx.tk 22 rfl ?_
              refine Kx.tk 23 rfl ?_
              refine anyW_take (i := 24) (v := ?v24_59) (a' := ?a24_59) (by first | exact Kx.bears_x | exact bears_u | assumption) rfl (by kernel_rfl) (by kernel_rfl) (by kernel_rfl) (fun _ _ _ h => h) (by kernel_rfl) ?w24_59 ?y24_59 ?f24_59 ?r24_59
              case w24_59 => kernel_rfl
              case y24_59 => (intro W hW; first | (refine Eq.trans (tells_cell (v := .int .i64 va) (ada.add t) rfl (Tryd.isAgg3 _) (HVA.out _ _ _ hW)) ?_; with_reducible rfl))
              case f24_59 => (go_simp; try with_reducible rfl)
              refine Kx.tk 25 rfl ?_
              refine Kx.tk 26 rfl ?_
              refine Kx.sk 27 rfl ?_
              refine Kx.sk 28 rfl ?_
              refine Kx.tk 29 rfl ?_
              refine Kx.tk 30 rfl ?_
              refine anyW_done (by kernel_rfl) ?_
              clear HB
              intro w_ HB_
              have HB := Lib.hid HB_
              clear HB_
              go_wp2_with (first | ((with_reducible refine Kx.absorb HB ?_); clear HB; intro w_ HB) | ((with_reducible refine Kx.box_gate ?_); (first | refine Kx.boxa HB rfl ?_ | refine Kx.boxt HB rfl rfl ?_ | refine Kx.box1 HB rfl rfl ?_); clear HB; intro b_ w_ HB; refine Kx.fr ?_) | ((with_reducible refine Kx.alloc_gate ?_); (first | refine Kx.ala HB ?_ | refine Kx.al1 HB ?_); clear HB; intro b_ w_ HB; refine Kx.fr ?_) | ((with_reducible refine Kx.loads_gate ?_); first | refine Kx.l1 HB rfl rfl ?_ | refine Kx.la HB rfl ?_ | refine Kx.lo HB rfl HC.out ?_) | ((with_reducible refine Kx.loadg_gate ?_); first | refine Kx.l1g HB rfl rfl rfl ?_ | refine Kx.lag HB rfl rfl ?_ | refine Kx.log HB rfl HC.out rfl ?_) | ((with_reducible refine Kx.store_gate ?_); (first | refine Kx.stwa HB rfl rfl ?_ | refine Kx.sta HB rfl rfl ?_ | refine Kx.stc HB rfl rfl ?_ | refine Kx.stt HB rfl rfl rfl ?_ | refine Kx.st1 HB rfl rfl rfl ?_); clear HB; intro w_ HB))
              refine Kx.region_x HB (fun i => false) (by kernel_rfl) ?_
              refine Kx.tk 0 rfl ?_
              refine Kx.tk 1 rfl ?_
              refine Kx.tk 2 rfl ?_
              refine anyW_take (i := 3) (v := ?v3_60) (a' := ?a3_60) (by first | exact Kx.bears_x | exact bears_u | assumption) rfl (by kernel_rfl) (by kernel_rfl) (by kernel_rfl) (fun _ _ _ h => h) (by kernel_rfl) ?w3_60 ?y3_60 ?f3_60 ?r3_60
              case w3_60 => kernel_rfl
              case y3_60 => (intro W hW; first | (refine Eq.trans (Kx.tells_load1_x (v := .slice (some adb) N b.c) hW b9 10 rfl b.cells inferInstance (Tryd.isAgg22 _) HXB.out) ?_; with_reducible rfl))
              case f3_60 => (go_simp; try with_reducible rfl)
              refine Kx.tk 4 rfl ?_
              refine Kx.tk 5 rfl ?_
              refine anyW_take (i := 6) (v := ?v6_61) (a' := ?a6_61) (by first | exact Kx.bears_x | exact bears_u | assumption) rfl (by kernel_rfl) (by kernel_rfl) (by kernel_rfl) (fun _ _ _ h => h) (by kernel_rfl) ?w6_61 ?y6_61 ?f6_61 ?r6_61
              case w6_61 => kernel_rfl
              case y6_61 => (intro W hW; first | (refine Eq.trans (tells_cell (v := .int .i64 vb) (adb.add t) rfl (Tryd.isAgg3 _) (HVB.out _ _ _ hW)) ?_; with_reducible rfl))
              case f6_61 => (go_simp; try with_reducible rfl)
              refine Kx.tk 7 rfl ?_
              refine anyW_take (i := 8) (v := ?v8_62) (a' := ?a8_62) (by first | exact Kx.bears_x | exact bears_u | assumption) rfl (by kernel_rfl) (by kernel_rfl) (by kernel_rfl) (fun _ _ _ h => h) (by kernel_rfl) ?w8_62 ?y8_62 ?f8_62 ?r8_62
              case w8_62 => kernel_rfl
              case y8_62 => (intro W hW; first | (refine Eq.trans (Kx.tells_load1_x (v := .int .i64 c.reuse) hW b2 19 rfl (cf c) inferInstance (Tryd.isAgg3 _) hreu.out) ?_; with_reducible rfl))
              case f8_62 => (go_simp; try with_reducible rfl)
              refine Kx.tk 9 rfl ?_
              refine Kx.tk 10 rfl ?_
              refine Kx.tk 11 rfl ?_
              refine Kx.tk 12 rfl ?_
              refine Kx.tk 13 rfl ?_
              refine Kx.tk 14 rfl ?_
              refine Kx.sk 15 rfl ?_
              refine Kx.sk 16 rfl ?_
              refine Kx.sk 17 rfl ?_
              refine Kx.sk 18 rfl ?_
              refine Kx.sk 19 rfl ?_
              refine Kx.sk 20 rfl ?_
              refine Kx.sk 21 rfl ?_
              refine Kx.sk 22 rfl ?_
              refine Kx.tk 23 rfl ?_
              refine Kx.tk 24 rfl ?_
              refine anyW_done (by kernel_rfl) ?_
              clear HB
              intro w_ HB_
              have HB := Lib.hid HB_
              clear HB_
              go_wp2_with fail
              go_roundg (gk - 1)
              case measure => omega
              case rel => exact ⟨t + 1, by omega, by go_num, HB⟩
            | false =>
              have hb3 := bit_off hus hso
              have e5 : decide (c.suppress ≤ vb) = false := by have := hsu.2 hso; simp; omega
              clear hsu hso
              go_wp2_with (first | ((with_reducible refine Kx.loads_gate ?_); refine Kx.wpList_load1_x HB rfl _ _ rfl b2 rfl (cf c) (Tryd.isAgg3 _) _ HTGT.out ?_) | (first | ((with_reducible refine Kx.absorb HB ?_); clear HB; intro w_ HB) | ((with_reducible refine Kx.box_gate ?_); (first | refine Kx.boxa HB rfl ?_ | refine Kx.boxt HB rfl rfl ?_ | refine Kx.box1 HB rfl rfl ?_); clear HB; intro b_ w_ HB; refine Kx.fr ?_) | ((with_reducible refine Kx.alloc_gate ?_); (first | refine Kx.ala HB ?_ | refine Kx.al1 HB ?_); clear HB; intro b_ w_ HB; refine Kx.fr ?_) | ((with_reducible refine Kx.loads_gate ?_); first | refine Kx.l1 HB rfl rfl ?_ | refine Kx.la HB rfl ?_ | refine Kx.lo HB rfl HC.out ?_) | ((with_reducible refine Kx.loadg_gate ?_); first | refine Kx.l1g HB rfl rfl rfl ?_ | refine Kx.lag HB rfl rfl ?_ | refine Kx.log HB rfl HC.out rfl ?_) | ((with_reducible refine Kx.store_gate ?_); (first | refine Kx.stwa HB rfl rfl ?_ | refine Kx.sta HB rfl rfl ?_ | refine Kx.stc HB rfl rfl ?_ | refine Kx.stt HB rfl rfl rfl ?_ | refine Kx.st1 HB rfl rfl rfl ?_); clear HB; intro w_ HB)))
              refine Kx.region_x HB (fun i => false) (by kernel_rfl) ?_
              refine Kx.tk 0 rfl ?_
              refine anyW_take (i := 1) (v := ?v1_63) (a' := ?a1_63) (by first | exact Kx.bears_x | exact bears_u | assumption) rfl (by kernel_rfl) (by kernel_rfl) (by kernel_rfl) (fun _ _ _ h => h) (by kernel_rfl) ?w1_63 ?y1_63 ?f1_63 ?r1_63
              case w1_63 => kernel_rfl
              case y1_63 => (intro W hW; first | (refine Eq.trans (Kx.tells_load1_x (v := .slice (some adb) N b.c) hW b9 10 rfl b.cells inferInstance (Tryd.isAgg22 _) HXB.out) ?_; with_reducible rfl))
              case f1_63 => (go_simp; try with_reducible rfl)
              refine Kx.tk 2 rfl ?_
              refine Kx.tk 3 rfl ?_
              refine anyW_take (i := 4) (v := ?v4_64) (a' := ?a4_64) (by first | exact Kx.bears_x | exact bears_u | assumption) rfl (by kernel_rfl) (by kernel_rfl) (by kernel_rfl) (fun _ _ _ h => h) (by kernel_rfl) ?w4_64 ?y4_64 ?f4_64 ?r4_64
              case w4_64 => kernel_rfl
              case y4_64 => (intro W hW; first | (refine Eq.trans (tells_cell (v := .int .i64 vb) (adb.add t) rfl (Tryd.isAgg3 _) (HVB.out _ _ _ hW)) ?_; with_reducible rfl))
              case f4_64 => (go_simp; try with_reducible rfl)
              refine Kx.tk 5 rfl ?_
              refine Kx.tk 6 rfl ?_
              refine Kx.tk 7 rfl ?_
              refine anyW_take (i := 8) (v := ?v8_65) (a' := ?a8_65) (by first | exact Kx.bears_x | exact bears_u | assumption) rfl (by kernel_rfl) (by kernel_rfl) (by kernel_rfl) (fun _ _ _ h => h) (by kernel_rfl) ?w8_65 ?y8_65 ?f8_65 ?r8_65
              case w8_65 => kernel_rfl
              case y8_65 => (intro W hW; first | (refine Eq.trans (Kx.tells_load1_x (v := .slice (some adb) N b.c) hW b9 10 rfl b.cells inferInstance (Tryd.isAgg22 _) HXB.out) ?_; with_reducible rfl))
              case f8_65 => (go_simp; try with_reducible rfl)
              refine Kx.tk 9 rfl ?_
              refine Kx.tk 10 rfl ?_
              refine anyW_take (i := 11) (v := ?v11_66) (a' := ?a11_66) (by first | exact Kx.bears_x | exact bears_u | assumption) rfl (by kernel_rfl) (by kernel_rfl) (by kernel_rfl) (fun _ _ _ h => h) (by kernel_rfl) ?w11_66 ?y11_66 ?f11_66 ?r11_66
              case w11_66 => kernel_rfl
              case y11_66 => (intro W hW; first | (refine Eq.trans (tells_cell (v := .int .i64 vb) (adb.add t) rfl (Tryd.isAgg3 _) (HVB.out _ _ _ hW)) ?_; with_reducible rfl))
              case f11_66 => (go_simp; try with_reducible rfl)
              refine Kx.tk 12 rfl ?_
              refine Kx.tk 13 rfl ?_
              refine Kx.tk 14 rfl ?_
              refine Kx.tk 15 rfl ?_
              refine anyW_take (i := 16) (v := ?v16_67) (a' := ?a16_67) (by first | exact Kx.bears_x | exact bears_u | assumption) rfl (by kernel_rfl) (by kernel_rfl) (by kernel_rfl) (fun _ _ _ h => h) (by kernel_rfl) ?w16_67 ?y16_67 ?f16_67 ?r16_67
              case w16_67 => kernel_rfl
              case y16_67 => (intro W hW; first | (refine Eq.trans (Kx.tells_load1_x (v := .slice (some adb) N b.c) hW b9 10 rfl b.cells inferInstance (Tryd.isAgg22 _) HXB.out) ?_; with_reducible rfl))
              case f16_67 => (go_simp; try with_reducible rfl)
              refine Kx.tk 17 rfl ?_
              refine Kx.tk 18 rfl ?_
              refine anyW_take (i := 19) (v := ?v19_68) (a' := ?a19_68) (by first | exact Kx.bears_x | exact bears_u | assumption) rfl (by kernel_rfl) (by kernel_rfl) (by kernel_rfl) (fun _ _ _ h => h) (by kernel_rfl) ?w19_68 ?y19_68 ?f19_68 ?r19_68
              case w19_68 => kernel_rfl
              case y19_68 => (intro W hW; first | (refine Eq.trans (tells_cell (v := .int .i64 vb) (adb.add t) rfl (Tryd.isAgg3 _) (HVB.out _ _ _ hW)) ?_; with_reducible rfl))
              case f19_68 => (go_simp; try with_reducible rfl)
              refine Kx.tk 20 rfl ?_
              refine anyW_take (i := 21) (v := ?v21_69) (a' := ?a21_69) (by first | exact Kx.bears_x | exact bears_u | assumption) rfl (by kernel_rfl) (by kernel_rfl) (by kernel_rfl) (fun _ _ _ h => h) (by kernel_rfl) ?w21_69 ?y21_69 ?f21_69 ?r21_69
              case w21_69 => kernel_rfl
              case y21_69 => (intro W hW; first | (refine Eq.trans (Kx.tells_load1_x (v := .slice (some ada) N a.c) hW b8 10 rfl a.cells inferInstance (Tryd.isAgg22 _) HXA.out) ?_; with_reducible rfl))
              case f21_69 => (go_simp; try with_reducible rfl)
              refine Kx.tk 22 rfl ?_
              refine Kx.tk 23 rfl ?_
              refine anyW_take (i := 24) (v := ?v24_70) (a' := ?a24_70) (by first | exact Kx.bears_x | exact bears_u | assumption) rfl (by kernel_rfl) (by kernel_rfl) (by kernel_rfl) (fun _ _ _ h => h) (by kernel_rfl) ?w24_70 ?y24_70 ?f24_70 ?r24_70
              case w24_70 => kernel_rfl
              case y24_70 => (intro W hW; first | (refine Eq.trans (tells_cell (v := .int .i64 va) (ada.add t) rfl (Tryd.isAgg3 _) (HVA.out _ _ _ hW)) ?_; with_reducible rfl))
              case f24_70 => (go_simp; try with_reducible rfl)
              refine Kx.tk 25 rfl ?_
              refine Kx.tk 26 rfl ?_
              refine Kx.sk 27 rfl ?_
              refine Kx.sk 28 rfl ?_
              refine Kx.tk 29 rfl ?_
              refine Kx.tk 30 rfl ?_
              refine anyW_done (by kernel_rfl) ?_
              clear HB
              intro w_ HB_
              have HB := Lib.hid HB_
              clear HB_
              go_wp2_with (first | ((with_reducible refine Kx.absorb HB ?_); clear HB; intro w_ HB) | ((with_reducible refine Kx.box_gate ?_); (first | refine Kx.boxa HB rfl ?_ | refine Kx.boxt HB rfl rfl ?_ | refine Kx.box1 HB rfl rfl ?_); clear HB; intro b_ w_ HB; refine Kx.fr ?_) | ((with_reducible refine Kx.alloc_gate ?_); (first | refine Kx.ala HB ?_ | refine Kx.al1 HB ?_); clear HB; intro b_ w_ HB; refine Kx.fr ?_) | ((with_reducible refine Kx.loads_gate ?_); first | refine Kx.l1 HB rfl rfl ?_ | refine Kx.la HB rfl ?_ | refine Kx.lo HB rfl HC.out ?_) | ((with_reducible refine Kx.loadg_gate ?_); first | refine Kx.l1g HB rfl rfl rfl ?_ | refine Kx.lag HB rfl rfl ?_ | refine Kx.log HB rfl HC.out rfl ?_) | ((with_reducible refine Kx.store_gate ?_); (first | refine Kx.stwa HB rfl rfl ?_ | refine Kx.sta HB rfl rfl ?_ | refine Kx.stc HB rfl rfl ?_ | refine Kx.stt HB rfl rfl rfl ?_ | refine Kx.st1 HB rfl rfl rfl ?_); clear HB; intro w_ HB))
              refine Kx.region_x HB (fun i => false) (by kernel_rfl) ?_
              refine Kx.tk 0 rfl ?_
              refine Kx.tk 1 rfl ?_
              refine Kx.sk 2 rfl ?_
              refine Kx.sk 3 rfl ?_
              refine Kx.sk 4 rfl ?_
              refine Kx.sk 5 rfl ?_
              refine Kx.sk 6 rfl ?_
              refine Kx.sk 7 rfl ?_
              refine Kx.sk 8 rfl ?_
              refine Kx.sk 9 rfl ?_
              refine Kx.tk 10 rfl ?_
              refine Kx.tk 11 rfl ?_
              refine Kx.tk 12 rfl ?_
              refine Kx.tk 13 rfl ?_
              refine Kx.tk 14 rfl ?_
              refine Kx.tk 15 rfl ?_
              refine anyW_take (i := 16) (v := ?v16_71) (a' := ?a16_71) (by first | exact Kx.bears_x | exact bears_u | assumption) rfl (by kernel_rfl) (by kernel_rfl) (by kernel_rfl) (fun _ _ _ h => h) (by kernel_rfl) ?w16_71 ?y16_71 ?f16_71 ?r16_71
              case w16_71 => kernel_rfl
              case y16_71 => (intro W hW; first | (refine Eq.trans (Kx.tells_load1_x (v := .slice (some adb) N b.c) hW b9 10 rfl b.cells inferInstance (Tryd.isAgg22 _) HXB.out) ?_; with_reducible rfl))
              case f16_71 => (go_simp; try with_reducible rfl)
              refine Kx.tk 17 rfl ?_
              refine Kx.tk 18 rfl ?_
              refine anyW_take (i := 19) (v := ?v19_72) (a' := ?a19_72) (by first | exact Kx.bears_x | exact bears_u | assumption) rfl (by kernel_rfl) (by kernel_rfl) (by kernel_rfl) (fun _ _ _ h => h) (by kernel_rfl) ?w19_72 ?y19_72 ?f19_72 ?r19_72
              case w19_72 => kernel_rfl
              case y19_72 => (intro W hW; first | (refine Eq.trans (tells_cell (v := .int .i64 vb) (adb.add t) rfl (Tryd.isAgg3 _) (HVB.out _ _ _ hW)) ?_; with_reducible rfl))
              case f19_72 => (go_simp; try with_reducible rfl)
              refine Kx.tk 20 rfl ?_
              refine anyW_take (i := 21) (v := ?v21_73) (a' := ?a21_73) (by first | exact Kx.bears_x | exact bears_u | assumption) rfl (by kernel_rfl) (by kernel_rfl) (by kernel_rfl) (fun _ _ _ h => h) (by kernel_rfl) ?w21_73 ?y21_73 ?f21_73 ?r21_73
              case w21_73 => kernel_rfl
              case y21_73 => (intro W hW; first | (refine Eq.trans (Kx.tells_load1_x (v := .int .i64 c.suppress) hW b2 18 rfl (cf c) inferInstance (Tryd.isAgg3 _) hsup.out) ?_; with_reducible rfl))
              case f21_73 => (go_simp; try with_reducible rfl)
              refine Kx.tk 22 rfl ?_
              refine Kx.tk 23 rfl ?_
              refine Kx.tk 24 rfl ?_
              refine anyW_done (by kernel_rfl) ?_
              clear HB
              intro w_ HB_
              have HB := Lib.hid HB_
              clear HB_
              go_wp2_with fail
              go_roundg (gk - 1)
              case measure => omega
              case rel => exact ⟨t + 1, by omega, by go_num, HB⟩
          | true =>
            have hb1 := bit_on hua hfa
            cases hfb : ub.testBit t with
            | true =>
              have hb2 := bit_on hub hfb
              have e4 : decide (va < vb) = false := by have := hgrow (by rw [hfb]; rintro ⟨-, q⟩; cases q); simp; omega
              clear hgrow hfa hfb
              cases hso : us.testBit t with
              | true =>
                have hb3 := bit_on hus hso
                have e5 : decide (vb ≤ c.reuse) = false := by have := hsu.1 hso; simp; omega
                clear hsu hso
                go_wp2_with (first | ((with_reducible refine Kx.loads_gate ?_); refine Kx.wpList_load1_x HB rfl _ _ rfl b2 rfl (cf c) (Tryd.isAgg3 _) _ HTGT.out ?_) | (first | ((with_reducible refine Kx.absorb HB ?_); clear HB; intro w_ HB) | ((with_reducible refine Kx.box_gate ?_); (first | refine Kx.boxa HB rfl ?_ | refine Kx.boxt HB rfl rfl ?_ | refine Kx.box1 HB rfl rfl ?_); clear HB; intro b_ w_ HB; refine Kx.fr ?_) | ((with_reducible refine Kx.alloc_gate ?_); (first | refine Kx.ala HB ?_ | refine Kx.al1 HB ?_); clear HB; intro b_ w_ HB; refine Kx.fr ?_) | ((with_reducible refine Kx.loads_gate ?_); first | refine Kx.l1 HB rfl rfl ?_ | refine Kx.la HB rfl ?_ | refine Kx.lo HB rfl HC.out ?_) | ((with_reducible refine Kx.loadg_gate ?_); first | refine Kx.l1g HB rfl rfl rfl ?_ | refine Kx.lag HB rfl rfl ?_ | refine Kx.log HB rfl HC.out rfl ?_) | ((with_reducible refine Kx.store_gate ?_); (first | refine Kx.stwa HB rfl rfl ?_ | refine Kx.sta HB rfl rfl ?_ | refine Kx.stc HB rfl rfl ?_ | refine Kx.stt HB rfl rfl rfl ?_ | refine Kx.st1 HB rfl rfl rfl ?_); clear HB; intro w_ HB)))
                refine Kx.region_x HB (fun i => false) (by kernel_rfl) ?_
                refine Kx.tk 0 rfl ?_
                refine anyW_take (i := 1) (v := ?v1_74) (a' := ?a1_74) (by first | exact Kx.bears_x | exact bears_u | assumption) rfl (by kernel_rfl) (by kernel_rfl) (by kernel_rfl) (fun _ _ _ h => h) (by kernel_rfl) ?w1_74 ?y1_74 ?f1_74 ?r1_74
                case w1_74 => kernel_rfl
                case y1_74 => (intro W hW; first | (refine Eq.trans (Kx.tells_load1_x (v := .slice (some adb) N b.c) hW b9 10 rfl b.cells inferInstance (Tryd.isAgg22 _) HXB.out) ?_; with_reducible rfl))
                case f1_74 => (go_simp; try with_reducible rfl)
                refine Kx.tk 2 rfl ?_
                refine Kx.tk 3 rfl ?_
                refine anyW_take (i := 4) (v := ?v4_75) (a' := ?a4_75) (by first | exact Kx.bears_x | exact bears_u | assumption) rfl (by kernel_rfl) (by kernel_rfl) (by kernel_rfl) (fun _ _ _ h => h) (by kernel_rfl) ?w4_75 ?y4_75 ?f4_75 ?r4_75
                case w4_75 => kernel_rfl
                case y4_75 => (intro W hW; first | (refine Eq.trans (tells_cell (v := .int .i64 vb) (adb.add t) rfl (Tryd.isAgg3 _) (HVB.out _ _ _ hW)) ?_; with_reducible rfl))
                case f4_75 => (go_simp; try with_reducible rfl)
                refine Kx.tk 5 rfl ?_
                refine Kx.tk 6 rfl ?_
                refine Kx.tk 7 rfl ?_
                refine anyW_take (i := 8) (v := ?v8_76) (a' := ?a8_76) (by first | exact Kx.bears_x | exact bears_u | assumption) rfl (by kernel_rfl) (by kernel_rfl) (by kernel_rfl) (fun _ _ _ h => h) (by kernel_rfl) ?w8_76 ?y8_76 ?f8_76 ?r8_76
                case w8_76 => kernel_rfl
                case y8_76 => (intro W hW; first | (refine Eq.trans (Kx.tells_load1_x (v := .slice (some adb) N b.c) hW b9 10 rfl b.cells inferInstance (Tryd.isAgg22 _) HXB.out) ?_; with_reducible rfl))
                case f8_76 => (go_simp; try with_reducible rfl)
                refine Kx.tk 9 rfl ?_
                refine Kx.tk 10 rfl ?_
                refine anyW_take (i := 11) (v := ?v11_77) (a' := ?a11_77) (by first | exact Kx.bears_x | exact bears_u | assumption) rfl (by kernel_rfl) (by kernel_rfl) (by kernel_rfl) (fun _ _ _ h => h) (by kernel_rfl) ?w11_77 ?y11_77 ?f11_77 ?r11_77
                case w11_77 => kernel_rfl
                case y11_77 => (intro W hW; first | (refine Eq.trans (tells_cell (v := .int .i64 vb) (adb.add t) rfl (Tryd.isAgg3 _) (HVB.out _ _ _ hW)) ?_; with_reducible rfl))
                case f11_77 => (go_simp; try with_reducible rfl)
                refine Kx.tk 12 rfl ?_
                refine Kx.tk 13 rfl ?_
                refine Kx.tk 14 rfl ?_
                refine Kx.tk 15 rfl ?_
                refine anyW_take (i := 16) (v := ?v16_78) (a' := ?a16_78) (by first | exact Kx.bears_x | exact bears_u | assumption) rfl (by kernel_rfl) (by kernel_rfl) (by kernel_rfl) (fun _ _ _ h => h) (by kernel_rfl) ?w16_78 ?y16_78 ?f16_78 ?r16_78
                case w16_78 => kernel_rfl
                case y16_78 => (intro W hW; first | (refine Eq.trans (Kx.tells_load1_x (v := .slice (some adb) N b.c) hW b9 10 rfl b.cells inferInstance (Tryd.isAgg22 _) HXB.out) ?_; with_reducible rfl))
                case f16_78 => (go_simp; try with_reducible rfl)
                refine Kx.tk 17 rfl ?_
                refine Kx.tk 18 rfl ?_
                refine anyW_take (i := 19) (v := ?v19_79) (a' := ?a19_79) (by first | exact Kx.bears_x | exact bears_u | assumption) rfl (by kernel_rfl) (by kernel_rfl) (by kernel_rfl) (fun _ _ _ h => h) (by kernel_rfl) ?w19_79 ?y19_79 ?f19_79 ?r19_79
                case w19_79 => kernel_rfl
                case y19_79 => (intro W hW; first | (refine Eq.trans (tells_cell (v := .int .i64 vb) (adb.add t) rfl (Tryd.isAgg3 _) (HVB.out _ _ _ hW)) ?_; with_reducible rfl))
                case f19_79 => (go_simp; try with_reducible rfl)
                refine Kx.tk 20 rfl ?_
                refine anyW_take (i := 21) (v := ?v21_80) (a' := ?a21_80) (by first | exact Kx.bears_x | exact bears_u | assumption) rfl (by kernel_rfl) (by kernel_rfl) (by kernel_rfl) (fun _ _ _ h => h) (by kernel_rfl) ?w21_80 ?y21_80 ?f21_80 ?r21_80
                case w21_80 => kernel_rfl
                case y21_80 => (intro W hW; first | (refine Eq.trans (Kx.tells_load1_x (v := .slice (some ada) N a.c) hW b8 10 rfl a.cells inferInstance (Tryd.isAgg22 _) HXA.out) ?_; with_reducible rfl))
                case f21_80 => (go_simp; try with_reducible rfl)
                refine Kx.tk 22 rfl ?_
                refine Kx.tk 23 rfl ?_
                refine anyW_take (i := 24) (v := ?v24_81) (a' := ?a24_81) (by first | exact Kx.bears_x | exact bears_u | assumption) rfl (by kernel_rfl) (by kernel_rfl) (by kernel_rfl) (fun _ _ _ h => h) (by kernel_rfl) ?w24_81 ?y24_81 ?f24_81 ?r24_81
                case w24_81 => kernel_rfl
                case y24_81 => (intro W hW; first | (refine Eq.trans (tells_cell (v := .int .i64 va) (ada.add t) rfl (Tryd.isAgg3 _) (HVA.out _ _ _ hW)) ?_; with_reducible rfl))
                case f24_81 => (go_simp; try with_reducible rfl)
                refine Kx.tk 25 rfl ?_
                refine Kx.tk 26 rfl ?_
                refine Kx.sk 27 rfl ?_
                refine Kx.sk 28 rfl ?_
                refine Kx.tk 29 rfl ?_
                refine Kx.tk 30 rfl ?_
                refine anyW_done (by kernel_rfl) ?_
                clear HB
                intro w_ HB_
                have HB := Lib.hid HB_
                clear HB_
                go_wp2_with (first | ((with_reducible refine Kx.absorb HB ?_); clear HB; intro w_ HB) | ((with_reducible refine Kx.box_gate ?_); (first | refine Kx.boxa HB rfl ?_ | refine Kx.boxt HB rfl rfl ?_ | refine Kx.box1 HB rfl rfl ?_); clear HB; intro b_ w_ HB; refine Kx.fr ?_) | ((with_reducible refine Kx.alloc_gate ?_); (first | refine Kx.ala HB ?_ | refine Kx.al1 HB ?_); clear HB; intro b_ w_ HB; refine Kx.fr ?_) | ((with_reducible refine Kx.loads_gate ?_); first | refine Kx.l1 HB rfl rfl ?_ | refine Kx.la HB rfl ?_ | refine Kx.lo HB rfl HC.out ?_) | ((with_reducible refine Kx.loadg_gate ?_); first | refine Kx.l1g HB rfl rfl rfl ?_ | refine Kx.lag HB rfl rfl ?_ | refine Kx.log HB rfl HC.out rfl ?_) | ((with_reducible refine Kx.store_gate ?_); (first | refine Kx.stwa HB rfl rfl ?_ | refine Kx.sta HB rfl rfl ?_ | refine Kx.stc HB rfl rfl ?_ | refine Kx.stt HB rfl rfl rfl ?_ | refine Kx.st1 HB rfl rfl rfl ?_); clear HB; intro w_ HB))
                refine Kx.region_x HB (fun i => false) (by kernel_rfl) ?_
                refine Kx.tk 0 rfl ?_
                refine Kx.tk 1 rfl ?_
                refine Kx.tk 2 rfl ?_
                refine anyW_take (i := 3) (v := ?v3_82) (a' := ?a3_82) (by first | exact Kx.bears_x | exact bears_u | assumption) rfl (by kernel_rfl) (by kernel_rfl) (by kernel_rfl) (fun _ _ _ h => h) (by kernel_rfl) ?w3_82 ?y3_82 ?f3_82 ?r3_82
                case w3_82 => kernel_rfl
                case y3_82 => (intro W hW; first | (refine Eq.trans (Kx.tells_load1_x (v := .slice (some adb) N b.c) hW b9 10 rfl b.cells inferInstance (Tryd.isAgg22 _) HXB.out) ?_; with_reducible rfl))
                case f3_82 => (go_simp; try with_reducible rfl)
                refine Kx.tk 4 rfl ?_
                refine Kx.tk 5 rfl ?_
                refine anyW_take (i := 6) (v := ?v6_83) (a' := ?a6_83) (by first | exact Kx.bears_x | exact bears_u | assumption) rfl (by kernel_rfl) (by kernel_rfl) (by kernel_rfl) (fun _ _ _ h => h) (by kernel_rfl) ?w6_83 ?y6_83 ?f6_83 ?r6_83
                case w6_83 => kernel_rfl
                case y6_83 => (intro W hW; first | (refine Eq.trans (tells_cell (v := .int .i64 vb) (adb.add t) rfl (Tryd.isAgg3 _) (HVB.out _ _ _ hW)) ?_; with_reducible rfl))
                case f6_83 => (go_simp; try with_reducible rfl)
                refine Kx.tk 7 rfl ?_
                refine anyW_take (i := 8) (v := ?v8_84) (a' := ?a8_84) (by first | exact Kx.bears_x | exact bears_u | assumption) rfl (by kernel_rfl) (by kernel_rfl) (by kernel_rfl) (fun _ _ _ h => h) (by kernel_rfl) ?w8_84 ?y8_84 ?f8_84 ?r8_84
                case w8_84 => kernel_rfl
                case y8_84 => (intro W hW; first | (refine Eq.trans (Kx.tells_load1_x (v := .int .i64 c.reuse) hW b2 19 rfl (cf c) inferInstance (Tryd.isAgg3 _) hreu.out) ?_; with_reducible rfl))
                case f8_84 => (go_simp; try with_reducible rfl)
                refine Kx.tk 9 rfl ?_
                refine Kx.tk 10 rfl ?_
                refine Kx.tk 11 rfl ?_
                refine Kx.tk 12 rfl ?_
                refine Kx.tk 13 rfl ?_
                refine Kx.tk 14 rfl ?_
                refine Kx.sk 15 rfl ?_
                refine Kx.sk 16 rfl ?_
                refine Kx.sk 17 rfl ?_
                refine Kx.sk 18 rfl ?_
                refine Kx.sk 19 rfl ?_
                refine Kx.sk 20 rfl ?_
                refine Kx.sk 21 rfl ?_
                refine Kx.sk 22 rfl ?_
                refine Kx.tk 23 rfl ?_
                refine Kx.tk 24 rfl ?_
                refine anyW_done (by kernel_rfl) ?_
                clear HB
                intro w_ HB_
                have HB := Lib.hid HB_
                clear HB_
                go_wp2_with fail
                go_roundg (gk - 1)
                case measure => omega
                case rel => exact ⟨t + 1, by omega, by go_num, HB⟩
              | false =>
                have hb3 := bit_off hus hso
                have e5 : decide (c.suppress ≤ vb) = false := by have := hsu.2 hso; simp; omega
                clear hsu hso
                go_wp2_with (first | ((with_reducible refine Kx.loads_gate ?_); refine Kx.wpList_load1_x HB rfl _ _ rfl b2 rfl (cf c) (Tryd.isAgg3 _) _ HTGT.out ?_) | (first | ((with_reducible refine Kx.absorb HB ?_); clear HB; intro w_ HB) | ((with_reducible refine Kx.box_gate ?_); (first | refine Kx.boxa HB rfl ?_ | refine Kx.boxt HB rfl rfl ?_ | refine Kx.box1 HB rfl rfl ?_); clear HB; intro b_ w_ HB; refine Kx.fr ?_) | ((with_reducible refine Kx.alloc_gate ?_); (first | refine Kx.ala HB ?_ | refine Kx.al1 HB ?_); clear HB; intro b_ w_ HB; refine Kx.fr ?_) | ((with_reducible refine Kx.loads_gate ?_); first | refine Kx.l1 HB rfl rfl ?_ | refine Kx.la HB rfl ?_ | refine Kx.lo HB rfl HC.out ?_) | ((with_reducible refine Kx.loadg_gate ?_); first | refine Kx.l1g HB rfl rfl rfl ?_ | refine Kx.lag HB rfl rfl ?_ | refine Kx.log HB rfl HC.out rfl ?_) | ((with_reducible refine Kx.store_gate ?_); (first | refine Kx.stwa HB rfl rfl ?_ | refine Kx.sta HB rfl rfl ?_ | refine Kx.stc HB rfl rfl ?_ | refine Kx.stt HB rfl rfl rfl ?_ | refine Kx.st1 HB rfl rfl rfl ?_); clear HB; intro w_ HB)))
                refine Kx.region_x HB (fun i => false) (by kernel_rfl) ?_
                refine Kx.tk 0 rfl ?_
                refine anyW_take (i := 1) (v := ?v1_85) (a' := ?a1_85) (by first | exact Kx.bears_x | exact bears_u | assumption) rfl (by kernel_rfl) (by kernel_rfl) (by kernel_rfl) (fun _ _ _ h => h) (by kernel_rfl) ?w1_85 ?y1_85 ?f1_85 ?r1_85
                case w1_85 => kernel_rfl
                case y1_85 => (intro W hW; first | (refine Eq.trans (Kx.tells_load1_x (v := .slice (some adb) N b.c) hW b9 10 rfl b.cells inferInstance (Tryd.isAgg22 _) HXB.out) ?_; with_reducible rfl))
                case f1_85 => (go_simp; try with_reducible rfl)
                refine Kx.tk 2 rfl ?_
                refine Kx.tk 3 rfl ?_
                refine anyW_take (i := 4) (v := ?v4_86) (a' := ?a4_86) (by first | exact Kx.bears_x | exact bears_u | assumption) rfl (by kernel_rfl) (by kernel_rfl) (by kernel_rfl) (fun _ _ _ h => h) (by kernel_rfl) ?w4_86 ?y4_86 ?f4_86 ?r4_86
                case w4_86 => kernel_rfl
                case y4_86 => (intro W hW; first | (refine Eq.trans (tells_cell (v := .int .i64 vb) (adb.add t) rfl (Tryd.isAgg3 _) (HVB.out _ _ _ hW)) ?_; with_reducible rfl))
                case f4_86 => (go_simp; try with_reducible rfl)
                refine Kx.tk 5 rfl ?_
                refine Kx.tk 6 rfl ?_
                refine Kx.tk 7 rfl ?_
                refine anyW_take (i := 8) (v := ?v8_87) (a' := ?a8_87) (by first | exact Kx.bears_x | exact bears_u | assumption) rfl (by kernel_rfl) (by kernel_rfl) (by kernel_rfl) (fun _ _ _ h => h) (by kernel_rfl) ?w8_87 ?y8_87 ?f8_87 ?r8_87
                case w8_87 => kernel_rfl
                case y8_87 => (intro W hW; first | (refine Eq.trans (Kx.tells_load1_x (v := .slice (some adb) N b.c) hW b9 10 rfl b.cells inferInstance (Tryd.isAgg22 _) HXB.out) ?_; with_reducible rfl))
                case f8_87 => (go_simp; try with_reducible rfl)
                refine Kx.tk 9 rfl ?_
                refine Kx.tk 10 rfl ?_
                refine anyW_take (i := 11) (v := ?v11_88) (a' := ?a11_88) (by first | exact Kx.bears_x | exact bears_u | assumption) rfl (by kernel_rfl) (by kernel_rfl) (by kernel_rfl) (fun _ _ _ h => h) (by kernel_rfl) ?w11_88 ?y11_88 ?f11_88 ?r11_88
                case w11_88 => kernel_rfl
                case y11_88 => (intro W hW; first | (refine Eq.trans (tells_cell (v := .int .i64 vb) (adb.add t) rfl (Tryd.isAgg3 _) (HVB.out _ _ _ hW)) ?_; with_reducible rfl))
                case f11_88 => (go_simp; try with_reducible rfl)
                refine Kx.tk 12 rfl ?_
                refine Kx.tk 13 rfl ?_
                refine Kx.tk 14 rfl ?_
                refine Kx.tk 15 rfl ?_
                refine anyW_take (i := 16) (v := ?v16_89) (a' := ?a16_89) (by first | exact Kx.bears_x | exact bears_u | assumption) rfl (by kernel_rfl) (by kernel_rfl) (by kernel_rfl) (fun _ _ _ h => h) (by kernel_rfl) ?w16_89 ?y16_89 ?f16_89 ?r16_89
                case w16_89 => kernel_rfl
                case y16_89 => (intro W hW; first | (refine Eq.trans (Kx.tells_load1_x (v := .slice (some adb) N b.c) hW b9 10 rfl b.cells inferInstance (Tryd.isAgg22 _) HXB.out) ?_; with_reducible rfl))
                case f16_89 => (go_simp; try with_reducible rfl)
                refine Kx.tk 17 rfl ?_
                refine Kx.tk 18 rfl ?_
                refine anyW_take (i := 19) (v := ?v19_90) (a' := ?a19_90) (by first | exact Kx.bears_x | exact bears_u | assumption) rfl (by kernel_rfl) (by kernel_rfl) (by kernel_rfl) (fun _ _ _ h => h) (by kernel_rfl) ?w19_90 ?y19_90 ?f19_90 ?r19_90
                case w19_90 => kernel_rfl
                case y19_90 => (intro W hW; first | (refine Eq.trans (tells_cell (v := .int .i64 vb) (adb.add t) rfl (Tryd.isAgg3 _) (HVB.out _ _ _ hW)) ?_; with_reducible rfl))
                case f19_90 => (go_simp; try with_reducible rfl)
                refine Kx.tk 20 rfl ?_
                refine anyW_take (i := 21) (v := ?v21_91) (a' := ?a21_91) (by first | exact Kx.bears_x | exact bears_u | assumption) rfl (by kernel_rfl) (by kernel_rfl) (by kernel_rfl) (fun _ _ _ h => h) (by kernel_rfl) ?w21_91 ?y21_91 ?f21_91 ?r21_91
                case w21_91 => kernel_rfl
                case y21_91 => (intro W hW; first | (refine Eq.trans (Kx.tells_load1_x (v := .slice (some ada) N a.c) hW b8 10 rfl a.cells inferInstance (Tryd.isAgg22 _) HXA.out) ?_; with_reducible rfl))
                case f21_91 => (go_simp; try with_reducible rfl)
                refine Kx.tk 22 rfl ?_
                refine Kx.tk 23 rfl ?_
                refine anyW_take (i := 24) (v := ?v24_92) (a' := ?a24_92) (by first | exact Kx.bears_x | exact bears_u | assumption) rfl (by kernel_rfl) (by kernel_rfl) (by kernel_rfl) (fun _ _ _ h => h) (by kernel_rfl) ?w24_92 ?y24_92 ?f24_92 ?r24_92
                case w24_92 => kernel_rfl
                case y24_92 => (intro W hW; first | (refine Eq.trans (tells_cell (v := .int .i64 va) (ada.add t) rfl (Tryd.isAgg3 _) (HVA.out _ _ _ hW)) ?_; with_reducible rfl))
                case f24_92 => (go_simp; try with_reducible rfl)
                refine Kx.tk 25 rfl ?_
                refine Kx.tk 26 rfl ?_
                refine Kx.sk 27 rfl ?_
                refine Kx.sk 28 rfl ?_
                refine Kx.tk 29 rfl ?_
                refine Kx.tk 30 rfl ?_
                refine anyW_done (by kernel_rfl) ?_
                clear HB
                intro w_ HB_
                have HB := Lib.hid HB_
                clear HB_
                go_wp2_with (first | ((with_reducible refine Kx.absorb HB ?_); clear HB; intro w_ HB) | ((with_reducible refine Kx.box_gate ?_); (first | refine Kx.boxa HB rfl ?_ | refine Kx.boxt HB rfl rfl ?_ | refine Kx.box1 HB rfl rfl ?_); clear HB; intro b_ w_ HB; refine Kx.fr ?_) | ((with_reducible refine Kx.alloc_gate ?_); (first | refine Kx.ala HB ?_ | refine Kx.al1 HB ?_); clear HB; intro b_ w_ HB; refine Kx.fr ?_) | ((with_reducible refine Kx.loads_gate ?_); first | refine Kx.l1 HB rfl rfl ?_ | refine Kx.la HB rfl ?_ | refine Kx.lo HB rfl HC.out ?_) | ((with_reducible refine Kx.loadg_gate ?_); first | refine Kx.l1g HB rfl rfl rfl ?_ | refine Kx.lag HB rfl rfl ?_ | refine Kx.log HB rfl HC.out rfl ?_) | ((with_reducible refine Kx.store_gate ?_); (first | refine Kx.stwa HB rfl rfl ?_ | refine Kx.sta HB rfl rfl ?_ | refine Kx.stc HB rfl rfl ?_ | refine Kx.stt HB rfl rfl rfl ?_ | refine Kx.st1 HB rfl rfl rfl ?_); clear HB; intro w_ HB))
                refine Kx.region_x HB (fun i => false) (by kernel_rfl) ?_
                refine Kx.tk 0 rfl ?_
                refine Kx.tk 1 rfl ?_
                refine Kx.sk 2 rfl ?_
                refine Kx.sk 3 rfl ?_
                refine Kx.sk 4 rfl ?_
                refine Kx.sk 5 rfl ?_
                refine Kx.sk 6 rfl ?_
                refine Kx.sk 7 rfl ?_
                refine Kx.sk 8 rfl ?_
                refine Kx.sk 9 rfl ?_
                refine Kx.tk 10 rfl ?_
                refine Kx.tk 11 rfl ?_
                refine Kx.tk 12 rfl ?_
                refine Kx.tk 13 rfl ?_
                refine Kx.tk 14 rfl ?_
                refine Kx.tk 15 rfl ?_
                refine anyW_take (i := 16) (v := ?v16_93) (a' := ?a16_93) (by first | exact Kx.bears_x | exact bears_u | assumption) rfl (by kernel_rfl) (by kernel_rfl) (by kernel_rfl) (fun _ _ _ h => h) (by kernel_rfl) ?w16_93 ?y16_93 ?f16_93 ?r16_93
                case w16_93 => kernel_rfl
                case y16_93 => (intro W hW; first | (refine Eq.trans (Kx.tells_load1_x (v := .slice (some adb) N b.c) hW b9 10 rfl b.cells inferInstance (Tryd.isAgg22 _) HXB.out) ?_; with_reducible rfl))
                case f16_93 => (go_simp; try with_reducible rfl)
                refine Kx.tk 17 rfl ?_
                refine Kx.tk 18 rfl ?_
                refine anyW_take (i := 19) (v := ?v19_94) (a' := ?a19_94) (by first | exact Kx.bears_x | exact bears_u | assumption) rfl (by kernel_rfl) (by kernel_rfl) (by kernel_rfl) (fun _ _ _ h => h) (by kernel_rfl) ?w19_94 ?y19_94 ?f19_94 ?r19_94
                case w19_94 => kernel_rfl
                case y19_94 => (intro W hW; first | (refine Eq.trans (tells_cell (v := .int .i64 vb) (adb.add t) rfl (Tryd.isAgg3 _) (HVB.out _ _ _ hW)) ?_; with_reducible rfl))
                case f19_94 => (go_simp; try with_reducible rfl)
                refine Kx.tk 20 rfl ?_
                refine anyW_take (i := 21) (v := ?v21_95) (a' := ?a21_95) (by first | exact Kx.bears_x | exact bears_u | assumption) rfl (by kernel_rfl) (by kernel_rfl) (by kernel_rfl) (fun _ _ _ h => h) (by kernel_rfl) ?w21_95 ?y21_95 ?f21_95 ?r21_95
                case w21_95 => kernel_rfl
                case y21_95 => (intro W hW; first | (refine Eq.trans (Kx.tells_load1_x (v := .int .i64 c.suppress) hW b2 18 rfl (cf c) inferInstance (Tryd.isAgg3 _) hsup.out) ?_; with_reducible rfl))
                case f21_95 => (go_simp; try with_reducible rfl)
                refine Kx.tk 22 rfl ?_
                refine Kx.tk 23 rfl ?_
                refine Kx.tk 24 rfl ?_
                refine anyW_done (by kernel_rfl) ?_
                clear HB
                intro w_ HB_
                have HB := Lib.hid HB_
                clear HB_
                go_wp2_with fail
                go_roundg (gk - 1)
                case measure => omega
                case rel => exact ⟨t + 1, by omega, by go_num, HB⟩
            | false =>
              have hb2 := bit_off hub hfb
              clear hgrow hfa hfb
              by_cases hg : va < vb
              · have e4 : decide (va < vb) = true := by simp [hg]
                clear hg
                cases hso : us.testBit t with
                | true =>
                  have hb3 := bit_on hus hso
                  have e5 : decide (vb ≤ c.reuse) = false := by have := hsu.1 hso; simp; omega
                  clear hsu hso
                  go_wp2_with (first | ((with_reducible refine Kx.loads_gate ?_); refine Kx.wpList_load1_x HB rfl _ _ rfl b2 rfl (cf c) (Tryd.isAgg3 _) _ HTGT.out ?_) | (first | ((with_reducible refine Kx.absorb HB ?_); clear HB; intro w_ HB) | ((with_reducible refine Kx.box_gate ?_); (first | refine Kx.boxa HB rfl ?_ | refine Kx.boxt HB rfl rfl ?_ | refine Kx.box1 HB rfl rfl ?_); clear HB; intro b_ w_ HB; refine Kx.fr ?_) | ((with_reducible refine Kx.alloc_gate ?_); (first | refine Kx.ala HB ?_ | refine Kx.al1 HB ?_); clear HB; intro b_ w_ HB; refine Kx.fr ?_) | ((with_reducible refine Kx.loads_gate ?_); first | refine Kx.l1 HB rfl rfl ?_ | refine Kx.la HB rfl ?_ | refine Kx.lo HB rfl HC.out ?_) | ((with_reducible refine Kx.loadg_gate ?_); first | refine Kx.l1g HB rfl rfl rfl ?_ | refine Kx.lag HB rfl rfl ?_ | refine Kx.log HB rfl HC.out rfl ?_) | ((with_reducible refine Kx.store_gate ?_); (first | refine Kx.stwa HB rfl rfl ?_ | refine Kx.sta HB rfl rfl ?_ | refine Kx.stc HB rfl rfl ?_ | refine Kx.stt HB rfl rfl rfl ?_ | refine Kx.st1 HB rfl rfl rfl ?_); clear HB; intro w_ HB)))
                  refine Kx.region_x HB (fun i => false) (by kernel_rfl) ?_
                  refine Kx.tk 0 rfl ?_
                  refine anyW_take (i := 1) (v := ?v1_96) (a' := ?a1_96) (by first | exact Kx.bears_x | exact bears_u | assumption) rfl (by kernel_rfl) (by kernel_rfl) (by kernel_rfl) (fun _ _ _ h => h) (by kernel_rfl) ?w1_96 ?y1_96 ?f1_96 ?r1_96
                  case w1_96 => kernel_rfl
                  case y1_96 => (intro W hW; first | (refine Eq.trans (Kx.tells_load1_x (v := .slice (some adb) N b.c) hW b9 10 rfl b.cells inferInstance (Tryd.isAgg22 _) HXB.out) ?_; with_reducible rfl))
                  case f1_96 => (go_simp; try with_reducible rfl)
                  refine Kx.tk 2 rfl ?_
                  refine Kx.tk 3 rfl ?_
                  refine anyW_take (i := 4) (v := ?v4_97) (a' := ?a4_97) (by first | exact Kx.bears_x | exact bears_u | assumption) rfl (by kernel_rfl) (by kernel_rfl) (by kernel_rfl) (fun _ _ _ h => h) (by kernel_rfl) ?w4_97 ?y4_97 ?f4_97 ?r4_97
                  case w4_97 => kernel_rfl
                  case y4_97 => (intro W hW; first | (refine Eq.trans (tells_cell (v := .int .i64 vb) (adb.add t) rfl (Tryd.isAgg3 _) (HVB.out _ _ _ hW)) ?_; with_reducible rfl))
                  case f4_97 => (go_simp; try with_reducible rfl)
                  refine Kx.tk 5 rfl ?_
                  refine Kx.tk 6 rfl ?_
                  refine Kx.tk 7 rfl ?_
                  refine anyW_take (i := 8) (v := ?v8_98) (a' := ?a8_98) (by first | exact Kx.bears_x | exact bears_u | assumption) rfl (by kernel_rfl) (by kernel_rfl) (by kernel_rfl) (fun _ _ _ h => h) (by kernel_rfl) ?w8_98 ?y8_98 ?f8_98 ?r8_98
                  case w8_98 => kernel_rfl
                  case y8_98 => (intro W hW; first | (refine Eq.trans (Kx.tells_load1_x (v := .slice (some adb) N b.c) hW b9 10 rfl b.cells inferInstance (Tryd.isAgg22 _) HXB.out) ?_; with_reducible rfl))
                  case f8_98 => (go_simp; try with_reducible rfl)
                  refine Kx.tk 9 rfl ?_
                  refine Kx.tk 10 rfl ?_
                  refine anyW_take (i := 11) (v := ?v11_99) (a' := ?a11_99) (by first | exact Kx.bears_x | exact bears_u | assumption) rfl (by kernel_rfl) (by kernel_rfl) (by kernel_rfl) (fun _ _ _ h => h) (by kernel_rfl) ?w11_99 ?y11_99 ?f11_99 ?r11_99
                  case w11_99 => kernel_rfl
                  case y11_99 => (intro W hW; first | (refine Eq.trans (tells_cell (v := .int .i64 vb) (adb.add t) rfl (Tryd.isAgg3 _) (HVB.out _ _ _ hW)) ?_; with_reducible rfl))
                  case f11_99 => (go_simp; try with_reducible rfl)
                  refine Kx.tk 12 rfl ?_
                  refine Kx.tk 13 rfl ?_
                  refine Kx.tk 14 rfl ?_
                  refine Kx.tk 15 rfl ?_
                  refine anyW_take (i := 16) (v := ?v16_100) (a' := ?a16_100) (by first | exact Kx.bears_x | exact bears_u | assumption) rfl (by kernel_rfl) (by kernel_rfl) (by kernel_rfl) (fun _ _ _ h => h) (by kernel_rfl) ?w16_100 ?y16_100 ?f16_100 ?r16_100
                  case w16_100 => kernel_rfl
                  case y16_100 => (intro W hW; first | (refine Eq.trans (Kx.tells_load1_x (v := .slice (some adb) N b.c) hW b9 10 rfl b.cells inferInstance (Tryd.isAgg22 _) HXB.out) ?_; with_reducible rfl))
                  case f16_100 => (go_simp; try with_reducible rfl)
                  refine Kx.tk 17 rfl ?_
                  refine Kx.tk 18 rfl ?_
                  refine anyW_take (i := 19) (v := ?v19_101) (a' := ?a19_101) (by first | exact Kx.bears_x | exact bears_u | assumption) rfl (by kernel_rfl) (by kernel_rfl) (by kernel_rfl) (fun _ _ _ h => h) (by kernel_rfl) ?w19_101 ?y19_101 ?f19_101 ?r19_101
                  case w19_101 => kernel_rfl
                  case y19_101 => (intro W hW; first | (refine Eq.trans (tells_cell (v := .int .i64 vb) (adb.add t) rfl (Tryd.isAgg3 _) (HVB.out _ _ _ hW)) ?_; with_reducible rfl))
                  case f19_101 => (go_simp; try with_reducible rfl)
                  refine Kx.tk 20 rfl ?_
                  refine anyW_take (i := 21) (v := ?v21_102) (a' := ?a21_102) (by first | exact Kx.bears_x | exact bears_u | assumption) rfl (by kernel_rfl) (by kernel_rfl) (by kernel_rfl) (fun _ _ _ h => h) (by kernel_rfl) ?w21_102 ?y21_102 ?f21_102 ?r21_102
                  case w21_102 => kernel_rfl
                  case y21_102 => (intro W hW; first | (refine Eq.trans (Kx.tells_load1_x (v := .slice (some ada) N a.c) hW b8 10 rfl a.cells inferInstance (Tryd.isAgg22 _) HXA.out) ?_; with_reducible rfl))
                  case f21_102 => (go_simp; try with_reducible rfl)
                  refine Kx.tk 22 rfl ?_
                  refine Kx.tk 23 rfl ?_
                  refine anyW_take (i := 24) (v := ?v24_103) (a' := ?a24_103) (by first | exact Kx.bears_x | exact bears_u | assumption) rfl (by kernel_rfl) (by kernel_rfl) (by kernel_rfl) (fun _ _ _ h => h) (by kernel_rfl) ?w24_103 ?y24_103 ?f24_103 ?r24_103
                  case w24_103 => kernel_rfl
                  case y24_103 => (intro W hW; first | (refine Eq.trans (tells_cell (v := .int .i64 va) (ada.add t) rfl (Tryd.isAgg3 _) (HVA.out _ _ _ hW)) ?_; with_reducible rfl))
                  case f24_103 => (go_simp; try with_reducible rfl)
                  refine Kx.tk 25 rfl ?_
                  refine Kx.tk 26 rfl ?_
                  refine Kx.tk 27 rfl ?_
                  refine Kx.tk 28 rfl ?_
                  refine Kx.tk 29 rfl ?_
                  refine Kx.tk 30 rfl ?_
                  refine anyW_done (by kernel_rfl) ?_
                  clear HB
                  intro w_ HB_
                  have HB := Lib.hid HB_
                  clear HB_
                  go_wp2_with (first | ((with_reducible refine Kx.absorb HB ?_); clear HB; intro w_ HB) | ((with_reducible refine Kx.box_gate ?_); (first | refine Kx.boxa HB rfl ?_ | refine Kx.boxt HB rfl rfl ?_ | refine Kx.box1 HB rfl rfl ?_); clear HB; intro b_ w_ HB; refine Kx.fr ?_) | ((with_reducible refine Kx.alloc_gate ?_); (first | refine Kx.ala HB ?_ | refine Kx.al1 HB ?_); clear HB; intro b_ w_ HB; refine Kx.fr ?_) | ((with_reducible refine Kx.loads_gate ?_); first | refine Kx.l1 HB rfl rfl ?_ | refine Kx.la HB rfl ?_ | refine Kx.lo HB rfl HC.out ?_) | ((with_reducible refine Kx.loadg_gate ?_); first | refine Kx.l1g HB rfl rfl rfl ?_ | refine Kx.lag HB rfl rfl ?_ | refine Kx.log HB rfl HC.out rfl ?_) | ((with_reducible refine Kx.store_gate ?_); (first | refine Kx.stwa HB rfl rfl ?_ | refine Kx.sta HB rfl rfl ?_ | refine Kx.stc HB rfl rfl ?_ | refine Kx.stt HB rfl rfl rfl ?_ | refine Kx.st1 HB rfl rfl rfl ?_); clear HB; intro w_ HB))
                  refine Kx.region_x HB (fun i => false) (by kernel_rfl) ?_
                  refine Kx.tk 0 rfl ?_
                  refine Kx.tk 1 rfl ?_
                  refine Kx.tk 2 rfl ?_
                  refine anyW_take (i := 3) (v := ?v3_104) (a' := ?a3_104) (by first | exact Kx.bears_x | exact bears_u | assumption) rfl (by kernel_rfl) (by kernel_rfl) (by kernel_rfl) (fun _ _ _ h => h) (by kernel_rfl) ?w3_104 ?y3_104 ?f3_104 ?r3_104
                  case w3_104 => kernel_rfl
                  case y3_104 => (intro W hW; first | (refine Eq.trans (Kx.tells_load1_x (v := .slice (some adb) N b.c) hW b9 10 rfl b.cells inferInstance (Tryd.isAgg22 _) HXB.out) ?_; with_reducible rfl))
                  case f3_104 => (go_simp; try with_reducible rfl)
                  refine Kx.tk 4 rfl ?_
                  refine Kx.tk 5 rfl ?_
                  refine anyW_take (i := 6) (v := ?v6_105) (a' := ?a6_105) (by first | exact Kx.bears_x | exact bears_u | assumption) rfl (by kernel_rfl) (by kernel_rfl) (by kernel_rfl) (fun _ _ _ h => h) (by kernel_rfl) ?w6_105 ?y6_105 ?f6_105 ?r6_105
                  case w6_105 => kernel_rfl
                  case y6_105 => (intro W hW; first | (refine Eq.trans (tells_cell (v := .int .i64 vb) (adb.add t) rfl (Tryd.isAgg3 _) (HVB.out _ _ _ hW)) ?_; with_reducible rfl))
                  case f6_105 => (go_simp; try with_reducible rfl)
                  refine Kx.tk 7 rfl ?_
                  refine anyW_take (i := 8) (v := ?v8_106) (a' := ?a8_106) (by first | exact Kx.bears_x | exact bears_u | assumption) rfl (by kernel_rfl) (by kernel_rfl) (by kernel_rfl) (fun _ _ _ h => h) (by kernel_rfl) ?w8_106 ?y8_106 ?f8_106 ?r8_106
                  case w8_106 => kernel_rfl
                  case y8_106 => (intro W hW; first | (refine Eq.trans (Kx.tells_load1_x (v := .int .i64 c.reuse) hW b2 19 rfl (cf c) inferInstance (Tryd.isAgg3 _) hreu.out) ?_; with_reducible rfl))
                  case f8_106 => (go_simp; try with_reducible rfl)
                  refine Kx.tk 9 rfl ?_
                  refine Kx.tk 10 rfl ?_
                  refine Kx.tk 11 rfl ?_
                  refine Kx.tk 12 rfl ?_
                  refine Kx.tk 13 rfl ?_
                  refine Kx.tk 14 rfl ?_
                  refine Kx.sk 15 rfl ?_
                  refine Kx.sk 16 rfl ?_
                  refine Kx.sk 17 rfl ?_
                  refine Kx.sk 18 rfl ?_
                  refine Kx.sk 19 rfl ?_
                  refine Kx.sk 20 rfl ?_
                  refine Kx.sk 21 rfl ?_
                  refine Kx.sk 22 rfl ?_
                  refine Kx.tk 23 rfl ?_
                  refine Kx.tk 24 rfl ?_
                  refine anyW_done (by kernel_rfl) ?_
                  clear HB
                  intro w_ HB_
                  have HB := Lib.hid HB_
                  clear HB_
                  go_wp2_with fail
                  go_roundg (gk - 1)
                  case measure => omega
                  case rel => exact ⟨t + 1, by omega, by go_num, HB⟩
                | false =>
                  have hb3 := bit_off hus hso
                  have e5 : decide (c.suppress ≤ vb) = false := by have := hsu.2 hso; simp; omega
                  clear hsu hso
                  go_wp2_with (first | ((with_reducible refine Kx.loads_gate ?_); refine Kx.wpList_load1_x HB rfl _ _ rfl b2 rfl (cf c) (Tryd.isAgg3 _) _ HTGT.out ?_) | (first | ((with_reducible refine Kx.absorb HB ?_); clear HB; intro w_ HB) | ((with_reducible refine Kx.box_gate ?_); (first | refine Kx.boxa HB rfl ?_ | refine Kx.boxt HB rfl rfl ?_ | refine Kx.box1 HB rfl rfl ?_); clear HB; intro b_ w_ HB; refine Kx.fr ?_) | ((with_reducible refine Kx.alloc_gate ?_); (first | refine Kx.ala HB ?_ | refine Kx.al1 HB ?_); clear HB; intro b_ w_ HB; refine Kx.fr ?_) | ((with_reducible refine Kx.loads_gate ?_); first | refine Kx.l1 HB rfl rfl ?_ | refine Kx.la HB rfl ?_ | refine Kx.lo HB rfl HC.out ?_) | ((with_reducible refine Kx.loadg_gate ?_); first | refine Kx.l1g HB rfl rfl rfl ?_ | refine Kx.lag HB rfl rfl ?_ | refine Kx.log HB rfl HC.out rfl ?_) | ((with_reducible refine Kx.store_gate ?_); (first | refine Kx.stwa HB rfl rfl ?_ | refine Kx.sta HB rfl rfl ?_ | refine Kx.stc HB rfl rfl ?_ | refine Kx.stt HB rfl rfl rfl ?_ | refine Kx.st1 HB rfl rfl rfl ?_); clear HB; intro w_ HB)))
                  refine Kx.region_x HB (fun i => false) (by kernel_rfl) ?_
                  refine Kx.tk 0 rfl ?_
                  refine anyW_take (i := 1) (v := ?v1_107) (a' := ?a1_107) (by first | exact Kx.bears_x | exact bears_u | assumption) rfl (by kernel_rfl) (by kernel_rfl) (by kernel_rfl) (fun _ _ _ h => h) (by kernel_rfl) ?w1_107 ?y1_107 ?f1_107 ?r1_107
                  case w1_107 => kernel_rfl
                  case y1_107 => (intro W hW; first | (refine Eq.trans (Kx.tells_load1_x (v := .slice (some adb) N b.c) hW b9 10 rfl b.cells inferInstance (Tryd.isAgg22 _) HXB.out) ?_; with_reducible rfl))
                  case f1_107 => (go_simp; try with_reducible rfl)
                  refine Kx.tk 2 rfl ?_
                  refine Kx.tk 3 rfl ?_
                  refine anyW_take (i := 4) (v := ?v4_108) (a' := ?a4_108) (by first | exact Kx.bears_x | exact bears_u | assumption) rfl (by kernel_rfl) (by kernel_rfl) (by kernel_rfl) (fun _ _ _ h => h) (by kernel_rfl) ?w4_108 ?y4_108 ?f4_108 ?r4_108
                  case w4_108 => kernel_rfl
                  case y4_108 => (intro W hW; first | (refine Eq.trans (tells_cell (v := .int .i64 vb) (adb.add t) rfl (Tryd.isAgg3 _) (HVB.out _ _ _ hW)) ?_; with_reducible rfl))
                  case f4_108 => (go_simp; try with_reducible rfl)
                  refine Kx.tk 5 rfl ?_
                  refine Kx.tk 6 rfl ?_
                  refine Kx.tk 7 rfl ?_
                  refine anyW_take (i := 8) (v := ?v8_109) (a' := ?a8_109) (by first | exact Kx.bears_x | exact bears_u | assumption) rfl (by kernel_rfl) (by kernel_rfl) (by kernel_rfl) (fun _ _ _ h => h) (by kernel_rfl) ?w8_109 ?y8_109 ?f8_109 ?r8_109
                  case w8_109 => kernel_rfl
                  case y8_109 => (intro W hW; first | (refine Eq.trans (Kx.tells_load1_x (v := .slice (some adb) N b.c) hW b9 10 rfl b.cells inferInstance (Tryd.isAgg22 _) HXB.out) ?_; with_reducible rfl))
                  case f8_109 => (go_simp; try with_reducible rfl)
                  refine Kx.tk 9 rfl ?_
                  refine Kx.tk 10 rfl ?_
                  refine anyW_take (i := 11) (v := ?v11_110) (a' := ?a11_110) (by first | exact Kx.bears_x | exact bears_u | assumption) rfl (by kernel_rfl) (by kernel_rfl) (by kernel_rfl) (fun _ _ _ h => h) (by kernel_rfl) ?w11_110 ?y11_110 ?f11_110 ?r11_110
                  case w11_110 => kernel_rfl
                  case y11_110 => (intro W hW; first | (refine Eq.trans (tells_cell (v := .int .i64 vb) (adb.add t) rfl (Tryd.isAgg3 _) (HVB.out _ _ _ hW)) ?_; with_reducible rfl))
                  case f11_110 => (go_simp; try with_reducible rfl)
                  refine Kx.tk 12 rfl ?_
                  refine Kx.tk 13 rfl ?_
                  refine Kx.tk 14 rfl ?_
                  refine Kx.tk 15 rfl ?_
                  refine anyW_take (i := 16) (v := ?v16_111) (a' := ?a16_111) (by first | exact Kx.bears_x | exact bears_u | assumption) rfl (by kernel_rfl) (by kernel_rfl) (by kernel_rfl) (fun _ _ _ h => h) (by kernel_rfl) ?w16_111 ?y16_111 ?f16_111 ?r16_111
                  case w16_111 => kernel_rfl
                  case y16_111 => (intro W hW; first | (refine Eq.trans (Kx.tells_load1_x (v := .slice (some adb) N b.c) hW b9 10 rfl b.cells inferInstance (Tryd.isAgg22 _) HXB.out) ?_; with_reducible rfl))
                  case f16_111 => (go_simp; try with_reducible rfl)
                  refine Kx.tk 17 rfl ?_
                  refine Kx.tk 18 rfl ?_
                  refine anyW_take (i := 19) (v := ?v19_112) (a' := ?a19_112) (by first | exact Kx.bears_x | exact bears_u | assumption) rfl (by kernel_rfl) (by kernel_rfl) (by kernel_rfl) (fun _ _ _ h => h) (by kernel_rfl) ?w19_112 ?y19_112 ?f19_112 ?r19_112
                  case w19_112 => kernel_rfl
                  case y19_112 => (intro W hW; first | (refine Eq.trans (tells_cell (v := .int .i64 vb) (adb.add t) rfl (Tryd.isAgg3 _) (HVB.out _ _ _ hW)) ?_; with_reducible rfl))
                  case f19_112 => (go_simp; try with_reducible rfl)
                  refine Kx.tk 20 rfl ?_
                  refine anyW_take (i := 21) (v := ?v21_113) (a' := ?a21_113) (by first | exact Kx.bears_x | exact bears_u | assumption) rfl (by kernel_rfl) (by kernel_rfl) (by kernel_rfl) (fun _ _ _ h => h) (by kernel_rfl) ?w21_113 ?y21_113 ?f21_113 ?r21_113
                  case w21_113 => kernel_rfl
                  case y21_113 => (intro W hW; first | (refine Eq.trans (Kx.tells_load1_x (v := .slice (some ada) N a.c) hW b8 10 rfl a.cells inferInstance (Tryd.isAgg22 _) HXA.out) ?_; with_reducible rfl))
                  case f21_113 => (go_simp; try with_reducible rfl)
                  refine Kx.tk 22 rfl ?_
                  refine Kx.tk 23 rfl ?_
                  refine anyW_take (i := 24) (v := ?v24_114) (a' := ?a24_114) (by first | exact Kx.bears_x | exact bears_u | assumption) rfl (by kernel_rfl) (by kernel_rfl) (by kernel_rfl) (fun _ _ _ h => h) (by kernel_rfl) ?w24_114 ?y24_114 ?f24_114 ?r24_114
                  case w24_114 => kernel_rfl
                  case y24_114 => (intro W hW; first | (refine Eq.trans (tells_cell (v := .int .i64 va) (ada.add t) rfl (Tryd.isAgg3 _) (HVA.out _ _ _ hW)) ?_; with_reducible rfl))
                  case f24_114 => (go_simp; try with_reducible rfl)
                  refine Kx.tk 25 rfl ?_
                  refine Kx.tk 26 rfl ?_
                  refine Kx.tk 27 rfl ?_
                  refine Kx.tk 28 rfl ?_
                  refine Kx.tk 29 rfl ?_
                  refine Kx.tk 30 rfl ?_
                  refine anyW_done (by kernel_rfl) ?_
                  clear HB
                  intro w_ HB_
                  have HB := Lib.hid HB_
                  clear HB_
                  go_wp2_with (first | ((with_reducible refine Kx.absorb HB ?_); clear HB; intro w_ HB) | ((with_reducible refine Kx.box_gate ?_); (first | refine Kx.boxa HB rfl ?_ | refine Kx.boxt HB rfl rfl ?_ | refine Kx.box1 HB rfl rfl ?_); clear HB; intro b_ w_ HB; refine Kx.fr ?_) | ((with_reducible refine Kx.alloc_gate ?_); (first | refine Kx.ala HB ?_ | refine Kx.al1 HB ?_); clear HB; intro b_ w_ HB; refine Kx.fr ?_) | ((with_reducible refine Kx.loads_gate ?_); first | refine Kx.l1 HB rfl rfl ?_ | refine Kx.la HB rfl ?_ | refine Kx.lo HB rfl HC.out ?_) | ((with_reducible refine Kx.loadg_gate ?_); first | refine Kx.l1g HB rfl rfl rfl ?_ | refine Kx.lag HB rfl rfl ?_ | refine Kx.log HB rfl HC.out rfl ?_) | ((with_reducible refine Kx.store_gate ?_); (first | refine Kx.stwa HB rfl rfl ?_ | refine Kx.sta HB rfl rfl ?_ | refine Kx.stc HB rfl rfl ?_ | refine Kx.stt HB rfl rfl rfl ?_ | refine Kx.st1 HB rfl rfl rfl ?_); clear HB; intro w_ HB))
                  refine Kx.region_x HB (fun i => false) (by kernel_rfl) ?_
                  refine Kx.tk 0 rfl ?_
                  refine Kx.tk 1 rfl ?_
                  refine Kx.sk 2 rfl ?_
                  refine Kx.sk 3 rfl ?_
                  refine Kx.sk 4 rfl ?_
                  refine Kx.sk 5 rfl ?_
                  refine Kx.sk 6 rfl ?_
                  refine Kx.sk 7 rfl ?_
                  refine Kx.sk 8 rfl ?_
                  refine Kx.sk 9 rfl ?_
                  refine Kx.tk 10 rfl ?_
                  refine Kx.tk 11 rfl ?_
                  refine Kx.tk 12 rfl ?_
                  refine Kx.tk 13 rfl ?_
                  refine Kx.tk 14 rfl ?_
                  refine Kx.tk 15 rfl ?_
                  refine anyW_take (i := 16) (v := ?v16_115) (a' := ?a16_115) (by first | exact Kx.bears_x | exact bears_u | assumption) rfl (by kernel_rfl) (by kernel_rfl) (by kernel_rfl) (fun _ _ _ h => h) (by kernel_rfl) ?w16_115 ?y16_115 ?f16_115 ?r16_115
                  case w16_115 => kernel_rfl
                  case y16_115 => (intro W hW; first | (refine Eq.trans (Kx.tells_load1_x (v := .slice (some adb) N b.c) hW b9 10 rfl b.cells inferInstance (Tryd.isAgg22 _) HXB.out) ?_; with_reducible rfl))
                  case f16_115 => (go_simp; try with_reducible rfl)
                  refine Kx.tk 17 rfl ?_
                  refine Kx.tk 18 rfl ?_
                  refine anyW_take (i := 19) (v := ?v19_116) (a' := ?a19_116) (by first | exact Kx.bears_x | exact bears_u | assumption) rfl (by kernel_rfl) (by kernel_rfl) (by kernel_rfl) (fun _ _ _ h => h) (by kernel_rfl) ?w19_116 ?y19_116 ?f19_116 ?r19_116
                  case w19_116 => kernel_rfl
                  case y19_116 => (intro W hW; first | (refine Eq.trans (tells_cell (v := .int .i64 vb) (adb.add t) rfl (Tryd.isAgg3 _) (HVB.out _ _ _ hW)) ?_; with_reducible rfl))
                  case f19_116 => (go_simp; try with_reducible rfl)
                  refine Kx.tk 20 rfl ?_
                  refine anyW_take (i := 21) (v := ?v21_117) (a' := ?a21_117) (by first | exact Kx.bears_x | exact bears_u | assumption) rfl (by kernel_rfl) (by kernel_rfl) (by kernel_rfl) (fun _ _ _ h => h) (by kernel_rfl) ?w21_117 ?y21_117 ?f21_117 ?r21_117
                  case w21_117 => kernel_rfl
                  case y21_117 => (intro W hW; first | (refine Eq.trans (Kx.tells_load1_x (v := .int .i64 c.suppress) hW b2 18 rfl (cf c) inferInstance (Tryd.isAgg3 _) hsup.out) ?_; with_reducible rfl))
                  case f21_117 => (go_simp; try with_reducible rfl)
                  refine Kx.tk 22 rfl ?_
                  refine Kx.tk 23 rfl ?_
                  refine Kx.tk 24 rfl ?_
                  refine anyW_done (by kernel_rfl) ?_
                  clear HB
                  intro w_ HB_
                  have HB := Lib.hid HB_
                  clear HB_
                  go_wp2_with fail
                  go_roundg (gk - 1)
                  case measure => omega
                  case rel => exact ⟨t + 1, by omega, by go_num, HB⟩
              · have e4 : decide (va < vb) = false := by simp; omega
                clear hg
                cases hso : us.testBit t with
                | true =>
                  have hb3 := bit_on hus hso
                  have e5 : decide (vb ≤ c.reuse) = false := by have := hsu.1 hso; simp; omega
                  clear hsu hso
                  go_wp2_with (first | ((with_reducible refine Kx.loads_gate ?_); refine Kx.wpList_load1_x HB rfl _ _ rfl b2 rfl (cf c) (Tryd.isAgg3 _) _ HTGT.out ?_) | (first | ((with_reducible refine Kx.absorb HB ?_); clear HB; intro w_ HB) | ((with_reducible refine Kx.box_gate ?_); (first | refine Kx.boxa HB rfl ?_ | refine Kx.boxt HB rfl rfl ?_ | refine Kx.box1 HB rfl rfl ?_); clear HB; intro b_ w_ HB; refine Kx.fr ?_) | ((with_reducible refine Kx.alloc_gate ?_); (first | refine Kx.ala HB ?_ | refine Kx.al1 HB ?_); clear HB; intro b_ w_ HB; refine Kx.fr ?_) | ((with_reducible refine Kx.loads_gate ?_); first | refine Kx.l1 HB rfl rfl ?_ | refine Kx.la HB rfl ?_ | refine Kx.lo HB rfl HC.out ?_) | ((with_reducible refine Kx.loadg_gate ?_); first | refine Kx.l1g HB rfl rfl rfl ?_ | refine Kx.lag HB rfl rfl ?_ | refine Kx.log HB rfl HC.out rfl ?_) | ((with_reducible refine Kx.store_gate ?_); (first | refine Kx.stwa HB rfl rfl ?_ | refine Kx.sta HB rfl rfl ?_ | refine Kx.stc HB rfl rfl ?_ | refine Kx.stt HB rfl rfl rfl ?_ | refine Kx.st1 HB rfl rfl rfl ?_); clear HB; intro w_ HB)))
                  refine Kx.region_x HB (fun i => false) (by kernel_rfl) ?_
                  refine Kx.tk 0 rfl ?_
                  refine anyW_take (i := 1) (v := ?v1_118) (a' := ?a1_118) (by first | exact Kx.bears_x | exact bears_u | assumption) rfl (by kernel_rfl) (by kernel_rfl) (by kernel_rfl) (fun _ _ _ h => h) (by kernel_rfl) ?w1_118 ?y1_118 ?f1_118 ?r1_118
                  case w1_118 => kernel_rfl
                  case y1_118 => (intro W hW; first | (refine Eq.trans (Kx.tells_load1_x (v := .slice (some adb) N b.c) hW b9 10 rfl b.cells inferInstance (Tryd.isAgg22 _) HXB.out) ?_; with_reducible rfl))
                  case f1_118 => (go_simp; try with_reducible rfl)
                  refine Kx.tk 2 rfl ?_
                  refine Kx.tk 3 rfl ?_
                  refine anyW_take (i := 4) (v := ?v4_119) (a' := ?a4_119) (by first | exact Kx.bears_x | exact bears_u | assumption) rfl (by kernel_rfl) (by kernel_rfl) (by kernel_rfl) (fun _ _ _ h => h) (by kernel_rfl) ?w4_119 ?y4_119 ?f4_119 ?r4_119
                  case w4_119 => kernel_rfl
                  case y4_119 => (intro W hW; first | (refine Eq.trans (tells_cell (v := .int .i64 vb) (adb.add t) rfl (Tryd.isAgg3 _) (HVB.out _ _ _ hW)) ?_; with_reducible rfl))
                  case f4_119 => (go_simp; try with_reducible rfl)
                  refine Kx.tk 5 rfl ?_
                  refine Kx.tk 6 rfl ?_
                  refine Kx.tk 7 rfl ?_
                  refine anyW_take (i := 8) (v := ?v8_120) (a' := ?a8_120) (by first | exact Kx.bears_x | exact bears_u | assumption) rfl (by kernel_rfl) (by kernel_rfl) (by kernel_rfl) (fun _ _ _ h => h) (by kernel_rfl) ?w8_120 ?y8_120 ?f8_120 ?r8_120
                  case w8_120 => kernel_rfl
                  case y8_120 => (intro W hW; first | (refine Eq.trans (Kx.tells_load1_x (v := .slice (some adb) N b.c) hW b9 10 rfl b.cells inferInstance (Tryd.isAgg22 _) HXB.out) ?_; with_reducible rfl))
                  case f8_120 => (go_simp; try with_reducible rfl)
                  refine Kx.tk 9 rfl ?_
                  refine Kx.tk 10 rfl ?_
                  refine anyW_take (i := 11) (v := ?v11_121) (a' := ?a11_121) (by first | exact Kx.bears_x | exact bears_u | assumption) rfl (by kernel_rfl) (by kernel_rfl) (by kernel_rfl) (fun _ _ _ h => h) (by kernel_rfl) ?w11_121 ?y11_121 ?f11_121 ?r11_121
                  case w11_121 => kernel_rfl
                  case y11_121 => (intro W hW; first | (refine Eq.trans (tells_cell (v := .int .i64 vb) (adb.add t) rfl (Tryd.isAgg3 _) (HVB.out _ _ _ hW)) ?_; with_reducible rfl))
                  case f11_121 => (go_simp; try with_reducible rfl)
                  refine Kx.tk 12 rfl ?_
                  refine Kx.tk 13 rfl ?_
                  refine Kx.tk 14 rfl ?_
                  refine Kx.tk 15 rfl ?_
                  refine anyW_take (i := 16) (v := ?v16_122) (a' := ?a16_122) (by first | exact Kx.bears_x | exact bears_u | assumption) rfl (by kernel_rfl) (by kernel_rfl) (by kernel_rfl) (fun _ _ _ h => h) (by kernel_rfl) ?w16_122 ?y16_122 ?f16_122 ?r16_122
                  case w16_122 => kernel_rfl
                  case y16_122 => (intro W hW; first | (refine Eq.trans (Kx.tells_load1_x (v := .slice (some adb) N b.c) hW b9 10 rfl b.cells inferInstance (Tryd.isAgg22 _) HXB.out) ?_; with_reducible rfl))
                  case f16_122 => (go_simp; try with_reducible rfl)
                  refine Kx.tk 17 rfl ?_
                  refine Kx.tk 18 rfl ?_
                  refine anyW_take (i := 19) (v := ?v19_123) (a' := ?a19_123) (by first | exact Kx.bears_x | exact bears_u | assumption) rfl (by kernel_rfl) (by kernel_rfl) (by kernel_rfl) (fun _ _ _ h => h) (by kernel_rfl) ?w19_123 ?y19_123 ?f19_123 ?r19_123
                  case w19_123 => kernel_rfl
                  case y19_123 => (intro W hW; first | (refine Eq.trans (tells_cell (v := .int .i64 vb) (adb.add t) rfl (Tryd.isAgg3 _) (HVB.out _ _ _ hW)) ?_; with_reducible rfl))
                  case f19_123 => (go_simp; try with_reducible rfl)
                  refine Kx.tk 20 rfl ?_
                  refine anyW_take (i := 21) (v := ?v21_124) (a' := ?a21_124) (by first | exact Kx.bears_x | exact bears_u | assumption) rfl (by kernel_rfl) (by kernel_rfl) (by kernel_rfl) (fun _ _ _ h => h) (by kernel_rfl) ?w21_124 ?y21_124 ?f21_124 ?r21_124
                  case w21_124 => kernel_rfl
                  case y21_124 => (intro W hW; first | (refine Eq.trans (Kx.tells_load1_x (v := .slice (some ada) N a.c) hW b8 10 rfl a.cells inferInstance (Tryd.isAgg22 _) HXA.out) ?_; with_reducible rfl))
                  case f21_124 => (go_simp; try with_reducible rfl)
                  refine Kx.tk 22 rfl ?_
                  refine Kx.tk 23 rfl ?_
                  refine anyW_take (i := 24) (v := ?v24_125) (a' := ?a24_125) (by first | exact Kx.bears_x | exact bears_u | assumption) rfl (by kernel_rfl) (by kernel_rfl) (by kernel_rfl) (fun _ _ _ h => h) (by kernel_rfl) ?w24_125 ?y24_125 ?f24_125 ?r24_125
                  case w24_125 => kernel_rfl
                  case y24_125 => (intro W hW; first | (refine Eq.trans (tells_cell (v := .int .i64 va) (ada.add t) rfl (Tryd.isAgg3 _) (HVA.out _ _ _ hW)) ?_; with_reducible rfl))
                  case f24_125 => (go_simp; try with_reducible rfl)
                  refine Kx.tk 25 rfl ?_
                  refine Kx.tk 26 rfl ?_
                  refine Kx.sk 27 rfl ?_
                  refine Kx.sk 28 rfl ?_
                  refine Kx.tk 29 rfl ?_
                  refine Kx.tk 30 rfl ?_
                  refine anyW_done (by kernel_rfl) ?_
                  clear HB
                  intro w_ HB_
                  have HB := Lib.hid HB_
                  clear HB_
                  go_wp2_with (first | ((with_reducible refine Kx.absorb HB ?_); clear HB; intro w_ HB) | ((with_reducible refine Kx.box_gate ?_); (first | refine Kx.boxa HB rfl ?_ | refine Kx.boxt HB rfl rfl ?_ | refine Kx.box1 HB rfl rfl ?_); clear HB; intro b_ w_ HB; refine Kx.fr ?_) | ((with_reducible refine Kx.alloc_gate ?_); (first | refine Kx.ala HB ?_ | refine Kx.al1 HB ?_); clear HB; intro b_ w_ HB; refine Kx.fr ?_) | ((with_reducible refine Kx.loads_gate ?_); first | refine Kx.l1 HB rfl rfl ?_ | refine Kx.la HB rfl ?_ | refine Kx.lo HB rfl HC.out ?_) | ((with_reducible refine Kx.loadg_gate ?_); first | refine Kx.l1g HB rfl rfl rfl ?_ | refine Kx.lag HB rfl rfl ?_ | refine Kx.log HB rfl HC.out rfl ?_) | ((with_reducible refine Kx.store_gate ?_); (first | refine Kx.stwa HB rfl rfl ?_ | refine Kx.sta HB rfl rfl ?_ | refine Kx.stc HB rfl rfl ?_ | refine Kx.stt HB rfl rfl rfl ?_ | refine Kx.st1 HB rfl rfl rfl ?_); clear HB; intro w_ HB))
                  refine Kx.region_x HB (fun i => false) (by kernel_rfl) ?_
                  refine Kx.tk 0 rfl ?_
                  refine Kx.tk 1 rfl ?_
                  refine Kx.tk 2 rfl ?_
                  refine anyW_take (i := 3) (v := ?v3_126) (a' := ?a3_126) (by first | exact Kx.bears_x | exact bears_u | assumption) rfl (by kernel_rfl) (by kernel_rfl) (by kernel_rfl) (fun _ _ _ h => h) (by kernel_rfl) ?w3_126 ?y3_126 ?f3_126 ?r3_126
                  case w3_126 => kernel_rfl
                  case y3_126 => (intro W hW; first | (refine Eq.trans (Kx.tells_load1_x (v := .slice (some adb) N b.c) hW b9 10 rfl b.cells inferInstance (Tryd.isAgg22 _) HXB.out) ?_; with_reducible rfl))
                  case f3_126 => (go_simp; try with_reducible rfl)
                  refine Kx.tk 4 rfl ?_
                  refine Kx.tk 5 rfl ?_
                  refine anyW_take (i := 6) (v := ?v6_127) (a' := ?a6_127) (by first | exact Kx.bears_x | exact bears_u | assumption) rfl (by kernel_rfl) (by kernel_rfl) (by kernel_rfl) (fun _ _ _ h => h) (by kernel_rfl) ?w6_127 ?y6_127 ?f6_127 ?r6_127
                  case w6_127 => kernel_rfl
                  case y6_127 => (intro W hW; first | (refine Eq.trans (tells_cell (v := .int .i64 vb) (adb.add t) rfl (Tryd.isAgg3 _) (HVB.out _ _ _ hW)) ?_; with_reducible rfl))
                  case f6_127 => (go_simp; try with_reducible rfl)
                  refine Kx.tk 7 rfl ?_
                  refine anyW_take (i := 8) (v := ?v8_128) (a' := ?a8_128) (by first | exact Kx.bears_x | exact bears_u | assumption) rfl (by kernel_rfl) (by kernel_rfl) (by kernel_rfl) (fun _ _ _ h => h) (by kernel_rfl) ?w8_128 ?y8_128 ?f8_128 ?r8_128
                  case w8_128 => kernel_rfl
                  case y8_128 => (intro W hW; first | (refine Eq.trans (Kx.tells_load1_x (v := .int .i64 c.reuse) hW b2 19 rfl (cf c) inferInstance (Tryd.isAgg3 _) hreu.out) ?_; with_reducible rfl))
                  case f8_128 => (go_simp; try with_reducible rfl)
                  refine Kx.tk 9 rfl ?_
                  refine Kx.tk 10 rfl ?_
                  refine Kx.tk 11 rfl ?_
                  refine Kx.tk 12 rfl ?_
                  refine Kx.tk 13 rfl ?_
                  refine Kx.tk 14 rfl ?_
                  refine Kx.sk 15 rfl ?_
                  refine Kx.sk 16 rfl ?_
                  refine Kx.sk 17 rfl ?_
                  refine Kx.sk 18 rfl ?_
                  refine Kx.sk 19 rfl ?_
                  refine Kx.sk 20 rfl ?_
                  refine Kx.sk 21 rfl ?_
                  refine Kx.sk 22 rfl ?_
                  refine Kx.tk 23 rfl ?_
                  refine Kx.tk 24 rfl ?_
                  refine anyW_done (by kernel_rfl) ?_
                  clear HB
                  intro w_ HB_
                  have HB := Lib.hid HB_
                  clear HB_
                  go_wp2_with fail
                  go_roundg (gk - 1)
                  case measure => omega
                  case rel => exact ⟨t + 1, by omega, by go_num, HB⟩
                | false =>
                  have hb3 := bit_off hus hso
                  have e5 : decide (c.suppress ≤ vb) = false := by have := hsu.2 hso; simp; omega
                  clear hsu hso
                  go_wp2_with (first | ((with_reducible refine Kx.loads_gate ?_); refine Kx.wpList_load1_x HB rfl _ _ rfl b2 rfl (cf c) (Tryd.isAgg3 _) _ HTGT.out ?_) | (first | ((with_reducible refine Kx.absorb HB ?_); clear HB; intro w_ HB) | ((with_reducible refine Kx.box_gate ?_); (first | refine Kx.boxa HB rfl ?_ | refine Kx.boxt HB rfl rfl ?_ | refine Kx.box1 HB rfl rfl ?_); clear HB; intro b_ w_ HB; refine Kx.fr ?_) | ((with_reducible refine Kx.alloc_gate ?_); (first | refine Kx.ala HB ?_ | refine Kx.al1 HB ?_); clear HB; intro b_ w_ HB; refine Kx.fr ?_) | ((with_reducible refine Kx.loads_gate ?_); first | refine Kx.l1 HB rfl rfl ?_ | refine Kx.la HB rfl ?_ | refine Kx.lo HB rfl HC.out ?_) | ((with_reducible refine Kx.loadg_gate ?_); first | refine Kx.l1g HB rfl rfl rfl ?_ | refine Kx.lag HB rfl rfl ?_ | refine Kx.log HB rfl HC.out rfl ?_) | ((with_reducible refine Kx.store_gate ?_); (first | refine Kx.stwa HB rfl rfl ?_ | refine Kx.sta HB rfl rfl ?_ | refine Kx.stc HB rfl rfl ?_ | refine Kx.stt HB rfl rfl rfl ?_ | refine Kx.st1 HB rfl rfl rfl ?_); clear HB; intro w_ HB)))
                  refine Kx.region_x HB (fun i => false) (by kernel_rfl) ?_
                  refine Kx.tk 0 rfl ?_
                  refine anyW_take (i := 1) (v := ?v1_129) (a' := ?a1_129) (by first | exact Kx.bears_x | exact bears_u | assumption) rfl (by kernel_rfl) (by kernel_rfl) (by kernel_rfl) (fun _ _ _ h => h) (by kernel_rfl) ?w1_129 ?y1_129 ?f1_129 ?r1_129
                  case w1_129 => kernel_rfl
                  case y1_129 => (intro W hW; first | (refine Eq.trans (Kx.tells_load1_x (v := .slice (some adb) N b.c) hW b9 10 rfl b.cells inferInstance (Tryd.isAgg22 _) HXB.out) ?_; with_reducible rfl))
                  case f1_129 => (go_simp; try with_reducible rfl)
                  refine Kx.tk 2 rfl ?_
                  refine Kx.tk 3 rfl ?_
                  refine anyW_take (i := 4) (v := ?v4_130) (a' := ?a4_130) (by first | exact Kx.bears_x | exact bears_u | assumption) rfl (by kernel_rfl) (by kernel_rfl) (by kernel_rfl) (fun _ _ _ h => h) (by kernel_rfl) ?w4_130 ?y4_130 ?f4_130 ?r4_130
                  case w4_130 => kernel_rfl
                  case y4_130 => (intro W hW; first | (refine Eq.trans (tells_cell (v := .int .i64 vb) (adb.add t) rfl (Tryd.isAgg3 _) (HVB.out _ _ _ hW)) ?_; with_reducible rfl))
                  case f4_130 => (go_simp; try with_reducible rfl)
                  refine Kx.tk 5 rfl ?_
                  refine Kx.tk 6 rfl ?_
                  refine Kx.tk 7 rfl ?_
                  refine anyW_take (i := 8) (v := ?v8_131) (a' := ?a8_131) (by first | exact Kx.bears_x | exact bears_u | assumption) rfl (by kernel_rfl) (by kernel_rfl) (by kernel_rfl) (fun _ _ _ h => h) (by kernel_rfl) ?w8_131 ?y8_131 ?f8_131 ?r8_131
                  case w8_131 => kernel_rfl
                  case y8_131 => (intro W hW; first | (refine Eq.trans (Kx.tells_load1_x (v := .slice (some adb) N b.c) hW b9 10 rfl b.cells inferInstance (Tryd.isAgg22 _) HXB.out) ?_; with_reducible rfl))
                  case f8_131 => (go_simp; try with_reducible rfl)
                  refine Kx.tk 9 rfl ?_
                  refine Kx.tk 10 rfl ?_
                  refine anyW_take (i := 11) (v := ?v11_132) (a' := ?a11_132) (by first | exact Kx.bears_x | exact bears_u | assumption) rfl (by kernel_rfl) (by kernel_rfl) (by kernel_rfl) (fun _ _ _ h => h) (by kernel_rfl) ?w11_132 ?y11_132 ?f11_132 ?r11_132
                  case w11_132 => kernel_rfl
                  case y11_132 => (intro W hW; first | (refine Eq.trans (tells_cell (v := .int .i64 vb) (adb.add t) rfl (Tryd.isAgg3 _) (HVB.out _ _ _ hW)) ?_; with_reducible rfl))
                  case f11_132 => (go_simp; try with_reducible rfl)
                  refine Kx.tk 12 rfl ?_
                  refine Kx.tk 13 rfl ?_
                  refine Kx.tk 14 rfl ?_
                  refine Kx.tk 15 rfl ?_
                  refine anyW_take (i := 16) (v := ?v16_133) (a' := ?a16_133) (by first | exact Kx.bears_x | exact bears_u | assumption) rfl (by kernel_rfl) (by kernel_rfl) (by kernel_rfl) (fun _ _ _ h => h) (by kernel_rfl) ?w16_133 ?y16_133 ?f16_133 ?r16_133
                  case w16_133 => kernel_rfl
                  case y16_133 => (intro W hW; first | (refine Eq.trans (Kx.tells_load1_x (v := .slice (some adb) N b.c) hW b9 10 rfl b.cells inferInstance (Tryd.isAgg22 _) HXB.out) ?_; with_reducible rfl))
                  case f16_133 => (go_simp; try with_reducible rfl)
                  refine Kx.tk 17 rfl ?_
                  refine Kx.tk 18 rfl ?_
                  refine anyW_take (i := 19) (v := ?v19_134) (a' := ?a19_134) (by first | exact Kx.bears_x | exact bears_u | assumption) rfl (by kernel_rfl) (by kernel_rfl) (by kernel_rfl) (fun _ _ _ h => h) (by kernel_rfl) ?w19_134 ?y19_134 ?f19_134 ?r19_134
                  case w19_134 => kernel_rfl
                  case y19_134 => (intro W hW; first | (refine Eq.trans (tells_cell (v := .int .i64 vb) (adb.add t) rfl (Tryd.isAgg3 _) (HVB.out _ _ _ hW)) ?_; with_reducible rfl))
                  case f19_134 => (go_simp; try with_reducible rfl)
                  refine Kx.tk 20 rfl ?_
                  refine anyW_take (i := 21) (v := ?v21_135) (a' := ?a21_135) (by first | exact Kx.bears_x | exact bears_u | assumption) rfl (by kernel_rfl) (by kernel_rfl) (by kernel_rfl) (fun _ _ _ h => h) (by kernel_rfl) ?w21_135 ?y21_135 ?f21_135 ?r21_135
                  case w21_135 => kernel_rfl
                  case y21_135 => (intro W hW; first | (refine Eq.trans (Kx.tells_load1_x (v := .slice (some ada) N a.c) hW b8 10 rfl a.cells inferInstance (Tryd.isAgg22 _) HXA.out) ?_; with_reducible rfl))
                  case f21_135 => (go_simp; try with_reducible rfl)
                  refine Kx.tk 22 rfl ?_
                  refine Kx.tk 23 rfl ?_
                  refine anyW_take (i := 24) (v := ?v24_136) (a' := ?a24_136) (by first | exact Kx.bears_x | exact bears_u | assumption) rfl (by kernel_rfl) (by kernel_rfl) (by kernel_rfl) (fun _ _ _ h => h) (by kernel_rfl) ?w24_136 ?y24_136 ?f24_136 ?r24_136
                  case w24_136 => kernel_rfl
                  case y24_136 => (intro W hW; first | (refine Eq.trans (tells_cell (v := .int .i64 va) (ada.add t) rfl (Tryd.isAgg3 _) (HVA.out _ _ _ hW)) ?_; with_reducible rfl))
                  case f24_136 => (go_simp; try with_reducible rfl)
                  refine Kx.tk 25 rfl ?_
                  refine Kx.tk 26 rfl ?_
                  refine Kx.sk 27 rfl ?_
                  refine Kx.sk 28 rfl ?_
                  refine Kx.tk 29 rfl ?_
                  refine Kx.tk 30 rfl ?_
                  refine anyW_done (by kernel_rfl) ?_
                  clear HB
                  intro w_ HB_
                  have HB := Lib.hid HB_
                  clear HB_
                  go_wp2_with (first | ((with_reducible refine Kx.absorb HB ?_); clear HB; intro w_ HB) | ((with_reducible refine Kx.box_gate ?_); (first | refine Kx.boxa HB rfl ?_ | refine Kx.boxt HB rfl rfl ?_ | refine Kx.box1 HB rfl rfl ?_); clear HB; intro b_ w_ HB; refine Kx.fr ?_) | ((with_reducible refine Kx.alloc_gate ?_); (first | refine Kx.ala HB ?_ | refine Kx.al1 HB ?_); clear HB; intro b_ w_ HB; refine Kx.fr ?_) | ((with_reducible refine Kx.loads_gate ?_); first | refine Kx.l1 HB rfl rfl ?_ | refine Kx.la HB rfl ?_ | refine Kx.lo HB rfl HC.out ?_) | ((with_reducible refine Kx.loadg_gate ?_); first | refine Kx.l1g HB rfl rfl rfl ?_ | refine Kx.lag HB rfl rfl ?_ | refine Kx.log HB rfl HC.out rfl ?_) | ((with_reducible refine Kx.store_gate ?_); (first | refine Kx.stwa HB rfl rfl ?_ | refine Kx.sta HB rfl rfl ?_ | refine Kx.stc HB rfl rfl ?_ | refine Kx.stt HB rfl rfl rfl ?_ | refine Kx.st1 HB rfl rfl rfl ?_); clear HB; intro w_ HB))
                  refine Kx.region_x HB (fun i => false) (by kernel_rfl) ?_
                  refine Kx.tk 0 rfl ?_
                  refine Kx.tk 1 rfl ?_
                  refine Kx.sk 2 rfl ?_
                  refine Kx.sk 3 rfl ?_
                  refine Kx.sk 4 rfl ?_
                  refine Kx.sk 5 rfl ?_
                  refine Kx.sk 6 rfl ?_
                  refine Kx.sk 7 rfl ?_
                  refine Kx.sk 8 rfl ?_
                  refine Kx.sk 9 rfl ?_
                  refine Kx.tk 10 rfl ?_
                  refine Kx.tk 11 rfl ?_
                  refine Kx.tk 12 rfl ?_
                  refine Kx.tk 13 rfl ?_
                  refine Kx.tk 14 rfl ?_
                  refine Kx.tk 15 rfl ?_
                  refine anyW_take (i := 16) (v := ?v16_137) (a' := ?a16_137) (by first | exact Kx.bears_x | exact bears_u | assumption) rfl (by kernel_rfl) (by kernel_rfl) (by kernel_rfl) (fun _ _ _ h => h) (by kernel_rfl) ?w16_137 ?y16_137 ?f16_137 ?r16_137
                  case w16_137 => kernel_rfl
                  case y16_137 => (intro W hW; first | (refine Eq.trans (Kx.tells_load1_x (v := .slice (some adb) N b.c) hW b9 10 rfl b.cells inferInstance (Tryd.isAgg22 _) HXB.out) ?_; with_reducible rfl))
                  case f16_137 => (go_simp; try with_reducible rfl)
                  refine Kx.tk 17 rfl ?_
                  refine Kx.tk 18 rfl ?_
                  refine anyW_take (i := 19) (v := ?v19_138) (a' := ?a19_138) (by first | exact Kx.bears_x | exact bears_u | assumption) rfl (by kernel_rfl) (by kernel_rfl) (by kernel_rfl) (fun _ _ _ h => h) (by kernel_rfl) ?w19_138 ?y19_138 ?f19_138 ?r19_138
                  case w19_138 => kernel_rfl
                  case y19_138 => (intro W hW; first | (refine Eq.trans (tells_cell (v := .int .i64 vb) (adb.add t) rfl (Tryd.isAgg3 _) (HVB.out _ _ _ hW)) ?_; with_reducible rfl))
                  case f19_138 => (go_simp; try with_reducible rfl)
                  refine Kx.tk 20 rfl ?_
                  refine anyW_take (i := 21) (v := ?v21_139) (a' := ?a21_139) (by first | exact Kx.bears_x | exact bears_u | assumption) rfl (by kernel_rfl) (by kernel_rfl) (by kernel_rfl) (fun _ _ _ h => h) (by kernel_rfl) ?w21_139 ?y21_139 ?f21_139 ?r21_139
                  case w21_139 => kernel_rfl
                  case y21_139 => (intro W hW; first | (refine Eq.trans (Kx.tells_load1_x (v := .int .i64 c.suppress) hW b2 18 rfl (cf c) inferInstance (Tryd.isAgg3 _) hsup.out) ?_; with_reducible rfl))
                  case f21_139 => (go_simp; try with_reducible rfl)
                  refine Kx.tk 22 rfl ?_
                  refine Kx.tk 23 rfl ?_
                  refine Kx.tk 24 rfl ?_
                  refine anyW_done (by kernel_rfl) ?_
                  clear HB
                  intro w_ HB_
                  have HB := Lib.hid HB_
                  clear HB_
                  go_wp2_with fail
                  go_roundg (gk - 1)
                  case measure => omega
                  case rel => exact ⟨t + 1, by omega, by go_num, HB⟩
        · obtain rfl : t = N := by omega
          have d4 : decide ((t : Int) < (t : Int)) = false := by simp
          go_wp2_with ((with_reducible refine Kx.loads_gate ?_); refine Kx.wpList_load1_x HB rfl _ _ rfl b2 rfl (cf c) (Tryd.isAgg3 _) _ HTGT.out ?_)
          have hik := HIK.out
          go_roundg (g0 - 1)
          case measure => omega
          case rel => exact ⟨k + 1, by omega, by rw [show k + 1 = i by omega]; go_num, Lib.hid HB.out.tail.tail⟩
    · obtain rfl : i = m := by omega
      have d2 : decide ((i : Int) < (i : Int)) = false := by simp
      go_wp2_with (first | ((with_reducible refine Kx.absorb HB ?_); clear HB; intro w_ HB) | ((with_reducible refine Kx.box_gate ?_); (first | refine Kx.boxa HB rfl ?_ | refine Kx.boxt HB rfl rfl ?_ | refine Kx.box1 HB rfl rfl ?_); clear HB; intro b_ w_ HB; refine Kx.fr ?_) | ((with_reducible refine Kx.alloc_gate ?_); (first | refine Kx.ala HB ?_ | refine Kx.al1 HB ?_); clear HB; intro b_ w_ HB; refine Kx.fr ?_) | ((with_reducible refine Kx.loads_gate ?_); first | refine Kx.l1 HB rfl rfl ?_ | refine Kx.la HB rfl ?_ | refine Kx.lo HB rfl HC.out ?_) | ((with_reducible refine Kx.loadg_gate ?_); first | refine Kx.l1g HB rfl rfl rfl ?_ | refine Kx.lag HB rfl rfl ?_ | refine Kx.log HB rfl HC.out rfl ?_) | ((with_reducible refine Kx.store_gate ?_); (first | refine Kx.stwa HB rfl rfl ?_ | refine Kx.sta HB rfl rfl ?_ | refine Kx.stc HB rfl rfl ?_ | refine Kx.stt HB rfl rfl rfl ?_ | refine Kx.st1 HB rfl rfl rfl ?_); clear HB; intro w_ HB))
      go_ret
      exact ⟨rfl, HB.out.below⟩
end Go.Proofs.YtnljpopjhjcocaaDoor
