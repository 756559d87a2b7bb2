/- PolicyStill, walked. -/
import Derived.Test.YtnljpopjhjcocaaDoorHs
import Derived.Deep.CutBlock
import Derived.Deep.DeepCutAuto
namespace Go.Proofs.YtnljpopjhjcocaaDoor
open Go.RowKit Go.Shelf Km Kx Kc Kt
set_option linter.unusedVariables false

/-- what is told twice is told alike -/
theorem told_same {c : Cf} {xs : List Int} (hc : ConfP c xs) (hl : xs.length = c.tn) {p q q2 : Pt} {b b2 : Bool} {u1 u2 : Nat} {t1 t2 : Int} (hp : Gm.Inv (gc c xs) p.x) (he : tell c xs p.x u1 t1 = tell c xs p.x u2 t2)
    (yes : b = true → tell c xs p.x u1 t1 = some q.x) (no : b = false → tell c xs p.x u1 t1 = none ∧ q.x = noPlan) (yes2 : b2 = true → tell c xs p.x u2 t2 = some q2.x) (no2 : b2 = false → tell c xs p.x u2 t2 = none ∧ q2.x = noPlan) : q2.x = q.x ∧ b2 = b := by
  cases h : tell c xs p.x u1 t1 with
  | none =>
    rw [h] at he
    have h1 := toldn h yes no
    have h2 := toldn he.symm yes2 no2
    exact ⟨(no2 h2).2.trans (no h1).2.symm, by rw [h1, h2]⟩
  | some x =>
    rw [h] at he
    obtain ⟨h1, h2⟩ := toldx h yes no
    obtain ⟨h3, h4⟩ := toldx he.symm yes2 no2
    exact ⟨h4.trans h2.symm, by rw [h1, h3]⟩
theorem low_or {u N : Nat} (hu : u < 2 ^ N) (hN : N ≤ 16) : bits BinOp.or IntKind.u64 (u : Int) ((2 ^ N : Nat) : Int) = ((u ||| 2 ^ N : Nat) : Int) ∧ u ||| 2 ^ N < 18446744073709551616 := by
  have h1 : (2 : Nat) ^ N ≤ 2 ^ 16 := Nat.pow_le_pow_right (by decide) hN
  have h2 : u ||| 2 ^ N < 2 ^ 17 := Nat.or_lt_two_pow (by omega) (by omega)
  exact ⟨u64_or_nat u (2 ^ N) (by omega) (by omega), by omega⟩
set_option maxRecDepth 100000 in
theorem still_long (w : World) (ht : Tabs w) (c : Cf) (xs : List Int) (a1 : Option Addr) (len cap : Nat) (h : 200 < len) :
    Calls Tryd.prog 8 #[.agg (cf c).toArray, .slice a1 len cap] w fun e w' => e = .returned (.bool true) ∧ Below w.heap.size w w' := by
  have HB := Lib.hid (Bxs.start w)
  have HT := Lib.hid ht
  have d1 : decide ((200 : Int) < (len : Int)) = true := by simp; omega
  clear ht
  go_enter Tryd.func8, Tryd.ntmps8
  go_wp2_with (first | (go_at_call 10; refine Calls.mono (head_any _ (HT.out.below HB.out.below (Nat.le_refl _))) ?_; rintro e w_ ⟨rfl, hb_⟩; replace HB := Lib.hid (HB.out.call hb_); clear hb_) | (first | ((with_reducible refine Kx.absorb HB ?_); clear HB; intro w_ HB) | ((with_reducible refine Kx.box_gate ?_); (first | refine Kx.boxa HB rfl ?_ | refine Kx.boxt HB rfl rfl ?_ | refine Kx.box1 HB rfl rfl ?_); clear HB; intro b_ w_ HB; refine Kx.fr ?_) | ((with_reducible refine Kx.alloc_gate ?_); (first | refine Kx.ala HB ?_ | refine Kx.al1 HB ?_); clear HB; intro b_ w_ HB; refine Kx.fr ?_) | ((with_reducible refine Kx.loads_gate ?_); first | refine Kx.l1 HB rfl rfl ?_ | refine Kx.la HB rfl ?_ | refine Kx.lo HB rfl HC.out ?_) | ((with_reducible refine Kx.loadg_gate ?_); first | refine Kx.l1g HB rfl rfl rfl ?_ | refine Kx.lag HB rfl rfl ?_ | refine Kx.log HB rfl HC.out rfl ?_) | ((with_reducible refine Kx.store_gate ?_); (first | refine Kx.stwa HB rfl rfl ?_ | refine Kx.sta HB rfl rfl ?_ | refine Kx.stc HB rfl rfl ?_ | refine Kx.stt HB rfl rfl rfl ?_ | refine Kx.st1 HB rfl rfl rfl ?_); clear HB; intro w_ HB)))
  go_ret
  exact ⟨rfl, HB.out.below⟩
set_option maxRecDepth 100000 in
set_option maxHeartbeats 8000000 in
theorem still_walk (y : Cf × List Int) (a1 : Option Addr) (len cap : Nat) (es : List Ev) (w : World) (hc : CfAt w y.1 y.2) (he : EvsAt w a1 len cap es) (ht : Tabs w) :
    Calls Tryd.prog 8 #[.agg (cf y.1).toArray, .slice a1 len cap] w fun e w' => e = .returned (.bool true) ∧ Below w.heap.size w w' := by
  obtain ⟨c, xs⟩ := y
  dsimp only at hc ⊢
  by_cases h200 : 200 < len
  · exact still_long w ht c xs a1 len cap h200
  have HB := Lib.hid (Bxs.start w)
  have HT := Lib.hid ht
  have HR := Lib.hid hc.rd
  have HL := Lib.hid hc.len
  have HE := Lib.hid he
  have d1 : decide ((200 : Int) < (len : Int)) = false := by simp; omega
  clear hc he ht
  by_cases hok : ConfP c xs
  case neg =>
    go_enter Tryd.func8, Tryd.ntmps8
    go_wp2_with (first | (go_at_call 10; refine Calls.mono (head_any _ (HT.out.below HB.out.below (Nat.le_refl _))) ?_; rintro e w_ ⟨rfl, hb_⟩; replace HB := Lib.hid (HB.out.call hb_); clear hb_) | (go_at_call 13; fail) | (first | ((with_reducible refine Kx.absorb HB ?_); clear HB; intro w_ HB) | ((with_reducible refine Kx.box_gate ?_); (first | refine Kx.boxa HB rfl ?_ | refine Kx.boxt HB rfl rfl ?_ | refine Kx.box1 HB rfl rfl ?_); clear HB; intro b_ w_ HB; refine Kx.fr ?_) | ((with_reducible refine Kx.alloc_gate ?_); (first | refine Kx.ala HB ?_ | refine Kx.al1 HB ?_); clear HB; intro b_ w_ HB; refine Kx.fr ?_) | ((with_reducible refine Kx.loads_gate ?_); first | refine Kx.l1 HB rfl rfl ?_ | refine Kx.la HB rfl ?_ | refine Kx.lo HB rfl HC.out ?_) | ((with_reducible refine Kx.loadg_gate ?_); first | refine Kx.l1g HB rfl rfl rfl ?_ | refine Kx.lag HB rfl rfl ?_ | refine Kx.log HB rfl HC.out rfl ?_) | ((with_reducible refine Kx.store_gate ?_); (first | refine Kx.stwa HB rfl rfl ?_ | refine Kx.sta HB rfl rfl ?_ | refine Kx.stc HB rfl rfl ?_ | refine Kx.stt HB rfl rfl rfl ?_ | refine Kx.st1 HB rfl rfl rfl ?_); clear HB; intro w_ HB)))
    refine (PRight_any c xs _ (HT.out.below HB.out.below (Nat.le_refl _)) ((HR.out.below HB.out.below).more HB.out.size) HL.out).mono ?_
    intro e w5 hs
    obtain ⟨rfl, hb_⟩ := says_of hs false ⟨fun h => (by cases h), fun h => absurd h hok⟩
    replace HB := Lib.hid (HB.out.call hb_)
    clear hs hb_
    go_wp2_with (first | ((with_reducible refine Kx.absorb HB ?_); clear HB; intro w_ HB) | ((with_reducible refine Kx.box_gate ?_); (first | refine Kx.boxa HB rfl ?_ | refine Kx.boxt HB rfl rfl ?_ | refine Kx.box1 HB rfl rfl ?_); clear HB; intro b_ w_ HB; refine Kx.fr ?_) | ((with_reducible refine Kx.alloc_gate ?_); (first | refine Kx.ala HB ?_ | refine Kx.al1 HB ?_); clear HB; intro b_ w_ HB; refine Kx.fr ?_) | ((with_reducible refine Kx.loads_gate ?_); first | refine Kx.l1 HB rfl rfl ?_ | refine Kx.la HB rfl ?_ | refine Kx.lo HB rfl HC.out ?_) | ((with_reducible refine Kx.loadg_gate ?_); first | refine Kx.l1g HB rfl rfl rfl ?_ | refine Kx.lag HB rfl rfl ?_ | refine Kx.log HB rfl HC.out rfl ?_) | ((with_reducible refine Kx.store_gate ?_); (first | refine Kx.stwa HB rfl rfl ?_ | refine Kx.sta HB rfl rfl ?_ | refine Kx.stc HB rfl rfl ?_ | refine Kx.stt HB rfl rfl rfl ?_ | refine Kx.st1 HB rfl rfl rfl ?_); clear HB; intro w_ HB))
    go_ret
    exact ⟨rfl, HB.out.below⟩
  have HOK := Lib.hid hok
  clear hok
  go_enter Tryd.func8, Tryd.ntmps8
  go_wp2_with (first | (go_at_call 10; refine Calls.mono (head_any _ (HT.out.below HB.out.below (Nat.le_refl _))) ?_; rintro e w_ ⟨rfl, hb_⟩; replace HB := Lib.hid (HB.out.call hb_); clear hb_) | (go_at_call 13; fail) | (first | ((with_reducible refine Kx.absorb HB ?_); clear HB; intro w_ HB) | ((with_reducible refine Kx.box_gate (d := some 2) ?_); (first | refine Kx.boxa HB rfl ?_ | refine Kx.boxt HB rfl rfl ?_ | refine Kx.box1 HB rfl rfl ?_); clear HB; intro b2 w_ HB; refine Kx.fr ?_) | ((with_reducible refine Kx.alloc_gate (d := some 2) ?_); (first | refine Kx.ala HB ?_ | refine Kx.al1 HB ?_); clear HB; intro b2 w_ HB; refine Kx.fr ?_) | ((with_reducible refine Kx.box_gate ?_); (first | refine Kx.boxa HB rfl ?_ | refine Kx.boxt HB rfl rfl ?_ | refine Kx.box1 HB rfl rfl ?_); clear HB; intro b_ w_ HB; refine Kx.fr ?_) | ((with_reducible refine Kx.alloc_gate ?_); (first | refine Kx.ala HB ?_ | refine Kx.al1 HB ?_); clear HB; intro b_ w_ HB; refine Kx.fr ?_) | ((with_reducible refine Kx.loads_gate ?_); first | refine Kx.l1 HB rfl rfl ?_ | refine Kx.la HB rfl ?_ | refine Kx.lo HB rfl HC.out ?_) | ((with_reducible refine Kx.loadg_gate ?_); first | refine Kx.l1g HB rfl rfl rfl ?_ | refine Kx.lag HB rfl rfl ?_ | refine Kx.log HB rfl HC.out rfl ?_) | ((with_reducible refine Kx.store_gate ?_); (first | refine Kx.stwa HB rfl rfl ?_ | refine Kx.sta HB rfl rfl ?_ | refine Kx.stc HB rfl rfl ?_ | refine Kx.stt HB rfl rfl rfl ?_ | refine Kx.st1 HB rfl rfl rfl ?_); clear HB; intro w_ HB)))
  refine (PRight_any c xs _ (HT.out.below HB.out.below (Nat.le_refl _)) ((HR.out.below HB.out.below).more HB.out.size) HL.out).mono ?_
  intro e w5 hs
  obtain ⟨rfl, hb_⟩ := says_of hs true ⟨fun _ => HOK.out, fun _ => rfl⟩
  replace HB := Lib.hid (HB.out.call hb_)
  clear hs hb_
  go_wp2_with (first | (go_at_call 18; fail) | (first | ((with_reducible refine Kx.absorb HB ?_); clear HB; intro w_ HB) | ((with_reducible refine Kx.box_gate (d := some 2) ?_); (first | refine Kx.boxa HB rfl ?_ | refine Kx.boxt HB rfl rfl ?_ | refine Kx.box1 HB rfl rfl ?_); clear HB; intro b2 w_ HB; refine Kx.fr ?_) | ((with_reducible refine Kx.alloc_gate (d := some 2) ?_); (first | refine Kx.ala HB ?_ | refine Kx.al1 HB ?_); clear HB; intro b2 w_ HB; refine Kx.fr ?_) | ((with_reducible refine Kx.box_gate ?_); (first | refine Kx.boxa HB rfl ?_ | refine Kx.boxt HB rfl rfl ?_ | refine Kx.box1 HB rfl rfl ?_); clear HB; intro b_ w_ HB; refine Kx.fr ?_) | ((with_reducible refine Kx.alloc_gate ?_); (first | refine Kx.ala HB ?_ | refine Kx.al1 HB ?_); clear HB; intro b_ w_ HB; refine Kx.fr ?_) | ((with_reducible refine Kx.loads_gate ?_); first | refine Kx.l1 HB rfl rfl ?_ | refine Kx.la HB rfl ?_ | refine Kx.lo HB rfl HC.out ?_) | ((with_reducible refine Kx.loadg_gate ?_); first | refine Kx.l1g HB rfl rfl rfl ?_ | refine Kx.lag HB rfl rfl ?_ | refine Kx.log HB rfl HC.out rfl ?_) | ((with_reducible refine Kx.store_gate ?_); (first | refine Kx.stwa HB rfl rfl ?_ | refine Kx.sta HB rfl rfl ?_ | refine Kx.stc HB rfl rfl ?_ | refine Kx.stt HB rfl rfl rfl ?_ | refine Kx.st1 HB rfl rfl rfl ?_); clear HB; intro w_ HB)))
  refine (walk_any c xs a1 len cap es _ (HT.out.below HB.out.below (Nat.le_refl _)) HOK.out ((HR.out.below HB.out.below).more HB.out.size) HL.out ((HE.out.2.2.2.2.below HB.out.below).more HB.out.size) HE.out.1 (by omega) HE.out.2.2.2.1).mono ?_
  rintro e w6 ⟨A, k', ps, pl, rfl, hb_, hn_, hq_, hpl, hlen⟩
  replace HB := Lib.hid (HB.out.stayAll hb_ hn_ hq_)
  obtain ⟨ad, rfl⟩ := stay_ad HB.out (List.mem_cons_self ..) hpl.mem
  have HPL : Hid (∀ k a b, ps[k]? = some a → ps[k + 1]? = some b → Two c xs a b) := Lib.hid (fun k a b h1 h2 => hpl.two HOK.out HL.out h1 h2)
  have HEPS : Hid (∀ (i : Nat) (p : Pt), ps[i]? = some p → p.x.e < 4611686018427387904) := Lib.hid (fun i p hp => by
    have h1 := (Gm.chain_inv (HOK.out.gok HL.out) hpl.chain i p.x (by rw [List.getElem?_map, hp]; rfl)).2
    have h2 := (List.getElem?_eq_some_iff.1 hp).1
    omega)
  have hm1 : ps.length ≤ 201 := by omega
  have hm0 : 0 < ps.length := List.length_pos_of_mem hpl.mem
  clear hb_ hn_ hq_ hpl hlen
  obtain ⟨m, hm⟩ : ∃ m, ps.length = m := ⟨_, rfl⟩
  rw [hm] at hm1 hm0
  have HM := Lib.hid hm
  rw [hm]
  clear hm
  go_wp2_with (first | ((with_reducible refine Kx.absorb HB ?_); clear HB; intro w_ HB) | ((with_reducible refine Kx.box_gate ?_); (first | refine Kx.boxa HB rfl ?_ | refine Kx.boxt HB rfl rfl ?_ | refine Kx.box1 HB rfl rfl ?_); clear HB; intro b_ w_ HB; refine Kx.fr ?_) | ((with_reducible refine Kx.alloc_gate ?_); (first | refine Kx.ala HB ?_ | refine Kx.al1 HB ?_); clear HB; intro b_ w_ HB; refine Kx.fr ?_) | ((with_reducible refine Kx.loads_gate ?_); first | refine Kx.l1 HB rfl rfl ?_ | refine Kx.la HB rfl ?_ | refine Kx.lo HB rfl HC.out ?_) | ((with_reducible refine Kx.loadg_gate ?_); first | refine Kx.l1g HB rfl rfl rfl ?_ | refine Kx.lag HB rfl rfl ?_ | refine Kx.log HB rfl HC.out rfl ?_) | ((with_reducible refine Kx.store_gate ?_); (first | refine Kx.stwa HB rfl rfl ?_ | refine Kx.sta HB rfl rfl ?_ | refine Kx.stc HB rfl rfl ?_ | refine Kx.stt HB rfl rfl rfl ?_ | refine Kx.st1 HB rfl rfl rfl ?_); clear HB; intro w_ HB))
  go_loopg [7] (m - 1) (fun gh ix wr => ∃ (k : Nat), gh + k = m - 1 ∧ ix = .int .i64 ((k + 1 : Nat) : Int) ∧ Hid (Bxs w wr [(b2, cf c)] [] ((some ad, cat Pt.cells ps) :: (fzs ps ++ []))))
  case atStart => exact ⟨0, by omega, rfl, HB⟩
  case round =>
    clear HB
    obtain ⟨k, hk, rfl, HB⟩ := hrel
    obtain ⟨i, hi⟩ : ∃ i : Nat, k + 1 = i := ⟨_, rfl⟩
    rw [hi]
    by_cases hlt : i < m
    · have d2 : (i : Int) < (m : Int) := by omega
      obtain ⟨a, ha⟩ : ∃ a, ps[k]? = some a := ⟨ps[k]'(by rw [HM.out]; omega), List.getElem?_eq_getElem _⟩
      obtain ⟨p, hp⟩ : ∃ p, ps[i]? = some p := ⟨ps[i]'(by rw [HM.out]; omega), List.getElem?_eq_getElem _⟩
      have HTW := Lib.hid (HPL.out k a p ha (by rw [hi]; exact hp))
      have HEP := Lib.hid (HEPS.out i p hp)
      have HCP : Hid (∀ W l r F, Bxs w W l r F → (some ad, cat Pt.cells ps) ∈ F → ∀ j u, p.cells[j]? = some u → W.cell? ((ad.add (i * 12)).add j) = some u) := Lib.hid (fun W l r F q hm => stay_plan q hm rfl hp)
      have HMP := Lib.hid (List.mem_of_getElem? hp)
      have hi12 : (Tryd.prog.info? 28).map (·.size) = some 12 := by kernel_rfl
      have hlp : p.cells.length = 12 := rfl
      have HIK := Lib.hid hi
      clear ha hp hi
      obtain ⟨u, eu, hu, htu⟩ := mask_nat HOK.out HTW.out.inv'.fits.up
      obtain ⟨N, hN⟩ : ∃ N : Nat, c.targets = (N : Int) := ⟨c.targets.toNat, by have := HOK.out.targets; omega⟩
      have hN16 : 1 ≤ N ∧ N ≤ 16 := by have := HOK.out.targets; omega
      have HNT : Hid (c.targets.toNat = N) := Lib.hid (by omega)
      have HTGT : Hid ((cf c)[2]? = some (.int .i64 (N : Int))) := Lib.hid (by rw [← hN]; rfl)
      have hup : p.x.up < 2 ^ c.targets.toNat := HTW.out.inv'.fits.up.2
      obtain ⟨hor, hor2⟩ := low_or (u := u) (N := N) (by rw [HNT.out, eu] at hup; exact_mod_cast hup) hN16.2
      obtain ⟨s, hs⟩ : ∃ s : Int, ((2 ^ N : Nat) : Int) = s := ⟨_, rfl⟩
      obtain ⟨v, hv⟩ : ∃ v : Nat, u ||| 2 ^ N = v := ⟨_, rfl⟩
      rw [hs, hv] at hor
      rw [hv] at hor2
      have hsl : IntKind.u64.wrap (2 ^ N) = s := by
        have h1 := pow_fit (N := N) hN16.2
        have h2 : (0 : Int) < 2 ^ N := Int.pow_pos (by decide)
        rw [← hs, show (((2 ^ N : Nat) : Nat) : Int) = (2 : Int) ^ N by simp]
        simp [IntKind.wrap, IntKind.bits, IntKind.signed]
        omega
      have HV := Lib.hid hv
      clear hs hv
      have hst : Gm.T p.x.st := HTW.out.inv'.fits.st
      unfold Gm.T at hst
      obtain ⟨st1, st2⟩ := hst
      have hw5 : wrap64 (p.x.st - 5) = p.x.st - 5 := IntWalk.wrap64_in _ (by omega)
      have hw5' : IntKind.i64.wrap (p.x.st - 5) = p.x.st - 5 := by rw [IntKind.wrap_i64]; omega
      have HST : Hid (in64 p.x.st ∧ in64 (p.x.st - 5)) := Lib.hid ⟨⟨by omega, by omega⟩, ⟨by omega, by omega⟩⟩
      have HFEW := Lib.hid (few HOK.out HTW.out.okb HTW.out.inv'.fits)
      have HTU := Lib.hid htu
      have HN := Lib.hid hN
      clear htu hup hN st1 st2
      go_upto_region 9 with (first | ((with_reducible refine Kx.loads_gate ?_); refine wpList_load_any rfl 28 _ rfl (ad.add (i * 12)) rfl p.cells _ (HCP.out _ _ _ _ HB.out (List.mem_cons_self ..)) Tryd.underlying28 rfl hi12 ?_; refine Kx.framed ?_ (by simp only [Act.put, List.setIfInBounds_toArray, List.set_cons_succ, List.set_cons_zero] <;> rfl)) | (first | ((with_reducible refine Kx.absorb HB ?_); clear HB; intro w_ HB) | ((with_reducible refine Kx.box_gate (d := some 8) ?_); (first | refine Kx.boxa HB rfl ?_ | refine Kx.boxt HB rfl rfl ?_ | refine Kx.box1 HB rfl rfl ?_); clear HB; intro b8 w_ HB; refine Kx.fr ?_) | ((with_reducible refine Kx.alloc_gate (d := some 8) ?_); (first | refine Kx.ala HB ?_ | refine Kx.al1 HB ?_); clear HB; intro b8 w_ HB; refine Kx.fr ?_) | ((with_reducible refine Kx.box_gate ?_); (first | refine Kx.boxa HB rfl ?_ | refine Kx.boxt HB rfl rfl ?_ | refine Kx.box1 HB rfl rfl ?_); clear HB; intro b_ w_ HB; refine Kx.fr ?_) | ((with_reducible refine Kx.alloc_gate ?_); (first | refine Kx.ala HB ?_ | refine Kx.al1 HB ?_); clear HB; intro b_ w_ HB; refine Kx.fr ?_) | ((with_reducible refine Kx.loads_gate ?_); first | refine Kx.l1 HB rfl rfl ?_ | refine Kx.la HB rfl ?_ | refine Kx.lo HB rfl HC.out ?_) | ((with_reducible refine Kx.loadg_gate ?_); first | refine Kx.l1g HB rfl rfl rfl ?_ | refine Kx.lag HB rfl rfl ?_ | refine Kx.log HB rfl HC.out rfl ?_) | ((with_reducible refine Kx.store_gate ?_); (first | refine Kx.stwa HB rfl rfl ?_ | refine Kx.sta HB rfl rfl ?_ | refine Kx.stc HB rfl rfl ?_ | refine Kx.stt HB rfl rfl rfl ?_ | refine Kx.st1 HB rfl rfl rfl ?_); clear HB; intro w_ HB)))
      go_wp2_with (first | (go_at_call 11; fail) | (first | ((with_reducible refine Kx.absorb HB ?_); clear HB; intro w_ HB) | ((with_reducible refine Kx.box_gate ?_); (first | refine Kx.boxa HB rfl ?_ | refine Kx.boxt HB rfl rfl ?_ | refine Kx.box1 HB rfl rfl ?_); clear HB; intro b_ w_ HB; refine Kx.fr ?_) | ((with_reducible refine Kx.alloc_gate ?_); (first | refine Kx.ala HB ?_ | refine Kx.al1 HB ?_); clear HB; intro b_ w_ HB; refine Kx.fr ?_) | ((with_reducible refine Kx.loads_gate ?_); first | refine Kx.l1 HB rfl rfl ?_ | refine Kx.la HB rfl ?_ | refine Kx.lo HB rfl HC.out ?_) | ((with_reducible refine Kx.loadg_gate ?_); first | refine Kx.l1g HB rfl rfl rfl ?_ | refine Kx.lag HB rfl rfl ?_ | refine Kx.log HB rfl HC.out rfl ?_) | ((with_reducible refine Kx.store_gate ?_); (first | refine Kx.stwa HB rfl rfl ?_ | refine Kx.sta HB rfl rfl ?_ | refine Kx.stc HB rfl rfl ?_ | refine Kx.stt HB rfl rfl rfl ?_ | refine Kx.st1 HB rfl rfl rfl ?_); clear HB; intro w_ HB)))
      refine (PNext_any c xs p u p.x.st _ (HT.out.below HB.out.below (Nat.le_refl _)) ((HR.out.below HB.out.below).more HB.out.size) HL.out (HTW.out.okb.stays HB.out (fun q hq => List.mem_cons_of_mem _ (List.mem_append_left _ (fzs_in HMP.out q hq)))) HFEW.out hu HST.out.1).mono ?_
      rintro e w7 ⟨q, b, rfl, hb_, n1, n2, qok, yes, no⟩
      replace HB := Lib.hid (HB.out.stayNew2 hb_ n1 n2 (fun q hq => List.mem_cons_of_mem _ (List.mem_append_left _ (fzs_in HMP.out q hq))))
      have HY := Lib.hid (⟨qok, yes, no⟩ : _ ∧ _ ∧ _)
      have hlq : q.cells.length = 12 := rfl
      clear hb_ n1 n2 qok yes no
      go_upto_region 10 with (first | ((with_reducible refine Kx.absorb HB ?_); clear HB; intro w_ HB) | ((with_reducible refine Kx.box_gate (d := some 9) ?_); (first | refine Kx.boxa HB rfl ?_ | refine Kx.boxt HB rfl rfl ?_ | refine Kx.box1 HB rfl rfl ?_); clear HB; intro b9 w_ HB; refine Kx.fr ?_) | ((with_reducible refine Kx.alloc_gate (d := some 9) ?_); (first | refine Kx.ala HB ?_ | refine Kx.al1 HB ?_); clear HB; intro b9 w_ HB; refine Kx.fr ?_) | ((with_reducible refine Kx.box_gate ?_); (first | refine Kx.boxa HB rfl ?_ | refine Kx.boxt HB rfl rfl ?_ | refine Kx.box1 HB rfl rfl ?_); clear HB; intro b_ w_ HB; refine Kx.fr ?_) | ((with_reducible refine Kx.alloc_gate ?_); (first | refine Kx.ala HB ?_ | refine Kx.al1 HB ?_); clear HB; intro b_ w_ HB; refine Kx.fr ?_) | ((with_reducible refine Kx.loads_gate ?_); first | refine Kx.l1 HB rfl rfl ?_ | refine Kx.la HB rfl ?_ | refine Kx.lo HB rfl HC.out ?_) | ((with_reducible refine Kx.loadg_gate ?_); first | refine Kx.l1g HB rfl rfl rfl ?_ | refine Kx.lag HB rfl rfl ?_ | refine Kx.log HB rfl HC.out rfl ?_) | ((with_reducible refine Kx.store_gate ?_); (first | refine Kx.stwa HB rfl rfl ?_ | refine Kx.sta HB rfl rfl ?_ | refine Kx.stc HB rfl rfl ?_ | refine Kx.stt HB rfl rfl rfl ?_ | refine Kx.st1 HB rfl rfl rfl ?_); clear HB; intro w_ HB))
      go_cut [74] from 46 to 73 (fun tv wx => tv = .bool false ∧ Hid (Bxs w wx [(b9, q.cells), (b8, p.cells), (b2, cf c)] [] (q.fz ++ ((some ad, cat Pt.cells ps) :: (fzs ps ++ [])))))
      case first =>
        cases b with
        | false =>
          go_wp2_with (first | ((with_reducible refine Kx.absorb HB ?_); clear HB; intro w_ HB) | ((with_reducible refine Kx.box_gate ?_); (first | refine Kx.boxa HB rfl ?_ | refine Kx.boxt HB rfl rfl ?_ | refine Kx.box1 HB rfl rfl ?_); clear HB; intro b_ w_ HB; refine Kx.fr ?_) | ((with_reducible refine Kx.alloc_gate ?_); (first | refine Kx.ala HB ?_ | refine Kx.al1 HB ?_); clear HB; intro b_ w_ HB; refine Kx.fr ?_) | ((with_reducible refine Kx.loads_gate ?_); first | refine Kx.l1 HB rfl rfl ?_ | refine Kx.la HB rfl ?_ | refine Kx.lo HB rfl HC.out ?_) | ((with_reducible refine Kx.loadg_gate ?_); first | refine Kx.l1g HB rfl rfl rfl ?_ | refine Kx.lag HB rfl rfl ?_ | refine Kx.log HB rfl HC.out rfl ?_) | ((with_reducible refine Kx.store_gate ?_); (first | refine Kx.stwa HB rfl rfl ?_ | refine Kx.sta HB rfl rfl ?_ | refine Kx.stc HB rfl rfl ?_ | refine Kx.stt HB rfl rfl rfl ?_ | refine Kx.st1 HB rfl rfl rfl ?_); clear HB; intro w_ HB))
          go_meet
          case rel => exact ⟨rfl, HB⟩
        | true =>
          have hne := Gm.still_one (c := gc c xs) (p := p.x) (q := q.x) HTW.out.inv'.fits (by
            have := HY.out.2.1 rfl
            rw [tell_next HOK.out HTW.out.inv'.fits HTW.out.okb.ok HEP.out, ← HTU.out] at this
            exact this)
          by_cases h0 : q.x.t = p.x.t
          case neg =>
            have e0 : (q.x.t == p.x.t) = false := by rw [beq_eq_false_iff_ne]; exact h0
            clear hne
            go_wp2_with (first | ((with_reducible refine Kx.absorb HB ?_); clear HB; intro w_ HB) | ((with_reducible refine Kx.box_gate ?_); (first | refine Kx.boxa HB rfl ?_ | refine Kx.boxt HB rfl rfl ?_ | refine Kx.box1 HB rfl rfl ?_); clear HB; intro b_ w_ HB; refine Kx.fr ?_) | ((with_reducible refine Kx.alloc_gate ?_); (first | refine Kx.ala HB ?_ | refine Kx.al1 HB ?_); clear HB; intro b_ w_ HB; refine Kx.fr ?_) | ((with_reducible refine Kx.loads_gate ?_); first | refine Kx.l1 HB rfl rfl ?_ | refine Kx.la HB rfl ?_ | refine Kx.lo HB rfl HC.out ?_) | ((with_reducible refine Kx.loadg_gate ?_); first | refine Kx.l1g HB rfl rfl rfl ?_ | refine Kx.lag HB rfl rfl ?_ | refine Kx.log HB rfl HC.out rfl ?_) | ((with_reducible refine Kx.store_gate ?_); (first | refine Kx.stwa HB rfl rfl ?_ | refine Kx.sta HB rfl rfl ?_ | refine Kx.stc HB rfl rfl ?_ | refine Kx.stt HB rfl rfl rfl ?_ | refine Kx.st1 HB rfl rfl rfl ?_); clear HB; intro w_ HB))
            go_meet
            case rel => exact ⟨rfl, HB⟩
          have e0 : (q.x.t == p.x.t) = true := by rw [beq_iff_eq]; exact h0
          by_cases h1 : q.x.c = p.x.c
          case neg =>
            have e1 : (q.x.c == p.x.c) = false := by rw [beq_eq_false_iff_ne]; exact h1
            clear hne h0
            go_wp2_with (first | ((with_reducible refine Kx.absorb HB ?_); clear HB; intro w_ HB) | ((with_reducible refine Kx.box_gate ?_); (first | refine Kx.boxa HB rfl ?_ | refine Kx.boxt HB rfl rfl ?_ | refine Kx.box1 HB rfl rfl ?_); clear HB; intro b_ w_ HB; refine Kx.fr ?_) | ((with_reducible refine Kx.alloc_gate ?_); (first | refine Kx.ala HB ?_ | refine Kx.al1 HB ?_); clear HB; intro b_ w_ HB; refine Kx.fr ?_) | ((with_reducible refine Kx.loads_gate ?_); first | refine Kx.l1 HB rfl rfl ?_ | refine Kx.la HB rfl ?_ | refine Kx.lo HB rfl HC.out ?_) | ((with_reducible refine Kx.loadg_gate ?_); first | refine Kx.l1g HB rfl rfl rfl ?_ | refine Kx.lag HB rfl rfl ?_ | refine Kx.log HB rfl HC.out rfl ?_) | ((with_reducible refine Kx.store_gate ?_); (first | refine Kx.stwa HB rfl rfl ?_ | refine Kx.sta HB rfl rfl ?_ | refine Kx.stc HB rfl rfl ?_ | refine Kx.stt HB rfl rfl rfl ?_ | refine Kx.st1 HB rfl rfl rfl ?_); clear HB; intro w_ HB))
            go_meet
            case rel => exact ⟨rfl, HB⟩
          have e1 : (q.x.c == p.x.c) = true := by rw [beq_iff_eq]; exact h1
          by_cases h2 : q.x.s = p.x.s
          case neg =>
            have e2 : (q.x.s == p.x.s) = false := by rw [beq_eq_false_iff_ne]; exact h2
            clear hne h0 h1
            go_wp2_with (first | ((with_reducible refine Kx.absorb HB ?_); clear HB; intro w_ HB) | ((with_reducible refine Kx.box_gate ?_); (first | refine Kx.boxa HB rfl ?_ | refine Kx.boxt HB rfl rfl ?_ | refine Kx.box1 HB rfl rfl ?_); clear HB; intro b_ w_ HB; refine Kx.fr ?_) | ((with_reducible refine Kx.alloc_gate ?_); (first | refine Kx.ala HB ?_ | refine Kx.al1 HB ?_); clear HB; intro b_ w_ HB; refine Kx.fr ?_) | ((with_reducible refine Kx.loads_gate ?_); first | refine Kx.l1 HB rfl rfl ?_ | refine Kx.la HB rfl ?_ | refine Kx.lo HB rfl HC.out ?_) | ((with_reducible refine Kx.loadg_gate ?_); first | refine Kx.l1g HB rfl rfl rfl ?_ | refine Kx.lag HB rfl rfl ?_ | refine Kx.log HB rfl HC.out rfl ?_) | ((with_reducible refine Kx.store_gate ?_); (first | refine Kx.stwa HB rfl rfl ?_ | refine Kx.sta HB rfl rfl ?_ | refine Kx.stc HB rfl rfl ?_ | refine Kx.stt HB rfl rfl rfl ?_ | refine Kx.st1 HB rfl rfl rfl ?_); clear HB; intro w_ HB))
            go_meet
            case rel => exact ⟨rfl, HB⟩
          have e2 : (q.x.s == p.x.s) = true := by rw [beq_iff_eq]; exact h2
          have e3 : (q.x.su == p.x.su) = false := by rw [beq_eq_false_iff_ne]; exact fun h => hne ⟨h0, h1, h2, h⟩
          have e3' : ¬ (q.x.su = p.x.su) := fun h => hne ⟨h0, h1, h2, h⟩
          clear hne h0 h1 h2
          go_wp2_with (first | ((with_reducible refine Kx.absorb HB ?_); clear HB; intro w_ HB) | ((with_reducible refine Kx.box_gate ?_); (first | refine Kx.boxa HB rfl ?_ | refine Kx.boxt HB rfl rfl ?_ | refine Kx.box1 HB rfl rfl ?_); clear HB; intro b_ w_ HB; refine Kx.fr ?_) | ((with_reducible refine Kx.alloc_gate ?_); (first | refine Kx.ala HB ?_ | refine Kx.al1 HB ?_); clear HB; intro b_ w_ HB; refine Kx.fr ?_) | ((with_reducible refine Kx.loads_gate ?_); first | refine Kx.l1 HB rfl rfl ?_ | refine Kx.la HB rfl ?_ | refine Kx.lo HB rfl HC.out ?_) | ((with_reducible refine Kx.loadg_gate ?_); first | refine Kx.l1g HB rfl rfl rfl ?_ | refine Kx.lag HB rfl rfl ?_ | refine Kx.log HB rfl HC.out rfl ?_) | ((with_reducible refine Kx.store_gate ?_); (first | refine Kx.stwa HB rfl rfl ?_ | refine Kx.sta HB rfl rfl ?_ | refine Kx.stc HB rfl rfl ?_ | refine Kx.stt HB rfl rfl rfl ?_ | refine Kx.st1 HB rfl rfl rfl ?_); clear HB; intro w_ HB))
          go_meet
          case rel => exact ⟨rfl, HB⟩
      case rest =>
        obtain ⟨rfl, HB⟩ := hcut
        have HCU : Hid (p.cells[8]? = some (.int .u64 (u : Int))) := Lib.hid (by rw [← eu]; rfl)
        have HTE : Hid (tell c xs p.x u p.x.st = tell c xs p.x v (p.x.st - 5)) := Lib.hid (by
          have h := Gm.still_more (c := gc c xs) HTW.out.inv'.fits
          rw [HTU.out, show (gc c xs).n = N from HNT.out, HV.out] at h
          rw [tell_next HOK.out HTW.out.inv'.fits HTW.out.okb.ok HEP.out, tell_next HOK.out HTW.out.inv'.fits HTW.out.okb.ok HEP.out, h])
        go_wp2_with fail
        go_cut [11, 12] from 75 to 89 (fun bp iv wx => ∃ (y : Pt × Bool) (b11 : Nat), Hid (y.1.Ok ∧ y.1.x = q.x ∧ y.2 = b) ∧ bp = .pointer (some ⟨b11, 0, none⟩) ∧ iv = .bool y.2 ∧ Hid (Bxs w wx [(b11, y.1.cells), (b9, q.cells), (b8, p.cells), (b2, cf c)] [] (y.1.fz ++ (q.fz ++ ((some ad, cat Pt.cells ps) :: (fzs ps ++ []))))))
        case first =>
          refine Kx.region_x HB (fun i => false) (by kernel_rfl) ?_
          first | refine Kx.xl1 0 rfl rfl rfl ?_ | refine Kx.xla 0 rfl rfl ?_ | refine Kx.xlo 0 rfl rfl HC.out ?_
          first | refine Kx.xl1 1 rfl rfl rfl ?_ | refine Kx.xla 1 rfl rfl ?_ | refine Kx.xlo 1 rfl rfl HC.out ?_
          refine Kx.tk 2 rfl ?_
          refine anyW_take (i := 3) (v := ?v3_49) (a' := ?a3_49) (by first | exact Kx.bears_x | exact bears_u | assumption) rfl (by kernel_rfl) (by kernel_rfl) (by kernel_rfl) (fun _ _ _ h => h) (by kernel_rfl) ?w3_49 ?y3_49 ?f3_49 ?r3_49
          case w3_49 => kernel_rfl
          case y3_49 => (intro W hW; first | (refine Eq.trans (Kx.tells_load1_x (v := .int .u64 (u : Int)) hW b8 8 rfl p.cells inferInstance (Tryd.isAgg25 _) HCU.out) ?_; with_reducible rfl))
          case f3_49 => (go_simp; try with_reducible rfl)
          refine Kx.tk 4 rfl ?_
          refine anyW_take (i := 5) (v := ?v5_50) (a' := ?a5_50) (by first | exact Kx.bears_x | exact bears_u | assumption) rfl (by kernel_rfl) (by kernel_rfl) (by kernel_rfl) (fun _ _ _ h => h) (by kernel_rfl) ?w5_50 ?y5_50 ?f5_50 ?r5_50
          case w5_50 => kernel_rfl
          case y5_50 => (intro W hW; first | (refine Eq.trans (Kx.tells_load1_x (v := .int .i64 (N : Int)) hW b2 2 rfl (cf c) inferInstance (Tryd.isAgg3 _) HTGT.out) ?_; with_reducible rfl))
          case f5_50 => (go_simp; try with_reducible rfl)
          refine Kx.tk 6 rfl ?_
          refine Kx.tk 7 rfl ?_
          refine Kx.tk 8 rfl ?_
          refine anyW_take (i := 9) (v := ?v9_51) (a' := ?a9_51) (by first | exact Kx.bears_x | exact bears_u | assumption) rfl (by kernel_rfl) (by kernel_rfl) (by kernel_rfl) (fun _ _ _ h => h) (by kernel_rfl) ?w9_51 ?y9_51 ?f9_51 ?r9_51
          case w9_51 => kernel_rfl
          case y9_51 => (intro W hW; first | (refine Eq.trans (Kx.tells_load1_x (v := .int .i64 p.x.st) hW b8 5 rfl p.cells inferInstance (Tryd.isAgg2 _) rfl) ?_; with_reducible rfl))
          case f9_51 => (go_simp; try with_reducible rfl)
          refine Kx.tk 10 rfl ?_
          refine anyW_two (i := 11) (j := 15) (by kernel_rfl) ?one ?two
          case one =>
            refine AtW.call (α := {y : Pt × Bool // y.1.Ok ∧ y.1.x = q.x ∧ y.2 = b}) ⟨(q, b), HY.out.1, rfl, rfl⟩ (fun y => .tuple #[.agg y.1.1.cells.toArray, .bool y.1.2]) (fun y w' => Bxs w w' [(b9, q.cells), (b8, p.cells), (b2, cf c)] [] (y.1.1.fz ++ (q.fz ++ ((some ad, cat Pt.cells ps) :: (fzs ps ++ []))))) (fun y => bears_x) (fun y W z => z.stayLess (fun z hz => List.mem_append_right _ hz)) rfl (by kernel_rfl) 87 rfl (f := ?g1) (args := ?s1) ?y1 ?c1 ?r1
            case y1 => (intro W hW; go_simp; first | (refine ⟨?_, ?_⟩ <;> with_reducible rfl) | with_reducible rfl)
            case c1 =>
              intro W hW
              refine (PNext_any c xs p v (p.x.st - 5) W (HT.out.below hW.below (Nat.le_refl _)) ((HR.out.below hW.below).more hW.size) HL.out (HTW.out.okb.stays hW (fun q' hq => List.mem_append_right _ (List.mem_cons_of_mem _ (List.mem_append_left _ (fzs_in HMP.out q' hq))))) HFEW.out hor2 HST.out.2).mono ?_
              rintro e w' ⟨q2, b2, rfl, hb, n1, n2, ok, yes, no⟩
              have hsm := told_same HOK.out HL.out HTW.out.inv' HTE.out HY.out.2.1 HY.out.2.2 yes no
              exact ⟨⟨(q2, b2), ok, hsm.1, hsm.2⟩, rfl, hW.stayNew2 hb n1 n2 (fun q' hq => List.mem_append_right _ (List.mem_cons_of_mem _ (List.mem_append_left _ (fzs_in HMP.out q' hq))))⟩
            case r1 =>
            intro y
            refine Kx.framedW (by simp only [Act.put, List.setIfInBounds_toArray, List.set_cons_succ, List.set_cons_zero] <;> rfl) ?_
            refine Kx.tk 12 rfl ?_
            refine Kx.tk 13 rfl ?_
            refine Kx.tk 14 rfl ?_
            refine anyW_at (i := 15) (by kernel_rfl) (AtW.allocU rfl (by kernel_rfl) 11 rfl 28 rfl 12 _ rfl (fun w => (Tryd.zeroValue28 w)) ?_)
            intro b11
            refine Kx.framedW (by simp only [Act.put, List.setIfInBounds_toArray, List.set_cons_succ, List.set_cons_zero] <;> rfl) ?_
            refine anyW_storeU (i := 16) rfl (by kernel_rfl) (by kernel_rfl) rfl _ _ _ rfl _ 12 rfl _ rfl rfl (fun w => (Tryd.sizeOf28 w)) (by rfl) ?_
            refine Kx.tk 17 rfl ?_
            refine anyW_done (by kernel_rfl) ?_
            clear HB
            intro w_ HB_
            have HB := Lib.hid HB_
            clear HB_
            go_wp2_with fail
            go_meet
            case rel => exact ⟨y.1, b11, Lib.hid y.2, rfl, rfl, HB⟩
          case two =>
            refine AtW.allocU rfl (by kernel_rfl) 11 rfl 28 rfl 12 _ rfl (fun w => (Tryd.zeroValue28 w)) ?_
            intro b11
            refine Kx.framedW (by simp only [Act.put, List.setIfInBounds_toArray, List.set_cons_succ, List.set_cons_zero] <;> rfl) ?_
            refine anyW_at (i := 11) (by kernel_rfl) ?three
            case three =>
            refine AtW.call (α := {y : Pt × Bool // y.1.Ok ∧ y.1.x = q.x ∧ y.2 = b}) ⟨(q, b), HY.out.1, rfl, rfl⟩ (fun y => .tuple #[.agg y.1.1.cells.toArray, .bool y.1.2]) (fun y => Cu w b11 12 [(b9, q.cells), (b8, p.cells), (b2, cf c)] [] (y.1.1.fz ++ (q.fz ++ ((some ad, cat Pt.cells ps) :: (fzs ps ++ []))))) (fun y => bears_u) (fun y W z => by obtain ⟨cs, e, z⟩ := z; exact ⟨cs, e, z.stayLess (fun z hz => List.mem_append_right _ hz)⟩) rfl (by kernel_rfl) 87 rfl (f := ?g2) (args := ?s2) ?y2 ?c2 ?r2
            case y2 => (intro W hW; go_simp; first | (refine ⟨?_, ?_⟩ <;> with_reducible rfl) | with_reducible rfl)
            case c2 =>
              rintro W ⟨cs8, e8, hW⟩
              refine (PNext_any c xs p v (p.x.st - 5) W (HT.out.below hW.below (Nat.le_refl _)) ((HR.out.below hW.below).more hW.size) HL.out (HTW.out.okb.stays hW (fun q' hq => List.mem_append_right _ (List.mem_cons_of_mem _ (List.mem_append_left _ (fzs_in HMP.out q' hq))))) HFEW.out hor2 HST.out.2).mono ?_
              rintro e w' ⟨q2, b2, rfl, hb, n1, n2, ok, yes, no⟩
              have hsm := told_same HOK.out HL.out HTW.out.inv' HTE.out HY.out.2.1 HY.out.2.2 yes no
              exact ⟨⟨(q2, b2), ok, hsm.1, hsm.2⟩, rfl, cs8, e8, hW.stayNew2 hb n1 n2 (fun q' hq => List.mem_append_right _ (List.mem_cons_of_mem _ (List.mem_append_left _ (fzs_in HMP.out q' hq))))⟩
            case r2 =>
            intro y
            refine Kx.framedW (by simp only [Act.put, List.setIfInBounds_toArray, List.set_cons_succ, List.set_cons_zero] <;> rfl) ?_
            refine Kx.tk 12 rfl ?_
            refine Kx.tk 13 rfl ?_
            refine Kx.tk 14 rfl ?_
            refine anyW_storeU (i := 16) rfl (by kernel_rfl) (by kernel_rfl) rfl _ _ _ rfl _ 12 rfl _ rfl rfl (fun w => (Tryd.sizeOf28 w)) (by rfl) ?_
            refine Kx.tk 17 rfl ?_
            refine anyW_done (by kernel_rfl) ?_
            clear HB
            intro w_ HB_
            have HB := Lib.hid HB_
            clear HB_
            go_wp2_with fail
            go_meet
            case rel => exact ⟨y.1, b11, Lib.hid y.2, rfl, rfl, HB⟩
        case rest =>
          obtain ⟨⟨y, yb⟩, b11, HYY, rfl, rfl, HB⟩ := hcut
          obtain ⟨yok, yx, ybb⟩ := HYY.out
          clear HYY
          dsimp only at yok yx ybb HB ⊢
          subst ybb
          have hly : y.cells.length = 12 := rfl
          have HPQ : Hid (q.n ≤ 9000000 ∧ q.n' ≤ 9000000) := Lib.hid (by
            cases yb with
            | false =>
              have h1 := (HY.out.2.2 rfl).2
              rw [← HY.out.1.n, ← HY.out.1.n', h1]; exact ⟨by decide, by decide⟩
            | true =>
              have h1 := HY.out.2.1 rfl
              rw [tell_next HOK.out HTW.out.inv'.fits HTW.out.okb.ok HEP.out] at h1
              have h2 := few HOK.out HY.out.1 (Gm.step_inv (HOK.out.gok HL.out) HTW.out.inv' ⟨_, _, h1⟩).fits
              omega)
          have HSM : Hid (∀ W, Bxs w W [(b11, y.cells), (b9, q.cells), (b8, p.cells), (b2, cf c)] [] (y.fz ++ (q.fz ++ ((some ad, cat Pt.cells ps) :: (fzs ps ++ [])))) → Calls Tryd.prog 15 #[.agg q.cells.toArray, .agg y.cells.toArray] W fun e w' => e = .returned (.bool true) ∧ Below W.heap.size W w') := Lib.hid (fun W hW => PSame_eq q y yx.symm W (HY.out.1.stays hW (fun z hz => List.mem_append_right _ (List.mem_append_left _ hz))) (yok.stays hW (fun z hz => List.mem_append_left _ hz)) HPQ.out)
          have eb : (yb != yb) = false := by simp
          clear yok yx HPQ
          go_wp2_with (first | (go_at_call 15; refine Calls.mono (HSM.out _ HB.out) ?_; rintro e w_ ⟨rfl, hb_⟩; replace HB := Lib.hid (HB.out.call hb_); clear hb_) | (first | ((with_reducible refine Kx.absorb HB ?_); clear HB; intro w_ HB) | ((with_reducible refine Kx.box_gate ?_); (first | refine Kx.boxa HB rfl ?_ | refine Kx.boxt HB rfl rfl ?_ | refine Kx.box1 HB rfl rfl ?_); clear HB; intro b_ w_ HB; refine Kx.fr ?_) | ((with_reducible refine Kx.alloc_gate ?_); (first | refine Kx.ala HB ?_ | refine Kx.al1 HB ?_); clear HB; intro b_ w_ HB; refine Kx.fr ?_) | ((with_reducible refine Kx.loads_gate ?_); first | refine Kx.l1 HB rfl rfl ?_ | refine Kx.la HB rfl ?_ | refine Kx.lo HB rfl HC.out ?_) | ((with_reducible refine Kx.loadg_gate ?_); first | refine Kx.l1g HB rfl rfl rfl ?_ | refine Kx.lag HB rfl rfl ?_ | refine Kx.log HB rfl HC.out rfl ?_) | ((with_reducible refine Kx.store_gate ?_); (first | refine Kx.stwa HB rfl rfl ?_ | refine Kx.sta HB rfl rfl ?_ | refine Kx.stc HB rfl rfl ?_ | refine Kx.stt HB rfl rfl rfl ?_ | refine Kx.st1 HB rfl rfl rfl ?_); clear HB; intro w_ HB)))
          have hik := HIK.out
          go_roundg (gk - 1)
          case measure => omega
          case rel => exact ⟨k + 1, by omega, by rw [show k + 1 = i by omega]; go_num, Lib.hid (HB.out.tail.tail.tail.stayLess (fun z hz => List.mem_append_right _ (List.mem_append_right _ hz)))⟩
    · obtain rfl : i = m := by omega
      have d2 : decide ((i : Int) < (i : Int)) = false := by simp
      go_wp2_with (first | ((with_reducible refine Kx.absorb HB ?_); clear HB; intro w_ HB) | ((with_reducible refine Kx.box_gate ?_); (first | refine Kx.boxa HB rfl ?_ | refine Kx.boxt HB rfl rfl ?_ | refine Kx.box1 HB rfl rfl ?_); clear HB; intro b_ w_ HB; refine Kx.fr ?_) | ((with_reducible refine Kx.alloc_gate ?_); (first | refine Kx.ala HB ?_ | refine Kx.al1 HB ?_); clear HB; intro b_ w_ HB; refine Kx.fr ?_) | ((with_reducible refine Kx.loads_gate ?_); first | refine Kx.l1 HB rfl rfl ?_ | refine Kx.la HB rfl ?_ | refine Kx.lo HB rfl HC.out ?_) | ((with_reducible refine Kx.loadg_gate ?_); first | refine Kx.l1g HB rfl rfl rfl ?_ | refine Kx.lag HB rfl rfl ?_ | refine Kx.log HB rfl HC.out rfl ?_) | ((with_reducible refine Kx.store_gate ?_); (first | refine Kx.stwa HB rfl rfl ?_ | refine Kx.sta HB rfl rfl ?_ | refine Kx.stc HB rfl rfl ?_ | refine Kx.stt HB rfl rfl rfl ?_ | refine Kx.st1 HB rfl rfl rfl ?_); clear HB; intro w_ HB))
      go_ret
      exact ⟨rfl, HB.out.below⟩
end Go.Proofs.YtnljpopjhjcocaaDoor
