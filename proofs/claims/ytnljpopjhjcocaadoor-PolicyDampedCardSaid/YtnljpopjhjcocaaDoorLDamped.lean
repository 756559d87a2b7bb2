/- PolicyDamped, walked. -/
import Derived.Test.YtnljpopjhjcocaaDoorHq
namespace Go.Proofs.YtnljpopjhjcocaaDoor
open Go.RowKit Go.Shelf Km Kx Kc Kt
set_option linter.unusedVariables false

theorem Gm.hist_mem : ∀ (w : List Gm.Pl) (v : Int), v ∈ Gm.hist w → ∃ x, x ∈ w ∧ v = x.st
  | [], v, h => by cases h
  | [_], v, h => by cases h
  | a :: b :: l, v, h => by
    rw [Gm.hist] at h
    rcases List.mem_append.1 h with h | h
    · split at h
      · cases h
      · rw [List.mem_singleton] at h
        exact ⟨b, List.mem_cons_of_mem _ (List.mem_cons_self ..), h⟩
    · obtain ⟨x, h1, h2⟩ := Gm.hist_mem (b :: l) v h
      exact ⟨x, List.mem_cons_of_mem _ h1, h2⟩
/-- what is known of two plans, with the changes ahead of them -/
structure Dmp (c : Cf) (xs : List Int) (a b : Gm.Pl) (l l' : List Int) : Prop where
  same : a.t = b.t → l' = l
  more : a.t ≠ b.t → l' = l ++ [b.st] ∧ (0 < l.length → c.d ≤ b.st - l.getD (l.length - 1) 0) ∧ (c.b.toNat ≤ l.length → c.w < b.st - l.getD (l.length - c.b.toNat) 0) ∧ b.ch.length = min (l.length + 1) c.b.toNat ∧ b.ch.getD (b.ch.length - 1) 0 = b.st ∧ b.p = a.t ∧ b.si = b.st
  tm : ∀ k, 0 ≤ l.getD k 0 ∧ l.getD k 0 ≤ 1099511627776
theorem dmp_of {w : World} {c : Cf} {xs : List Int} {ps : List Pt} {p : Pt} (h : Pls w c xs ps p) (hc : ConfP c xs) (hl : xs.length = c.tn) {k : Nat} {a b : Pt} (ha : ps[k]? = some a) (hb : ps[k + 1]? = some b) :
    Dmp c xs a.x b.x (Gm.hist ((ps.map (·.x)).take (k + 1))) (Gm.hist ((ps.map (·.x)).take (k + 2))) := by
  have h1 : (ps.map (·.x))[k]? = some a.x := by rw [List.getElem?_map, ha]; rfl
  have h2 : (ps.map (·.x))[k + 1]? = some b.x := by rw [List.getElem?_map, hb]; rfl
  have ht := Gm.hist_take h1 h2
  refine ⟨fun e => by rw [ht, if_pos e, List.append_nil], fun e => ⟨by rw [ht, if_neg e], Gm.chain_damp (hc.gok hl) h.chain h1 h2 e _ rfl⟩, fun j => ?_⟩
  refine Gm.getD_in (P := fun v => 0 ≤ v ∧ v ≤ 1099511627776) (fun v hv => ?_) ⟨Int.le_refl _, by decide⟩ j
  obtain ⟨x, hx, rfl⟩ := Gm.hist_mem _ v hv
  obtain ⟨q, hq⟩ := List.getElem?_of_mem (List.mem_of_mem_take hx)
  exact (Gm.chain_inv (hc.gok hl) h.chain q x hq).1.fits.st
set_option maxRecDepth 100000 in
theorem damped_long (w : World) (ht : Tabs w) (c : Cf) (xs : List Int) (a1 : Option Addr) (len cap : Nat) (h : 200 < len) :
    Calls Tryd.prog 4 #[.agg (cf c).toArray, .slice a1 len cap] w fun e w' => e = .returned (.bool true) ∧ Below w.heap.size w w' := by
  have HB := Lib.hid (Bxs.start w)
  have HT := Lib.hid ht
  have d1 : decide ((200 : Int) < (len : Int)) = true := by simp; omega
  clear ht
  go_enter Tryd.func4, Tryd.ntmps4
  go_wp2_with (first | (go_at_call 10; refine Calls.mono (head_any _ (HT.out.below HB.out.below (Nat.le_refl _))) ?_; rintro e w_ ⟨rfl, hb_⟩; replace HB := Lib.hid (HB.out.call hb_); clear hb_) | (first | ((with_reducible refine Kx.absorb HB ?_); clear HB; intro w_ HB) | ((with_reducible refine Kx.box_gate ?_); (first | refine Kx.boxa HB rfl ?_ | refine Kx.boxt HB rfl rfl ?_ | refine Kx.box1 HB rfl rfl ?_); clear HB; intro b_ w_ HB; refine Kx.fr ?_) | ((with_reducible refine Kx.alloc_gate ?_); (first | refine Kx.ala HB ?_ | refine Kx.al1 HB ?_); clear HB; intro b_ w_ HB; refine Kx.fr ?_) | ((with_reducible refine Kx.loads_gate ?_); first | refine Kx.l1 HB rfl rfl ?_ | refine Kx.la HB rfl ?_ | refine Kx.lo HB rfl HC.out ?_) | ((with_reducible refine Kx.loadg_gate ?_); first | refine Kx.l1g HB rfl rfl rfl ?_ | refine Kx.lag HB rfl rfl ?_ | refine Kx.log HB rfl HC.out rfl ?_) | ((with_reducible refine Kx.store_gate ?_); (first | refine Kx.stwa HB rfl rfl ?_ | refine Kx.sta HB rfl rfl ?_ | refine Kx.stc HB rfl rfl ?_ | refine Kx.stt HB rfl rfl rfl ?_ | refine Kx.st1 HB rfl rfl rfl ?_); clear HB; intro w_ HB)))
  go_ret
  exact ⟨rfl, HB.out.below⟩
set_option maxRecDepth 100000 in
set_option maxHeartbeats 8000000 in
theorem damped_walk (y : Cf × List Int) (a1 : Option Addr) (len cap : Nat) (es : List Ev) (w : World) (hc : CfAt w y.1 y.2) (he : EvsAt w a1 len cap es) (ht : Tabs w) :
    Calls Tryd.prog 4 #[.agg (cf y.1).toArray, .slice a1 len cap] w fun e w' => e = .returned (.bool true) ∧ Below w.heap.size w w' := by
  obtain ⟨c, xs⟩ := y
  dsimp only at hc ⊢
  by_cases h200 : 200 < len
  · exact damped_long w ht c xs a1 len cap h200
  have HB := Lib.hid (Bxs.start w)
  have HT := Lib.hid ht
  have HR := Lib.hid hc.rd
  have HL := Lib.hid hc.len
  have HE := Lib.hid he
  have d1 : decide ((200 : Int) < (len : Int)) = false := by simp; omega
  clear hc he ht
  by_cases hok : ConfP c xs
  case neg =>
    go_enter Tryd.func4, Tryd.ntmps4
    go_wp2_with (first | (go_at_call 10; refine Calls.mono (head_any _ (HT.out.below HB.out.below (Nat.le_refl _))) ?_; rintro e w_ ⟨rfl, hb_⟩; replace HB := Lib.hid (HB.out.call hb_); clear hb_) | (go_at_call 13; fail) | (first | ((with_reducible refine Kx.absorb HB ?_); clear HB; intro w_ HB) | ((with_reducible refine Kx.box_gate ?_); (first | refine Kx.boxa HB rfl ?_ | refine Kx.boxt HB rfl rfl ?_ | refine Kx.box1 HB rfl rfl ?_); clear HB; intro b_ w_ HB; refine Kx.fr ?_) | ((with_reducible refine Kx.alloc_gate ?_); (first | refine Kx.ala HB ?_ | refine Kx.al1 HB ?_); clear HB; intro b_ w_ HB; refine Kx.fr ?_) | ((with_reducible refine Kx.loads_gate ?_); first | refine Kx.l1 HB rfl rfl ?_ | refine Kx.la HB rfl ?_ | refine Kx.lo HB rfl HC.out ?_) | ((with_reducible refine Kx.loadg_gate ?_); first | refine Kx.l1g HB rfl rfl rfl ?_ | refine Kx.lag HB rfl rfl ?_ | refine Kx.log HB rfl HC.out rfl ?_) | ((with_reducible refine Kx.store_gate ?_); (first | refine Kx.stwa HB rfl rfl ?_ | refine Kx.sta HB rfl rfl ?_ | refine Kx.stc HB rfl rfl ?_ | refine Kx.stt HB rfl rfl rfl ?_ | refine Kx.st1 HB rfl rfl rfl ?_); clear HB; intro w_ HB)))
    refine (PRight_any c xs _ (HT.out.below HB.out.below (Nat.le_refl _)) ((HR.out.below HB.out.below).more HB.out.size) HL.out).mono ?_
    intro e w5 hs
    obtain ⟨rfl, hb_⟩ := says_of hs false ⟨fun h => (by cases h), fun h => absurd h hok⟩
    replace HB := Lib.hid (HB.out.call hb_)
    clear hs hb_
    go_wp2_with (first | ((with_reducible refine Kx.absorb HB ?_); clear HB; intro w_ HB) | ((with_reducible refine Kx.box_gate ?_); (first | refine Kx.boxa HB rfl ?_ | refine Kx.boxt HB rfl rfl ?_ | refine Kx.box1 HB rfl rfl ?_); clear HB; intro b_ w_ HB; refine Kx.fr ?_) | ((with_reducible refine Kx.alloc_gate ?_); (first | refine Kx.ala HB ?_ | refine Kx.al1 HB ?_); clear HB; intro b_ w_ HB; refine Kx.fr ?_) | ((with_reducible refine Kx.loads_gate ?_); first | refine Kx.l1 HB rfl rfl ?_ | refine Kx.la HB rfl ?_ | refine Kx.lo HB rfl HC.out ?_) | ((with_reducible refine Kx.loadg_gate ?_); first | refine Kx.l1g HB rfl rfl rfl ?_ | refine Kx.lag HB rfl rfl ?_ | refine Kx.log HB rfl HC.out rfl ?_) | ((with_reducible refine Kx.store_gate ?_); (first | refine Kx.stwa HB rfl rfl ?_ | refine Kx.sta HB rfl rfl ?_ | refine Kx.stc HB rfl rfl ?_ | refine Kx.stt HB rfl rfl rfl ?_ | refine Kx.st1 HB rfl rfl rfl ?_); clear HB; intro w_ HB))
    go_ret
    exact ⟨rfl, HB.out.below⟩
  have HOK := Lib.hid hok
  clear hok
  go_enter Tryd.func4, Tryd.ntmps4
  go_wp2_with (first | (go_at_call 10; refine Calls.mono (head_any _ (HT.out.below HB.out.below (Nat.le_refl _))) ?_; rintro e w_ ⟨rfl, hb_⟩; replace HB := Lib.hid (HB.out.call hb_); clear hb_) | (go_at_call 13; fail) | (first | ((with_reducible refine Kx.absorb HB ?_); clear HB; intro w_ HB) | ((with_reducible refine Kx.box_gate (d := some 2) ?_); (first | refine Kx.boxa HB rfl ?_ | refine Kx.boxt HB rfl rfl ?_ | refine Kx.box1 HB rfl rfl ?_); clear HB; intro b2 w_ HB; refine Kx.fr ?_) | ((with_reducible refine Kx.alloc_gate (d := some 2) ?_); (first | refine Kx.ala HB ?_ | refine Kx.al1 HB ?_); clear HB; intro b2 w_ HB; refine Kx.fr ?_) | ((with_reducible refine Kx.box_gate ?_); (first | refine Kx.boxa HB rfl ?_ | refine Kx.boxt HB rfl rfl ?_ | refine Kx.box1 HB rfl rfl ?_); clear HB; intro b_ w_ HB; refine Kx.fr ?_) | ((with_reducible refine Kx.alloc_gate ?_); (first | refine Kx.ala HB ?_ | refine Kx.al1 HB ?_); clear HB; intro b_ w_ HB; refine Kx.fr ?_) | ((with_reducible refine Kx.loads_gate ?_); first | refine Kx.l1 HB rfl rfl ?_ | refine Kx.la HB rfl ?_ | refine Kx.lo HB rfl HC.out ?_) | ((with_reducible refine Kx.loadg_gate ?_); first | refine Kx.l1g HB rfl rfl rfl ?_ | refine Kx.lag HB rfl rfl ?_ | refine Kx.log HB rfl HC.out rfl ?_) | ((with_reducible refine Kx.store_gate ?_); (first | refine Kx.stwa HB rfl rfl ?_ | refine Kx.sta HB rfl rfl ?_ | refine Kx.stc HB rfl rfl ?_ | refine Kx.stt HB rfl rfl rfl ?_ | refine Kx.st1 HB rfl rfl rfl ?_); clear HB; intro w_ HB)))
  refine (PRight_any c xs _ (HT.out.below HB.out.below (Nat.le_refl _)) ((HR.out.below HB.out.below).more HB.out.size) HL.out).mono ?_
  intro e w5 hs
  obtain ⟨rfl, hb_⟩ := says_of hs true ⟨fun _ => HOK.out, fun _ => rfl⟩
  replace HB := Lib.hid (HB.out.call hb_)
  clear hs hb_
  go_wp2_with (first | (go_at_call 18; fail) | (first | ((with_reducible refine Kx.absorb HB ?_); clear HB; intro w_ HB) | ((with_reducible refine Kx.box_gate (d := some 2) ?_); (first | refine Kx.boxa HB rfl ?_ | refine Kx.boxt HB rfl rfl ?_ | refine Kx.box1 HB rfl rfl ?_); clear HB; intro b2 w_ HB; refine Kx.fr ?_) | ((with_reducible refine Kx.alloc_gate (d := some 2) ?_); (first | refine Kx.ala HB ?_ | refine Kx.al1 HB ?_); clear HB; intro b2 w_ HB; refine Kx.fr ?_) | ((with_reducible refine Kx.box_gate ?_); (first | refine Kx.boxa HB rfl ?_ | refine Kx.boxt HB rfl rfl ?_ | refine Kx.box1 HB rfl rfl ?_); clear HB; intro b_ w_ HB; refine Kx.fr ?_) | ((with_reducible refine Kx.alloc_gate ?_); (first | refine Kx.ala HB ?_ | refine Kx.al1 HB ?_); clear HB; intro b_ w_ HB; refine Kx.fr ?_) | ((with_reducible refine Kx.loads_gate ?_); first | refine Kx.l1 HB rfl rfl ?_ | refine Kx.la HB rfl ?_ | refine Kx.lo HB rfl HC.out ?_) | ((with_reducible refine Kx.loadg_gate ?_); first | refine Kx.l1g HB rfl rfl rfl ?_ | refine Kx.lag HB rfl rfl ?_ | refine Kx.log HB rfl HC.out rfl ?_) | ((with_reducible refine Kx.store_gate ?_); (first | refine Kx.stwa HB rfl rfl ?_ | refine Kx.sta HB rfl rfl ?_ | refine Kx.stc HB rfl rfl ?_ | refine Kx.stt HB rfl rfl rfl ?_ | refine Kx.st1 HB rfl rfl rfl ?_); clear HB; intro w_ HB)))
  refine (walk_any c xs a1 len cap es _ (HT.out.below HB.out.below (Nat.le_refl _)) HOK.out ((HR.out.below HB.out.below).more HB.out.size) HL.out ((HE.out.2.2.2.2.below HB.out.below).more HB.out.size) HE.out.1 (by omega) HE.out.2.2.2.1).mono ?_
  rintro e w6 ⟨A, k', ps, pl, rfl, hb_, hn_, hq_, hpl, hlen⟩
  replace HB := Lib.hid (HB.out.stayAll hb_ hn_ hq_)
  obtain ⟨ad, rfl⟩ := stay_ad HB.out (List.mem_cons_self ..) hpl.mem
  have HPL : Hid (∀ k a b, ps[k]? = some a → ps[k + 1]? = some b → Two c xs a b) := Lib.hid (fun k a b h1 h2 => hpl.two HOK.out HL.out h1 h2)
  have HDM : Hid (∀ (k : Nat) (a b : Pt), ps[k]? = some a → ps[k + 1]? = some b → Dmp c xs a.x b.x (Gm.hist ((ps.map (·.x)).take (k + 1))) (Gm.hist ((ps.map (·.x)).take (k + 2)))) := Lib.hid (fun k a b h1 h2 => dmp_of hpl HOK.out HL.out h1 h2)
  have HEPS : Hid (∀ (i : Nat) (p : Pt), ps[i]? = some p → p.x.e < 4611686018427387904) := Lib.hid (fun i p hp => by
    have h1 := (Gm.chain_inv (HOK.out.gok HL.out) hpl.chain i p.x (by rw [List.getElem?_map, hp]; rfl)).2
    have h2 := (List.getElem?_eq_some_iff.1 hp).1
    omega)
  have hm1 : ps.length ≤ 201 := by omega
  have hm0 : 0 < ps.length := List.length_pos_of_mem hpl.mem
  clear hb_ hn_ hq_ hpl hlen
  obtain ⟨m, hm⟩ : ∃ m, ps.length = m := ⟨_, rfl⟩
  rw [hm] at hm1 hm0
  have HM := Lib.hid hm
  rw [hm]
  clear hm
  go_wp2_with (first | ((with_reducible refine Kx.absorb HB ?_); clear HB; intro w_ HB) | ((with_reducible refine Kx.box_gate ?_); (first | refine Kx.boxa HB rfl ?_ | refine Kx.boxt HB rfl rfl ?_ | refine Kx.box1 HB rfl rfl ?_); clear HB; intro b_ w_ HB; refine Kx.fr ?_) | ((with_reducible refine Kx.alloc_gate ?_); (first | refine Kx.ala HB ?_ | refine Kx.al1 HB ?_); clear HB; intro b_ w_ HB; refine Kx.fr ?_) | ((with_reducible refine Kx.loads_gate ?_); first | refine Kx.l1 HB rfl rfl ?_ | refine Kx.la HB rfl ?_ | refine Kx.lo HB rfl HC.out ?_) | ((with_reducible refine Kx.loadg_gate ?_); first | refine Kx.l1g HB rfl rfl rfl ?_ | refine Kx.lag HB rfl rfl ?_ | refine Kx.log HB rfl HC.out rfl ?_) | ((with_reducible refine Kx.store_gate ?_); (first | refine Kx.stwa HB rfl rfl ?_ | refine Kx.sta HB rfl rfl ?_ | refine Kx.stc HB rfl rfl ?_ | refine Kx.stt HB rfl rfl rfl ?_ | refine Kx.st1 HB rfl rfl rfl ?_); clear HB; intro w_ HB))
  replace HB := Lib.hid (HB.out.nilrow 2 1)
  have hh0 : Gm.hist ((ps.map (·.x)).take 1) = [] := by
    cases hps : ps with
    | nil => rfl
    | cons a l => rfl
  go_loopg [7, 8] (m - 1) (fun gh cv ix wr => ∃ (k : Nat) (A7 : Option Addr) (c7 : Nat) (l : List Int), gh + k = m - 1 ∧ Hid (Gm.hist ((ps.map (·.x)).take (k + 1)) = l) ∧ cv = .slice A7 l.length c7 ∧ ix = .int .i64 ((k + 1 : Nat) : Int) ∧ l.length ≤ k ∧ Hid (Bxs w wr [(b2, cf c)] [⟨A7, c7, 2, 1, l.length, i64s l⟩] ((some ad, cat Pt.cells ps) :: (fzs ps ++ []))))
  case atStart => exact ⟨0, none, 0, [], by omega, hh0, rfl, rfl, Nat.le_refl _, HB⟩
  case round =>
    clear HB hh0
    obtain ⟨k, A7, c7, l, hk, HH, rfl, rfl, hlk, HB⟩ := hrel
    obtain ⟨i, hi⟩ : ∃ i : Nat, k + 1 = i := ⟨_, rfl⟩
    rw [hi]
    by_cases hlt : i < m
    · have d2 : (i : Int) < (m : Int) := by omega
      have d3 : (k : Int) < (m : Int) := by omega
      obtain ⟨a, ha⟩ : ∃ a, ps[k]? = some a := ⟨ps[k]'(by rw [HM.out]; omega), List.getElem?_eq_getElem _⟩
      obtain ⟨b, hb⟩ : ∃ b, ps[i]? = some b := ⟨ps[i]'(by rw [HM.out]; omega), List.getElem?_eq_getElem _⟩
      have HTW := Lib.hid (HPL.out k a b ha (by rw [hi]; exact hb))
      have HCA : Hid (∀ W l r, Bxs w W l r ((some ad, cat Pt.cells ps) :: (fzs ps ++ [])) → ∀ j u, a.cells[j]? = some u → W.cell? ((ad.add (k * 12)).add j) = some u) := Lib.hid (fun W l r q => stay_plan q (List.mem_cons_self ..) rfl ha)
      have HCB : Hid (∀ W l r, Bxs w W l r ((some ad, cat Pt.cells ps) :: (fzs ps ++ [])) → ∀ j u, b.cells[j]? = some u → W.cell? ((ad.add (i * 12)).add j) = some u) := Lib.hid (fun W l r q => stay_plan q (List.mem_cons_self ..) rfl hb)
      have HMA := Lib.hid (List.mem_of_getElem? ha)
      have HMB := Lib.hid (List.mem_of_getElem? hb)
      have HD1 := Lib.hid (HDM.out k a b ha (by rw [hi]; exact hb))
      have HEA := Lib.hid (HEPS.out k a ha)
      have hw1 : IntKind.i64.wrap ((i : Int) - 1) = (k : Int) := by rw [IntKind.wrap_i64]; omega
      have hw2 : wrap64 ((i : Int) - 1) = (k : Int) := by rw [IntWalk.wrap64_in _ (by omega)]; omega
      have hi12 : (Tryd.prog.info? 28).map (·.size) = some 12 := by kernel_rfl
      have hla : a.cells.length = 12 := rfl
      have hlb : b.cells.length = 12 := rfl
      have HIK := Lib.hid hi
      clear ha hb hi
      go_upto_region 10 with (first | ((with_reducible refine Kx.loads_gate ?_); refine wpList_load_any rfl 28 _ rfl (ad.add (k * 12)) rfl a.cells _ (HCA.out _ _ _ HB.out) Tryd.underlying28 rfl hi12 ?_; refine Kx.framed ?_ (by simp only [Act.put, List.setIfInBounds_toArray, List.set_cons_succ, List.set_cons_zero] <;> rfl)) | (first | ((with_reducible refine Kx.absorb HB ?_); clear HB; intro w_ HB) | ((with_reducible refine Kx.box_gate (d := some 9) ?_); (first | refine Kx.boxa HB rfl ?_ | refine Kx.boxt HB rfl rfl ?_ | refine Kx.box1 HB rfl rfl ?_); clear HB; intro b9 w_ HB; refine Kx.fr ?_) | ((with_reducible refine Kx.alloc_gate (d := some 9) ?_); (first | refine Kx.ala HB ?_ | refine Kx.al1 HB ?_); clear HB; intro b9 w_ HB; refine Kx.fr ?_) | ((with_reducible refine Kx.box_gate ?_); (first | refine Kx.boxa HB rfl ?_ | refine Kx.boxt HB rfl rfl ?_ | refine Kx.box1 HB rfl rfl ?_); clear HB; intro b_ w_ HB; refine Kx.fr ?_) | ((with_reducible refine Kx.alloc_gate ?_); (first | refine Kx.ala HB ?_ | refine Kx.al1 HB ?_); clear HB; intro b_ w_ HB; refine Kx.fr ?_) | ((with_reducible refine Kx.loads_gate ?_); first | refine Kx.l1 HB rfl rfl ?_ | refine Kx.la HB rfl ?_ | refine Kx.lo HB rfl HC.out ?_) | ((with_reducible refine Kx.loadg_gate ?_); first | refine Kx.l1g HB rfl rfl rfl ?_ | refine Kx.lag HB rfl rfl ?_ | refine Kx.log HB rfl HC.out rfl ?_) | ((with_reducible refine Kx.store_gate ?_); (first | refine Kx.stwa HB rfl rfl ?_ | refine Kx.sta HB rfl rfl ?_ | refine Kx.stc HB rfl rfl ?_ | refine Kx.stt HB rfl rfl rfl ?_ | refine Kx.st1 HB rfl rfl rfl ?_); clear HB; intro w_ HB)))
      go_upto_region 11 with (first | ((with_reducible refine Kx.loads_gate ?_); refine wpList_load_any rfl 28 _ rfl (ad.add (i * 12)) rfl b.cells _ (HCB.out _ _ _ HB.out) Tryd.underlying28 rfl hi12 ?_; refine Kx.framed ?_ (by simp only [Act.put, List.setIfInBounds_toArray, List.set_cons_succ, List.set_cons_zero] <;> rfl)) | (first | ((with_reducible refine Kx.absorb HB ?_); clear HB; intro w_ HB) | ((with_reducible refine Kx.box_gate (d := some 10) ?_); (first | refine Kx.boxa HB rfl ?_ | refine Kx.boxt HB rfl rfl ?_ | refine Kx.box1 HB rfl rfl ?_); clear HB; intro b10 w_ HB; refine Kx.fr ?_) | ((with_reducible refine Kx.alloc_gate (d := some 10) ?_); (first | refine Kx.ala HB ?_ | refine Kx.al1 HB ?_); clear HB; intro b10 w_ HB; refine Kx.fr ?_) | ((with_reducible refine Kx.box_gate ?_); (first | refine Kx.boxa HB rfl ?_ | refine Kx.boxt HB rfl rfl ?_ | refine Kx.box1 HB rfl rfl ?_); clear HB; intro b_ w_ HB; refine Kx.fr ?_) | ((with_reducible refine Kx.alloc_gate ?_); (first | refine Kx.ala HB ?_ | refine Kx.al1 HB ?_); clear HB; intro b_ w_ HB; refine Kx.fr ?_) | ((with_reducible refine Kx.loads_gate ?_); first | refine Kx.l1 HB rfl rfl ?_ | refine Kx.la HB rfl ?_ | refine Kx.lo HB rfl HC.out ?_) | ((with_reducible refine Kx.loadg_gate ?_); first | refine Kx.l1g HB rfl rfl rfl ?_ | refine Kx.lag HB rfl rfl ?_ | refine Kx.log HB rfl HC.out rfl ?_) | ((with_reducible refine Kx.store_gate ?_); (first | refine Kx.stwa HB rfl rfl ?_ | refine Kx.sta HB rfl rfl ?_ | refine Kx.stc HB rfl rfl ?_ | refine Kx.stt HB rfl rfl rfl ?_ | refine Kx.st1 HB rfl rfl rfl ?_); clear HB; intro w_ HB)))
      have hdamp := Gm.step_damp (HOK.out.gok HL.out) HTW.out.inv HTW.out.step
      have hea := HEA.out
      have hea0 := HTW.out.inv.fits.e
      have e1 : (b.x.e != a.x.e + 1) = false := by rw [hdamp.1]; simp
      have e1' : (b.x.e == a.x.e + 1) = true := by rw [hdamp.1]; simp
      have e2 : decide (b.x.st < a.x.st) = false := by have := hdamp.2.1; simp; omega
      have hstb : 0 ≤ b.x.st ∧ b.x.st ≤ 1099511627776 := HTW.out.inv'.fits.st
      by_cases hT : a.x.t = b.x.t
      · obtain ⟨g1, g2, g3⟩ := hdamp.2.2.1 hT
        have e3 : (a.x.t == b.x.t) = true := by simp [hT]
        have e4 : decide (b.x.c < a.x.c) = false := by simp; omega
        have e5 : (b.x.si != a.x.si) = false := by rw [g2]; simp
        have e5' : (b.x.si == a.x.si) = true := by rw [g2]; simp
        have hn1 : b.n' = a.n' := by rw [← HTW.out.oka.n', ← HTW.out.okb.n', g3]
        have e6 : ((b.n' : Int) != (a.n' : Int)) = false := by rw [hn1]; simp
        have e6' : ((b.n' : Int) == (a.n' : Int)) = true := by rw [hn1]; simp
        have e7 : (b.n' == a.n') = true := by rw [hn1]; simp
        have e7' : (b.n' != a.n') = false := by rw [hn1]; simp
        have HH2 := Lib.hid ((HD1.out.same hT).trans HH.out)
        clear hdamp g1 g2 g3 hn1 hT hstb
        go_wp2_with (first | ((with_reducible refine Kx.absorb HB ?_); clear HB; intro w_ HB) | ((with_reducible refine Kx.box_gate ?_); (first | refine Kx.boxa HB rfl ?_ | refine Kx.boxt HB rfl rfl ?_ | refine Kx.box1 HB rfl rfl ?_); clear HB; intro b_ w_ HB; refine Kx.fr ?_) | ((with_reducible refine Kx.alloc_gate ?_); (first | refine Kx.ala HB ?_ | refine Kx.al1 HB ?_); clear HB; intro b_ w_ HB; refine Kx.fr ?_) | ((with_reducible refine Kx.loads_gate ?_); first | refine Kx.l1 HB rfl rfl ?_ | refine Kx.la HB rfl ?_ | refine Kx.lo HB rfl HC.out ?_) | ((with_reducible refine Kx.loadg_gate ?_); first | refine Kx.l1g HB rfl rfl rfl ?_ | refine Kx.lag HB rfl rfl ?_ | refine Kx.log HB rfl HC.out rfl ?_) | ((with_reducible refine Kx.store_gate ?_); (first | refine Kx.stwa HB rfl rfl ?_ | refine Kx.sta HB rfl rfl ?_ | refine Kx.stc HB rfl rfl ?_ | refine Kx.stt HB rfl rfl rfl ?_ | refine Kx.st1 HB rfl rfl rfl ?_); clear HB; intro w_ HB))
        have hik := HIK.out
        go_roundg (gk - 1)
        case measure => omega
        case rel => exact ⟨k + 1, A7, c7, l, by omega, HH2, rfl, by rw [show k + 1 = i by omega]; go_num, by omega, Lib.hid HB.out.tail.tail⟩
      · have e3 : (a.x.t == b.x.t) = false := by simp [hT]
        obtain ⟨m1, m2, m3, m4, m5, m6, m7⟩ := HD1.out.more hT
        have htm := HD1.out.tm
        rw [HH.out] at m1 m2 m3 m4 htm
        obtain ⟨q, hq⟩ : ∃ q, l.length = q := ⟨_, rfl⟩
        obtain ⟨bb, hbb⟩ : ∃ bb : Nat, c.b = (bb : Int) := ⟨c.b.toNat, by have := HOK.out.b; omega⟩
        have hbb1 : 1 ≤ bb ∧ bb ≤ 8 := by have := HOK.out.b; omega
        have HBB : Hid ((cf c)[16]? = some (.int .i64 (bb : Int))) := Lib.hid (by rw [← hbb]; rfl)
        have hbn : c.b.toNat = bb := by omega
        rw [hbn] at m3 m4
        have HQ := Lib.hid hq
        have hlk2 : q ≤ 200 := by omega
        have hlen1 : (l ++ [b.x.st]).length = q + 1 := by rw [List.length_append, hq]; rfl
        have HL1 := Lib.hid hlen1
        have HM1 := Lib.hid m1
        rw [hq] at m2 m3 m4
        rw [hq] at HB ⊢
        clear hdamp hT hlen1 m1 hbb hbn
        go_upto_region 17 with (first | (at_builtin; first | (refine Kx.wpList_app_x HB rfl _ _ 26 rfl _ _ _ rfl 8 2 1 _ rfl Tryd.underlying26 (by kernel_rfl) (by decide) _ _ _ rfl _ ([Value.int .i64 b.x.st]) (HB.out.rd) (by (first | rfl | (intro u hu; rw [List.mem_singleton] at hu; subst hu; rfl) | (unfold maxLen; omega) | omega)) (by (first | rfl | (intro u hu; rw [List.mem_singleton] at hu; subst hu; rfl) | (unfold maxLen; omega) | omega)) (by (first | rfl | (intro u hu; rw [List.mem_singleton] at hu; subst hu; rfl) | (unfold maxLen; omega) | omega)) (by (first | rfl | (intro u hu; rw [List.mem_singleton] at hu; subst hu; rfl) | (unfold maxLen; omega) | omega)) ?_; clear HB; intro A_ c_ w_ hl_ hm_ HB; refine Kx.framed ?_ (by simp only [Act.put, List.setIfInBounds_toArray, List.set_cons_succ, List.set_cons_zero] <;> rfl)) | (refine Kx.wpList_appn_x HB rfl _ _ 26 rfl rfl 8 2 1 Tryd.underlying26 (by kernel_rfl) (by decide) _ _ _ rfl _ ([Value.int .i64 b.x.st]) (HB.out.rd) (by (first | rfl | (intro u hu; rw [List.mem_singleton] at hu; subst hu; rfl) | (unfold maxLen; omega) | omega)) (by (first | rfl | (intro u hu; rw [List.mem_singleton] at hu; subst hu; rfl) | (unfold maxLen; omega) | omega)) (by (first | rfl | (intro u hu; rw [List.mem_singleton] at hu; subst hu; rfl) | (unfold maxLen; omega) | omega)) (by (first | rfl | (intro u hu; rw [List.mem_singleton] at hu; subst hu; rfl) | (unfold maxLen; omega) | omega)) ?_; clear HB; intro A_ c_ w_ hl_ hm_ HB; refine Kx.framed ?_ (by simp only [Act.put, List.setIfInBounds_toArray, List.set_cons_succ, List.set_cons_zero] <;> rfl))) | (first | ((with_reducible refine Kx.absorb HB ?_); clear HB; intro w_ HB) | ((with_reducible refine Kx.box_gate ?_); (first | refine Kx.boxa HB rfl ?_ | refine Kx.boxt HB rfl rfl ?_ | refine Kx.box1 HB rfl rfl ?_); clear HB; intro b_ w_ HB; refine Kx.fr ?_) | ((with_reducible refine Kx.alloc_gate ?_); (first | refine Kx.ala HB ?_ | refine Kx.al1 HB ?_); clear HB; intro b_ w_ HB; refine Kx.fr ?_) | ((with_reducible refine Kx.loads_gate ?_); first | refine Kx.l1 HB rfl rfl ?_ | refine Kx.la HB rfl ?_ | refine Kx.lo HB rfl HC.out ?_) | ((with_reducible refine Kx.loadg_gate ?_); first | refine Kx.l1g HB rfl rfl rfl ?_ | refine Kx.lag HB rfl rfl ?_ | refine Kx.log HB rfl HC.out rfl ?_) | ((with_reducible refine Kx.store_gate ?_); (first | refine Kx.stwa HB rfl rfl ?_ | refine Kx.sta HB rfl rfl ?_ | refine Kx.stc HB rfl rfl ?_ | refine Kx.stt HB rfl rfl rfl ?_ | refine Kx.st1 HB rfl rfl rfl ?_); clear HB; intro w_ HB)))
        have hrow := HB.out.rowRd (A := A_)
        obtain ⟨ad7, e7, -, -⟩ := Rd.num (l := l ++ [b.x.st]) (by rw [i64s_app]; exact hrow) (k := 0) (by rw [HL1.out]; omega)
        subst e7
        clear hrow
        obtain ⟨n, hn⟩ : ∃ n, q + 1 = n := ⟨_, rfl⟩
        rw [hn] at HB m4 ⊢
        have HN := Lib.hid hn
        have HLN : Hid ((l ++ [b.x.st]).length = n) := Lib.hid (HL1.out.trans hn)
        clear HL1
        have HVV : Hid (∀ W lb, Bxs w W lb [⟨some ad7, c_, 2, 1, n, i64s l ++ i64s [b.x.st]⟩] ((some ad, cat Pt.cells ps) :: (fzs ps ++ [])) → ∀ j, j < n → W.cell? (ad7.add j) = some (.int .i64 ((l ++ [b.x.st]).getD j 0))) := Lib.hid (fun W lb z j hj => by
          obtain ⟨ad', e, -, hcell⟩ := Rd.num (l := l ++ [b.x.st]) (by rw [i64s_app]; exact z.rowRd (A := some ad7)) (k := j) (by rw [HLN.out]; exact hj)
          cases e
          exact hcell)
        have hget : ∀ j, j < q → (l ++ [b.x.st]).getD j 0 = l.getD j 0 := fun j hj => by
          rw [List.getD_eq_getElem?_getD, List.getD_eq_getElem?_getD, List.getElem?_append_left (by rw [HQ.out]; exact hj)]
        have HV1 : Hid (∀ W lb, Bxs w W lb [⟨some ad7, c_, 2, 1, n, i64s l ++ i64s [b.x.st]⟩] ((some ad, cat Pt.cells ps) :: (fzs ps ++ [])) → W.cell? (ad7.add q) = some (.int .i64 b.x.st)) := Lib.hid (fun W lb z => by
          have h9 : (l ++ [b.x.st]).getD q 0 = b.x.st := by
            rw [List.getD_eq_getElem?_getD, List.getElem?_append_right (by rw [HQ.out]; exact Nat.le_refl _), HQ.out, Nat.sub_self]; rfl
          have := HVV.out W lb z q (by omega)
          rwa [h9] at this)
        have hnb : b.n' = min n bb := by rw [← HTW.out.okb.n']; exact m4
        have hnb1 : 1 ≤ b.n' ∧ b.n' ≤ 8 := by omega
        obtain ⟨nl, hnl⟩ : ∃ nl, b.n' = nl + 1 := ⟨b.n' - 1, by omega⟩
        obtain ⟨adc, ec, -, -⟩ := Rd.num (HTW.out.okb.stays HB.out (fun z hz => List.mem_cons_of_mem _ (List.mem_append_left _ (fzs_in HMB.out z hz)))).ch (k := 0) (by rw [HTW.out.okb.n']; omega)
        have HXC : Hid (b.cells[11]? = some (.slice (some adc) b.n' b.c')) := Lib.hid (by show some (Value.slice b.A' b.n' b.c') = _; rw [ec])
        have HVC : Hid (∀ W lb r, Bxs w W lb r ((some ad, cat Pt.cells ps) :: (fzs ps ++ [])) → W.cell? (adc.add nl) = some (.int .i64 b.x.st)) := Lib.hid (fun W lb r z => by
          obtain ⟨ad', e, -, hcell⟩ := Rd.num (HTW.out.okb.stays z (fun z hz => List.mem_cons_of_mem _ (List.mem_append_left _ (fzs_in HMB.out z hz)))).ch (k := nl) (by rw [HTW.out.okb.n']; omega)
          rw [ec] at e
          cases e
          have h9 := m5
          rw [HTW.out.okb.n', show b.n' - 1 = nl by omega] at h9
          rwa [h9] at hcell)
        have e10 : (b.x.p != a.x.t) = false := by rw [m6]; simp
        have e10' : (b.x.p == a.x.t) = true := by rw [m6]; simp
        have e11 : (b.x.si != b.x.st) = false := by rw [m7]; simp
        have e11' : (b.x.si == b.x.st) = true := by rw [m7]; simp
        have i6 : IntKind.i64.wrap ((b.n' : Int) - 1) = (nl : Int) := by rw [IntKind.wrap_i64]; omega
        have i6' : wrap64 ((b.n' : Int) - 1) = (nl : Int) := by rw [IntWalk.wrap64_in _ (by omega)]; omega
        have i7 : (nl : Int) < (b.n' : Int) := by omega
        have HF20 := Lib.hid (⟨e10, e10', e11, e11', i6, i6', i7⟩ : _ ∧ _ ∧ _ ∧ _ ∧ _ ∧ _ ∧ _)
        have i1 : IntKind.i64.wrap ((n : Int) - 1) = (q : Int) := by rw [IntKind.wrap_i64]; omega
        have i1' : wrap64 ((n : Int) - 1) = (q : Int) := by rw [IntWalk.wrap64_in _ (by omega)]; omega
        have i8 : (q : Int) < (n : Int) := by omega
        obtain ⟨sb1, sb2⟩ := hstb
        clear m4 m5 m6 m7 hnl hnb1 ec e10 e10' e11 e11' i6 i6' i7 e1 e1' e2 e3 hea hea0 hw1 hw2
        by_cases hq0 : q = 0
        · skip
          have hsm : ¬ bb ≤ q := by omega
          have g1 : decide ((1 : Int) < (n : Int)) = false := by simp; omega
          have g1' : decide (1 < n) = false := by simp; omega
          have g2 : decide ((bb : Int) < (n : Int)) = false := by simp; omega
          have g2' : decide (bb < n) = false := by simp; omega
          have g3 : (n : Int) ≤ (bb : Int) := by omega
          have g4 : ¬ ((bb : Int) < (n : Int)) := by omega
          have HG := Lib.hid (show ¬ bb < n by omega)
          have e8 : ((b.n' : Int) != (n : Int)) = false := by rw [show b.n' = n by omega]; simp
          have e8' : ((b.n' : Int) == (n : Int)) = true := by rw [show b.n' = n by omega]; simp
          have e8'' : (b.n' == n) = true := by rw [show b.n' = n by omega]; simp
          have e8''' : (b.n' != n) = false := by rw [show b.n' = n by omega]; simp
          have HE8 := Lib.hid (⟨e8, e8', e8'', e8'''⟩ : _ ∧ _ ∧ _ ∧ _)
          clear e8 e8' e8'' e8'''
          clear hq0 m2 m3 hnb hget htm hn HVV
          go_wp2_with fail
          refine Kx.region_x HB (fun i => false) (by kernel_rfl) ?_
          refine Kx.tk 0 rfl ?_
          refine Kx.tk 1 rfl ?_
          refine Kx.tk 2 rfl ?_
          refine Kx.sk 3 rfl ?_
          refine Kx.sk 4 rfl ?_
          refine Kx.sk 5 rfl ?_
          refine Kx.sk 6 rfl ?_
          refine Kx.sk 7 rfl ?_
          refine Kx.sk 8 rfl ?_
          refine Kx.sk 9 rfl ?_
          refine Kx.sk 10 rfl ?_
          refine Kx.sk 11 rfl ?_
          refine Kx.sk 12 rfl ?_
          refine Kx.sk 13 rfl ?_
          refine Kx.sk 14 rfl ?_
          refine Kx.sk 15 rfl ?_
          refine Kx.sk 16 rfl ?_
          refine Kx.tk 17 rfl ?_
          refine Kx.tk 18 rfl ?_
          refine Kx.tk 19 rfl ?_
          refine Kx.tk 20 rfl ?_
          refine anyW_take (i := 21) (v := ?v21_1) (a' := ?a21_1) (by first | exact Kx.bears_x | exact bears_u | assumption) rfl (by kernel_rfl) (by kernel_rfl) (by kernel_rfl) (fun _ _ _ h => h) (by kernel_rfl) ?w21_1 ?y21_1 ?f21_1 ?r21_1
          case w21_1 => kernel_rfl
          case y21_1 => (intro W hW; first | (refine Eq.trans (Kx.tells_load1_x (v := .int .i64 (bb : Int)) hW b2 16 rfl (cf c) inferInstance (Tryd.isAgg3 _) HBB.out) ?_; with_reducible rfl))
          case f21_1 => (go_simp; try with_reducible rfl)
          refine Kx.tk 22 rfl ?_
          refine Kx.tk 23 rfl ?_
          refine Kx.sk 24 rfl ?_
          refine Kx.sk 25 rfl ?_
          refine Kx.sk 26 rfl ?_
          refine Kx.sk 27 rfl ?_
          refine Kx.sk 28 rfl ?_
          refine Kx.sk 29 rfl ?_
          refine Kx.sk 30 rfl ?_
          refine Kx.sk 31 rfl ?_
          refine Kx.sk 32 rfl ?_
          refine Kx.sk 33 rfl ?_
          refine Kx.sk 34 rfl ?_
          refine Kx.sk 35 rfl ?_
          refine Kx.sk 36 rfl ?_
          refine Kx.sk 37 rfl ?_
          refine Kx.sk 38 rfl ?_
          refine Kx.sk 39 rfl ?_
          refine Kx.sk 40 rfl ?_
          refine Kx.tk 41 rfl ?_
          refine Kx.tk 42 rfl ?_
          refine anyW_done (by kernel_rfl) ?_
          clear HB
          intro w_ HB_
          have HB := Lib.hid HB_
          clear HB_
          go_wp2_with fail
          clear g1 g1' g2 g2' i1 i1' i8 HV1 
          obtain ⟨e10, e10', e11, e11', i6, i6', i7⟩ := HF20.out
          obtain ⟨e8, e8', e8'', e8'''⟩ := HE8.out
          have g5 := HG.out
          clear HF20 HE8 HG
          refine Kx.region_x HB (fun i => false) (by kernel_rfl) ?_
          refine Kx.tk 0 rfl ?_
          refine anyW_take (i := 1) (v := ?v1_2) (a' := ?a1_2) (by first | exact Kx.bears_x | exact bears_u | assumption) rfl (by kernel_rfl) (by kernel_rfl) (by kernel_rfl) (fun _ _ _ h => h) (by kernel_rfl) ?w1_2 ?y1_2 ?f1_2 ?r1_2
          case w1_2 => kernel_rfl
          case y1_2 => (intro W hW; first | (refine Eq.trans (Kx.tells_load1_x (v := (.slice (some adc) b.n' b.c')) hW b10 11 rfl (b.cells) inferInstance (Tryd.isAgg26 _) HXC.out) ?_; with_reducible rfl))
          case f1_2 => (go_simp; try with_reducible rfl)
          refine Kx.tk 2 rfl ?_
          refine Kx.tk 3 rfl ?_
          refine Kx.tk 4 rfl ?_
          refine anyW_take (i := 5) (v := ?v5_3) (a' := ?a5_3) (by first | exact Kx.bears_x | exact bears_u | assumption) rfl (by kernel_rfl) (by kernel_rfl) (by kernel_rfl) (fun _ _ _ h => h) (by kernel_rfl) ?w5_3 ?y5_3 ?f5_3 ?r5_3
          case w5_3 => kernel_rfl
          case y5_3 => (intro W hW; first | (refine Eq.trans (Kx.tells_load1_x (v := .int .i64 (bb : Int)) hW b2 16 rfl (cf c) inferInstance (Tryd.isAgg3 _) HBB.out) ?_; with_reducible rfl))
          case f5_3 => (go_simp; try with_reducible rfl)
          refine Kx.tk 6 rfl ?_
          refine Kx.tk 7 rfl ?_
          refine Kx.tk 8 rfl ?_
          refine Kx.tk 9 rfl ?_
          refine anyW_take (i := 10) (v := ?v10_4) (a' := ?a10_4) (by first | exact Kx.bears_x | exact bears_u | assumption) rfl (by kernel_rfl) (by kernel_rfl) (by kernel_rfl) (fun _ _ _ h => h) (by kernel_rfl) ?w10_4 ?y10_4 ?f10_4 ?r10_4
          case w10_4 => kernel_rfl
          case y10_4 => (intro W hW; first | (refine Eq.trans (Kx.tells_load1_x (v := (.slice (some adc) b.n' b.c')) hW b10 11 rfl (b.cells) inferInstance (Tryd.isAgg26 _) HXC.out) ?_; with_reducible rfl))
          case f10_4 => (go_simp; try with_reducible rfl)
          refine Kx.tk 11 rfl ?_
          refine anyW_take (i := 12) (v := ?v12_5) (a' := ?a12_5) (by first | exact Kx.bears_x | exact bears_u | assumption) rfl (by kernel_rfl) (by kernel_rfl) (by kernel_rfl) (fun _ _ _ h => h) (by kernel_rfl) ?w12_5 ?y12_5 ?f12_5 ?r12_5
          case w12_5 => kernel_rfl
          case y12_5 => (intro W hW; first | (refine Eq.trans (Kx.tells_load1_x (v := (.slice (some adc) b.n' b.c')) hW b10 11 rfl (b.cells) inferInstance (Tryd.isAgg26 _) HXC.out) ?_; with_reducible rfl))
          case f12_5 => (go_simp; try with_reducible rfl)
          refine Kx.tk 13 rfl ?_
          refine Kx.tk 14 rfl ?_
          refine Kx.tk 15 rfl ?_
          refine anyW_take (i := 16) (v := ?v16_6) (a' := ?a16_6) (by first | exact Kx.bears_x | exact bears_u | assumption) rfl (by kernel_rfl) (by kernel_rfl) (by kernel_rfl) (fun _ _ _ h => h) (by kernel_rfl) ?w16_6 ?y16_6 ?f16_6 ?r16_6
          case w16_6 => kernel_rfl
          case y16_6 => (intro W hW; first | (refine Eq.trans (tells_cell (v := .int .i64 b.x.st) (adc.add nl) rfl (Tryd.isAgg2 _) (HVC.out _ _ _ hW)) ?_; with_reducible rfl))
          case f16_6 => (go_simp; try with_reducible rfl)
          refine Kx.tk 17 rfl ?_
          refine anyW_take (i := 18) (v := ?v18_7) (a' := ?a18_7) (by first | exact Kx.bears_x | exact bears_u | assumption) rfl (by kernel_rfl) (by kernel_rfl) (by kernel_rfl) (fun _ _ _ h => h) (by kernel_rfl) ?w18_7 ?y18_7 ?f18_7 ?r18_7
          case w18_7 => kernel_rfl
          case y18_7 => (intro W hW; first | (refine Eq.trans (Kx.tells_load1_x (v := .int .i64 b.x.st) hW b10 5 rfl (b.cells) inferInstance (Tryd.isAgg2 _) rfl) ?_; with_reducible rfl))
          case f18_7 => (go_simp; try with_reducible rfl)
          refine Kx.tk 19 rfl ?_
          refine Kx.tk 20 rfl ?_
          refine Kx.tk 21 rfl ?_
          refine Kx.tk 22 rfl ?_
          refine anyW_take (i := 23) (v := ?v23_8) (a' := ?a23_8) (by first | exact Kx.bears_x | exact bears_u | assumption) rfl (by kernel_rfl) (by kernel_rfl) (by kernel_rfl) (fun _ _ _ h => h) (by kernel_rfl) ?w23_8 ?y23_8 ?f23_8 ?r23_8
          case w23_8 => kernel_rfl
          case y23_8 => (intro W hW; first | (refine Eq.trans (Kx.tells_load1_x (v := .int .i64 b.x.p) hW b10 2 rfl (b.cells) inferInstance (Tryd.isAgg3 _) rfl) ?_; with_reducible rfl))
          case f23_8 => (go_simp; try with_reducible rfl)
          refine Kx.tk 24 rfl ?_
          refine anyW_take (i := 25) (v := ?v25_9) (a' := ?a25_9) (by first | exact Kx.bears_x | exact bears_u | assumption) rfl (by kernel_rfl) (by kernel_rfl) (by kernel_rfl) (fun _ _ _ h => h) (by kernel_rfl) ?w25_9 ?y25_9 ?f25_9 ?r25_9
          case w25_9 => kernel_rfl
          case y25_9 => (intro W hW; first | (refine Eq.trans (Kx.tells_load1_x (v := .int .i64 a.x.t) hW b9 1 rfl (a.cells) inferInstance (Tryd.isAgg3 _) rfl) ?_; with_reducible rfl))
          case f25_9 => (go_simp; try with_reducible rfl)
          refine Kx.tk 26 rfl ?_
          refine Kx.tk 27 rfl ?_
          refine Kx.tk 28 rfl ?_
          refine Kx.tk 29 rfl ?_
          refine anyW_take (i := 30) (v := ?v30_10) (a' := ?a30_10) (by first | exact Kx.bears_x | exact bears_u | assumption) rfl (by kernel_rfl) (by kernel_rfl) (by kernel_rfl) (fun _ _ _ h => h) (by kernel_rfl) ?w30_10 ?y30_10 ?f30_10 ?r30_10
          case w30_10 => kernel_rfl
          case y30_10 => (intro W hW; first | (refine Eq.trans (Kx.tells_load1_x (v := .int .i64 b.x.si) hW b10 6 rfl (b.cells) inferInstance (Tryd.isAgg2 _) rfl) ?_; with_reducible rfl))
          case f30_10 => (go_simp; try with_reducible rfl)
          refine Kx.tk 31 rfl ?_
          refine anyW_take (i := 32) (v := ?v32_11) (a' := ?a32_11) (by first | exact Kx.bears_x | exact bears_u | assumption) rfl (by kernel_rfl) (by kernel_rfl) (by kernel_rfl) (fun _ _ _ h => h) (by kernel_rfl) ?w32_11 ?y32_11 ?f32_11 ?r32_11
          case w32_11 => kernel_rfl
          case y32_11 => (intro W hW; first | (refine Eq.trans (Kx.tells_load1_x (v := .int .i64 b.x.st) hW b10 5 rfl (b.cells) inferInstance (Tryd.isAgg2 _) rfl) ?_; with_reducible rfl))
          case f32_11 => (go_simp; try with_reducible rfl)
          refine Kx.tk 33 rfl ?_
          refine Kx.tk 34 rfl ?_
          refine anyW_done (by kernel_rfl) ?_
          clear HB
          intro w_ HB_
          have HB := Lib.hid HB_
          clear HB_
          go_wp2_with fail
          have hik := HIK.out
          go_roundg (gk - 1)
          case measure => omega
          case rel =>
            refine ⟨k + 1, some ad7, c_, l ++ [b.x.st], by omega, HM1, by rw [HLN.out], by rw [show k + 1 = i by omega]; go_num, by rw [HLN.out]; have := HQ.out; have := HN.out; omega, ?_⟩
            rw [HLN.out, i64s_app]
            exact Lib.hid HB.out.tail.tail.tail
        · by_cases hbig : bb ≤ q
          · skip
            obtain ⟨q1, hq1⟩ : ∃ q1, q = q1 + 1 := ⟨q - 1, by omega⟩
            obtain ⟨v2, hv2⟩ : ∃ v, l.getD q1 0 = v := ⟨_, rfl⟩
            have t2 := htm q1
            rw [hv2] at t2
            have HV2 : Hid (∀ W lb, Bxs w W lb [⟨some ad7, c_, 2, 1, n, i64s l ++ i64s [b.x.st]⟩] ((some ad, cat Pt.cells ps) :: (fzs ps ++ [])) → W.cell? (ad7.add q1) = some (.int .i64 v2)) := Lib.hid (fun W lb z => by rw [← hv2, ← hget q1 (by omega)]; exact HVV.out W lb z q1 (by omega))
            have s1 : decide (b.x.st - v2 < c.d) = false := by have := m2 (by omega); rw [show q - 1 = q1 by omega, hv2] at this; simp; omega
            have w2 : wrap64 (b.x.st - v2) = b.x.st - v2 := IntWalk.wrap64_in _ (by omega)
            have w2' : IntKind.i64.wrap (b.x.st - v2) = b.x.st - v2 := by rw [IntKind.wrap_i64]; omega
            have i2 : IntKind.i64.wrap ((n : Int) - 2) = (q1 : Int) := by rw [IntKind.wrap_i64]; omega
            have i2' : wrap64 ((n : Int) - 2) = (q1 : Int) := by rw [IntWalk.wrap64_in _ (by omega)]; omega
            have i3 : (q1 : Int) < (n : Int) := by omega
            have g1 : decide ((1 : Int) < (n : Int)) = true := by simp; omega
            have g1' : decide (1 < n) = true := by simp; omega
            obtain ⟨d, hd⟩ : ∃ d, q - bb = d := ⟨_, rfl⟩
            obtain ⟨v3, hv3⟩ : ∃ v, l.getD d 0 = v := ⟨_, rfl⟩
            have t3 := htm d
            rw [hv3] at t3
            have HV3 : Hid (∀ W lb, Bxs w W lb [⟨some ad7, c_, 2, 1, n, i64s l ++ i64s [b.x.st]⟩] ((some ad, cat Pt.cells ps) :: (fzs ps ++ [])) → W.cell? (ad7.add d) = some (.int .i64 v3)) := Lib.hid (fun W lb z => by rw [← hv3, ← hget d (by omega)]; exact HVV.out W lb z d (by omega))
            have s2 : decide (b.x.st - v3 ≤ c.w) = false := by have := m3 hbig; rw [hd, hv3] at this; simp; omega
            have w3 : wrap64 (b.x.st - v3) = b.x.st - v3 := IntWalk.wrap64_in _ (by omega)
            have w3' : IntKind.i64.wrap (b.x.st - v3) = b.x.st - v3 := by rw [IntKind.wrap_i64]; omega
            have i4 : IntKind.i64.wrap ((q : Int) - (bb : Int)) = (d : Int) := by rw [IntKind.wrap_i64]; omega
            have i4' : wrap64 ((q : Int) - (bb : Int)) = (d : Int) := by rw [IntWalk.wrap64_in _ (by omega)]; omega
            have i5 : (d : Int) < (n : Int) := by omega
            have g2 : decide ((bb : Int) < (n : Int)) = true := by simp; omega
            have g2' : decide (bb < n) = true := by simp; omega
            have g3 : ¬ ((n : Int) ≤ (bb : Int)) := by omega
            have g4 : (bb : Int) < (n : Int) := by omega
            have HG := Lib.hid (show bb < n by omega)
            have e8 : ((b.n' : Int) != (bb : Int)) = false := by rw [show b.n' = bb by omega]; simp
            have e8' : ((b.n' : Int) == (bb : Int)) = true := by rw [show b.n' = bb by omega]; simp
            have e8'' : (b.n' == bb) = true := by rw [show b.n' = bb by omega]; simp
            have e8''' : (b.n' != bb) = false := by rw [show b.n' = bb by omega]; simp
            have HE8 := Lib.hid (⟨e8, e8', e8'', e8'''⟩ : _ ∧ _ ∧ _ ∧ _)
            clear e8 e8' e8'' e8'''
            clear hq0 m2 m3 hnb hget htm hq1 hv2 t2 hd hv3 t3 hn HVV
            go_wp2_with fail
            refine Kx.region_x HB (fun i => false) (by kernel_rfl) ?_
            refine Kx.tk 0 rfl ?_
            refine Kx.tk 1 rfl ?_
            refine Kx.tk 2 rfl ?_
            refine Kx.tk 3 rfl ?_
            refine Kx.tk 4 rfl ?_
            refine Kx.tk 5 rfl ?_
            refine Kx.tk 6 rfl ?_
            refine anyW_take (i := 7) (v := ?v7_12) (a' := ?a7_12) (by first | exact Kx.bears_x | exact bears_u | assumption) rfl (by kernel_rfl) (by kernel_rfl) (by kernel_rfl) (fun _ _ _ h => h) (by kernel_rfl) ?w7_12 ?y7_12 ?f7_12 ?r7_12
            case w7_12 => kernel_rfl
            case y7_12 => (intro W hW; first | (refine Eq.trans (tells_cell (v := .int .i64 b.x.st) (ad7.add q) rfl (Tryd.isAgg2 _) (HV1.out _ _ hW)) ?_; with_reducible rfl))
            case f7_12 => (go_simp; try with_reducible rfl)
            refine Kx.tk 8 rfl ?_
            refine Kx.tk 9 rfl ?_
            refine Kx.tk 10 rfl ?_
            refine Kx.tk 11 rfl ?_
            refine anyW_take (i := 12) (v := ?v12_13) (a' := ?a12_13) (by first | exact Kx.bears_x | exact bears_u | assumption) rfl (by kernel_rfl) (by kernel_rfl) (by kernel_rfl) (fun _ _ _ h => h) (by kernel_rfl) ?w12_13 ?y12_13 ?f12_13 ?r12_13
            case w12_13 => kernel_rfl
            case y12_13 => (intro W hW; first | (refine Eq.trans (tells_cell (v := .int .i64 v2) (ad7.add q1) rfl (Tryd.isAgg2 _) (HV2.out _ _ hW)) ?_; with_reducible rfl))
            case f12_13 => (go_simp; try with_reducible rfl)
            refine Kx.tk 13 rfl ?_
            refine Kx.tk 14 rfl ?_
            refine anyW_take (i := 15) (v := ?v15_14) (a' := ?a15_14) (by first | exact Kx.bears_x | exact bears_u | assumption) rfl (by kernel_rfl) (by kernel_rfl) (by kernel_rfl) (fun _ _ _ h => h) (by kernel_rfl) ?w15_14 ?y15_14 ?f15_14 ?r15_14
            case w15_14 => kernel_rfl
            case y15_14 => (intro W hW; first | (refine Eq.trans (Kx.tells_load1_x (v := .int .i64 c.d) hW b2 14 rfl (cf c) inferInstance (Tryd.isAgg2 _) rfl) ?_; with_reducible rfl))
            case f15_14 => (go_simp; try with_reducible rfl)
            refine Kx.tk 16 rfl ?_
            refine Kx.tk 17 rfl ?_
            refine Kx.tk 18 rfl ?_
            refine Kx.tk 19 rfl ?_
            refine Kx.tk 20 rfl ?_
            refine anyW_take (i := 21) (v := ?v21_15) (a' := ?a21_15) (by first | exact Kx.bears_x | exact bears_u | assumption) rfl (by kernel_rfl) (by kernel_rfl) (by kernel_rfl) (fun _ _ _ h => h) (by kernel_rfl) ?w21_15 ?y21_15 ?f21_15 ?r21_15
            case w21_15 => kernel_rfl
            case y21_15 => (intro W hW; first | (refine Eq.trans (Kx.tells_load1_x (v := .int .i64 (bb : Int)) hW b2 16 rfl (cf c) inferInstance (Tryd.isAgg3 _) HBB.out) ?_; with_reducible rfl))
            case f21_15 => (go_simp; try with_reducible rfl)
            refine Kx.tk 22 rfl ?_
            refine Kx.tk 23 rfl ?_
            refine Kx.tk 24 rfl ?_
            refine Kx.tk 25 rfl ?_
            refine Kx.tk 26 rfl ?_
            refine Kx.tk 27 rfl ?_
            refine anyW_take (i := 28) (v := ?v28_16) (a' := ?a28_16) (by first | exact Kx.bears_x | exact bears_u | assumption) rfl (by kernel_rfl) (by kernel_rfl) (by kernel_rfl) (fun _ _ _ h => h) (by kernel_rfl) ?w28_16 ?y28_16 ?f28_16 ?r28_16
            case w28_16 => kernel_rfl
            case y28_16 => (intro W hW; first | (refine Eq.trans (tells_cell (v := .int .i64 b.x.st) (ad7.add q) rfl (Tryd.isAgg2 _) (HV1.out _ _ hW)) ?_; with_reducible rfl))
            case f28_16 => (go_simp; try with_reducible rfl)
            refine Kx.tk 29 rfl ?_
            refine Kx.tk 30 rfl ?_
            refine Kx.tk 31 rfl ?_
            refine Kx.tk 32 rfl ?_
            refine anyW_take (i := 33) (v := ?v33_17) (a' := ?a33_17) (by first | exact Kx.bears_x | exact bears_u | assumption) rfl (by kernel_rfl) (by kernel_rfl) (by kernel_rfl) (fun _ _ _ h => h) (by kernel_rfl) ?w33_17 ?y33_17 ?f33_17 ?r33_17
            case w33_17 => kernel_rfl
            case y33_17 => (intro W hW; first | (refine Eq.trans (Kx.tells_load1_x (v := .int .i64 (bb : Int)) hW b2 16 rfl (cf c) inferInstance (Tryd.isAgg3 _) HBB.out) ?_; with_reducible rfl))
            case f33_17 => (go_simp; try with_reducible rfl)
            refine Kx.tk 34 rfl ?_
            refine Kx.tk 35 rfl ?_
            refine anyW_take (i := 36) (v := ?v36_18) (a' := ?a36_18) (by first | exact Kx.bears_x | exact bears_u | assumption) rfl (by kernel_rfl) (by kernel_rfl) (by kernel_rfl) (fun _ _ _ h => h) (by kernel_rfl) ?w36_18 ?y36_18 ?f36_18 ?r36_18
            case w36_18 => kernel_rfl
            case y36_18 => (intro W hW; first | (refine Eq.trans (tells_cell (v := .int .i64 v3) (ad7.add d) rfl (Tryd.isAgg2 _) (HV3.out _ _ hW)) ?_; with_reducible rfl))
            case f36_18 => (go_simp; try with_reducible rfl)
            refine Kx.tk 37 rfl ?_
            refine Kx.tk 38 rfl ?_
            refine anyW_take (i := 39) (v := ?v39_19) (a' := ?a39_19) (by first | exact Kx.bears_x | exact bears_u | assumption) rfl (by kernel_rfl) (by kernel_rfl) (by kernel_rfl) (fun _ _ _ h => h) (by kernel_rfl) ?w39_19 ?y39_19 ?f39_19 ?r39_19
            case w39_19 => kernel_rfl
            case y39_19 => (intro W hW; first | (refine Eq.trans (Kx.tells_load1_x (v := .int .i64 c.w) hW b2 15 rfl (cf c) inferInstance (Tryd.isAgg2 _) rfl) ?_; with_reducible rfl))
            case f39_19 => (go_simp; try with_reducible rfl)
            refine Kx.tk 40 rfl ?_
            refine Kx.tk 41 rfl ?_
            refine Kx.tk 42 rfl ?_
            refine anyW_done (by kernel_rfl) ?_
            clear HB
            intro w_ HB_
            have HB := Lib.hid HB_
            clear HB_
            go_wp2_with fail
            clear g1 g1' g2 g2' i1 i1' i8 HV1 HV2 s1 w2 w2' i2 i2' i3 HV3 s2 w3 w3' i4 i4' i5
            obtain ⟨e10, e10', e11, e11', i6, i6', i7⟩ := HF20.out
            obtain ⟨e8, e8', e8'', e8'''⟩ := HE8.out
            have g5 := HG.out
            clear HF20 HE8 HG
            refine Kx.region_x HB (fun i => false) (by kernel_rfl) ?_
            refine Kx.tk 0 rfl ?_
            refine anyW_take (i := 1) (v := ?v1_20) (a' := ?a1_20) (by first | exact Kx.bears_x | exact bears_u | assumption) rfl (by kernel_rfl) (by kernel_rfl) (by kernel_rfl) (fun _ _ _ h => h) (by kernel_rfl) ?w1_20 ?y1_20 ?f1_20 ?r1_20
            case w1_20 => kernel_rfl
            case y1_20 => (intro W hW; first | (refine Eq.trans (Kx.tells_load1_x (v := (.slice (some adc) b.n' b.c')) hW b10 11 rfl (b.cells) inferInstance (Tryd.isAgg26 _) HXC.out) ?_; with_reducible rfl))
            case f1_20 => (go_simp; try with_reducible rfl)
            refine Kx.tk 2 rfl ?_
            refine Kx.tk 3 rfl ?_
            refine Kx.tk 4 rfl ?_
            refine anyW_take (i := 5) (v := ?v5_21) (a' := ?a5_21) (by first | exact Kx.bears_x | exact bears_u | assumption) rfl (by kernel_rfl) (by kernel_rfl) (by kernel_rfl) (fun _ _ _ h => h) (by kernel_rfl) ?w5_21 ?y5_21 ?f5_21 ?r5_21
            case w5_21 => kernel_rfl
            case y5_21 => (intro W hW; first | (refine Eq.trans (Kx.tells_load1_x (v := .int .i64 (bb : Int)) hW b2 16 rfl (cf c) inferInstance (Tryd.isAgg3 _) HBB.out) ?_; with_reducible rfl))
            case f5_21 => (go_simp; try with_reducible rfl)
            refine Kx.tk 6 rfl ?_
            refine Kx.tk 7 rfl ?_
            refine Kx.tk 8 rfl ?_
            refine Kx.tk 9 rfl ?_
            refine anyW_take (i := 10) (v := ?v10_22) (a' := ?a10_22) (by first | exact Kx.bears_x | exact bears_u | assumption) rfl (by kernel_rfl) (by kernel_rfl) (by kernel_rfl) (fun _ _ _ h => h) (by kernel_rfl) ?w10_22 ?y10_22 ?f10_22 ?r10_22
            case w10_22 => kernel_rfl
            case y10_22 => (intro W hW; first | (refine Eq.trans (Kx.tells_load1_x (v := (.slice (some adc) b.n' b.c')) hW b10 11 rfl (b.cells) inferInstance (Tryd.isAgg26 _) HXC.out) ?_; with_reducible rfl))
            case f10_22 => (go_simp; try with_reducible rfl)
            refine Kx.tk 11 rfl ?_
            refine anyW_take (i := 12) (v := ?v12_23) (a' := ?a12_23) (by first | exact Kx.bears_x | exact bears_u | assumption) rfl (by kernel_rfl) (by kernel_rfl) (by kernel_rfl) (fun _ _ _ h => h) (by kernel_rfl) ?w12_23 ?y12_23 ?f12_23 ?r12_23
            case w12_23 => kernel_rfl
            case y12_23 => (intro W hW; first | (refine Eq.trans (Kx.tells_load1_x (v := (.slice (some adc) b.n' b.c')) hW b10 11 rfl (b.cells) inferInstance (Tryd.isAgg26 _) HXC.out) ?_; with_reducible rfl))
            case f12_23 => (go_simp; try with_reducible rfl)
            refine Kx.tk 13 rfl ?_
            refine Kx.tk 14 rfl ?_
            refine Kx.tk 15 rfl ?_
            refine anyW_take (i := 16) (v := ?v16_24) (a' := ?a16_24) (by first | exact Kx.bears_x | exact bears_u | assumption) rfl (by kernel_rfl) (by kernel_rfl) (by kernel_rfl) (fun _ _ _ h => h) (by kernel_rfl) ?w16_24 ?y16_24 ?f16_24 ?r16_24
            case w16_24 => kernel_rfl
            case y16_24 => (intro W hW; first | (refine Eq.trans (tells_cell (v := .int .i64 b.x.st) (adc.add nl) rfl (Tryd.isAgg2 _) (HVC.out _ _ _ hW)) ?_; with_reducible rfl))
            case f16_24 => (go_simp; try with_reducible rfl)
            refine Kx.tk 17 rfl ?_
            refine anyW_take (i := 18) (v := ?v18_25) (a' := ?a18_25) (by first | exact Kx.bears_x | exact bears_u | assumption) rfl (by kernel_rfl) (by kernel_rfl) (by kernel_rfl) (fun _ _ _ h => h) (by kernel_rfl) ?w18_25 ?y18_25 ?f18_25 ?r18_25
            case w18_25 => kernel_rfl
            case y18_25 => (intro W hW; first | (refine Eq.trans (Kx.tells_load1_x (v := .int .i64 b.x.st) hW b10 5 rfl (b.cells) inferInstance (Tryd.isAgg2 _) rfl) ?_; with_reducible rfl))
            case f18_25 => (go_simp; try with_reducible rfl)
            refine Kx.tk 19 rfl ?_
            refine Kx.tk 20 rfl ?_
            refine Kx.tk 21 rfl ?_
            refine Kx.tk 22 rfl ?_
            refine anyW_take (i := 23) (v := ?v23_26) (a' := ?a23_26) (by first | exact Kx.bears_x | exact bears_u | assumption) rfl (by kernel_rfl) (by kernel_rfl) (by kernel_rfl) (fun _ _ _ h => h) (by kernel_rfl) ?w23_26 ?y23_26 ?f23_26 ?r23_26
            case w23_26 => kernel_rfl
            case y23_26 => (intro W hW; first | (refine Eq.trans (Kx.tells_load1_x (v := .int .i64 b.x.p) hW b10 2 rfl (b.cells) inferInstance (Tryd.isAgg3 _) rfl) ?_; with_reducible rfl))
            case f23_26 => (go_simp; try with_reducible rfl)
            refine Kx.tk 24 rfl ?_
            refine anyW_take (i := 25) (v := ?v25_27) (a' := ?a25_27) (by first | exact Kx.bears_x | exact bears_u | assumption) rfl (by kernel_rfl) (by kernel_rfl) (by kernel_rfl) (fun _ _ _ h => h) (by kernel_rfl) ?w25_27 ?y25_27 ?f25_27 ?r25_27
            case w25_27 => kernel_rfl
            case y25_27 => (intro W hW; first | (refine Eq.trans (Kx.tells_load1_x (v := .int .i64 a.x.t) hW b9 1 rfl (a.cells) inferInstance (Tryd.isAgg3 _) rfl) ?_; with_reducible rfl))
            case f25_27 => (go_simp; try with_reducible rfl)
            refine Kx.tk 26 rfl ?_
            refine Kx.tk 27 rfl ?_
            refine Kx.tk 28 rfl ?_
            refine Kx.tk 29 rfl ?_
            refine anyW_take (i := 30) (v := ?v30_28) (a' := ?a30_28) (by first | exact Kx.bears_x | exact bears_u | assumption) rfl (by kernel_rfl) (by kernel_rfl) (by kernel_rfl) (fun _ _ _ h => h) (by kernel_rfl) ?w30_28 ?y30_28 ?f30_28 ?r30_28
            case w30_28 => kernel_rfl
            case y30_28 => (intro W hW; first | (refine Eq.trans (Kx.tells_load1_x (v := .int .i64 b.x.si) hW b10 6 rfl (b.cells) inferInstance (Tryd.isAgg2 _) rfl) ?_; with_reducible rfl))
            case f30_28 => (go_simp; try with_reducible rfl)
            refine Kx.tk 31 rfl ?_
            refine anyW_take (i := 32) (v := ?v32_29) (a' := ?a32_29) (by first | exact Kx.bears_x | exact bears_u | assumption) rfl (by kernel_rfl) (by kernel_rfl) (by kernel_rfl) (fun _ _ _ h => h) (by kernel_rfl) ?w32_29 ?y32_29 ?f32_29 ?r32_29
            case w32_29 => kernel_rfl
            case y32_29 => (intro W hW; first | (refine Eq.trans (Kx.tells_load1_x (v := .int .i64 b.x.st) hW b10 5 rfl (b.cells) inferInstance (Tryd.isAgg2 _) rfl) ?_; with_reducible rfl))
            case f32_29 => (go_simp; try with_reducible rfl)
            refine Kx.tk 33 rfl ?_
            refine Kx.tk 34 rfl ?_
            refine anyW_done (by kernel_rfl) ?_
            clear HB
            intro w_ HB_
            have HB := Lib.hid HB_
            clear HB_
            go_wp2_with fail
            have hik := HIK.out
            go_roundg (gk - 1)
            case measure => omega
            case rel =>
              refine ⟨k + 1, some ad7, c_, l ++ [b.x.st], by omega, HM1, by rw [HLN.out], by rw [show k + 1 = i by omega]; go_num, by rw [HLN.out]; have := HQ.out; have := HN.out; omega, ?_⟩
              rw [HLN.out, i64s_app]
              exact Lib.hid HB.out.tail.tail.tail
          · skip
            obtain ⟨q1, hq1⟩ : ∃ q1, q = q1 + 1 := ⟨q - 1, by omega⟩
            obtain ⟨v2, hv2⟩ : ∃ v, l.getD q1 0 = v := ⟨_, rfl⟩
            have t2 := htm q1
            rw [hv2] at t2
            have HV2 : Hid (∀ W lb, Bxs w W lb [⟨some ad7, c_, 2, 1, n, i64s l ++ i64s [b.x.st]⟩] ((some ad, cat Pt.cells ps) :: (fzs ps ++ [])) → W.cell? (ad7.add q1) = some (.int .i64 v2)) := Lib.hid (fun W lb z => by rw [← hv2, ← hget q1 (by omega)]; exact HVV.out W lb z q1 (by omega))
            have s1 : decide (b.x.st - v2 < c.d) = false := by have := m2 (by omega); rw [show q - 1 = q1 by omega, hv2] at this; simp; omega
            have w2 : wrap64 (b.x.st - v2) = b.x.st - v2 := IntWalk.wrap64_in _ (by omega)
            have w2' : IntKind.i64.wrap (b.x.st - v2) = b.x.st - v2 := by rw [IntKind.wrap_i64]; omega
            have i2 : IntKind.i64.wrap ((n : Int) - 2) = (q1 : Int) := by rw [IntKind.wrap_i64]; omega
            have i2' : wrap64 ((n : Int) - 2) = (q1 : Int) := by rw [IntWalk.wrap64_in _ (by omega)]; omega
            have i3 : (q1 : Int) < (n : Int) := by omega
            have g1 : decide ((1 : Int) < (n : Int)) = true := by simp; omega
            have g1' : decide (1 < n) = true := by simp; omega
            have g2 : decide ((bb : Int) < (n : Int)) = false := by simp; omega
            have g2' : decide (bb < n) = false := by simp; omega
            have g3 : (n : Int) ≤ (bb : Int) := by omega
            have g4 : ¬ ((bb : Int) < (n : Int)) := by omega
            have HG := Lib.hid (show ¬ bb < n by omega)
            have e8 : ((b.n' : Int) != (n : Int)) = false := by rw [show b.n' = n by omega]; simp
            have e8' : ((b.n' : Int) == (n : Int)) = true := by rw [show b.n' = n by omega]; simp
            have e8'' : (b.n' == n) = true := by rw [show b.n' = n by omega]; simp
            have e8''' : (b.n' != n) = false := by rw [show b.n' = n by omega]; simp
            have HE8 := Lib.hid (⟨e8, e8', e8'', e8'''⟩ : _ ∧ _ ∧ _ ∧ _)
            clear e8 e8' e8'' e8'''
            clear hq0 m2 m3 hnb hget htm hq1 hv2 t2 hn HVV
            go_wp2_with fail
            refine Kx.region_x HB (fun i => false) (by kernel_rfl) ?_
            refine Kx.tk 0 rfl ?_
            refine Kx.tk 1 rfl ?_
            refine Kx.tk 2 rfl ?_
            refine Kx.tk 3 rfl ?_
            refine Kx.tk 4 rfl ?_
            refine Kx.tk 5 rfl ?_
            refine Kx.tk 6 rfl ?_
            refine anyW_take (i := 7) (v := ?v7_30) (a' := ?a7_30) (by first | exact Kx.bears_x | exact bears_u | assumption) rfl (by kernel_rfl) (by kernel_rfl) (by kernel_rfl) (fun _ _ _ h => h) (by kernel_rfl) ?w7_30 ?y7_30 ?f7_30 ?r7_30
            case w7_30 => kernel_rfl
            case y7_30 => (intro W hW; first | (refine Eq.trans (tells_cell (v := .int .i64 b.x.st) (ad7.add q) rfl (Tryd.isAgg2 _) (HV1.out _ _ hW)) ?_; with_reducible rfl))
            case f7_30 => (go_simp; try with_reducible rfl)
            refine Kx.tk 8 rfl ?_
            refine Kx.tk 9 rfl ?_
            refine Kx.tk 10 rfl ?_
            refine Kx.tk 11 rfl ?_
            refine anyW_take (i := 12) (v := ?v12_31) (a' := ?a12_31) (by first | exact Kx.bears_x | exact bears_u | assumption) rfl (by kernel_rfl) (by kernel_rfl) (by kernel_rfl) (fun _ _ _ h => h) (by kernel_rfl) ?w12_31 ?y12_31 ?f12_31 ?r12_31
            case w12_31 => kernel_rfl
            case y12_31 => (intro W hW; first | (refine Eq.trans (tells_cell (v := .int .i64 v2) (ad7.add q1) rfl (Tryd.isAgg2 _) (HV2.out _ _ hW)) ?_; with_reducible rfl))
            case f12_31 => (go_simp; try with_reducible rfl)
            refine Kx.tk 13 rfl ?_
            refine Kx.tk 14 rfl ?_
            refine anyW_take (i := 15) (v := ?v15_32) (a' := ?a15_32) (by first | exact Kx.bears_x | exact bears_u | assumption) rfl (by kernel_rfl) (by kernel_rfl) (by kernel_rfl) (fun _ _ _ h => h) (by kernel_rfl) ?w15_32 ?y15_32 ?f15_32 ?r15_32
            case w15_32 => kernel_rfl
            case y15_32 => (intro W hW; first | (refine Eq.trans (Kx.tells_load1_x (v := .int .i64 c.d) hW b2 14 rfl (cf c) inferInstance (Tryd.isAgg2 _) rfl) ?_; with_reducible rfl))
            case f15_32 => (go_simp; try with_reducible rfl)
            refine Kx.tk 16 rfl ?_
            refine Kx.tk 17 rfl ?_
            refine Kx.tk 18 rfl ?_
            refine Kx.tk 19 rfl ?_
            refine Kx.tk 20 rfl ?_
            refine anyW_take (i := 21) (v := ?v21_33) (a' := ?a21_33) (by first | exact Kx.bears_x | exact bears_u | assumption) rfl (by kernel_rfl) (by kernel_rfl) (by kernel_rfl) (fun _ _ _ h => h) (by kernel_rfl) ?w21_33 ?y21_33 ?f21_33 ?r21_33
            case w21_33 => kernel_rfl
            case y21_33 => (intro W hW; first | (refine Eq.trans (Kx.tells_load1_x (v := .int .i64 (bb : Int)) hW b2 16 rfl (cf c) inferInstance (Tryd.isAgg3 _) HBB.out) ?_; with_reducible rfl))
            case f21_33 => (go_simp; try with_reducible rfl)
            refine Kx.tk 22 rfl ?_
            refine Kx.tk 23 rfl ?_
            refine Kx.sk 24 rfl ?_
            refine Kx.sk 25 rfl ?_
            refine Kx.sk 26 rfl ?_
            refine Kx.sk 27 rfl ?_
            refine Kx.sk 28 rfl ?_
            refine Kx.sk 29 rfl ?_
            refine Kx.sk 30 rfl ?_
            refine Kx.sk 31 rfl ?_
            refine Kx.sk 32 rfl ?_
            refine Kx.sk 33 rfl ?_
            refine Kx.sk 34 rfl ?_
            refine Kx.sk 35 rfl ?_
            refine Kx.sk 36 rfl ?_
            refine Kx.sk 37 rfl ?_
            refine Kx.sk 38 rfl ?_
            refine Kx.sk 39 rfl ?_
            refine Kx.sk 40 rfl ?_
            refine Kx.tk 41 rfl ?_
            refine Kx.tk 42 rfl ?_
            refine anyW_done (by kernel_rfl) ?_
            clear HB
            intro w_ HB_
            have HB := Lib.hid HB_
            clear HB_
            go_wp2_with fail
            clear g1 g1' g2 g2' i1 i1' i8 HV1 HV2 s1 w2 w2' i2 i2' i3
            obtain ⟨e10, e10', e11, e11', i6, i6', i7⟩ := HF20.out
            obtain ⟨e8, e8', e8'', e8'''⟩ := HE8.out
            have g5 := HG.out
            clear HF20 HE8 HG
            refine Kx.region_x HB (fun i => false) (by kernel_rfl) ?_
            refine Kx.tk 0 rfl ?_
            refine anyW_take (i := 1) (v := ?v1_34) (a' := ?a1_34) (by first | exact Kx.bears_x | exact bears_u | assumption) rfl (by kernel_rfl) (by kernel_rfl) (by kernel_rfl) (fun _ _ _ h => h) (by kernel_rfl) ?w1_34 ?y1_34 ?f1_34 ?r1_34
            case w1_34 => kernel_rfl
            case y1_34 => (intro W hW; first | (refine Eq.trans (Kx.tells_load1_x (v := (.slice (some adc) b.n' b.c')) hW b10 11 rfl (b.cells) inferInstance (Tryd.isAgg26 _) HXC.out) ?_; with_reducible rfl))
            case f1_34 => (go_simp; try with_reducible rfl)
            refine Kx.tk 2 rfl ?_
            refine Kx.tk 3 rfl ?_
            refine Kx.tk 4 rfl ?_
            refine anyW_take (i := 5) (v := ?v5_35) (a' := ?a5_35) (by first | exact Kx.bears_x | exact bears_u | assumption) rfl (by kernel_rfl) (by kernel_rfl) (by kernel_rfl) (fun _ _ _ h => h) (by kernel_rfl) ?w5_35 ?y5_35 ?f5_35 ?r5_35
            case w5_35 => kernel_rfl
            case y5_35 => (intro W hW; first | (refine Eq.trans (Kx.tells_load1_x (v := .int .i64 (bb : Int)) hW b2 16 rfl (cf c) inferInstance (Tryd.isAgg3 _) HBB.out) ?_; with_reducible rfl))
            case f5_35 => (go_simp; try with_reducible rfl)
            refine Kx.tk 6 rfl ?_
            refine Kx.tk 7 rfl ?_
            refine Kx.tk 8 rfl ?_
            refine Kx.tk 9 rfl ?_
            refine anyW_take (i := 10) (v := ?v10_36) (a' := ?a10_36) (by first | exact Kx.bears_x | exact bears_u | assumption) rfl (by kernel_rfl) (by kernel_rfl) (by kernel_rfl) (fun _ _ _ h => h) (by kernel_rfl) ?w10_36 ?y10_36 ?f10_36 ?r10_36
            case w10_36 => kernel_rfl
            case y10_36 => (intro W hW; first | (refine Eq.trans (Kx.tells_load1_x (v := (.slice (some adc) b.n' b.c')) hW b10 11 rfl (b.cells) inferInstance (Tryd.isAgg26 _) HXC.out) ?_; with_reducible rfl))
            case f10_36 => (go_simp; try with_reducible rfl)
            refine Kx.tk 11 rfl ?_
            refine anyW_take (i := 12) (v := ?v12_37) (a' := ?a12_37) (by first | exact Kx.bears_x | exact bears_u | assumption) rfl (by kernel_rfl) (by kernel_rfl) (by kernel_rfl) (fun _ _ _ h => h) (by kernel_rfl) ?w12_37 ?y12_37 ?f12_37 ?r12_37
            case w12_37 => kernel_rfl
            case y12_37 => (intro W hW; first | (refine Eq.trans (Kx.tells_load1_x (v := (.slice (some adc) b.n' b.c')) hW b10 11 rfl (b.cells) inferInstance (Tryd.isAgg26 _) HXC.out) ?_; with_reducible rfl))
            case f12_37 => (go_simp; try with_reducible rfl)
            refine Kx.tk 13 rfl ?_
            refine Kx.tk 14 rfl ?_
            refine Kx.tk 15 rfl ?_
            refine anyW_take (i := 16) (v := ?v16_38) (a' := ?a16_38) (by first | exact Kx.bears_x | exact bears_u | assumption) rfl (by kernel_rfl) (by kernel_rfl) (by kernel_rfl) (fun _ _ _ h => h) (by kernel_rfl) ?w16_38 ?y16_38 ?f16_38 ?r16_38
            case w16_38 => kernel_rfl
            case y16_38 => (intro W hW; first | (refine Eq.trans (tells_cell (v := .int .i64 b.x.st) (adc.add nl) rfl (Tryd.isAgg2 _) (HVC.out _ _ _ hW)) ?_; with_reducible rfl))
            case f16_38 => (go_simp; try with_reducible rfl)
            refine Kx.tk 17 rfl ?_
            refine anyW_take (i := 18) (v := ?v18_39) (a' := ?a18_39) (by first | exact Kx.bears_x | exact bears_u | assumption) rfl (by kernel_rfl) (by kernel_rfl) (by kernel_rfl) (fun _ _ _ h => h) (by kernel_rfl) ?w18_39 ?y18_39 ?f18_39 ?r18_39
            case w18_39 => kernel_rfl
            case y18_39 => (intro W hW; first | (refine Eq.trans (Kx.tells_load1_x (v := .int .i64 b.x.st) hW b10 5 rfl (b.cells) inferInstance (Tryd.isAgg2 _) rfl) ?_; with_reducible rfl))
            case f18_39 => (go_simp; try with_reducible rfl)
            refine Kx.tk 19 rfl ?_
            refine Kx.tk 20 rfl ?_
            refine Kx.tk 21 rfl ?_
            refine Kx.tk 22 rfl ?_
            refine anyW_take (i := 23) (v := ?v23_40) (a' := ?a23_40) (by first | exact Kx.bears_x | exact bears_u | assumption) rfl (by kernel_rfl) (by kernel_rfl) (by kernel_rfl) (fun _ _ _ h => h) (by kernel_rfl) ?w23_40 ?y23_40 ?f23_40 ?r23_40
            case w23_40 => kernel_rfl
            case y23_40 => (intro W hW; first | (refine Eq.trans (Kx.tells_load1_x (v := .int .i64 b.x.p) hW b10 2 rfl (b.cells) inferInstance (Tryd.isAgg3 _) rfl) ?_; with_reducible rfl))
            case f23_40 => (go_simp; try with_reducible rfl)
            refine Kx.tk 24 rfl ?_
            refine anyW_take (i := 25) (v := ?v25_41) (a' := ?a25_41) (by first | exact Kx.bears_x | exact bears_u | assumption) rfl (by kernel_rfl) (by kernel_rfl) (by kernel_rfl) (fun _ _ _ h => h) (by kernel_rfl) ?w25_41 ?y25_41 ?f25_41 ?r25_41
            case w25_41 => kernel_rfl
            case y25_41 => (intro W hW; first | (refine Eq.trans (Kx.tells_load1_x (v := .int .i64 a.x.t) hW b9 1 rfl (a.cells) inferInstance (Tryd.isAgg3 _) rfl) ?_; with_reducible rfl))
            case f25_41 => (go_simp; try with_reducible rfl)
            refine Kx.tk 26 rfl ?_
            refine Kx.tk 27 rfl ?_
            refine Kx.tk 28 rfl ?_
            refine Kx.tk 29 rfl ?_
            refine anyW_take (i := 30) (v := ?v30_42) (a' := ?a30_42) (by first | exact Kx.bears_x | exact bears_u | assumption) rfl (by kernel_rfl) (by kernel_rfl) (by kernel_rfl) (fun _ _ _ h => h) (by kernel_rfl) ?w30_42 ?y30_42 ?f30_42 ?r30_42
            case w30_42 => kernel_rfl
            case y30_42 => (intro W hW; first | (refine Eq.trans (Kx.tells_load1_x (v := .int .i64 b.x.si) hW b10 6 rfl (b.cells) inferInstance (Tryd.isAgg2 _) rfl) ?_; with_reducible rfl))
            case f30_42 => (go_simp; try with_reducible rfl)
            refine Kx.tk 31 rfl ?_
            refine anyW_take (i := 32) (v := ?v32_43) (a' := ?a32_43) (by first | exact Kx.bears_x | exact bears_u | assumption) rfl (by kernel_rfl) (by kernel_rfl) (by kernel_rfl) (fun _ _ _ h => h) (by kernel_rfl) ?w32_43 ?y32_43 ?f32_43 ?r32_43
            case w32_43 => kernel_rfl
            case y32_43 => (intro W hW; first | (refine Eq.trans (Kx.tells_load1_x (v := .int .i64 b.x.st) hW b10 5 rfl (b.cells) inferInstance (Tryd.isAgg2 _) rfl) ?_; with_reducible rfl))
            case f32_43 => (go_simp; try with_reducible rfl)
            refine Kx.tk 33 rfl ?_
            refine Kx.tk 34 rfl ?_
            refine anyW_done (by kernel_rfl) ?_
            clear HB
            intro w_ HB_
            have HB := Lib.hid HB_
            clear HB_
            go_wp2_with fail
            have hik := HIK.out
            go_roundg (gk - 1)
            case measure => omega
            case rel =>
              refine ⟨k + 1, some ad7, c_, l ++ [b.x.st], by omega, HM1, by rw [HLN.out], by rw [show k + 1 = i by omega]; go_num, by rw [HLN.out]; have := HQ.out; have := HN.out; omega, ?_⟩
              rw [HLN.out, i64s_app]
              exact Lib.hid HB.out.tail.tail.tail
    · obtain rfl : i = m := by omega
      have d2 : decide ((i : Int) < (i : Int)) = false := by simp
      go_wp2_with (first | ((with_reducible refine Kx.absorb HB ?_); clear HB; intro w_ HB) | ((with_reducible refine Kx.box_gate ?_); (first | refine Kx.boxa HB rfl ?_ | refine Kx.boxt HB rfl rfl ?_ | refine Kx.box1 HB rfl rfl ?_); clear HB; intro b_ w_ HB; refine Kx.fr ?_) | ((with_reducible refine Kx.alloc_gate ?_); (first | refine Kx.ala HB ?_ | refine Kx.al1 HB ?_); clear HB; intro b_ w_ HB; refine Kx.fr ?_) | ((with_reducible refine Kx.loads_gate ?_); first | refine Kx.l1 HB rfl rfl ?_ | refine Kx.la HB rfl ?_ | refine Kx.lo HB rfl HC.out ?_) | ((with_reducible refine Kx.loadg_gate ?_); first | refine Kx.l1g HB rfl rfl rfl ?_ | refine Kx.lag HB rfl rfl ?_ | refine Kx.log HB rfl HC.out rfl ?_) | ((with_reducible refine Kx.store_gate ?_); (first | refine Kx.stwa HB rfl rfl ?_ | refine Kx.sta HB rfl rfl ?_ | refine Kx.stc HB rfl rfl ?_ | refine Kx.stt HB rfl rfl rfl ?_ | refine Kx.st1 HB rfl rfl rfl ?_); clear HB; intro w_ HB))
      go_ret
      exact ⟨rfl, HB.out.below⟩
end Go.Proofs.YtnljpopjhjcocaaDoor
