/- What penalties become, and who is left out: the document's. -/
import Derived.Test.YtpbogacodhjlfaaDoorIi
import Derived.Test.YtpbogacodhjlfaaDoorIl
import Derived.Test.YtpbogacodhjlfaaDoorKitJ
import Derived.Test.YtpbogacodhjlfaaDoorHz0
import Derived.Test.YtpbogacodhjlfaaDoorGb
import Derived.Test.YtpbogacodhjlfaaDoorGcd
import Derived.Test.YtpbogacodhjlfaaDoorGef
namespace Go.Proofs.YtpbogacodhjlfaaDoor
open Go.RowKit Go.Shelf Km Kx Kc Kt
set_option linter.unusedVariables false

theorem Gm.supAt_of (c : Gm.Gc) (p : Gm.Pl) (u : Nat) (t : Int) (k : Nat) : Gm.supAt c p u t k = Dm.sup (p.su.toNat.testBit k) (Gm.penAt c p u t k) c.sup c.reu := rfl
theorem Gm.pens_snoc (f : Nat → Int) (k : Nat) : (List.range (k + 1)).map f = (List.range k).map f ++ [f k] := by rw [List.range_succ, List.map_append]; rfl
theorem Gm.pens_len (f : Nat → Int) (k : Nat) : ((List.range k).map f).length = k := by rw [List.length_map, List.length_range]
theorem RHas_b (m k : Nat) (hm : m < 18446744073709551616) (hk : k ≤ 63) (W : World) : Calls Tryd.prog 28 #[.int .u64 (m : Int), .int .i64 (k : Int)] W fun e w' => e = .returned (.bool (m.testBit k)) ∧ Below W.heap.size W w' := by
  refine (has_any m (k : Int) W hm (by omega)).mono ?_
  rintro e w' ⟨rfl, rfl⟩
  exact ⟨by rw [Gm.has_nat], Below.refl _ _⟩

set_option maxRecDepth 100000 in
set_option maxHeartbeats 4000000 in
theorem RFade_any (c : Cf) (xs : List Int) (x : Gm.Pl) (A : Option Addr) (n c0 : Nat) (A' : Option Addr) (n' c' : Nat) (u pu su : Nat) (t : Int) (w : World) (hp : PAt w w.heap.size x A n c0 A' n' c') (hn : n ≤ 16) (hN : c.targets = (n : Int))
    (hu : u < 18446744073709551616) (hpu : x.up = (pu : Int)) (hpu2 : pu < 18446744073709551616) (hsu : x.su = (su : Int)) (hsu2 : su < 18446744073709551616) (hst : Gm.T x.st) (ht : Gm.T t) (har : ∀ i, Dm.Ar (x.pen.getD i 0) (t - x.st) c.half) :
    Calls Tryd.prog 24 #[.agg (cf c).toArray, .agg (pc x A n c0 A' n' c').toArray, .int .u64 (u : Int), .int .i64 t] w fun e w' => ∃ A2 c2, e = .returned (.tuple #[.slice A2 n c2, .int .u64 ((Gm.sups (gc c xs) x u t : Nat) : Int)]) ∧ Below w.heap.size w w' ∧ w'.ownsRow w.heap.size 3 1 (.slice A2 n c2) n (Kc.i64s (Gm.pens (gc c xs) x u t)) := by
  have HB := Lib.hid (Bxs.start w)
  have HR := Lib.hid hp.pen
  have HL := Lib.hid hp.n
  have hts := T_sub ht hst
  have HAR := Lib.hid har
  have hgn : (gc c xs).n = n := by show c.targets.toNat = n; omega
  have HPS : Hid (Gm.pens (gc c xs) x u t = (List.range n).map (Gm.penAt (gc c xs) x u t)) := Lib.hid (by unfold Gm.pens; rw [hgn])
  have HSS : Hid (Gm.sups (gc c xs) x u t = Gm.maskOf (Gm.supAt (gc c xs) x u t) n) := Lib.hid (by unfold Gm.sups; rw [hgn])
  rw [HPS.out, HSS.out]
  have HPA : Hid (∀ k, Gm.penAt (gc c xs) x u t k = if pu.testBit k = true ∧ u.testBit k = false then Dm.hit (Dm.left (x.pen.getD k 0) (t - x.st) c.half) c.hit else Dm.left (x.pen.getD k 0) (t - x.st) c.half) := Lib.hid (fun k => by show (if _ then _ else _) = _; rw [hpu]; rfl)
  have HSA : Hid (∀ k, Gm.supAt (gc c xs) x u t k = Dm.sup (su.testBit k) (Gm.penAt (gc c xs) x u t k) c.suppress c.reuse) := Lib.hid (fun k => by rw [Gm.supAt_of, hsu]; rfl)
  generalize Gm.penAt (gc c xs) x u t = pf at *
  generalize Gm.supAt (gc c xs) x u t = sf at *
  have HCN : Hid ((cf c)[2]? = some (.int .i64 (n : Int))) := Lib.hid (by rw [← hN]; rfl)
  clear HPS HSS hgn hp hN hst ht har
  obtain ⟨xe, xt, xp, xs', xc, xst, xsi, xra, xup, xsu, pen, ch⟩ := x
  dsimp only at hpu hsu
  subst hpu hsu
  dsimp only [pc] at *
  go_enter Tryd.func24, Tryd.ntmps24
  go_wp2_with (first | ((with_reducible refine Kx.absorb HB ?_); clear HB; intro w_ HB) | ((with_reducible refine Kx.box_gate (d := some 4) ?_); (first | refine Kx.boxa HB rfl ?_ | refine Kx.boxt HB rfl rfl ?_ | refine Kx.box1 HB rfl rfl ?_); clear HB; intro b4 w_ HB; refine Kx.fr ?_) | ((with_reducible refine Kx.alloc_gate (d := some 4) ?_); (first | refine Kx.ala HB ?_ | refine Kx.al1 HB ?_); clear HB; intro b4 w_ HB; refine Kx.fr ?_) | ((with_reducible refine Kx.box_gate (d := some 5) ?_); (first | refine Kx.boxa HB rfl ?_ | refine Kx.boxt HB rfl rfl ?_ | refine Kx.box1 HB rfl rfl ?_); clear HB; intro b5 w_ HB; refine Kx.fr ?_) | ((with_reducible refine Kx.alloc_gate (d := some 5) ?_); (first | refine Kx.ala HB ?_ | refine Kx.al1 HB ?_); clear HB; intro b5 w_ HB; refine Kx.fr ?_) | ((with_reducible refine Kx.box_gate ?_); (first | refine Kx.boxa HB rfl ?_ | refine Kx.boxt HB rfl rfl ?_ | refine Kx.box1 HB rfl rfl ?_); clear HB; intro b_ w_ HB; refine Kx.fr ?_) | ((with_reducible refine Kx.alloc_gate ?_); (first | refine Kx.ala HB ?_ | refine Kx.al1 HB ?_); clear HB; intro b_ w_ HB; refine Kx.fr ?_) | ((with_reducible refine Kx.loads_gate ?_); first | refine Kx.l1 HB rfl rfl ?_ | refine Kx.la HB rfl ?_ | refine Kx.lo HB rfl HC.out ?_) | ((with_reducible refine Kx.loadg_gate ?_); first | refine Kx.l1g HB rfl rfl rfl ?_ | refine Kx.lag HB rfl rfl ?_ | refine Kx.log HB rfl HC.out rfl ?_) | ((with_reducible refine Kx.store_gate ?_); (first | refine Kx.stwa HB rfl rfl ?_ | refine Kx.sta HB rfl rfl ?_ | refine Kx.stc HB rfl rfl ?_ | refine Kx.stt HB rfl rfl rfl ?_ | refine Kx.st1 HB rfl rfl rfl ?_); clear HB; intro w_ HB))
  replace HB := Lib.hid (HB.out.nilrow 3 1)
  go_loopg [10, 11, 12] n (fun gh pv sv ix wr => ∃ (k : Nat) (A7 : Option Addr) (c7 : Nat), gh + k = n ∧ pv = .slice A7 k c7 ∧ sv = .int .u64 ((Gm.maskOf sf k : Nat) : Int) ∧ ix = .int .i64 (k : Int) ∧ Hid (Bxs w wr [(b5, pc ⟨xe, xt, xp, xs', xc, xst, xsi, xra, (pu : Int), (su : Int), pen, ch⟩ A n c0 A' n' c'), (b4, cf c)] [⟨A7, c7, 3, 1, k, i64s ((List.range k).map pf)⟩]))
  case atStart => exact ⟨0, none, 0, by omega, rfl, rfl, rfl, HB⟩
  case round =>
    clear HB
    obtain ⟨k, A7, c7, hk, rfl, rfl, rfl, HB⟩ := hrel
    dsimp only [pc] at HB
    by_cases hlt : k < n
    · have d3 : (k : Int) < (n : Int) := by omega
      obtain ⟨ad, rfl, -, hc⟩ := HR.out.num (k := k) (by rw [HL.out]; exact hlt)
      have HP1 := Lib.hid (RHas_b pu k hpu2 (by omega))
      have HP2 := Lib.hid (RHas_b u k hu (by omega))
      have HP3 := Lib.hid (RHas_b su k hsu2 (by omega))
      have HPK := HPA.out k
      have HSK := HSA.out k
      have HD := Lib.hid (fun W => RDecay_ok (pen.getD k 0) (t - xst) c.half W (HAR.out k))
      have HML := Gm.maskOf_lt sf k
      have h16 := Gm.pow16 (show k ≤ 16 by omega)
      have hor := u64_or_nat (Gm.maskOf sf k) (2 ^ k) (by omega) (by omega)
      have hyes := Gm.maskOf_yes (f := sf) (k := k)
      have hno := Gm.maskOf_no (f := sf) (k := k)
      have hs := shl_one (k := k) (by omega)
      try dsimp only at HPK HSK HD hc
      generalize pen.getD k 0 = y at *
      generalize Dm.left y (t - xst) c.half = lf at *
      have HC := Lib.hid hc
      have hkm : k ≤ 16 := by omega
      generalize hM : Gm.maskOf sf k = M at *
      obtain ⟨z, hz⟩ : ∃ z : Nat, 2 ^ k = z := ⟨_, rfl⟩
      rw [hz] at hor hyes hs HML h16
      generalize hM2 : M ||| z = M2 at *
      have HZ := Lib.hid hz
      have HSH := Lib.hid hs
      have HOR := Lib.hid hor
      have HYES := Lib.hid hyes
      have HNO := Lib.hid hno
      have HPF := Lib.hid HPK
      clear hc HML h16 hor hyes hno hs hM hM2 hz HPK HR HL HAR HPA HSA
      cases h1 : pu.testBit k with
      | false =>
        rw [h1] at HP1
        go_wp2_with ((with_reducible refine Kx.loads_gate ?_); refine Kx.wpList_load1_x HB rfl _ _ rfl b4 rfl (cf c) (Tryd.isAgg3 _) _ HCN.out ?_)
        refine Kx.region_x HB (fun i => false) (by kernel_rfl) ?_
        refine Kx.tk 0 rfl ?_
        first | refine Kx.xl1 1 rfl rfl rfl ?_ | refine Kx.xla 1 rfl rfl ?_ | refine Kx.xlo 1 rfl rfl HC.out ?_
        refine Kx.tk 2 rfl ?_
        refine Kx.tk 3 rfl ?_
        first | refine Kx.xl1 4 rfl rfl rfl ?_ | refine Kx.xla 4 rfl rfl ?_ | refine Kx.xlo 4 rfl rfl HC.out ?_
        refine Kx.tk 5 rfl ?_
        refine Kx.tk 6 rfl ?_
        first | refine Kx.xl1 7 rfl rfl rfl ?_ | refine Kx.xla 7 rfl rfl ?_ | refine Kx.xlo 7 rfl rfl HC.out ?_
        refine Kx.tk 8 rfl ?_
        refine Kx.tk 9 rfl ?_
        first | refine Kx.xl1 10 rfl rfl rfl ?_ | refine Kx.xla 10 rfl rfl ?_ | refine Kx.xlo 10 rfl rfl HC.out ?_
        refine anyW_call (i := 11) (v := ?v11_180) (f := ?g11_180) (args := ?s11_180) (a' := ?a11_180) (by first | exact Kx.bears_x | exact bears_u | assumption) rfl (by kernel_rfl) (by kernel_rfl) (by kernel_rfl) (fun _ _ _ h => h) (by kernel_rfl) ?c11_180 ?w11_180 ?y11_180 ?f11_180 ?r11_180
        case w11_180 => kernel_rfl
        case y11_180 => (intro W hW; go_simp; first | (refine ⟨?_, ?_⟩ <;> with_reducible rfl) | with_reducible rfl)
        case c11_180 => (intro W hW; refine Calls.mono (HD.out W) ?_; rintro e w_ ⟨rfl, hb_⟩; refine ⟨?_, by first | exact hb_ | exact hb_ ▸ Below.refl _ _⟩; with_reducible rfl)
        case f11_180 => (go_simp; try with_reducible rfl)
        refine Kx.tk 12 rfl ?_
        refine Kx.tk 13 rfl ?_
        refine Kx.tk 14 rfl ?_
        refine Kx.tk 15 rfl ?_
        refine Kx.tk 16 rfl ?_
        refine anyW_done (by kernel_rfl) ?_
        clear HB
        intro w_ HB_
        have HB := Lib.hid HB_
        clear HB_
        go_upto_region 9 with (first | (go_at_call 28; with_reducible refine Kx.args_gate #[.int .u64 (pu : Int), _] ?_; refine Calls.mono (HP1.out _) ?_; rintro e w_ ⟨rfl, hb_⟩; replace HB := Lib.hid (HB.out.call hb_); clear hb_) | (first | ((with_reducible refine Kx.absorb HB ?_); clear HB; intro w_ HB) | ((with_reducible refine Kx.box_gate ?_); (first | refine Kx.boxa HB rfl ?_ | refine Kx.boxt HB rfl rfl ?_ | refine Kx.box1 HB rfl rfl ?_); clear HB; intro b_ w_ HB; refine Kx.fr ?_) | ((with_reducible refine Kx.alloc_gate ?_); (first | refine Kx.ala HB ?_ | refine Kx.al1 HB ?_); clear HB; intro b_ w_ HB; refine Kx.fr ?_) | ((with_reducible refine Kx.loads_gate ?_); first | refine Kx.l1 HB rfl rfl ?_ | refine Kx.la HB rfl ?_ | refine Kx.lo HB rfl HC.out ?_) | ((with_reducible refine Kx.loadg_gate ?_); first | refine Kx.l1g HB rfl rfl rfl ?_ | refine Kx.lag HB rfl rfl ?_ | refine Kx.log HB rfl HC.out rfl ?_) | ((with_reducible refine Kx.store_gate ?_); (first | refine Kx.stwa HB rfl rfl ?_ | refine Kx.sta HB rfl rfl ?_ | refine Kx.stc HB rfl rfl ?_ | refine Kx.stt HB rfl rfl rfl ?_ | refine Kx.st1 HB rfl rfl rfl ?_); clear HB; intro w_ HB)))
        have HV : Hid (pf k = lf) := Lib.hid (by rw [HPF.out]; exact if_neg (fun q => by rw [h1] at q; cases q.1))
        rw [HV.out] at HSK
        have HS : Hid (∀ W, Calls Tryd.prog 47 #[.bool (su.testBit k), .int .i64 (lf), .int .i64 c.suppress, .int .i64 c.reuse] W fun e w' => e = .returned (.bool (sf k)) ∧ Below W.heap.size W w') := Lib.hid (fun W => by rw [HSK]; exact (RSup_any _ _ _ _ W).mono fun _ _ h => ⟨h.1, h.2 ▸ Below.refl _ _⟩)
        clear HSK HPF
        generalize su.testBit k = bw at *
        cases hsf : sf k with
        | false =>
          rw [hsf] at HS
          have HE := Lib.hid (HNO.out hsf)
          clear hsf HSH HOR HYES HNO
          go_upto_region 10 with (first | (at_builtin; first | (refine Kx.wpList_app_x HB rfl _ _ 22 rfl _ _ _ rfl 8 3 1 _ rfl Tryd.underlying22 (by kernel_rfl) (by decide) _ _ _ rfl _ ([Value.int .i64 lf]) (HB.out.rd) (by (first | rfl | (intro u hu; rw [List.mem_singleton] at hu; subst hu; rfl) | (unfold maxLen; omega) | omega)) (by (first | rfl | (intro u hu; rw [List.mem_singleton] at hu; subst hu; rfl) | (unfold maxLen; omega) | omega)) (by (first | rfl | (intro u hu; rw [List.mem_singleton] at hu; subst hu; rfl) | (unfold maxLen; omega) | omega)) (by (first | rfl | (intro u hu; rw [List.mem_singleton] at hu; subst hu; rfl) | (unfold maxLen; omega) | omega)) ?_; clear HB; intro A_ c_ w_ hl_ hm_ HB; refine Kx.framed ?_ (by simp only [Act.put, List.setIfInBounds_toArray, List.set_cons_succ, List.set_cons_zero] <;> rfl)) | (refine Kx.wpList_appn_x HB rfl _ _ 22 rfl rfl 8 3 1 Tryd.underlying22 (by kernel_rfl) (by decide) _ _ _ rfl _ ([Value.int .i64 lf]) (HB.out.rd) (by (first | rfl | (intro u hu; rw [List.mem_singleton] at hu; subst hu; rfl) | (unfold maxLen; omega) | omega)) (by (first | rfl | (intro u hu; rw [List.mem_singleton] at hu; subst hu; rfl) | (unfold maxLen; omega) | omega)) (by (first | rfl | (intro u hu; rw [List.mem_singleton] at hu; subst hu; rfl) | (unfold maxLen; omega) | omega)) (by (first | rfl | (intro u hu; rw [List.mem_singleton] at hu; subst hu; rfl) | (unfold maxLen; omega) | omega)) ?_; clear HB; intro A_ c_ w_ hl_ hm_ HB; refine Kx.framed ?_ (by simp only [Act.put, List.setIfInBounds_toArray, List.set_cons_succ, List.set_cons_zero] <;> rfl))) | (first | ((with_reducible refine Kx.absorb HB ?_); clear HB; intro w_ HB) | ((with_reducible refine Kx.box_gate ?_); (first | refine Kx.boxa HB rfl ?_ | refine Kx.boxt HB rfl rfl ?_ | refine Kx.box1 HB rfl rfl ?_); clear HB; intro b_ w_ HB; refine Kx.fr ?_) | ((with_reducible refine Kx.alloc_gate ?_); (first | refine Kx.ala HB ?_ | refine Kx.al1 HB ?_); clear HB; intro b_ w_ HB; refine Kx.fr ?_) | ((with_reducible refine Kx.loads_gate ?_); first | refine Kx.l1 HB rfl rfl ?_ | refine Kx.la HB rfl ?_ | refine Kx.lo HB rfl HC.out ?_) | ((with_reducible refine Kx.loadg_gate ?_); first | refine Kx.l1g HB rfl rfl rfl ?_ | refine Kx.lag HB rfl rfl ?_ | refine Kx.log HB rfl HC.out rfl ?_) | ((with_reducible refine Kx.store_gate ?_); (first | refine Kx.stwa HB rfl rfl ?_ | refine Kx.sta HB rfl rfl ?_ | refine Kx.stc HB rfl rfl ?_ | refine Kx.stt HB rfl rfl rfl ?_ | refine Kx.st1 HB rfl rfl rfl ?_); clear HB; intro w_ HB)))
          refine Kx.region_x HB (fun i => false) (by kernel_rfl) ?_
          refine Kx.tk 0 rfl ?_
          first | refine Kx.xl1 1 rfl rfl rfl ?_ | refine Kx.xla 1 rfl rfl ?_ | refine Kx.xlo 1 rfl rfl HC.out ?_
          refine Kx.tk 2 rfl ?_
          refine anyW_call (i := 3) (v := ?v3_181) (f := ?g3_181) (args := ?s3_181) (a' := ?a3_181) (by first | exact Kx.bears_x | exact bears_u | assumption) rfl (by kernel_rfl) (by kernel_rfl) (by kernel_rfl) (fun _ _ _ h => h) (by kernel_rfl) ?c3_181 ?w3_181 ?y3_181 ?f3_181 ?r3_181
          case w3_181 => kernel_rfl
          case y3_181 => (intro W hW; go_simp; first | (refine ⟨?_, ?_⟩ <;> with_reducible rfl) | with_reducible rfl)
          case c3_181 => (intro W hW; refine Calls.mono (HP3.out W) ?_; rintro e w_ ⟨rfl, hb_⟩; refine ⟨?_, by first | exact hb_ | exact hb_ ▸ Below.refl _ _⟩; with_reducible rfl)
          case f3_181 => (go_simp; try with_reducible rfl)
          refine Kx.tk 4 rfl ?_
          refine Kx.tk 5 rfl ?_
          first | refine Kx.xl1 6 rfl rfl rfl ?_ | refine Kx.xla 6 rfl rfl ?_ | refine Kx.xlo 6 rfl rfl HC.out ?_
          refine Kx.tk 7 rfl ?_
          first | refine Kx.xl1 8 rfl rfl rfl ?_ | refine Kx.xla 8 rfl rfl ?_ | refine Kx.xlo 8 rfl rfl HC.out ?_
          refine anyW_call (i := 9) (v := ?v9_182) (f := ?g9_182) (args := ?s9_182) (a' := ?a9_182) (by first | exact Kx.bears_x | exact bears_u | assumption) rfl (by kernel_rfl) (by kernel_rfl) (by kernel_rfl) (fun _ _ _ h => h) (by kernel_rfl) ?c9_182 ?w9_182 ?y9_182 ?f9_182 ?r9_182
          case w9_182 => kernel_rfl
          case y9_182 => (intro W hW; go_simp; first | (refine ⟨?_, ?_⟩ <;> with_reducible rfl) | with_reducible rfl)
          case c9_182 => (intro W hW; refine Calls.mono (HS.out W) ?_; rintro e w_ ⟨rfl, hb_⟩; refine ⟨?_, by first | exact hb_ | exact hb_ ▸ Below.refl _ _⟩; with_reducible rfl)
          case f9_182 => (go_simp; try with_reducible rfl)
          refine Kx.tk 10 rfl ?_
          refine anyW_done (by kernel_rfl) ?_
          clear HB
          intro w_ HB_
          have HB := Lib.hid HB_
          clear HB_
          go_wp2_with (first | ((with_reducible refine Kx.absorb HB ?_); clear HB; intro w_ HB) | ((with_reducible refine Kx.box_gate ?_); (first | refine Kx.boxa HB rfl ?_ | refine Kx.boxt HB rfl rfl ?_ | refine Kx.box1 HB rfl rfl ?_); clear HB; intro b_ w_ HB; refine Kx.fr ?_) | ((with_reducible refine Kx.alloc_gate ?_); (first | refine Kx.ala HB ?_ | refine Kx.al1 HB ?_); clear HB; intro b_ w_ HB; refine Kx.fr ?_) | ((with_reducible refine Kx.loads_gate ?_); first | refine Kx.l1 HB rfl rfl ?_ | refine Kx.la HB rfl ?_ | refine Kx.lo HB rfl HC.out ?_) | ((with_reducible refine Kx.loadg_gate ?_); first | refine Kx.l1g HB rfl rfl rfl ?_ | refine Kx.lag HB rfl rfl ?_ | refine Kx.log HB rfl HC.out rfl ?_) | ((with_reducible refine Kx.store_gate ?_); (first | refine Kx.stwa HB rfl rfl ?_ | refine Kx.sta HB rfl rfl ?_ | refine Kx.stc HB rfl rfl ?_ | refine Kx.stt HB rfl rfl rfl ?_ | refine Kx.st1 HB rfl rfl rfl ?_); clear HB; intro w_ HB))
          go_roundg (gk - 1)
          case measure => omega
          case rel =>
            refine ⟨k + 1, A_, c_, by omega, rfl, by rw [HE.out], by go_num, ?_⟩
            rw [Gm.pens_snoc, i64s_app, HV.out]
            exact Lib.hid HB.out.tail
        | true =>
          rw [hsf] at HS
          have HE := Lib.hid (HYES.out hsf)
          have hs := HSH.out
          have hor := HOR.out
          clear hsf HSH HOR HYES HNO
          go_upto_region 10 with (first | (at_builtin; first | (refine Kx.wpList_app_x HB rfl _ _ 22 rfl _ _ _ rfl 8 3 1 _ rfl Tryd.underlying22 (by kernel_rfl) (by decide) _ _ _ rfl _ ([Value.int .i64 lf]) (HB.out.rd) (by (first | rfl | (intro u hu; rw [List.mem_singleton] at hu; subst hu; rfl) | (unfold maxLen; omega) | omega)) (by (first | rfl | (intro u hu; rw [List.mem_singleton] at hu; subst hu; rfl) | (unfold maxLen; omega) | omega)) (by (first | rfl | (intro u hu; rw [List.mem_singleton] at hu; subst hu; rfl) | (unfold maxLen; omega) | omega)) (by (first | rfl | (intro u hu; rw [List.mem_singleton] at hu; subst hu; rfl) | (unfold maxLen; omega) | omega)) ?_; clear HB; intro A_ c_ w_ hl_ hm_ HB; refine Kx.framed ?_ (by simp only [Act.put, List.setIfInBounds_toArray, List.set_cons_succ, List.set_cons_zero] <;> rfl)) | (refine Kx.wpList_appn_x HB rfl _ _ 22 rfl rfl 8 3 1 Tryd.underlying22 (by kernel_rfl) (by decide) _ _ _ rfl _ ([Value.int .i64 lf]) (HB.out.rd) (by (first | rfl | (intro u hu; rw [List.mem_singleton] at hu; subst hu; rfl) | (unfold maxLen; omega) | omega)) (by (first | rfl | (intro u hu; rw [List.mem_singleton] at hu; subst hu; rfl) | (unfold maxLen; omega) | omega)) (by (first | rfl | (intro u hu; rw [List.mem_singleton] at hu; subst hu; rfl) | (unfold maxLen; omega) | omega)) (by (first | rfl | (intro u hu; rw [List.mem_singleton] at hu; subst hu; rfl) | (unfold maxLen; omega) | omega)) ?_; clear HB; intro A_ c_ w_ hl_ hm_ HB; refine Kx.framed ?_ (by simp only [Act.put, List.setIfInBounds_toArray, List.set_cons_succ, List.set_cons_zero] <;> rfl))) | (first | ((with_reducible refine Kx.absorb HB ?_); clear HB; intro w_ HB) | ((with_reducible refine Kx.box_gate ?_); (first | refine Kx.boxa HB rfl ?_ | refine Kx.boxt HB rfl rfl ?_ | refine Kx.box1 HB rfl rfl ?_); clear HB; intro b_ w_ HB; refine Kx.fr ?_) | ((with_reducible refine Kx.alloc_gate ?_); (first | refine Kx.ala HB ?_ | refine Kx.al1 HB ?_); clear HB; intro b_ w_ HB; refine Kx.fr ?_) | ((with_reducible refine Kx.loads_gate ?_); first | refine Kx.l1 HB rfl rfl ?_ | refine Kx.la HB rfl ?_ | refine Kx.lo HB rfl HC.out ?_) | ((with_reducible refine Kx.loadg_gate ?_); first | refine Kx.l1g HB rfl rfl rfl ?_ | refine Kx.lag HB rfl rfl ?_ | refine Kx.log HB rfl HC.out rfl ?_) | ((with_reducible refine Kx.store_gate ?_); (first | refine Kx.stwa HB rfl rfl ?_ | refine Kx.sta HB rfl rfl ?_ | refine Kx.stc HB rfl rfl ?_ | refine Kx.stt HB rfl rfl rfl ?_ | refine Kx.st1 HB rfl rfl rfl ?_); clear HB; intro w_ HB)))
          refine Kx.region_x HB (fun i => false) (by kernel_rfl) ?_
          refine Kx.tk 0 rfl ?_
          first | refine Kx.xl1 1 rfl rfl rfl ?_ | refine Kx.xla 1 rfl rfl ?_ | refine Kx.xlo 1 rfl rfl HC.out ?_
          refine Kx.tk 2 rfl ?_
          refine anyW_call (i := 3) (v := ?v3_183) (f := ?g3_183) (args := ?s3_183) (a' := ?a3_183) (by first | exact Kx.bears_x | exact bears_u | assumption) rfl (by kernel_rfl) (by kernel_rfl) (by kernel_rfl) (fun _ _ _ h => h) (by kernel_rfl) ?c3_183 ?w3_183 ?y3_183 ?f3_183 ?r3_183
          case w3_183 => kernel_rfl
          case y3_183 => (intro W hW; go_simp; first | (refine ⟨?_, ?_⟩ <;> with_reducible rfl) | with_reducible rfl)
          case c3_183 => (intro W hW; refine Calls.mono (HP3.out W) ?_; rintro e w_ ⟨rfl, hb_⟩; refine ⟨?_, by first | exact hb_ | exact hb_ ▸ Below.refl _ _⟩; with_reducible rfl)
          case f3_183 => (go_simp; try with_reducible rfl)
          refine Kx.tk 4 rfl ?_
          refine Kx.tk 5 rfl ?_
          first | refine Kx.xl1 6 rfl rfl rfl ?_ | refine Kx.xla 6 rfl rfl ?_ | refine Kx.xlo 6 rfl rfl HC.out ?_
          refine Kx.tk 7 rfl ?_
          first | refine Kx.xl1 8 rfl rfl rfl ?_ | refine Kx.xla 8 rfl rfl ?_ | refine Kx.xlo 8 rfl rfl HC.out ?_
          refine anyW_call (i := 9) (v := ?v9_184) (f := ?g9_184) (args := ?s9_184) (a' := ?a9_184) (by first | exact Kx.bears_x | exact bears_u | assumption) rfl (by kernel_rfl) (by kernel_rfl) (by kernel_rfl) (fun _ _ _ h => h) (by kernel_rfl) ?c9_184 ?w9_184 ?y9_184 ?f9_184 ?r9_184
          case w9_184 => kernel_rfl
          case y9_184 => (intro W hW; go_simp; first | (refine ⟨?_, ?_⟩ <;> with_reducible rfl) | with_reducible rfl)
          case c9_184 => (intro W hW; refine Calls.mono (HS.out W) ?_; rintro e w_ ⟨rfl, hb_⟩; refine ⟨?_, by first | exact hb_ | exact hb_ ▸ Below.refl _ _⟩; with_reducible rfl)
          case f9_184 => (go_simp; try with_reducible rfl)
          refine Kx.tk 10 rfl ?_
          refine anyW_done (by kernel_rfl) ?_
          clear HB
          intro w_ HB_
          have HB := Lib.hid HB_
          clear HB_
          go_wp2_with (first | ((with_reducible refine Kx.absorb HB ?_); clear HB; intro w_ HB) | ((with_reducible refine Kx.box_gate ?_); (first | refine Kx.boxa HB rfl ?_ | refine Kx.boxt HB rfl rfl ?_ | refine Kx.box1 HB rfl rfl ?_); clear HB; intro b_ w_ HB; refine Kx.fr ?_) | ((with_reducible refine Kx.alloc_gate ?_); (first | refine Kx.ala HB ?_ | refine Kx.al1 HB ?_); clear HB; intro b_ w_ HB; refine Kx.fr ?_) | ((with_reducible refine Kx.loads_gate ?_); first | refine Kx.l1 HB rfl rfl ?_ | refine Kx.la HB rfl ?_ | refine Kx.lo HB rfl HC.out ?_) | ((with_reducible refine Kx.loadg_gate ?_); first | refine Kx.l1g HB rfl rfl rfl ?_ | refine Kx.lag HB rfl rfl ?_ | refine Kx.log HB rfl HC.out rfl ?_) | ((with_reducible refine Kx.store_gate ?_); (first | refine Kx.stwa HB rfl rfl ?_ | refine Kx.sta HB rfl rfl ?_ | refine Kx.stc HB rfl rfl ?_ | refine Kx.stt HB rfl rfl rfl ?_ | refine Kx.st1 HB rfl rfl rfl ?_); clear HB; intro w_ HB))
          go_roundg (gk - 1)
          case measure => omega
          case rel =>
            refine ⟨k + 1, A_, c_, by omega, rfl, by rw [HE.out], by go_num, ?_⟩
            rw [Gm.pens_snoc, i64s_app, HV.out]
            exact Lib.hid HB.out.tail
      | true =>
        rw [h1] at HP1
        cases h2 : u.testBit k with
        | true =>
          rw [h2] at HP2
          go_wp2_with ((with_reducible refine Kx.loads_gate ?_); refine Kx.wpList_load1_x HB rfl _ _ rfl b4 rfl (cf c) (Tryd.isAgg3 _) _ HCN.out ?_)
          refine Kx.region_x HB (fun i => false) (by kernel_rfl) ?_
          refine Kx.tk 0 rfl ?_
          first | refine Kx.xl1 1 rfl rfl rfl ?_ | refine Kx.xla 1 rfl rfl ?_ | refine Kx.xlo 1 rfl rfl HC.out ?_
          refine Kx.tk 2 rfl ?_
          refine Kx.tk 3 rfl ?_
          first | refine Kx.xl1 4 rfl rfl rfl ?_ | refine Kx.xla 4 rfl rfl ?_ | refine Kx.xlo 4 rfl rfl HC.out ?_
          refine Kx.tk 5 rfl ?_
          refine Kx.tk 6 rfl ?_
          first | refine Kx.xl1 7 rfl rfl rfl ?_ | refine Kx.xla 7 rfl rfl ?_ | refine Kx.xlo 7 rfl rfl HC.out ?_
          refine Kx.tk 8 rfl ?_
          refine Kx.tk 9 rfl ?_
          first | refine Kx.xl1 10 rfl rfl rfl ?_ | refine Kx.xla 10 rfl rfl ?_ | refine Kx.xlo 10 rfl rfl HC.out ?_
          refine anyW_call (i := 11) (v := ?v11_185) (f := ?g11_185) (args := ?s11_185) (a' := ?a11_185) (by first | exact Kx.bears_x | exact bears_u | assumption) rfl (by kernel_rfl) (by kernel_rfl) (by kernel_rfl) (fun _ _ _ h => h) (by kernel_rfl) ?c11_185 ?w11_185 ?y11_185 ?f11_185 ?r11_185
          case w11_185 => kernel_rfl
          case y11_185 => (intro W hW; go_simp; first | (refine ⟨?_, ?_⟩ <;> with_reducible rfl) | with_reducible rfl)
          case c11_185 => (intro W hW; refine Calls.mono (HD.out W) ?_; rintro e w_ ⟨rfl, hb_⟩; refine ⟨?_, by first | exact hb_ | exact hb_ ▸ Below.refl _ _⟩; with_reducible rfl)
          case f11_185 => (go_simp; try with_reducible rfl)
          refine Kx.tk 12 rfl ?_
          refine Kx.tk 13 rfl ?_
          refine Kx.tk 14 rfl ?_
          refine Kx.tk 15 rfl ?_
          refine Kx.tk 16 rfl ?_
          refine anyW_done (by kernel_rfl) ?_
          clear HB
          intro w_ HB_
          have HB := Lib.hid HB_
          clear HB_
          go_upto_region 9 with (first | (go_at_call 28; with_reducible refine Kx.args_gate #[.int .u64 (pu : Int), _] ?_; refine Calls.mono (HP1.out _) ?_; rintro e w_ ⟨rfl, hb_⟩; replace HB := Lib.hid (HB.out.call hb_); clear hb_) | (go_at_call 28; with_reducible refine Kx.args_gate #[.int .u64 (u : Int), _] ?_; refine Calls.mono (HP2.out _) ?_; rintro e w_ ⟨rfl, hb_⟩; replace HB := Lib.hid (HB.out.call hb_); clear hb_) | (first | ((with_reducible refine Kx.absorb HB ?_); clear HB; intro w_ HB) | ((with_reducible refine Kx.box_gate ?_); (first | refine Kx.boxa HB rfl ?_ | refine Kx.boxt HB rfl rfl ?_ | refine Kx.box1 HB rfl rfl ?_); clear HB; intro b_ w_ HB; refine Kx.fr ?_) | ((with_reducible refine Kx.alloc_gate ?_); (first | refine Kx.ala HB ?_ | refine Kx.al1 HB ?_); clear HB; intro b_ w_ HB; refine Kx.fr ?_) | ((with_reducible refine Kx.loads_gate ?_); first | refine Kx.l1 HB rfl rfl ?_ | refine Kx.la HB rfl ?_ | refine Kx.lo HB rfl HC.out ?_) | ((with_reducible refine Kx.loadg_gate ?_); first | refine Kx.l1g HB rfl rfl rfl ?_ | refine Kx.lag HB rfl rfl ?_ | refine Kx.log HB rfl HC.out rfl ?_) | ((with_reducible refine Kx.store_gate ?_); (first | refine Kx.stwa HB rfl rfl ?_ | refine Kx.sta HB rfl rfl ?_ | refine Kx.stc HB rfl rfl ?_ | refine Kx.stt HB rfl rfl rfl ?_ | refine Kx.st1 HB rfl rfl rfl ?_); clear HB; intro w_ HB)))
          have HV : Hid (pf k = lf) := Lib.hid (by rw [HPF.out]; exact if_neg (fun q => by rw [h2] at q; cases q.2))
          rw [HV.out] at HSK
          have HS : Hid (∀ W, Calls Tryd.prog 47 #[.bool (su.testBit k), .int .i64 (lf), .int .i64 c.suppress, .int .i64 c.reuse] W fun e w' => e = .returned (.bool (sf k)) ∧ Below W.heap.size W w') := Lib.hid (fun W => by rw [HSK]; exact (RSup_any _ _ _ _ W).mono fun _ _ h => ⟨h.1, h.2 ▸ Below.refl _ _⟩)
          clear HSK HPF
          generalize su.testBit k = bw at *
          cases hsf : sf k with
          | false =>
            rw [hsf] at HS
            have HE := Lib.hid (HNO.out hsf)
            clear hsf HSH HOR HYES HNO
            go_upto_region 10 with (first | (at_builtin; first | (refine Kx.wpList_app_x HB rfl _ _ 22 rfl _ _ _ rfl 8 3 1 _ rfl Tryd.underlying22 (by kernel_rfl) (by decide) _ _ _ rfl _ ([Value.int .i64 lf]) (HB.out.rd) (by (first | rfl | (intro u hu; rw [List.mem_singleton] at hu; subst hu; rfl) | (unfold maxLen; omega) | omega)) (by (first | rfl | (intro u hu; rw [List.mem_singleton] at hu; subst hu; rfl) | (unfold maxLen; omega) | omega)) (by (first | rfl | (intro u hu; rw [List.mem_singleton] at hu; subst hu; rfl) | (unfold maxLen; omega) | omega)) (by (first | rfl | (intro u hu; rw [List.mem_singleton] at hu; subst hu; rfl) | (unfold maxLen; omega) | omega)) ?_; clear HB; intro A_ c_ w_ hl_ hm_ HB; refine Kx.framed ?_ (by simp only [Act.put, List.setIfInBounds_toArray, List.set_cons_succ, List.set_cons_zero] <;> rfl)) | (refine Kx.wpList_appn_x HB rfl _ _ 22 rfl rfl 8 3 1 Tryd.underlying22 (by kernel_rfl) (by decide) _ _ _ rfl _ ([Value.int .i64 lf]) (HB.out.rd) (by (first | rfl | (intro u hu; rw [List.mem_singleton] at hu; subst hu; rfl) | (unfold maxLen; omega) | omega)) (by (first | rfl | (intro u hu; rw [List.mem_singleton] at hu; subst hu; rfl) | (unfold maxLen; omega) | omega)) (by (first | rfl | (intro u hu; rw [List.mem_singleton] at hu; subst hu; rfl) | (unfold maxLen; omega) | omega)) (by (first | rfl | (intro u hu; rw [List.mem_singleton] at hu; subst hu; rfl) | (unfold maxLen; omega) | omega)) ?_; clear HB; intro A_ c_ w_ hl_ hm_ HB; refine Kx.framed ?_ (by simp only [Act.put, List.setIfInBounds_toArray, List.set_cons_succ, List.set_cons_zero] <;> rfl))) | (first | ((with_reducible refine Kx.absorb HB ?_); clear HB; intro w_ HB) | ((with_reducible refine Kx.box_gate ?_); (first | refine Kx.boxa HB rfl ?_ | refine Kx.boxt HB rfl rfl ?_ | refine Kx.box1 HB rfl rfl ?_); clear HB; intro b_ w_ HB; refine Kx.fr ?_) | ((with_reducible refine Kx.alloc_gate ?_); (first | refine Kx.ala HB ?_ | refine Kx.al1 HB ?_); clear HB; intro b_ w_ HB; refine Kx.fr ?_) | ((with_reducible refine Kx.loads_gate ?_); first | refine Kx.l1 HB rfl rfl ?_ | refine Kx.la HB rfl ?_ | refine Kx.lo HB rfl HC.out ?_) | ((with_reducible refine Kx.loadg_gate ?_); first | refine Kx.l1g HB rfl rfl rfl ?_ | refine Kx.lag HB rfl rfl ?_ | refine Kx.log HB rfl HC.out rfl ?_) | ((with_reducible refine Kx.store_gate ?_); (first | refine Kx.stwa HB rfl rfl ?_ | refine Kx.sta HB rfl rfl ?_ | refine Kx.stc HB rfl rfl ?_ | refine Kx.stt HB rfl rfl rfl ?_ | refine Kx.st1 HB rfl rfl rfl ?_); clear HB; intro w_ HB)))
            refine Kx.region_x HB (fun i => false) (by kernel_rfl) ?_
            refine Kx.tk 0 rfl ?_
            first | refine Kx.xl1 1 rfl rfl rfl ?_ | refine Kx.xla 1 rfl rfl ?_ | refine Kx.xlo 1 rfl rfl HC.out ?_
            refine Kx.tk 2 rfl ?_
            refine anyW_call (i := 3) (v := ?v3_186) (f := ?g3_186) (args := ?s3_186) (a' := ?a3_186) (by first | exact Kx.bears_x | exact bears_u | assumption) rfl (by kernel_rfl) (by kernel_rfl) (by kernel_rfl) (fun _ _ _ h => h) (by kernel_rfl) ?c3_186 ?w3_186 ?y3_186 ?f3_186 ?r3_186
            case w3_186 => kernel_rfl
            case y3_186 => (intro W hW; go_simp; first | (refine ⟨?_, ?_⟩ <;> with_reducible rfl) | with_reducible rfl)
            case c3_186 => (intro W hW; refine Calls.mono (HP3.out W) ?_; rintro e w_ ⟨rfl, hb_⟩; refine ⟨?_, by first | exact hb_ | exact hb_ ▸ Below.refl _ _⟩; with_reducible rfl)
            case f3_186 => (go_simp; try with_reducible rfl)
            refine Kx.tk 4 rfl ?_
            refine Kx.tk 5 rfl ?_
            first | refine Kx.xl1 6 rfl rfl rfl ?_ | refine Kx.xla 6 rfl rfl ?_ | refine Kx.xlo 6 rfl rfl HC.out ?_
            refine Kx.tk 7 rfl ?_
            first | refine Kx.xl1 8 rfl rfl rfl ?_ | refine Kx.xla 8 rfl rfl ?_ | refine Kx.xlo 8 rfl rfl HC.out ?_
            refine anyW_call (i := 9) (v := ?v9_187) (f := ?g9_187) (args := ?s9_187) (a' := ?a9_187) (by first | exact Kx.bears_x | exact bears_u | assumption) rfl (by kernel_rfl) (by kernel_rfl) (by kernel_rfl) (fun _ _ _ h => h) (by kernel_rfl) ?c9_187 ?w9_187 ?y9_187 ?f9_187 ?r9_187
            case w9_187 => kernel_rfl
            case y9_187 => (intro W hW; go_simp; first | (refine ⟨?_, ?_⟩ <;> with_reducible rfl) | with_reducible rfl)
            case c9_187 => (intro W hW; refine Calls.mono (HS.out W) ?_; rintro e w_ ⟨rfl, hb_⟩; refine ⟨?_, by first | exact hb_ | exact hb_ ▸ Below.refl _ _⟩; with_reducible rfl)
            case f9_187 => (go_simp; try with_reducible rfl)
            refine Kx.tk 10 rfl ?_
            refine anyW_done (by kernel_rfl) ?_
            clear HB
            intro w_ HB_
            have HB := Lib.hid HB_
            clear HB_
            go_wp2_with (first | ((with_reducible refine Kx.absorb HB ?_); clear HB; intro w_ HB) | ((with_reducible refine Kx.box_gate ?_); (first | refine Kx.boxa HB rfl ?_ | refine Kx.boxt HB rfl rfl ?_ | refine Kx.box1 HB rfl rfl ?_); clear HB; intro b_ w_ HB; refine Kx.fr ?_) | ((with_reducible refine Kx.alloc_gate ?_); (first | refine Kx.ala HB ?_ | refine Kx.al1 HB ?_); clear HB; intro b_ w_ HB; refine Kx.fr ?_) | ((with_reducible refine Kx.loads_gate ?_); first | refine Kx.l1 HB rfl rfl ?_ | refine Kx.la HB rfl ?_ | refine Kx.lo HB rfl HC.out ?_) | ((with_reducible refine Kx.loadg_gate ?_); first | refine Kx.l1g HB rfl rfl rfl ?_ | refine Kx.lag HB rfl rfl ?_ | refine Kx.log HB rfl HC.out rfl ?_) | ((with_reducible refine Kx.store_gate ?_); (first | refine Kx.stwa HB rfl rfl ?_ | refine Kx.sta HB rfl rfl ?_ | refine Kx.stc HB rfl rfl ?_ | refine Kx.stt HB rfl rfl rfl ?_ | refine Kx.st1 HB rfl rfl rfl ?_); clear HB; intro w_ HB))
            go_roundg (gk - 1)
            case measure => omega
            case rel =>
              refine ⟨k + 1, A_, c_, by omega, rfl, by rw [HE.out], by go_num, ?_⟩
              rw [Gm.pens_snoc, i64s_app, HV.out]
              exact Lib.hid HB.out.tail
          | true =>
            rw [hsf] at HS
            have HE := Lib.hid (HYES.out hsf)
            have hs := HSH.out
            have hor := HOR.out
            clear hsf HSH HOR HYES HNO
            go_upto_region 10 with (first | (at_builtin; first | (refine Kx.wpList_app_x HB rfl _ _ 22 rfl _ _ _ rfl 8 3 1 _ rfl Tryd.underlying22 (by kernel_rfl) (by decide) _ _ _ rfl _ ([Value.int .i64 lf]) (HB.out.rd) (by (first | rfl | (intro u hu; rw [List.mem_singleton] at hu; subst hu; rfl) | (unfold maxLen; omega) | omega)) (by (first | rfl | (intro u hu; rw [List.mem_singleton] at hu; subst hu; rfl) | (unfold maxLen; omega) | omega)) (by (first | rfl | (intro u hu; rw [List.mem_singleton] at hu; subst hu; rfl) | (unfold maxLen; omega) | omega)) (by (first | rfl | (intro u hu; rw [List.mem_singleton] at hu; subst hu; rfl) | (unfold maxLen; omega) | omega)) ?_; clear HB; intro A_ c_ w_ hl_ hm_ HB; refine Kx.framed ?_ (by simp only [Act.put, List.setIfInBounds_toArray, List.set_cons_succ, List.set_cons_zero] <;> rfl)) | (refine Kx.wpList_appn_x HB rfl _ _ 22 rfl rfl 8 3 1 Tryd.underlying22 (by kernel_rfl) (by decide) _ _ _ rfl _ ([Value.int .i64 lf]) (HB.out.rd) (by (first | rfl | (intro u hu; rw [List.mem_singleton] at hu; subst hu; rfl) | (unfold maxLen; omega) | omega)) (by (first | rfl | (intro u hu; rw [List.mem_singleton] at hu; subst hu; rfl) | (unfold maxLen; omega) | omega)) (by (first | rfl | (intro u hu; rw [List.mem_singleton] at hu; subst hu; rfl) | (unfold maxLen; omega) | omega)) (by (first | rfl | (intro u hu; rw [List.mem_singleton] at hu; subst hu; rfl) | (unfold maxLen; omega) | omega)) ?_; clear HB; intro A_ c_ w_ hl_ hm_ HB; refine Kx.framed ?_ (by simp only [Act.put, List.setIfInBounds_toArray, List.set_cons_succ, List.set_cons_zero] <;> rfl))) | (first | ((with_reducible refine Kx.absorb HB ?_); clear HB; intro w_ HB) | ((with_reducible refine Kx.box_gate ?_); (first | refine Kx.boxa HB rfl ?_ | refine Kx.boxt HB rfl rfl ?_ | refine Kx.box1 HB rfl rfl ?_); clear HB; intro b_ w_ HB; refine Kx.fr ?_) | ((with_reducible refine Kx.alloc_gate ?_); (first | refine Kx.ala HB ?_ | refine Kx.al1 HB ?_); clear HB; intro b_ w_ HB; refine Kx.fr ?_) | ((with_reducible refine Kx.loads_gate ?_); first | refine Kx.l1 HB rfl rfl ?_ | refine Kx.la HB rfl ?_ | refine Kx.lo HB rfl HC.out ?_) | ((with_reducible refine Kx.loadg_gate ?_); first | refine Kx.l1g HB rfl rfl rfl ?_ | refine Kx.lag HB rfl rfl ?_ | refine Kx.log HB rfl HC.out rfl ?_) | ((with_reducible refine Kx.store_gate ?_); (first | refine Kx.stwa HB rfl rfl ?_ | refine Kx.sta HB rfl rfl ?_ | refine Kx.stc HB rfl rfl ?_ | refine Kx.stt HB rfl rfl rfl ?_ | refine Kx.st1 HB rfl rfl rfl ?_); clear HB; intro w_ HB)))
            refine Kx.region_x HB (fun i => false) (by kernel_rfl) ?_
            refine Kx.tk 0 rfl ?_
            first | refine Kx.xl1 1 rfl rfl rfl ?_ | refine Kx.xla 1 rfl rfl ?_ | refine Kx.xlo 1 rfl rfl HC.out ?_
            refine Kx.tk 2 rfl ?_
            refine anyW_call (i := 3) (v := ?v3_188) (f := ?g3_188) (args := ?s3_188) (a' := ?a3_188) (by first | exact Kx.bears_x | exact bears_u | assumption) rfl (by kernel_rfl) (by kernel_rfl) (by kernel_rfl) (fun _ _ _ h => h) (by kernel_rfl) ?c3_188 ?w3_188 ?y3_188 ?f3_188 ?r3_188
            case w3_188 => kernel_rfl
            case y3_188 => (intro W hW; go_simp; first | (refine ⟨?_, ?_⟩ <;> with_reducible rfl) | with_reducible rfl)
            case c3_188 => (intro W hW; refine Calls.mono (HP3.out W) ?_; rintro e w_ ⟨rfl, hb_⟩; refine ⟨?_, by first | exact hb_ | exact hb_ ▸ Below.refl _ _⟩; with_reducible rfl)
            case f3_188 => (go_simp; try with_reducible rfl)
            refine Kx.tk 4 rfl ?_
            refine Kx.tk 5 rfl ?_
            first | refine Kx.xl1 6 rfl rfl rfl ?_ | refine Kx.xla 6 rfl rfl ?_ | refine Kx.xlo 6 rfl rfl HC.out ?_
            refine Kx.tk 7 rfl ?_
            first | refine Kx.xl1 8 rfl rfl rfl ?_ | refine Kx.xla 8 rfl rfl ?_ | refine Kx.xlo 8 rfl rfl HC.out ?_
            refine anyW_call (i := 9) (v := ?v9_189) (f := ?g9_189) (args := ?s9_189) (a' := ?a9_189) (by first | exact Kx.bears_x | exact bears_u | assumption) rfl (by kernel_rfl) (by kernel_rfl) (by kernel_rfl) (fun _ _ _ h => h) (by kernel_rfl) ?c9_189 ?w9_189 ?y9_189 ?f9_189 ?r9_189
            case w9_189 => kernel_rfl
            case y9_189 => (intro W hW; go_simp; first | (refine ⟨?_, ?_⟩ <;> with_reducible rfl) | with_reducible rfl)
            case c9_189 => (intro W hW; refine Calls.mono (HS.out W) ?_; rintro e w_ ⟨rfl, hb_⟩; refine ⟨?_, by first | exact hb_ | exact hb_ ▸ Below.refl _ _⟩; with_reducible rfl)
            case f9_189 => (go_simp; try with_reducible rfl)
            refine Kx.tk 10 rfl ?_
            refine anyW_done (by kernel_rfl) ?_
            clear HB
            intro w_ HB_
            have HB := Lib.hid HB_
            clear HB_
            go_wp2_with (first | ((with_reducible refine Kx.absorb HB ?_); clear HB; intro w_ HB) | ((with_reducible refine Kx.box_gate ?_); (first | refine Kx.boxa HB rfl ?_ | refine Kx.boxt HB rfl rfl ?_ | refine Kx.box1 HB rfl rfl ?_); clear HB; intro b_ w_ HB; refine Kx.fr ?_) | ((with_reducible refine Kx.alloc_gate ?_); (first | refine Kx.ala HB ?_ | refine Kx.al1 HB ?_); clear HB; intro b_ w_ HB; refine Kx.fr ?_) | ((with_reducible refine Kx.loads_gate ?_); first | refine Kx.l1 HB rfl rfl ?_ | refine Kx.la HB rfl ?_ | refine Kx.lo HB rfl HC.out ?_) | ((with_reducible refine Kx.loadg_gate ?_); first | refine Kx.l1g HB rfl rfl rfl ?_ | refine Kx.lag HB rfl rfl ?_ | refine Kx.log HB rfl HC.out rfl ?_) | ((with_reducible refine Kx.store_gate ?_); (first | refine Kx.stwa HB rfl rfl ?_ | refine Kx.sta HB rfl rfl ?_ | refine Kx.stc HB rfl rfl ?_ | refine Kx.stt HB rfl rfl rfl ?_ | refine Kx.st1 HB rfl rfl rfl ?_); clear HB; intro w_ HB))
            go_roundg (gk - 1)
            case measure => omega
            case rel =>
              refine ⟨k + 1, A_, c_, by omega, rfl, by rw [HE.out], by go_num, ?_⟩
              rw [Gm.pens_snoc, i64s_app, HV.out]
              exact Lib.hid HB.out.tail
        | false =>
          rw [h2] at HP2
          have HHT : Hid (∀ W, Calls Tryd.prog 46 #[.int .i64 lf, .int .i64 c.hit] W fun e w' => e = .returned (.int .i64 (Dm.hit lf c.hit)) ∧ Below W.heap.size W w') := Lib.hid (fun W => (RHit_any _ _ W).mono fun _ _ h => ⟨h.1, h.2 ▸ Below.refl _ _⟩)
          go_wp2_with ((with_reducible refine Kx.loads_gate ?_); refine Kx.wpList_load1_x HB rfl _ _ rfl b4 rfl (cf c) (Tryd.isAgg3 _) _ HCN.out ?_)
          refine Kx.region_x HB (fun i => false) (by kernel_rfl) ?_
          refine Kx.tk 0 rfl ?_
          first | refine Kx.xl1 1 rfl rfl rfl ?_ | refine Kx.xla 1 rfl rfl ?_ | refine Kx.xlo 1 rfl rfl HC.out ?_
          refine Kx.tk 2 rfl ?_
          refine Kx.tk 3 rfl ?_
          first | refine Kx.xl1 4 rfl rfl rfl ?_ | refine Kx.xla 4 rfl rfl ?_ | refine Kx.xlo 4 rfl rfl HC.out ?_
          refine Kx.tk 5 rfl ?_
          refine Kx.tk 6 rfl ?_
          first | refine Kx.xl1 7 rfl rfl rfl ?_ | refine Kx.xla 7 rfl rfl ?_ | refine Kx.xlo 7 rfl rfl HC.out ?_
          refine Kx.tk 8 rfl ?_
          refine Kx.tk 9 rfl ?_
          first | refine Kx.xl1 10 rfl rfl rfl ?_ | refine Kx.xla 10 rfl rfl ?_ | refine Kx.xlo 10 rfl rfl HC.out ?_
          refine anyW_call (i := 11) (v := ?v11_190) (f := ?g11_190) (args := ?s11_190) (a' := ?a11_190) (by first | exact Kx.bears_x | exact bears_u | assumption) rfl (by kernel_rfl) (by kernel_rfl) (by kernel_rfl) (fun _ _ _ h => h) (by kernel_rfl) ?c11_190 ?w11_190 ?y11_190 ?f11_190 ?r11_190
          case w11_190 => kernel_rfl
          case y11_190 => (intro W hW; go_simp; first | (refine ⟨?_, ?_⟩ <;> with_reducible rfl) | with_reducible rfl)
          case c11_190 => (intro W hW; refine Calls.mono (HD.out W) ?_; rintro e w_ ⟨rfl, hb_⟩; refine ⟨?_, by first | exact hb_ | exact hb_ ▸ Below.refl _ _⟩; with_reducible rfl)
          case f11_190 => (go_simp; try with_reducible rfl)
          refine Kx.tk 12 rfl ?_
          refine Kx.tk 13 rfl ?_
          refine Kx.tk 14 rfl ?_
          refine Kx.tk 15 rfl ?_
          refine Kx.tk 16 rfl ?_
          refine anyW_done (by kernel_rfl) ?_
          clear HB
          intro w_ HB_
          have HB := Lib.hid HB_
          clear HB_
          go_upto_region 9 with (first | (go_at_call 28; with_reducible refine Kx.args_gate #[.int .u64 (pu : Int), _] ?_; refine Calls.mono (HP1.out _) ?_; rintro e w_ ⟨rfl, hb_⟩; replace HB := Lib.hid (HB.out.call hb_); clear hb_) | (go_at_call 28; with_reducible refine Kx.args_gate #[.int .u64 (u : Int), _] ?_; refine Calls.mono (HP2.out _) ?_; rintro e w_ ⟨rfl, hb_⟩; replace HB := Lib.hid (HB.out.call hb_); clear hb_) | (go_at_call 46; refine Calls.mono (HHT.out _) ?_; rintro e w_ ⟨rfl, hb_⟩; replace HB := Lib.hid (HB.out.call hb_); clear hb_) | (first | ((with_reducible refine Kx.absorb HB ?_); clear HB; intro w_ HB) | ((with_reducible refine Kx.box_gate ?_); (first | refine Kx.boxa HB rfl ?_ | refine Kx.boxt HB rfl rfl ?_ | refine Kx.box1 HB rfl rfl ?_); clear HB; intro b_ w_ HB; refine Kx.fr ?_) | ((with_reducible refine Kx.alloc_gate ?_); (first | refine Kx.ala HB ?_ | refine Kx.al1 HB ?_); clear HB; intro b_ w_ HB; refine Kx.fr ?_) | ((with_reducible refine Kx.loads_gate ?_); first | refine Kx.l1 HB rfl rfl ?_ | refine Kx.la HB rfl ?_ | refine Kx.lo HB rfl HC.out ?_) | ((with_reducible refine Kx.loadg_gate ?_); first | refine Kx.l1g HB rfl rfl rfl ?_ | refine Kx.lag HB rfl rfl ?_ | refine Kx.log HB rfl HC.out rfl ?_) | ((with_reducible refine Kx.store_gate ?_); (first | refine Kx.stwa HB rfl rfl ?_ | refine Kx.sta HB rfl rfl ?_ | refine Kx.stc HB rfl rfl ?_ | refine Kx.stt HB rfl rfl rfl ?_ | refine Kx.st1 HB rfl rfl rfl ?_); clear HB; intro w_ HB)))
          have HV : Hid (pf k = Dm.hit lf c.hit) := Lib.hid (by rw [HPF.out]; exact if_pos ⟨h1, h2⟩)
          rw [HV.out] at HSK
          have HS : Hid (∀ W, Calls Tryd.prog 47 #[.bool (su.testBit k), .int .i64 (Dm.hit lf c.hit), .int .i64 c.suppress, .int .i64 c.reuse] W fun e w' => e = .returned (.bool (sf k)) ∧ Below W.heap.size W w') := Lib.hid (fun W => by rw [HSK]; exact (RSup_any _ _ _ _ W).mono fun _ _ h => ⟨h.1, h.2 ▸ Below.refl _ _⟩)
          clear HSK HPF
          generalize su.testBit k = bw at *
          generalize Dm.hit lf c.hit = vv at *
          cases hsf : sf k with
          | false =>
            rw [hsf] at HS
            have HE := Lib.hid (HNO.out hsf)
            clear hsf HSH HOR HYES HNO
            go_upto_region 10 with (first | (at_builtin; first | (refine Kx.wpList_app_x HB rfl _ _ 22 rfl _ _ _ rfl 8 3 1 _ rfl Tryd.underlying22 (by kernel_rfl) (by decide) _ _ _ rfl _ ([Value.int .i64 vv]) (HB.out.rd) (by (first | rfl | (intro u hu; rw [List.mem_singleton] at hu; subst hu; rfl) | (unfold maxLen; omega) | omega)) (by (first | rfl | (intro u hu; rw [List.mem_singleton] at hu; subst hu; rfl) | (unfold maxLen; omega) | omega)) (by (first | rfl | (intro u hu; rw [List.mem_singleton] at hu; subst hu; rfl) | (unfold maxLen; omega) | omega)) (by (first | rfl | (intro u hu; rw [List.mem_singleton] at hu; subst hu; rfl) | (unfold maxLen; omega) | omega)) ?_; clear HB; intro A_ c_ w_ hl_ hm_ HB; refine Kx.framed ?_ (by simp only [Act.put, List.setIfInBounds_toArray, List.set_cons_succ, List.set_cons_zero] <;> rfl)) | (refine Kx.wpList_appn_x HB rfl _ _ 22 rfl rfl 8 3 1 Tryd.underlying22 (by kernel_rfl) (by decide) _ _ _ rfl _ ([Value.int .i64 vv]) (HB.out.rd) (by (first | rfl | (intro u hu; rw [List.mem_singleton] at hu; subst hu; rfl) | (unfold maxLen; omega) | omega)) (by (first | rfl | (intro u hu; rw [List.mem_singleton] at hu; subst hu; rfl) | (unfold maxLen; omega) | omega)) (by (first | rfl | (intro u hu; rw [List.mem_singleton] at hu; subst hu; rfl) | (unfold maxLen; omega) | omega)) (by (first | rfl | (intro u hu; rw [List.mem_singleton] at hu; subst hu; rfl) | (unfold maxLen; omega) | omega)) ?_; clear HB; intro A_ c_ w_ hl_ hm_ HB; refine Kx.framed ?_ (by simp only [Act.put, List.setIfInBounds_toArray, List.set_cons_succ, List.set_cons_zero] <;> rfl))) | (first | ((with_reducible refine Kx.absorb HB ?_); clear HB; intro w_ HB) | ((with_reducible refine Kx.box_gate ?_); (first | refine Kx.boxa HB rfl ?_ | refine Kx.boxt HB rfl rfl ?_ | refine Kx.box1 HB rfl rfl ?_); clear HB; intro b_ w_ HB; refine Kx.fr ?_) | ((with_reducible refine Kx.alloc_gate ?_); (first | refine Kx.ala HB ?_ | refine Kx.al1 HB ?_); clear HB; intro b_ w_ HB; refine Kx.fr ?_) | ((with_reducible refine Kx.loads_gate ?_); first | refine Kx.l1 HB rfl rfl ?_ | refine Kx.la HB rfl ?_ | refine Kx.lo HB rfl HC.out ?_) | ((with_reducible refine Kx.loadg_gate ?_); first | refine Kx.l1g HB rfl rfl rfl ?_ | refine Kx.lag HB rfl rfl ?_ | refine Kx.log HB rfl HC.out rfl ?_) | ((with_reducible refine Kx.store_gate ?_); (first | refine Kx.stwa HB rfl rfl ?_ | refine Kx.sta HB rfl rfl ?_ | refine Kx.stc HB rfl rfl ?_ | refine Kx.stt HB rfl rfl rfl ?_ | refine Kx.st1 HB rfl rfl rfl ?_); clear HB; intro w_ HB)))
            refine Kx.region_x HB (fun i => false) (by kernel_rfl) ?_
            refine Kx.tk 0 rfl ?_
            first | refine Kx.xl1 1 rfl rfl rfl ?_ | refine Kx.xla 1 rfl rfl ?_ | refine Kx.xlo 1 rfl rfl HC.out ?_
            refine Kx.tk 2 rfl ?_
            refine anyW_call (i := 3) (v := ?v3_191) (f := ?g3_191) (args := ?s3_191) (a' := ?a3_191) (by first | exact Kx.bears_x | exact bears_u | assumption) rfl (by kernel_rfl) (by kernel_rfl) (by kernel_rfl) (fun _ _ _ h => h) (by kernel_rfl) ?c3_191 ?w3_191 ?y3_191 ?f3_191 ?r3_191
            case w3_191 => kernel_rfl
            case y3_191 => (intro W hW; go_simp; first | (refine ⟨?_, ?_⟩ <;> with_reducible rfl) | with_reducible rfl)
            case c3_191 => (intro W hW; refine Calls.mono (HP3.out W) ?_; rintro e w_ ⟨rfl, hb_⟩; refine ⟨?_, by first | exact hb_ | exact hb_ ▸ Below.refl _ _⟩; with_reducible rfl)
            case f3_191 => (go_simp; try with_reducible rfl)
            refine Kx.tk 4 rfl ?_
            refine Kx.tk 5 rfl ?_
            first | refine Kx.xl1 6 rfl rfl rfl ?_ | refine Kx.xla 6 rfl rfl ?_ | refine Kx.xlo 6 rfl rfl HC.out ?_
            refine Kx.tk 7 rfl ?_
            first | refine Kx.xl1 8 rfl rfl rfl ?_ | refine Kx.xla 8 rfl rfl ?_ | refine Kx.xlo 8 rfl rfl HC.out ?_
            refine anyW_call (i := 9) (v := ?v9_192) (f := ?g9_192) (args := ?s9_192) (a' := ?a9_192) (by first | exact Kx.bears_x | exact bears_u | assumption) rfl (by kernel_rfl) (by kernel_rfl) (by kernel_rfl) (fun _ _ _ h => h) (by kernel_rfl) ?c9_192 ?w9_192 ?y9_192 ?f9_192 ?r9_192
            case w9_192 => kernel_rfl
            case y9_192 => (intro W hW; go_simp; first | (refine ⟨?_, ?_⟩ <;> with_reducible rfl) | with_reducible rfl)
            case c9_192 => (intro W hW; refine Calls.mono (HS.out W) ?_; rintro e w_ ⟨rfl, hb_⟩; refine ⟨?_, by first | exact hb_ | exact hb_ ▸ Below.refl _ _⟩; with_reducible rfl)
            case f9_192 => (go_simp; try with_reducible rfl)
            refine Kx.tk 10 rfl ?_
            refine anyW_done (by kernel_rfl) ?_
            clear HB
            intro w_ HB_
            have HB := Lib.hid HB_
            clear HB_
            go_wp2_with (first | ((with_reducible refine Kx.absorb HB ?_); clear HB; intro w_ HB) | ((with_reducible refine Kx.box_gate ?_); (first | refine Kx.boxa HB rfl ?_ | refine Kx.boxt HB rfl rfl ?_ | refine Kx.box1 HB rfl rfl ?_); clear HB; intro b_ w_ HB; refine Kx.fr ?_) | ((with_reducible refine Kx.alloc_gate ?_); (first | refine Kx.ala HB ?_ | refine Kx.al1 HB ?_); clear HB; intro b_ w_ HB; refine Kx.fr ?_) | ((with_reducible refine Kx.loads_gate ?_); first | refine Kx.l1 HB rfl rfl ?_ | refine Kx.la HB rfl ?_ | refine Kx.lo HB rfl HC.out ?_) | ((with_reducible refine Kx.loadg_gate ?_); first | refine Kx.l1g HB rfl rfl rfl ?_ | refine Kx.lag HB rfl rfl ?_ | refine Kx.log HB rfl HC.out rfl ?_) | ((with_reducible refine Kx.store_gate ?_); (first | refine Kx.stwa HB rfl rfl ?_ | refine Kx.sta HB rfl rfl ?_ | refine Kx.stc HB rfl rfl ?_ | refine Kx.stt HB rfl rfl rfl ?_ | refine Kx.st1 HB rfl rfl rfl ?_); clear HB; intro w_ HB))
            go_roundg (gk - 1)
            case measure => omega
            case rel =>
              refine ⟨k + 1, A_, c_, by omega, rfl, by rw [HE.out], by go_num, ?_⟩
              rw [Gm.pens_snoc, i64s_app, HV.out]
              exact Lib.hid HB.out.tail
          | true =>
            rw [hsf] at HS
            have HE := Lib.hid (HYES.out hsf)
            have hs := HSH.out
            have hor := HOR.out
            clear hsf HSH HOR HYES HNO
            go_upto_region 10 with (first | (at_builtin; first | (refine Kx.wpList_app_x HB rfl _ _ 22 rfl _ _ _ rfl 8 3 1 _ rfl Tryd.underlying22 (by kernel_rfl) (by decide) _ _ _ rfl _ ([Value.int .i64 vv]) (HB.out.rd) (by (first | rfl | (intro u hu; rw [List.mem_singleton] at hu; subst hu; rfl) | (unfold maxLen; omega) | omega)) (by (first | rfl | (intro u hu; rw [List.mem_singleton] at hu; subst hu; rfl) | (unfold maxLen; omega) | omega)) (by (first | rfl | (intro u hu; rw [List.mem_singleton] at hu; subst hu; rfl) | (unfold maxLen; omega) | omega)) (by (first | rfl | (intro u hu; rw [List.mem_singleton] at hu; subst hu; rfl) | (unfold maxLen; omega) | omega)) ?_; clear HB; intro A_ c_ w_ hl_ hm_ HB; refine Kx.framed ?_ (by simp only [Act.put, List.setIfInBounds_toArray, List.set_cons_succ, List.set_cons_zero] <;> rfl)) | (refine Kx.wpList_appn_x HB rfl _ _ 22 rfl rfl 8 3 1 Tryd.underlying22 (by kernel_rfl) (by decide) _ _ _ rfl _ ([Value.int .i64 vv]) (HB.out.rd) (by (first | rfl | (intro u hu; rw [List.mem_singleton] at hu; subst hu; rfl) | (unfold maxLen; omega) | omega)) (by (first | rfl | (intro u hu; rw [List.mem_singleton] at hu; subst hu; rfl) | (unfold maxLen; omega) | omega)) (by (first | rfl | (intro u hu; rw [List.mem_singleton] at hu; subst hu; rfl) | (unfold maxLen; omega) | omega)) (by (first | rfl | (intro u hu; rw [List.mem_singleton] at hu; subst hu; rfl) | (unfold maxLen; omega) | omega)) ?_; clear HB; intro A_ c_ w_ hl_ hm_ HB; refine Kx.framed ?_ (by simp only [Act.put, List.setIfInBounds_toArray, List.set_cons_succ, List.set_cons_zero] <;> rfl))) | (first | ((with_reducible refine Kx.absorb HB ?_); clear HB; intro w_ HB) | ((with_reducible refine Kx.box_gate ?_); (first | refine Kx.boxa HB rfl ?_ | refine Kx.boxt HB rfl rfl ?_ | refine Kx.box1 HB rfl rfl ?_); clear HB; intro b_ w_ HB; refine Kx.fr ?_) | ((with_reducible refine Kx.alloc_gate ?_); (first | refine Kx.ala HB ?_ | refine Kx.al1 HB ?_); clear HB; intro b_ w_ HB; refine Kx.fr ?_) | ((with_reducible refine Kx.loads_gate ?_); first | refine Kx.l1 HB rfl rfl ?_ | refine Kx.la HB rfl ?_ | refine Kx.lo HB rfl HC.out ?_) | ((with_reducible refine Kx.loadg_gate ?_); first | refine Kx.l1g HB rfl rfl rfl ?_ | refine Kx.lag HB rfl rfl ?_ | refine Kx.log HB rfl HC.out rfl ?_) | ((with_reducible refine Kx.store_gate ?_); (first | refine Kx.stwa HB rfl rfl ?_ | refine Kx.sta HB rfl rfl ?_ | refine Kx.stc HB rfl rfl ?_ | refine Kx.stt HB rfl rfl rfl ?_ | refine Kx.st1 HB rfl rfl rfl ?_); clear HB; intro w_ HB)))
            refine Kx.region_x HB (fun i => false) (by kernel_rfl) ?_
            refine Kx.tk 0 rfl ?_
            first | refine Kx.xl1 1 rfl rfl rfl ?_ | refine Kx.xla 1 rfl rfl ?_ | refine Kx.xlo 1 rfl rfl HC.out ?_
            refine Kx.tk 2 rfl ?_
            refine anyW_call (i := 3) (v := ?v3_193) (f := ?g3_193) (args := ?s3_193) (a' := ?a3_193) (by first | exact Kx.bears_x | exact bears_u | assumption) rfl (by kernel_rfl) (by kernel_rfl) (by kernel_rfl) (fun _ _ _ h => h) (by kernel_rfl) ?c3_193 ?w3_193 ?y3_193 ?f3_193 ?r3_193
            case w3_193 => kernel_rfl
            case y3_193 => (intro W hW; go_simp; first | (refine ⟨?_, ?_⟩ <;> with_reducible rfl) | with_reducible rfl)
            case c3_193 => (intro W hW; refine Calls.mono (HP3.out W) ?_; rintro e w_ ⟨rfl, hb_⟩; refine ⟨?_, by first | exact hb_ | exact hb_ ▸ Below.refl _ _⟩; with_reducible rfl)
            case f3_193 => (go_simp; try with_reducible rfl)
            refine Kx.tk 4 rfl ?_
            refine Kx.tk 5 rfl ?_
            first | refine Kx.xl1 6 rfl rfl rfl ?_ | refine Kx.xla 6 rfl rfl ?_ | refine Kx.xlo 6 rfl rfl HC.out ?_
            refine Kx.tk 7 rfl ?_
            first | refine Kx.xl1 8 rfl rfl rfl ?_ | refine Kx.xla 8 rfl rfl ?_ | refine Kx.xlo 8 rfl rfl HC.out ?_
            refine anyW_call (i := 9) (v := ?v9_194) (f := ?g9_194) (args := ?s9_194) (a' := ?a9_194) (by first | exact Kx.bears_x | exact bears_u | assumption) rfl (by kernel_rfl) (by kernel_rfl) (by kernel_rfl) (fun _ _ _ h => h) (by kernel_rfl) ?c9_194 ?w9_194 ?y9_194 ?f9_194 ?r9_194
            case w9_194 => kernel_rfl
            case y9_194 => (intro W hW; go_simp; first | (refine ⟨?_, ?_⟩ <;> with_reducible rfl) | with_reducible rfl)
            case c9_194 => (intro W hW; refine Calls.mono (HS.out W) ?_; rintro e w_ ⟨rfl, hb_⟩; refine ⟨?_, by first | exact hb_ | exact hb_ ▸ Below.refl _ _⟩; with_reducible rfl)
            case f9_194 => (go_simp; try with_reducible rfl)
            refine Kx.tk 10 rfl ?_
            refine anyW_done (by kernel_rfl) ?_
            clear HB
            intro w_ HB_
            have HB := Lib.hid HB_
            clear HB_
            go_wp2_with (first | ((with_reducible refine Kx.absorb HB ?_); clear HB; intro w_ HB) | ((with_reducible refine Kx.box_gate ?_); (first | refine Kx.boxa HB rfl ?_ | refine Kx.boxt HB rfl rfl ?_ | refine Kx.box1 HB rfl rfl ?_); clear HB; intro b_ w_ HB; refine Kx.fr ?_) | ((with_reducible refine Kx.alloc_gate ?_); (first | refine Kx.ala HB ?_ | refine Kx.al1 HB ?_); clear HB; intro b_ w_ HB; refine Kx.fr ?_) | ((with_reducible refine Kx.loads_gate ?_); first | refine Kx.l1 HB rfl rfl ?_ | refine Kx.la HB rfl ?_ | refine Kx.lo HB rfl HC.out ?_) | ((with_reducible refine Kx.loadg_gate ?_); first | refine Kx.l1g HB rfl rfl rfl ?_ | refine Kx.lag HB rfl rfl ?_ | refine Kx.log HB rfl HC.out rfl ?_) | ((with_reducible refine Kx.store_gate ?_); (first | refine Kx.stwa HB rfl rfl ?_ | refine Kx.sta HB rfl rfl ?_ | refine Kx.stc HB rfl rfl ?_ | refine Kx.stt HB rfl rfl rfl ?_ | refine Kx.st1 HB rfl rfl rfl ?_); clear HB; intro w_ HB))
            go_roundg (gk - 1)
            case measure => omega
            case rel =>
              refine ⟨k + 1, A_, c_, by omega, rfl, by rw [HE.out], by go_num, ?_⟩
              rw [Gm.pens_snoc, i64s_app, HV.out]
              exact Lib.hid HB.out.tail
    · obtain rfl : k = n := by omega
      have d0 : decide ((k : Int) < (k : Int)) = false := by simp
      go_wp2_with ((with_reducible refine Kx.loads_gate ?_); refine Kx.wpList_load1_x HB rfl _ _ rfl b4 rfl (cf c) (Tryd.isAgg3 _) _ HCN.out ?_)
      go_ret2
      exact ⟨A7, c7, rfl, HB.out.below, (HB.out.rows _ (List.mem_cons_self ..)).1⟩
end Go.Proofs.YtpbogacodhjlfaaDoor

/- A plan with another target: the document's. -/
namespace Go.Proofs.YtpbogacodhjlfaaDoor
open Go.RowKit Go.Shelf Km Kx Kc Kt
set_option linter.unusedVariables false

set_option maxRecDepth 100000 in
set_option maxHeartbeats 4000000 in
theorem RTurn_any (c : Cf) (x : Gm.Pl) (A : Option Addr) (n c0 : Nat) (A' : Option Addr) (n' c' : Nat) (z : Int) (must : Bool) (b : Nat) (w : World) (hr : Rd w w.heap.size A' (Kc.i64s x.ch)) (hn : x.ch.length = n') (hnb : n' ≤ b) (hb : c.b = (b : Int)) (hb1 : 1 ≤ b ∧ b ≤ 8) :
    Calls Tryd.prog 27 #[.agg (cf c).toArray, .agg (pc x A n c0 A' n' c').toArray, .int .i64 z, .bool must, .int .i64 x.st] w fun e w' => ∃ A2 c2, e = .returned (.agg (pc (Gm.chg x z (if must = true then 100 else c.first) b) A n c0 A2 (n' - (n' + 1 - b) + 1) c2).toArray) ∧ Below w.heap.size w w' ∧ New w w' [] A2 (Kc.i64s (Gm.chg x z (if must = true then 100 else c.first) b).ch) ∧ n' - (n' + 1 - b) + 1 ≤ c2 := by
  have HB := Lib.hid (Bxs.start w)
  have HR := Lib.hid hr
  obtain ⟨i0, hi, hz0, hz1, hz2⟩ := info_parts (P := Tryd.prog) (e := 2) (z := .int .i64 0) (size := 1) (bytes := 8) (by kernel_rfl)
  obtain ⟨k, hkk⟩ : ∃ k : Nat, n' + 1 - b = k := ⟨_, rfl⟩
  have HE : Hid (∀ q : Int, (Gm.chg x z q b) = ⟨x.e, z, x.t, x.s, q, x.st, x.st, x.st, x.up, x.su, x.pen, x.ch.drop k ++ [x.st]⟩) := Lib.hid (fun q => by unfold Gm.chg; rw [hn, hkk])
  have HN := Lib.hid hn
  rw [HE.out, hkk]
  clear hr hn HE
  obtain ⟨xe, xt, xp, xs', xc, xst, xsi, xra, xup, xsu, pen, ch⟩ := x
  dsimp only [pc] at *
  have hlc : (Kc.i64s ch).length = n' := by rw [i64s_len]; exact HN.out
  by_cases hfew : n' < b
  · obtain rfl : k = 0 := by omega
    have d1 : decide (c.b ≤ (n' : Int)) = false := by simp; omega
    rw [List.drop_zero]
    simp only [Nat.sub_zero]
    have hn8 : n' ≤ 8 := by omega
    clear hb hkk hnb hb1 hfew
    cases must with
    | false =>
      simp only [Bool.false_eq_true, if_false]
      go_enter Tryd.func27, Tryd.ntmps27
      go_upto_region 9 with (first | ((with_reducible refine Kx.alloced_gate ?_); refine Kx.absorb_row 0 1 rfl (by decide) HB ?_; clear HB; intro w_ HB) | (at_builtin; first | (refine Kx.wpList_app_x HB rfl _ _ 26 rfl _ _ _ rfl 8 2 1 _ rfl Tryd.underlying26 (by kernel_rfl) (by decide) _ _ _ rfl _ (Kc.i64s ch) (HR.out.below HB.out.below) (by (first | (rw [hlc, Nat.mul_one]) | exact i64s_cells ch | (unfold maxLen; omega) | omega)) (by (first | (rw [hlc, Nat.mul_one]) | exact i64s_cells ch | (unfold maxLen; omega) | omega)) (by (first | (rw [hlc, Nat.mul_one]) | exact i64s_cells ch | (unfold maxLen; omega) | omega)) (by (first | (rw [hlc, Nat.mul_one]) | exact i64s_cells ch | (unfold maxLen; omega) | omega)) ?_; clear HB; intro A_ c_ w_ hl_ hm_ HB; refine Kx.framed ?_ (by simp only [Act.put, List.setIfInBounds_toArray, List.set_cons_succ, List.set_cons_zero] <;> rfl)) | (refine Kx.wpList_appn_x HB rfl _ _ 26 rfl rfl 8 2 1 Tryd.underlying26 (by kernel_rfl) (by decide) _ _ _ rfl _ (Kc.i64s ch) (HR.out.below HB.out.below) (by (first | (rw [hlc, Nat.mul_one]) | exact i64s_cells ch | (unfold maxLen; omega) | omega)) (by (first | (rw [hlc, Nat.mul_one]) | exact i64s_cells ch | (unfold maxLen; omega) | omega)) (by (first | (rw [hlc, Nat.mul_one]) | exact i64s_cells ch | (unfold maxLen; omega) | omega)) (by (first | (rw [hlc, Nat.mul_one]) | exact i64s_cells ch | (unfold maxLen; omega) | omega)) ?_; clear HB; intro A_ c_ w_ hl_ hm_ HB; refine Kx.framed ?_ (by simp only [Act.put, List.setIfInBounds_toArray, List.set_cons_succ, List.set_cons_zero] <;> rfl))) | (first | ((with_reducible refine Kx.absorb HB ?_); clear HB; intro w_ HB) | ((with_reducible refine Kx.box_gate (d := some 5) ?_); (first | refine Kx.boxa HB rfl ?_ | refine Kx.boxt HB rfl rfl ?_ | refine Kx.box1 HB rfl rfl ?_); clear HB; intro b5 w_ HB; refine Kx.fr ?_) | ((with_reducible refine Kx.alloc_gate (d := some 5) ?_); (first | refine Kx.ala HB ?_ | refine Kx.al1 HB ?_); clear HB; intro b5 w_ HB; refine Kx.fr ?_) | ((with_reducible refine Kx.box_gate (d := some 6) ?_); (first | refine Kx.boxa HB rfl ?_ | refine Kx.boxt HB rfl rfl ?_ | refine Kx.box1 HB rfl rfl ?_); clear HB; intro b6 w_ HB; refine Kx.fr ?_) | ((with_reducible refine Kx.alloc_gate (d := some 6) ?_); (first | refine Kx.ala HB ?_ | refine Kx.al1 HB ?_); clear HB; intro b6 w_ HB; refine Kx.fr ?_) | ((with_reducible refine Kx.box_gate (d := some 10) ?_); (first | refine Kx.boxa HB rfl ?_ | refine Kx.boxt HB rfl rfl ?_ | refine Kx.box1 HB rfl rfl ?_); clear HB; intro b10 w_ HB; refine Kx.fr ?_) | ((with_reducible refine Kx.alloc_gate (d := some 10) ?_); (first | refine Kx.ala HB ?_ | refine Kx.al1 HB ?_); clear HB; intro b10 w_ HB; refine Kx.fr ?_) | ((with_reducible refine Kx.box_gate ?_); (first | refine Kx.boxa HB rfl ?_ | refine Kx.boxt HB rfl rfl ?_ | refine Kx.box1 HB rfl rfl ?_); clear HB; intro b_ w_ HB; refine Kx.fr ?_) | ((with_reducible refine Kx.alloc_gate ?_); (first | refine Kx.ala HB ?_ | refine Kx.al1 HB ?_); clear HB; intro b_ w_ HB; refine Kx.fr ?_) | ((with_reducible refine Kx.loads_gate ?_); first | refine Kx.l1 HB rfl rfl ?_ | refine Kx.la HB rfl ?_ | refine Kx.lo HB rfl HC.out ?_) | ((with_reducible refine Kx.loadg_gate ?_); first | refine Kx.l1g HB rfl rfl rfl ?_ | refine Kx.lag HB rfl rfl ?_ | refine Kx.log HB rfl HC.out rfl ?_) | ((with_reducible refine Kx.store_gate ?_); (first | refine Kx.stwa HB rfl rfl ?_ | refine Kx.sta HB rfl rfl ?_ | refine Kx.stc HB rfl rfl ?_ | refine Kx.stt HB rfl rfl rfl ?_ | refine Kx.st1 HB rfl rfl rfl ?_); clear HB; intro w_ HB)))
      rw [Nat.zero_add, List.nil_append] at HB
      rw [Nat.zero_add] at hl_ ⊢
      go_upto_region 12 with (first | (at_builtin; first | (refine Kx.wpList_app_x HB rfl _ _ 26 rfl _ _ _ rfl 8 2 1 _ rfl Tryd.underlying26 (by kernel_rfl) (by decide) _ _ _ rfl _ ([Value.int .i64 xst]) (HB.out.rd) (by (first | rfl | (intro u hu; rw [List.mem_singleton] at hu; subst hu; rfl) | (unfold maxLen; omega) | omega)) (by (first | rfl | (intro u hu; rw [List.mem_singleton] at hu; subst hu; rfl) | (unfold maxLen; omega) | omega)) (by (first | rfl | (intro u hu; rw [List.mem_singleton] at hu; subst hu; rfl) | (unfold maxLen; omega) | omega)) (by (first | rfl | (intro u hu; rw [List.mem_singleton] at hu; subst hu; rfl) | (unfold maxLen; omega) | omega)) ?_; clear HB; intro A_ c_ w_ hl_ hm_ HB; refine Kx.framed ?_ (by simp only [Act.put, List.setIfInBounds_toArray, List.set_cons_succ, List.set_cons_zero] <;> rfl)) | (refine Kx.wpList_appn_x HB rfl _ _ 26 rfl rfl 8 2 1 Tryd.underlying26 (by kernel_rfl) (by decide) _ _ _ rfl _ ([Value.int .i64 xst]) (HB.out.rd) (by (first | rfl | (intro u hu; rw [List.mem_singleton] at hu; subst hu; rfl) | (unfold maxLen; omega) | omega)) (by (first | rfl | (intro u hu; rw [List.mem_singleton] at hu; subst hu; rfl) | (unfold maxLen; omega) | omega)) (by (first | rfl | (intro u hu; rw [List.mem_singleton] at hu; subst hu; rfl) | (unfold maxLen; omega) | omega)) (by (first | rfl | (intro u hu; rw [List.mem_singleton] at hu; subst hu; rfl) | (unfold maxLen; omega) | omega)) ?_; clear HB; intro A_ c_ w_ hl_ hm_ HB; refine Kx.framed ?_ (by simp only [Act.put, List.setIfInBounds_toArray, List.set_cons_succ, List.set_cons_zero] <;> rfl))) | (first | ((with_reducible refine Kx.absorb HB ?_); clear HB; intro w_ HB) | ((with_reducible refine Kx.box_gate (d := some 5) ?_); (first | refine Kx.boxa HB rfl ?_ | refine Kx.boxt HB rfl rfl ?_ | refine Kx.box1 HB rfl rfl ?_); clear HB; intro b5 w_ HB; refine Kx.fr ?_) | ((with_reducible refine Kx.alloc_gate (d := some 5) ?_); (first | refine Kx.ala HB ?_ | refine Kx.al1 HB ?_); clear HB; intro b5 w_ HB; refine Kx.fr ?_) | ((with_reducible refine Kx.box_gate (d := some 6) ?_); (first | refine Kx.boxa HB rfl ?_ | refine Kx.boxt HB rfl rfl ?_ | refine Kx.box1 HB rfl rfl ?_); clear HB; intro b6 w_ HB; refine Kx.fr ?_) | ((with_reducible refine Kx.alloc_gate (d := some 6) ?_); (first | refine Kx.ala HB ?_ | refine Kx.al1 HB ?_); clear HB; intro b6 w_ HB; refine Kx.fr ?_) | ((with_reducible refine Kx.box_gate (d := some 10) ?_); (first | refine Kx.boxa HB rfl ?_ | refine Kx.boxt HB rfl rfl ?_ | refine Kx.box1 HB rfl rfl ?_); clear HB; intro b10 w_ HB; refine Kx.fr ?_) | ((with_reducible refine Kx.alloc_gate (d := some 10) ?_); (first | refine Kx.ala HB ?_ | refine Kx.al1 HB ?_); clear HB; intro b10 w_ HB; refine Kx.fr ?_) | ((with_reducible refine Kx.box_gate ?_); (first | refine Kx.boxa HB rfl ?_ | refine Kx.boxt HB rfl rfl ?_ | refine Kx.box1 HB rfl rfl ?_); clear HB; intro b_ w_ HB; refine Kx.fr ?_) | ((with_reducible refine Kx.alloc_gate ?_); (first | refine Kx.ala HB ?_ | refine Kx.al1 HB ?_); clear HB; intro b_ w_ HB; refine Kx.fr ?_) | ((with_reducible refine Kx.loads_gate ?_); first | refine Kx.l1 HB rfl rfl ?_ | refine Kx.la HB rfl ?_ | refine Kx.lo HB rfl HC.out ?_) | ((with_reducible refine Kx.loadg_gate ?_); first | refine Kx.l1g HB rfl rfl rfl ?_ | refine Kx.lag HB rfl rfl ?_ | refine Kx.log HB rfl HC.out rfl ?_) | ((with_reducible refine Kx.store_gate ?_); (first | refine Kx.stwa HB rfl rfl ?_ | refine Kx.sta HB rfl rfl ?_ | refine Kx.stc HB rfl rfl ?_ | refine Kx.stt HB rfl rfl rfl ?_ | refine Kx.st1 HB rfl rfl rfl ?_); clear HB; intro w_ HB)))
      rw [i64s_snoc] at HB
      go_wp2_with (first | ((with_reducible refine Kx.absorb HB ?_); clear HB; intro w_ HB) | ((with_reducible refine Kx.box_gate (d := some 5) ?_); (first | refine Kx.boxa HB rfl ?_ | refine Kx.boxt HB rfl rfl ?_ | refine Kx.box1 HB rfl rfl ?_); clear HB; intro b5 w_ HB; refine Kx.fr ?_) | ((with_reducible refine Kx.alloc_gate (d := some 5) ?_); (first | refine Kx.ala HB ?_ | refine Kx.al1 HB ?_); clear HB; intro b5 w_ HB; refine Kx.fr ?_) | ((with_reducible refine Kx.box_gate (d := some 6) ?_); (first | refine Kx.boxa HB rfl ?_ | refine Kx.boxt HB rfl rfl ?_ | refine Kx.box1 HB rfl rfl ?_); clear HB; intro b6 w_ HB; refine Kx.fr ?_) | ((with_reducible refine Kx.alloc_gate (d := some 6) ?_); (first | refine Kx.ala HB ?_ | refine Kx.al1 HB ?_); clear HB; intro b6 w_ HB; refine Kx.fr ?_) | ((with_reducible refine Kx.box_gate (d := some 10) ?_); (first | refine Kx.boxa HB rfl ?_ | refine Kx.boxt HB rfl rfl ?_ | refine Kx.box1 HB rfl rfl ?_); clear HB; intro b10 w_ HB; refine Kx.fr ?_) | ((with_reducible refine Kx.alloc_gate (d := some 10) ?_); (first | refine Kx.ala HB ?_ | refine Kx.al1 HB ?_); clear HB; intro b10 w_ HB; refine Kx.fr ?_) | ((with_reducible refine Kx.box_gate ?_); (first | refine Kx.boxa HB rfl ?_ | refine Kx.boxt HB rfl rfl ?_ | refine Kx.box1 HB rfl rfl ?_); clear HB; intro b_ w_ HB; refine Kx.fr ?_) | ((with_reducible refine Kx.alloc_gate ?_); (first | refine Kx.ala HB ?_ | refine Kx.al1 HB ?_); clear HB; intro b_ w_ HB; refine Kx.fr ?_) | ((with_reducible refine Kx.loads_gate ?_); first | refine Kx.l1 HB rfl rfl ?_ | refine Kx.la HB rfl ?_ | refine Kx.lo HB rfl HC.out ?_) | ((with_reducible refine Kx.loadg_gate ?_); first | refine Kx.l1g HB rfl rfl rfl ?_ | refine Kx.lag HB rfl rfl ?_ | refine Kx.log HB rfl HC.out rfl ?_) | ((with_reducible refine Kx.store_gate ?_); (first | refine Kx.stwa HB rfl rfl ?_ | refine Kx.sta HB rfl rfl ?_ | refine Kx.stc HB rfl rfl ?_ | refine Kx.stt HB rfl rfl rfl ?_ | refine Kx.st1 HB rfl rfl rfl ?_); clear HB; intro w_ HB))
      refine bodyPost_ret (Kx.results_x HB rfl _ _ _ rfl (by simp <;> rfl) (by simp <;> rfl)) rfl ?_; exact ⟨A_, c_, rfl, HB.out.below, HB.out.newRow (A := A_), by omega⟩
    | true =>
      simp only [if_true]
      go_enter Tryd.func27, Tryd.ntmps27
      go_upto_region 9 with (first | ((with_reducible refine Kx.alloced_gate ?_); refine Kx.absorb_row 0 1 rfl (by decide) HB ?_; clear HB; intro w_ HB) | (at_builtin; first | (refine Kx.wpList_app_x HB rfl _ _ 26 rfl _ _ _ rfl 8 2 1 _ rfl Tryd.underlying26 (by kernel_rfl) (by decide) _ _ _ rfl _ (Kc.i64s ch) (HR.out.below HB.out.below) (by (first | (rw [hlc, Nat.mul_one]) | exact i64s_cells ch | (unfold maxLen; omega) | omega)) (by (first | (rw [hlc, Nat.mul_one]) | exact i64s_cells ch | (unfold maxLen; omega) | omega)) (by (first | (rw [hlc, Nat.mul_one]) | exact i64s_cells ch | (unfold maxLen; omega) | omega)) (by (first | (rw [hlc, Nat.mul_one]) | exact i64s_cells ch | (unfold maxLen; omega) | omega)) ?_; clear HB; intro A_ c_ w_ hl_ hm_ HB; refine Kx.framed ?_ (by simp only [Act.put, List.setIfInBounds_toArray, List.set_cons_succ, List.set_cons_zero] <;> rfl)) | (refine Kx.wpList_appn_x HB rfl _ _ 26 rfl rfl 8 2 1 Tryd.underlying26 (by kernel_rfl) (by decide) _ _ _ rfl _ (Kc.i64s ch) (HR.out.below HB.out.below) (by (first | (rw [hlc, Nat.mul_one]) | exact i64s_cells ch | (unfold maxLen; omega) | omega)) (by (first | (rw [hlc, Nat.mul_one]) | exact i64s_cells ch | (unfold maxLen; omega) | omega)) (by (first | (rw [hlc, Nat.mul_one]) | exact i64s_cells ch | (unfold maxLen; omega) | omega)) (by (first | (rw [hlc, Nat.mul_one]) | exact i64s_cells ch | (unfold maxLen; omega) | omega)) ?_; clear HB; intro A_ c_ w_ hl_ hm_ HB; refine Kx.framed ?_ (by simp only [Act.put, List.setIfInBounds_toArray, List.set_cons_succ, List.set_cons_zero] <;> rfl))) | (first | ((with_reducible refine Kx.absorb HB ?_); clear HB; intro w_ HB) | ((with_reducible refine Kx.box_gate (d := some 5) ?_); (first | refine Kx.boxa HB rfl ?_ | refine Kx.boxt HB rfl rfl ?_ | refine Kx.box1 HB rfl rfl ?_); clear HB; intro b5 w_ HB; refine Kx.fr ?_) | ((with_reducible refine Kx.alloc_gate (d := some 5) ?_); (first | refine Kx.ala HB ?_ | refine Kx.al1 HB ?_); clear HB; intro b5 w_ HB; refine Kx.fr ?_) | ((with_reducible refine Kx.box_gate (d := some 6) ?_); (first | refine Kx.boxa HB rfl ?_ | refine Kx.boxt HB rfl rfl ?_ | refine Kx.box1 HB rfl rfl ?_); clear HB; intro b6 w_ HB; refine Kx.fr ?_) | ((with_reducible refine Kx.alloc_gate (d := some 6) ?_); (first | refine Kx.ala HB ?_ | refine Kx.al1 HB ?_); clear HB; intro b6 w_ HB; refine Kx.fr ?_) | ((with_reducible refine Kx.box_gate (d := some 10) ?_); (first | refine Kx.boxa HB rfl ?_ | refine Kx.boxt HB rfl rfl ?_ | refine Kx.box1 HB rfl rfl ?_); clear HB; intro b10 w_ HB; refine Kx.fr ?_) | ((with_reducible refine Kx.alloc_gate (d := some 10) ?_); (first | refine Kx.ala HB ?_ | refine Kx.al1 HB ?_); clear HB; intro b10 w_ HB; refine Kx.fr ?_) | ((with_reducible refine Kx.box_gate ?_); (first | refine Kx.boxa HB rfl ?_ | refine Kx.boxt HB rfl rfl ?_ | refine Kx.box1 HB rfl rfl ?_); clear HB; intro b_ w_ HB; refine Kx.fr ?_) | ((with_reducible refine Kx.alloc_gate ?_); (first | refine Kx.ala HB ?_ | refine Kx.al1 HB ?_); clear HB; intro b_ w_ HB; refine Kx.fr ?_) | ((with_reducible refine Kx.loads_gate ?_); first | refine Kx.l1 HB rfl rfl ?_ | refine Kx.la HB rfl ?_ | refine Kx.lo HB rfl HC.out ?_) | ((with_reducible refine Kx.loadg_gate ?_); first | refine Kx.l1g HB rfl rfl rfl ?_ | refine Kx.lag HB rfl rfl ?_ | refine Kx.log HB rfl HC.out rfl ?_) | ((with_reducible refine Kx.store_gate ?_); (first | refine Kx.stwa HB rfl rfl ?_ | refine Kx.sta HB rfl rfl ?_ | refine Kx.stc HB rfl rfl ?_ | refine Kx.stt HB rfl rfl rfl ?_ | refine Kx.st1 HB rfl rfl rfl ?_); clear HB; intro w_ HB)))
      rw [Nat.zero_add, List.nil_append] at HB
      rw [Nat.zero_add] at hl_ ⊢
      go_upto_region 12 with (first | (at_builtin; first | (refine Kx.wpList_app_x HB rfl _ _ 26 rfl _ _ _ rfl 8 2 1 _ rfl Tryd.underlying26 (by kernel_rfl) (by decide) _ _ _ rfl _ ([Value.int .i64 xst]) (HB.out.rd) (by (first | rfl | (intro u hu; rw [List.mem_singleton] at hu; subst hu; rfl) | (unfold maxLen; omega) | omega)) (by (first | rfl | (intro u hu; rw [List.mem_singleton] at hu; subst hu; rfl) | (unfold maxLen; omega) | omega)) (by (first | rfl | (intro u hu; rw [List.mem_singleton] at hu; subst hu; rfl) | (unfold maxLen; omega) | omega)) (by (first | rfl | (intro u hu; rw [List.mem_singleton] at hu; subst hu; rfl) | (unfold maxLen; omega) | omega)) ?_; clear HB; intro A_ c_ w_ hl_ hm_ HB; refine Kx.framed ?_ (by simp only [Act.put, List.setIfInBounds_toArray, List.set_cons_succ, List.set_cons_zero] <;> rfl)) | (refine Kx.wpList_appn_x HB rfl _ _ 26 rfl rfl 8 2 1 Tryd.underlying26 (by kernel_rfl) (by decide) _ _ _ rfl _ ([Value.int .i64 xst]) (HB.out.rd) (by (first | rfl | (intro u hu; rw [List.mem_singleton] at hu; subst hu; rfl) | (unfold maxLen; omega) | omega)) (by (first | rfl | (intro u hu; rw [List.mem_singleton] at hu; subst hu; rfl) | (unfold maxLen; omega) | omega)) (by (first | rfl | (intro u hu; rw [List.mem_singleton] at hu; subst hu; rfl) | (unfold maxLen; omega) | omega)) (by (first | rfl | (intro u hu; rw [List.mem_singleton] at hu; subst hu; rfl) | (unfold maxLen; omega) | omega)) ?_; clear HB; intro A_ c_ w_ hl_ hm_ HB; refine Kx.framed ?_ (by simp only [Act.put, List.setIfInBounds_toArray, List.set_cons_succ, List.set_cons_zero] <;> rfl))) | (first | ((with_reducible refine Kx.absorb HB ?_); clear HB; intro w_ HB) | ((with_reducible refine Kx.box_gate (d := some 5) ?_); (first | refine Kx.boxa HB rfl ?_ | refine Kx.boxt HB rfl rfl ?_ | refine Kx.box1 HB rfl rfl ?_); clear HB; intro b5 w_ HB; refine Kx.fr ?_) | ((with_reducible refine Kx.alloc_gate (d := some 5) ?_); (first | refine Kx.ala HB ?_ | refine Kx.al1 HB ?_); clear HB; intro b5 w_ HB; refine Kx.fr ?_) | ((with_reducible refine Kx.box_gate (d := some 6) ?_); (first | refine Kx.boxa HB rfl ?_ | refine Kx.boxt HB rfl rfl ?_ | refine Kx.box1 HB rfl rfl ?_); clear HB; intro b6 w_ HB; refine Kx.fr ?_) | ((with_reducible refine Kx.alloc_gate (d := some 6) ?_); (first | refine Kx.ala HB ?_ | refine Kx.al1 HB ?_); clear HB; intro b6 w_ HB; refine Kx.fr ?_) | ((with_reducible refine Kx.box_gate (d := some 10) ?_); (first | refine Kx.boxa HB rfl ?_ | refine Kx.boxt HB rfl rfl ?_ | refine Kx.box1 HB rfl rfl ?_); clear HB; intro b10 w_ HB; refine Kx.fr ?_) | ((with_reducible refine Kx.alloc_gate (d := some 10) ?_); (first | refine Kx.ala HB ?_ | refine Kx.al1 HB ?_); clear HB; intro b10 w_ HB; refine Kx.fr ?_) | ((with_reducible refine Kx.box_gate ?_); (first | refine Kx.boxa HB rfl ?_ | refine Kx.boxt HB rfl rfl ?_ | refine Kx.box1 HB rfl rfl ?_); clear HB; intro b_ w_ HB; refine Kx.fr ?_) | ((with_reducible refine Kx.alloc_gate ?_); (first | refine Kx.ala HB ?_ | refine Kx.al1 HB ?_); clear HB; intro b_ w_ HB; refine Kx.fr ?_) | ((with_reducible refine Kx.loads_gate ?_); first | refine Kx.l1 HB rfl rfl ?_ | refine Kx.la HB rfl ?_ | refine Kx.lo HB rfl HC.out ?_) | ((with_reducible refine Kx.loadg_gate ?_); first | refine Kx.l1g HB rfl rfl rfl ?_ | refine Kx.lag HB rfl rfl ?_ | refine Kx.log HB rfl HC.out rfl ?_) | ((with_reducible refine Kx.store_gate ?_); (first | refine Kx.stwa HB rfl rfl ?_ | refine Kx.sta HB rfl rfl ?_ | refine Kx.stc HB rfl rfl ?_ | refine Kx.stt HB rfl rfl rfl ?_ | refine Kx.st1 HB rfl rfl rfl ?_); clear HB; intro w_ HB)))
      rw [i64s_snoc] at HB
      go_wp2_with (first | ((with_reducible refine Kx.absorb HB ?_); clear HB; intro w_ HB) | ((with_reducible refine Kx.box_gate (d := some 5) ?_); (first | refine Kx.boxa HB rfl ?_ | refine Kx.boxt HB rfl rfl ?_ | refine Kx.box1 HB rfl rfl ?_); clear HB; intro b5 w_ HB; refine Kx.fr ?_) | ((with_reducible refine Kx.alloc_gate (d := some 5) ?_); (first | refine Kx.ala HB ?_ | refine Kx.al1 HB ?_); clear HB; intro b5 w_ HB; refine Kx.fr ?_) | ((with_reducible refine Kx.box_gate (d := some 6) ?_); (first | refine Kx.boxa HB rfl ?_ | refine Kx.boxt HB rfl rfl ?_ | refine Kx.box1 HB rfl rfl ?_); clear HB; intro b6 w_ HB; refine Kx.fr ?_) | ((with_reducible refine Kx.alloc_gate (d := some 6) ?_); (first | refine Kx.ala HB ?_ | refine Kx.al1 HB ?_); clear HB; intro b6 w_ HB; refine Kx.fr ?_) | ((with_reducible refine Kx.box_gate (d := some 10) ?_); (first | refine Kx.boxa HB rfl ?_ | refine Kx.boxt HB rfl rfl ?_ | refine Kx.box1 HB rfl rfl ?_); clear HB; intro b10 w_ HB; refine Kx.fr ?_) | ((with_reducible refine Kx.alloc_gate (d := some 10) ?_); (first | refine Kx.ala HB ?_ | refine Kx.al1 HB ?_); clear HB; intro b10 w_ HB; refine Kx.fr ?_) | ((with_reducible refine Kx.box_gate ?_); (first | refine Kx.boxa HB rfl ?_ | refine Kx.boxt HB rfl rfl ?_ | refine Kx.box1 HB rfl rfl ?_); clear HB; intro b_ w_ HB; refine Kx.fr ?_) | ((with_reducible refine Kx.alloc_gate ?_); (first | refine Kx.ala HB ?_ | refine Kx.al1 HB ?_); clear HB; intro b_ w_ HB; refine Kx.fr ?_) | ((with_reducible refine Kx.loads_gate ?_); first | refine Kx.l1 HB rfl rfl ?_ | refine Kx.la HB rfl ?_ | refine Kx.lo HB rfl HC.out ?_) | ((with_reducible refine Kx.loadg_gate ?_); first | refine Kx.l1g HB rfl rfl rfl ?_ | refine Kx.lag HB rfl rfl ?_ | refine Kx.log HB rfl HC.out rfl ?_) | ((with_reducible refine Kx.store_gate ?_); (first | refine Kx.stwa HB rfl rfl ?_ | refine Kx.sta HB rfl rfl ?_ | refine Kx.stc HB rfl rfl ?_ | refine Kx.stt HB rfl rfl rfl ?_ | refine Kx.st1 HB rfl rfl rfl ?_); clear HB; intro w_ HB))
      refine bodyPost_ret (Kx.results_x HB rfl _ _ _ rfl (by simp <;> rfl) (by simp <;> rfl)) rfl ?_; exact ⟨A_, c_, rfl, HB.out.below, HB.out.newRow (A := A_), by omega⟩
  · obtain rfl : n' = b := by omega
    obtain rfl : k = 1 := by omega
    have d1 : decide (c.b ≤ (n' : Int)) = true := by simp; omega
    have hw1 : IntKind.i64.wrap ((n' : Int) - c.b) = 0 := by rw [hb, IntKind.wrap_i64]; omega
    have hn1 : (1 : Int) ≤ (n' : Int) := by omega
    obtain ⟨m, hm⟩ : ∃ m, n' - 1 = m := ⟨_, rfl⟩
    rw [hm]
    clear hb hkk hnb hfew
    obtain ⟨cd, hcd⟩ : ∃ cd, ch.drop 1 = cd := ⟨_, rfl⟩
    rw [hcd]
    have HCD := Lib.hid hcd
    clear hcd
    cases must with
    | false =>
      simp only [Bool.false_eq_true, if_false]
      go_enter Tryd.func27, Tryd.ntmps27
      go_upto_region 9 with (first | ((with_reducible refine Kx.alloced_gate ?_); refine Kx.absorb_row 0 1 rfl (by decide) HB ?_; clear HB; intro w_ HB) | (at_builtin; first | (refine Kx.wpList_app_x HB rfl _ _ 26 rfl _ _ _ rfl 8 2 1 _ rfl Tryd.underlying26 (by kernel_rfl) (by decide) _ _ _ rfl _ (Kc.i64s ch) (HR.out.below HB.out.below) (by (first | (rw [hlc, Nat.mul_one]) | exact i64s_cells ch | (unfold maxLen; omega) | omega)) (by (first | (rw [hlc, Nat.mul_one]) | exact i64s_cells ch | (unfold maxLen; omega) | omega)) (by (first | (rw [hlc, Nat.mul_one]) | exact i64s_cells ch | (unfold maxLen; omega) | omega)) (by (first | (rw [hlc, Nat.mul_one]) | exact i64s_cells ch | (unfold maxLen; omega) | omega)) ?_; clear HB; intro A_ c_ w_ hl_ hm_ HB; refine Kx.framed ?_ (by simp only [Act.put, List.setIfInBounds_toArray, List.set_cons_succ, List.set_cons_zero] <;> rfl)) | (refine Kx.wpList_appn_x HB rfl _ _ 26 rfl rfl 8 2 1 Tryd.underlying26 (by kernel_rfl) (by decide) _ _ _ rfl _ (Kc.i64s ch) (HR.out.below HB.out.below) (by (first | (rw [hlc, Nat.mul_one]) | exact i64s_cells ch | (unfold maxLen; omega) | omega)) (by (first | (rw [hlc, Nat.mul_one]) | exact i64s_cells ch | (unfold maxLen; omega) | omega)) (by (first | (rw [hlc, Nat.mul_one]) | exact i64s_cells ch | (unfold maxLen; omega) | omega)) (by (first | (rw [hlc, Nat.mul_one]) | exact i64s_cells ch | (unfold maxLen; omega) | omega)) ?_; clear HB; intro A_ c_ w_ hl_ hm_ HB; refine Kx.framed ?_ (by simp only [Act.put, List.setIfInBounds_toArray, List.set_cons_succ, List.set_cons_zero] <;> rfl))) | (first | ((with_reducible refine Kx.absorb HB ?_); clear HB; intro w_ HB) | ((with_reducible refine Kx.box_gate (d := some 5) ?_); (first | refine Kx.boxa HB rfl ?_ | refine Kx.boxt HB rfl rfl ?_ | refine Kx.box1 HB rfl rfl ?_); clear HB; intro b5 w_ HB; refine Kx.fr ?_) | ((with_reducible refine Kx.alloc_gate (d := some 5) ?_); (first | refine Kx.ala HB ?_ | refine Kx.al1 HB ?_); clear HB; intro b5 w_ HB; refine Kx.fr ?_) | ((with_reducible refine Kx.box_gate (d := some 6) ?_); (first | refine Kx.boxa HB rfl ?_ | refine Kx.boxt HB rfl rfl ?_ | refine Kx.box1 HB rfl rfl ?_); clear HB; intro b6 w_ HB; refine Kx.fr ?_) | ((with_reducible refine Kx.alloc_gate (d := some 6) ?_); (first | refine Kx.ala HB ?_ | refine Kx.al1 HB ?_); clear HB; intro b6 w_ HB; refine Kx.fr ?_) | ((with_reducible refine Kx.box_gate (d := some 10) ?_); (first | refine Kx.boxa HB rfl ?_ | refine Kx.boxt HB rfl rfl ?_ | refine Kx.box1 HB rfl rfl ?_); clear HB; intro b10 w_ HB; refine Kx.fr ?_) | ((with_reducible refine Kx.alloc_gate (d := some 10) ?_); (first | refine Kx.ala HB ?_ | refine Kx.al1 HB ?_); clear HB; intro b10 w_ HB; refine Kx.fr ?_) | ((with_reducible refine Kx.box_gate ?_); (first | refine Kx.boxa HB rfl ?_ | refine Kx.boxt HB rfl rfl ?_ | refine Kx.box1 HB rfl rfl ?_); clear HB; intro b_ w_ HB; refine Kx.fr ?_) | ((with_reducible refine Kx.alloc_gate ?_); (first | refine Kx.ala HB ?_ | refine Kx.al1 HB ?_); clear HB; intro b_ w_ HB; refine Kx.fr ?_) | ((with_reducible refine Kx.loads_gate ?_); first | refine Kx.l1 HB rfl rfl ?_ | refine Kx.la HB rfl ?_ | refine Kx.lo HB rfl HC.out ?_) | ((with_reducible refine Kx.loadg_gate ?_); first | refine Kx.l1g HB rfl rfl rfl ?_ | refine Kx.lag HB rfl rfl ?_ | refine Kx.log HB rfl HC.out rfl ?_) | ((with_reducible refine Kx.store_gate ?_); (first | refine Kx.stwa HB rfl rfl ?_ | refine Kx.sta HB rfl rfl ?_ | refine Kx.stc HB rfl rfl ?_ | refine Kx.stt HB rfl rfl rfl ?_ | refine Kx.st1 HB rfl rfl rfl ?_); clear HB; intro w_ HB)))
      rw [Nat.zero_add, List.nil_append] at HB
      rw [Nat.zero_add] at hl_ ⊢
      obtain ⟨g, rfl⟩ : ∃ g, A_ = some ⟨g, 0, none⟩ := by
        rcases (HB.out.rows _ (List.mem_cons_self ..)).1.2 with ⟨-, e0⟩ | ⟨g, cap, cur, e, -⟩
        · have e0 : n' = 0 := e0
          omega
        · cases e
          exact ⟨g, rfl⟩
      have hcut : ∀ W, (Instr.slice 26 (.slice (some ⟨g, 0, none⟩) n' c_) (some (.int .i64 1)) none none).run Tryd.prog W = .ok (.slice (cutA (some ⟨g, 0, none⟩) 1 c_) (n' - 1) (c_ - 1)) W := fun W => run_cut_l (P := Tryd.prog) Tryd.underlying26 (fun w => Tryd.sizeOf2 w) _ n' c_ 1 (by omega) W
      rw [hm] at hcut
      by_cases hroom : n' + 1 ≤ c_
      · obtain ⟨c2, hc2⟩ : ∃ c2, c_ - 1 = c2 := ⟨_, rfl⟩
        have hca : cutA (some ⟨g, 0, none⟩) 1 c_ = some ⟨g, 1, none⟩ := by unfold cutA; rw [if_neg (by omega)]; rfl
        rw [hc2, hca] at hcut
        clear hca
        go_upto_region 12 with (first | (at_builtin; refine Kx.wpList_appTail_x HB rfl _ _ 26 rfl i0 (.int .i64 0) 8 Tryd.underlying26 hi hz0 hz1 hz2 rfl 1 m c2 rfl _ 1 (.int .i64 xst) rfl rfl (by omega) (by omega) (by omega) (by omega) (by decide) ?_; clear HB; intro w_ HB; refine Kx.fr ?_) | (first | ((with_reducible refine Kx.absorb HB ?_); clear HB; intro w_ HB) | ((with_reducible refine Kx.box_gate (d := some 5) ?_); (first | refine Kx.boxa HB rfl ?_ | refine Kx.boxt HB rfl rfl ?_ | refine Kx.box1 HB rfl rfl ?_); clear HB; intro b5 w_ HB; refine Kx.fr ?_) | ((with_reducible refine Kx.alloc_gate (d := some 5) ?_); (first | refine Kx.ala HB ?_ | refine Kx.al1 HB ?_); clear HB; intro b5 w_ HB; refine Kx.fr ?_) | ((with_reducible refine Kx.box_gate (d := some 6) ?_); (first | refine Kx.boxa HB rfl ?_ | refine Kx.boxt HB rfl rfl ?_ | refine Kx.box1 HB rfl rfl ?_); clear HB; intro b6 w_ HB; refine Kx.fr ?_) | ((with_reducible refine Kx.alloc_gate (d := some 6) ?_); (first | refine Kx.ala HB ?_ | refine Kx.al1 HB ?_); clear HB; intro b6 w_ HB; refine Kx.fr ?_) | ((with_reducible refine Kx.box_gate (d := some 10) ?_); (first | refine Kx.boxa HB rfl ?_ | refine Kx.boxt HB rfl rfl ?_ | refine Kx.box1 HB rfl rfl ?_); clear HB; intro b10 w_ HB; refine Kx.fr ?_) | ((with_reducible refine Kx.alloc_gate (d := some 10) ?_); (first | refine Kx.ala HB ?_ | refine Kx.al1 HB ?_); clear HB; intro b10 w_ HB; refine Kx.fr ?_) | ((with_reducible refine Kx.box_gate ?_); (first | refine Kx.boxa HB rfl ?_ | refine Kx.boxt HB rfl rfl ?_ | refine Kx.box1 HB rfl rfl ?_); clear HB; intro b_ w_ HB; refine Kx.fr ?_) | ((with_reducible refine Kx.alloc_gate ?_); (first | refine Kx.ala HB ?_ | refine Kx.al1 HB ?_); clear HB; intro b_ w_ HB; refine Kx.fr ?_) | ((with_reducible refine Kx.loads_gate ?_); first | refine Kx.l1 HB rfl rfl ?_ | refine Kx.la HB rfl ?_ | refine Kx.lo HB rfl HC.out ?_) | ((with_reducible refine Kx.loadg_gate ?_); first | refine Kx.l1g HB rfl rfl rfl ?_ | refine Kx.lag HB rfl rfl ?_ | refine Kx.log HB rfl HC.out rfl ?_) | ((with_reducible refine Kx.store_gate ?_); (first | refine Kx.stwa HB rfl rfl ?_ | refine Kx.sta HB rfl rfl ?_ | refine Kx.stc HB rfl rfl ?_ | refine Kx.stt HB rfl rfl rfl ?_ | refine Kx.st1 HB rfl rfl rfl ?_); clear HB; intro w_ HB)))
        rw [i64s_snoc] at HB
        have HDR : Hid (Kc.i64s (cd ++ [xst]) = (Kc.i64s (ch ++ [xst])).drop 1) := Lib.hid (by rw [i64s_drop, ← HCD.out, List.drop_append_of_le_length (by rw [HN.out]; omega)])
        go_wp2_with (first | ((with_reducible refine Kx.absorb HB ?_); clear HB; intro w_ HB) | ((with_reducible refine Kx.box_gate (d := some 5) ?_); (first | refine Kx.boxa HB rfl ?_ | refine Kx.boxt HB rfl rfl ?_ | refine Kx.box1 HB rfl rfl ?_); clear HB; intro b5 w_ HB; refine Kx.fr ?_) | ((with_reducible refine Kx.alloc_gate (d := some 5) ?_); (first | refine Kx.ala HB ?_ | refine Kx.al1 HB ?_); clear HB; intro b5 w_ HB; refine Kx.fr ?_) | ((with_reducible refine Kx.box_gate (d := some 6) ?_); (first | refine Kx.boxa HB rfl ?_ | refine Kx.boxt HB rfl rfl ?_ | refine Kx.box1 HB rfl rfl ?_); clear HB; intro b6 w_ HB; refine Kx.fr ?_) | ((with_reducible refine Kx.alloc_gate (d := some 6) ?_); (first | refine Kx.ala HB ?_ | refine Kx.al1 HB ?_); clear HB; intro b6 w_ HB; refine Kx.fr ?_) | ((with_reducible refine Kx.box_gate (d := some 10) ?_); (first | refine Kx.boxa HB rfl ?_ | refine Kx.boxt HB rfl rfl ?_ | refine Kx.box1 HB rfl rfl ?_); clear HB; intro b10 w_ HB; refine Kx.fr ?_) | ((with_reducible refine Kx.alloc_gate (d := some 10) ?_); (first | refine Kx.ala HB ?_ | refine Kx.al1 HB ?_); clear HB; intro b10 w_ HB; refine Kx.fr ?_) | ((with_reducible refine Kx.box_gate ?_); (first | refine Kx.boxa HB rfl ?_ | refine Kx.boxt HB rfl rfl ?_ | refine Kx.box1 HB rfl rfl ?_); clear HB; intro b_ w_ HB; refine Kx.fr ?_) | ((with_reducible refine Kx.alloc_gate ?_); (first | refine Kx.ala HB ?_ | refine Kx.al1 HB ?_); clear HB; intro b_ w_ HB; refine Kx.fr ?_) | ((with_reducible refine Kx.loads_gate ?_); first | refine Kx.l1 HB rfl rfl ?_ | refine Kx.la HB rfl ?_ | refine Kx.lo HB rfl HC.out ?_) | ((with_reducible refine Kx.loadg_gate ?_); first | refine Kx.l1g HB rfl rfl rfl ?_ | refine Kx.lag HB rfl rfl ?_ | refine Kx.log HB rfl HC.out rfl ?_) | ((with_reducible refine Kx.store_gate ?_); (first | refine Kx.stwa HB rfl rfl ?_ | refine Kx.sta HB rfl rfl ?_ | refine Kx.stc HB rfl rfl ?_ | refine Kx.stt HB rfl rfl rfl ?_ | refine Kx.st1 HB rfl rfl rfl ?_); clear HB; intro w_ HB))
        refine bodyPost_ret (Kx.results_x HB rfl _ _ _ rfl (by simp <;> rfl) (by simp <;> rfl)) rfl ?_; exact ⟨some ⟨g, 1, none⟩, c2, rfl, HB.out.below, by rw [HDR.out]; exact Kx.New.tail (HB.out.newRow (A := some ⟨g, 0, none⟩)), by omega⟩
      · obtain rfl : c_ = n' := by omega
        rw [hm] at hcut
        have HRC : Hid (∀ W lb, Bxs w W lb [⟨some ⟨g, 0, none⟩, c_, 2, 1, c_, Kc.i64s ch⟩] → Rd W W.heap.size (cutA (some ⟨g, 0, none⟩) 1 c_) (Kc.i64s cd)) := Lib.hid (fun W lb z => by rw [← HCD.out, ← i64s_drop]; exact Rd.cutA (z.rowRd (A := some ⟨g, 0, none⟩)) (by rw [hlc]; exact Nat.le_refl _))
        have hdl : (Kc.i64s cd).length = m := by rw [i64s_len, ← HCD.out, List.length_drop, HN.out, hm]
        generalize cutA (some ⟨g, 0, none⟩) 1 c_ = CA at *
        go_upto_region 12 with (first | (at_builtin; refine Kx.wpList_appFull_x HB rfl _ _ 26 rfl i0 (.int .i64 0) 8 Tryd.underlying26 hi hz0 hz1 hz2 rfl CA m rfl (Kc.i64s cd) hdl (HRC.out _ _ HB.out) _ 1 (.int .i64 xst) rfl (by omega) (by decide) ?_; clear HB; intro g2 c2 w_ HB; refine Kx.fr ?_) | (first | ((with_reducible refine Kx.absorb HB ?_); clear HB; intro w_ HB) | ((with_reducible refine Kx.box_gate (d := some 5) ?_); (first | refine Kx.boxa HB rfl ?_ | refine Kx.boxt HB rfl rfl ?_ | refine Kx.box1 HB rfl rfl ?_); clear HB; intro b5 w_ HB; refine Kx.fr ?_) | ((with_reducible refine Kx.alloc_gate (d := some 5) ?_); (first | refine Kx.ala HB ?_ | refine Kx.al1 HB ?_); clear HB; intro b5 w_ HB; refine Kx.fr ?_) | ((with_reducible refine Kx.box_gate (d := some 6) ?_); (first | refine Kx.boxa HB rfl ?_ | refine Kx.boxt HB rfl rfl ?_ | refine Kx.box1 HB rfl rfl ?_); clear HB; intro b6 w_ HB; refine Kx.fr ?_) | ((with_reducible refine Kx.alloc_gate (d := some 6) ?_); (first | refine Kx.ala HB ?_ | refine Kx.al1 HB ?_); clear HB; intro b6 w_ HB; refine Kx.fr ?_) | ((with_reducible refine Kx.box_gate (d := some 10) ?_); (first | refine Kx.boxa HB rfl ?_ | refine Kx.boxt HB rfl rfl ?_ | refine Kx.box1 HB rfl rfl ?_); clear HB; intro b10 w_ HB; refine Kx.fr ?_) | ((with_reducible refine Kx.alloc_gate (d := some 10) ?_); (first | refine Kx.ala HB ?_ | refine Kx.al1 HB ?_); clear HB; intro b10 w_ HB; refine Kx.fr ?_) | ((with_reducible refine Kx.box_gate ?_); (first | refine Kx.boxa HB rfl ?_ | refine Kx.boxt HB rfl rfl ?_ | refine Kx.box1 HB rfl rfl ?_); clear HB; intro b_ w_ HB; refine Kx.fr ?_) | ((with_reducible refine Kx.alloc_gate ?_); (first | refine Kx.ala HB ?_ | refine Kx.al1 HB ?_); clear HB; intro b_ w_ HB; refine Kx.fr ?_) | ((with_reducible refine Kx.loads_gate ?_); first | refine Kx.l1 HB rfl rfl ?_ | refine Kx.la HB rfl ?_ | refine Kx.lo HB rfl HC.out ?_) | ((with_reducible refine Kx.loadg_gate ?_); first | refine Kx.l1g HB rfl rfl rfl ?_ | refine Kx.lag HB rfl rfl ?_ | refine Kx.log HB rfl HC.out rfl ?_) | ((with_reducible refine Kx.store_gate ?_); (first | refine Kx.stwa HB rfl rfl ?_ | refine Kx.sta HB rfl rfl ?_ | refine Kx.stc HB rfl rfl ?_ | refine Kx.stt HB rfl rfl rfl ?_ | refine Kx.st1 HB rfl rfl rfl ?_); clear HB; intro w_ HB)))
        rw [i64s_snoc] at HB
        have hle2 := (HB.out.rows _ (List.mem_cons_self ..)).1.le
        go_wp2_with (first | ((with_reducible refine Kx.absorb HB ?_); clear HB; intro w_ HB) | ((with_reducible refine Kx.box_gate (d := some 5) ?_); (first | refine Kx.boxa HB rfl ?_ | refine Kx.boxt HB rfl rfl ?_ | refine Kx.box1 HB rfl rfl ?_); clear HB; intro b5 w_ HB; refine Kx.fr ?_) | ((with_reducible refine Kx.alloc_gate (d := some 5) ?_); (first | refine Kx.ala HB ?_ | refine Kx.al1 HB ?_); clear HB; intro b5 w_ HB; refine Kx.fr ?_) | ((with_reducible refine Kx.box_gate (d := some 6) ?_); (first | refine Kx.boxa HB rfl ?_ | refine Kx.boxt HB rfl rfl ?_ | refine Kx.box1 HB rfl rfl ?_); clear HB; intro b6 w_ HB; refine Kx.fr ?_) | ((with_reducible refine Kx.alloc_gate (d := some 6) ?_); (first | refine Kx.ala HB ?_ | refine Kx.al1 HB ?_); clear HB; intro b6 w_ HB; refine Kx.fr ?_) | ((with_reducible refine Kx.box_gate (d := some 10) ?_); (first | refine Kx.boxa HB rfl ?_ | refine Kx.boxt HB rfl rfl ?_ | refine Kx.box1 HB rfl rfl ?_); clear HB; intro b10 w_ HB; refine Kx.fr ?_) | ((with_reducible refine Kx.alloc_gate (d := some 10) ?_); (first | refine Kx.ala HB ?_ | refine Kx.al1 HB ?_); clear HB; intro b10 w_ HB; refine Kx.fr ?_) | ((with_reducible refine Kx.box_gate ?_); (first | refine Kx.boxa HB rfl ?_ | refine Kx.boxt HB rfl rfl ?_ | refine Kx.box1 HB rfl rfl ?_); clear HB; intro b_ w_ HB; refine Kx.fr ?_) | ((with_reducible refine Kx.alloc_gate ?_); (first | refine Kx.ala HB ?_ | refine Kx.al1 HB ?_); clear HB; intro b_ w_ HB; refine Kx.fr ?_) | ((with_reducible refine Kx.loads_gate ?_); first | refine Kx.l1 HB rfl rfl ?_ | refine Kx.la HB rfl ?_ | refine Kx.lo HB rfl HC.out ?_) | ((with_reducible refine Kx.loadg_gate ?_); first | refine Kx.l1g HB rfl rfl rfl ?_ | refine Kx.lag HB rfl rfl ?_ | refine Kx.log HB rfl HC.out rfl ?_) | ((with_reducible refine Kx.store_gate ?_); (first | refine Kx.stwa HB rfl rfl ?_ | refine Kx.sta HB rfl rfl ?_ | refine Kx.stc HB rfl rfl ?_ | refine Kx.stt HB rfl rfl rfl ?_ | refine Kx.st1 HB rfl rfl rfl ?_); clear HB; intro w_ HB))
        refine bodyPost_ret (Kx.results_x HB rfl _ _ _ rfl (by simp <;> rfl) (by simp <;> rfl)) rfl ?_; exact ⟨some ⟨g2, 0, none⟩, c2, rfl, HB.out.below, HB.out.newRow (A := some ⟨g2, 0, none⟩), hle2.1⟩
    | true =>
      simp only [if_true]
      go_enter Tryd.func27, Tryd.ntmps27
      go_upto_region 9 with (first | ((with_reducible refine Kx.alloced_gate ?_); refine Kx.absorb_row 0 1 rfl (by decide) HB ?_; clear HB; intro w_ HB) | (at_builtin; first | (refine Kx.wpList_app_x HB rfl _ _ 26 rfl _ _ _ rfl 8 2 1 _ rfl Tryd.underlying26 (by kernel_rfl) (by decide) _ _ _ rfl _ (Kc.i64s ch) (HR.out.below HB.out.below) (by (first | (rw [hlc, Nat.mul_one]) | exact i64s_cells ch | (unfold maxLen; omega) | omega)) (by (first | (rw [hlc, Nat.mul_one]) | exact i64s_cells ch | (unfold maxLen; omega) | omega)) (by (first | (rw [hlc, Nat.mul_one]) | exact i64s_cells ch | (unfold maxLen; omega) | omega)) (by (first | (rw [hlc, Nat.mul_one]) | exact i64s_cells ch | (unfold maxLen; omega) | omega)) ?_; clear HB; intro A_ c_ w_ hl_ hm_ HB; refine Kx.framed ?_ (by simp only [Act.put, List.setIfInBounds_toArray, List.set_cons_succ, List.set_cons_zero] <;> rfl)) | (refine Kx.wpList_appn_x HB rfl _ _ 26 rfl rfl 8 2 1 Tryd.underlying26 (by kernel_rfl) (by decide) _ _ _ rfl _ (Kc.i64s ch) (HR.out.below HB.out.below) (by (first | (rw [hlc, Nat.mul_one]) | exact i64s_cells ch | (unfold maxLen; omega) | omega)) (by (first | (rw [hlc, Nat.mul_one]) | exact i64s_cells ch | (unfold maxLen; omega) | omega)) (by (first | (rw [hlc, Nat.mul_one]) | exact i64s_cells ch | (unfold maxLen; omega) | omega)) (by (first | (rw [hlc, Nat.mul_one]) | exact i64s_cells ch | (unfold maxLen; omega) | omega)) ?_; clear HB; intro A_ c_ w_ hl_ hm_ HB; refine Kx.framed ?_ (by simp only [Act.put, List.setIfInBounds_toArray, List.set_cons_succ, List.set_cons_zero] <;> rfl))) | (first | ((with_reducible refine Kx.absorb HB ?_); clear HB; intro w_ HB) | ((with_reducible refine Kx.box_gate (d := some 5) ?_); (first | refine Kx.boxa HB rfl ?_ | refine Kx.boxt HB rfl rfl ?_ | refine Kx.box1 HB rfl rfl ?_); clear HB; intro b5 w_ HB; refine Kx.fr ?_) | ((with_reducible refine Kx.alloc_gate (d := some 5) ?_); (first | refine Kx.ala HB ?_ | refine Kx.al1 HB ?_); clear HB; intro b5 w_ HB; refine Kx.fr ?_) | ((with_reducible refine Kx.box_gate (d := some 6) ?_); (first | refine Kx.boxa HB rfl ?_ | refine Kx.boxt HB rfl rfl ?_ | refine Kx.box1 HB rfl rfl ?_); clear HB; intro b6 w_ HB; refine Kx.fr ?_) | ((with_reducible refine Kx.alloc_gate (d := some 6) ?_); (first | refine Kx.ala HB ?_ | refine Kx.al1 HB ?_); clear HB; intro b6 w_ HB; refine Kx.fr ?_) | ((with_reducible refine Kx.box_gate (d := some 10) ?_); (first | refine Kx.boxa HB rfl ?_ | refine Kx.boxt HB rfl rfl ?_ | refine Kx.box1 HB rfl rfl ?_); clear HB; intro b10 w_ HB; refine Kx.fr ?_) | ((with_reducible refine Kx.alloc_gate (d := some 10) ?_); (first | refine Kx.ala HB ?_ | refine Kx.al1 HB ?_); clear HB; intro b10 w_ HB; refine Kx.fr ?_) | ((with_reducible refine Kx.box_gate ?_); (first | refine Kx.boxa HB rfl ?_ | refine Kx.boxt HB rfl rfl ?_ | refine Kx.box1 HB rfl rfl ?_); clear HB; intro b_ w_ HB; refine Kx.fr ?_) | ((with_reducible refine Kx.alloc_gate ?_); (first | refine Kx.ala HB ?_ | refine Kx.al1 HB ?_); clear HB; intro b_ w_ HB; refine Kx.fr ?_) | ((with_reducible refine Kx.loads_gate ?_); first | refine Kx.l1 HB rfl rfl ?_ | refine Kx.la HB rfl ?_ | refine Kx.lo HB rfl HC.out ?_) | ((with_reducible refine Kx.loadg_gate ?_); first | refine Kx.l1g HB rfl rfl rfl ?_ | refine Kx.lag HB rfl rfl ?_ | refine Kx.log HB rfl HC.out rfl ?_) | ((with_reducible refine Kx.store_gate ?_); (first | refine Kx.stwa HB rfl rfl ?_ | refine Kx.sta HB rfl rfl ?_ | refine Kx.stc HB rfl rfl ?_ | refine Kx.stt HB rfl rfl rfl ?_ | refine Kx.st1 HB rfl rfl rfl ?_); clear HB; intro w_ HB)))
      rw [Nat.zero_add, List.nil_append] at HB
      rw [Nat.zero_add] at hl_ ⊢
      obtain ⟨g, rfl⟩ : ∃ g, A_ = some ⟨g, 0, none⟩ := by
        rcases (HB.out.rows _ (List.mem_cons_self ..)).1.2 with ⟨-, e0⟩ | ⟨g, cap, cur, e, -⟩
        · have e0 : n' = 0 := e0
          omega
        · cases e
          exact ⟨g, rfl⟩
      have hcut : ∀ W, (Instr.slice 26 (.slice (some ⟨g, 0, none⟩) n' c_) (some (.int .i64 1)) none none).run Tryd.prog W = .ok (.slice (cutA (some ⟨g, 0, none⟩) 1 c_) (n' - 1) (c_ - 1)) W := fun W => run_cut_l (P := Tryd.prog) Tryd.underlying26 (fun w => Tryd.sizeOf2 w) _ n' c_ 1 (by omega) W
      rw [hm] at hcut
      by_cases hroom : n' + 1 ≤ c_
      · obtain ⟨c2, hc2⟩ : ∃ c2, c_ - 1 = c2 := ⟨_, rfl⟩
        have hca : cutA (some ⟨g, 0, none⟩) 1 c_ = some ⟨g, 1, none⟩ := by unfold cutA; rw [if_neg (by omega)]; rfl
        rw [hc2, hca] at hcut
        clear hca
        go_upto_region 12 with (first | (at_builtin; refine Kx.wpList_appTail_x HB rfl _ _ 26 rfl i0 (.int .i64 0) 8 Tryd.underlying26 hi hz0 hz1 hz2 rfl 1 m c2 rfl _ 1 (.int .i64 xst) rfl rfl (by omega) (by omega) (by omega) (by omega) (by decide) ?_; clear HB; intro w_ HB; refine Kx.fr ?_) | (first | ((with_reducible refine Kx.absorb HB ?_); clear HB; intro w_ HB) | ((with_reducible refine Kx.box_gate (d := some 5) ?_); (first | refine Kx.boxa HB rfl ?_ | refine Kx.boxt HB rfl rfl ?_ | refine Kx.box1 HB rfl rfl ?_); clear HB; intro b5 w_ HB; refine Kx.fr ?_) | ((with_reducible refine Kx.alloc_gate (d := some 5) ?_); (first | refine Kx.ala HB ?_ | refine Kx.al1 HB ?_); clear HB; intro b5 w_ HB; refine Kx.fr ?_) | ((with_reducible refine Kx.box_gate (d := some 6) ?_); (first | refine Kx.boxa HB rfl ?_ | refine Kx.boxt HB rfl rfl ?_ | refine Kx.box1 HB rfl rfl ?_); clear HB; intro b6 w_ HB; refine Kx.fr ?_) | ((with_reducible refine Kx.alloc_gate (d := some 6) ?_); (first | refine Kx.ala HB ?_ | refine Kx.al1 HB ?_); clear HB; intro b6 w_ HB; refine Kx.fr ?_) | ((with_reducible refine Kx.box_gate (d := some 10) ?_); (first | refine Kx.boxa HB rfl ?_ | refine Kx.boxt HB rfl rfl ?_ | refine Kx.box1 HB rfl rfl ?_); clear HB; intro b10 w_ HB; refine Kx.fr ?_) | ((with_reducible refine Kx.alloc_gate (d := some 10) ?_); (first | refine Kx.ala HB ?_ | refine Kx.al1 HB ?_); clear HB; intro b10 w_ HB; refine Kx.fr ?_) | ((with_reducible refine Kx.box_gate ?_); (first | refine Kx.boxa HB rfl ?_ | refine Kx.boxt HB rfl rfl ?_ | refine Kx.box1 HB rfl rfl ?_); clear HB; intro b_ w_ HB; refine Kx.fr ?_) | ((with_reducible refine Kx.alloc_gate ?_); (first | refine Kx.ala HB ?_ | refine Kx.al1 HB ?_); clear HB; intro b_ w_ HB; refine Kx.fr ?_) | ((with_reducible refine Kx.loads_gate ?_); first | refine Kx.l1 HB rfl rfl ?_ | refine Kx.la HB rfl ?_ | refine Kx.lo HB rfl HC.out ?_) | ((with_reducible refine Kx.loadg_gate ?_); first | refine Kx.l1g HB rfl rfl rfl ?_ | refine Kx.lag HB rfl rfl ?_ | refine Kx.log HB rfl HC.out rfl ?_) | ((with_reducible refine Kx.store_gate ?_); (first | refine Kx.stwa HB rfl rfl ?_ | refine Kx.sta HB rfl rfl ?_ | refine Kx.stc HB rfl rfl ?_ | refine Kx.stt HB rfl rfl rfl ?_ | refine Kx.st1 HB rfl rfl rfl ?_); clear HB; intro w_ HB)))
        rw [i64s_snoc] at HB
        have HDR : Hid (Kc.i64s (cd ++ [xst]) = (Kc.i64s (ch ++ [xst])).drop 1) := Lib.hid (by rw [i64s_drop, ← HCD.out, List.drop_append_of_le_length (by rw [HN.out]; omega)])
        go_wp2_with (first | ((with_reducible refine Kx.absorb HB ?_); clear HB; intro w_ HB) | ((with_reducible refine Kx.box_gate (d := some 5) ?_); (first | refine Kx.boxa HB rfl ?_ | refine Kx.boxt HB rfl rfl ?_ | refine Kx.box1 HB rfl rfl ?_); clear HB; intro b5 w_ HB; refine Kx.fr ?_) | ((with_reducible refine Kx.alloc_gate (d := some 5) ?_); (first | refine Kx.ala HB ?_ | refine Kx.al1 HB ?_); clear HB; intro b5 w_ HB; refine Kx.fr ?_) | ((with_reducible refine Kx.box_gate (d := some 6) ?_); (first | refine Kx.boxa HB rfl ?_ | refine Kx.boxt HB rfl rfl ?_ | refine Kx.box1 HB rfl rfl ?_); clear HB; intro b6 w_ HB; refine Kx.fr ?_) | ((with_reducible refine Kx.alloc_gate (d := some 6) ?_); (first | refine Kx.ala HB ?_ | refine Kx.al1 HB ?_); clear HB; intro b6 w_ HB; refine Kx.fr ?_) | ((with_reducible refine Kx.box_gate (d := some 10) ?_); (first | refine Kx.boxa HB rfl ?_ | refine Kx.boxt HB rfl rfl ?_ | refine Kx.box1 HB rfl rfl ?_); clear HB; intro b10 w_ HB; refine Kx.fr ?_) | ((with_reducible refine Kx.alloc_gate (d := some 10) ?_); (first | refine Kx.ala HB ?_ | refine Kx.al1 HB ?_); clear HB; intro b10 w_ HB; refine Kx.fr ?_) | ((with_reducible refine Kx.box_gate ?_); (first | refine Kx.boxa HB rfl ?_ | refine Kx.boxt HB rfl rfl ?_ | refine Kx.box1 HB rfl rfl ?_); clear HB; intro b_ w_ HB; refine Kx.fr ?_) | ((with_reducible refine Kx.alloc_gate ?_); (first | refine Kx.ala HB ?_ | refine Kx.al1 HB ?_); clear HB; intro b_ w_ HB; refine Kx.fr ?_) | ((with_reducible refine Kx.loads_gate ?_); first | refine Kx.l1 HB rfl rfl ?_ | refine Kx.la HB rfl ?_ | refine Kx.lo HB rfl HC.out ?_) | ((with_reducible refine Kx.loadg_gate ?_); first | refine Kx.l1g HB rfl rfl rfl ?_ | refine Kx.lag HB rfl rfl ?_ | refine Kx.log HB rfl HC.out rfl ?_) | ((with_reducible refine Kx.store_gate ?_); (first | refine Kx.stwa HB rfl rfl ?_ | refine Kx.sta HB rfl rfl ?_ | refine Kx.stc HB rfl rfl ?_ | refine Kx.stt HB rfl rfl rfl ?_ | refine Kx.st1 HB rfl rfl rfl ?_); clear HB; intro w_ HB))
        refine bodyPost_ret (Kx.results_x HB rfl _ _ _ rfl (by simp <;> rfl) (by simp <;> rfl)) rfl ?_; exact ⟨some ⟨g, 1, none⟩, c2, rfl, HB.out.below, by rw [HDR.out]; exact Kx.New.tail (HB.out.newRow (A := some ⟨g, 0, none⟩)), by omega⟩
      · obtain rfl : c_ = n' := by omega
        rw [hm] at hcut
        have HRC : Hid (∀ W lb, Bxs w W lb [⟨some ⟨g, 0, none⟩, c_, 2, 1, c_, Kc.i64s ch⟩] → Rd W W.heap.size (cutA (some ⟨g, 0, none⟩) 1 c_) (Kc.i64s cd)) := Lib.hid (fun W lb z => by rw [← HCD.out, ← i64s_drop]; exact Rd.cutA (z.rowRd (A := some ⟨g, 0, none⟩)) (by rw [hlc]; exact Nat.le_refl _))
        have hdl : (Kc.i64s cd).length = m := by rw [i64s_len, ← HCD.out, List.length_drop, HN.out, hm]
        generalize cutA (some ⟨g, 0, none⟩) 1 c_ = CA at *
        go_upto_region 12 with (first | (at_builtin; refine Kx.wpList_appFull_x HB rfl _ _ 26 rfl i0 (.int .i64 0) 8 Tryd.underlying26 hi hz0 hz1 hz2 rfl CA m rfl (Kc.i64s cd) hdl (HRC.out _ _ HB.out) _ 1 (.int .i64 xst) rfl (by omega) (by decide) ?_; clear HB; intro g2 c2 w_ HB; refine Kx.fr ?_) | (first | ((with_reducible refine Kx.absorb HB ?_); clear HB; intro w_ HB) | ((with_reducible refine Kx.box_gate (d := some 5) ?_); (first | refine Kx.boxa HB rfl ?_ | refine Kx.boxt HB rfl rfl ?_ | refine Kx.box1 HB rfl rfl ?_); clear HB; intro b5 w_ HB; refine Kx.fr ?_) | ((with_reducible refine Kx.alloc_gate (d := some 5) ?_); (first | refine Kx.ala HB ?_ | refine Kx.al1 HB ?_); clear HB; intro b5 w_ HB; refine Kx.fr ?_) | ((with_reducible refine Kx.box_gate (d := some 6) ?_); (first | refine Kx.boxa HB rfl ?_ | refine Kx.boxt HB rfl rfl ?_ | refine Kx.box1 HB rfl rfl ?_); clear HB; intro b6 w_ HB; refine Kx.fr ?_) | ((with_reducible refine Kx.alloc_gate (d := some 6) ?_); (first | refine Kx.ala HB ?_ | refine Kx.al1 HB ?_); clear HB; intro b6 w_ HB; refine Kx.fr ?_) | ((with_reducible refine Kx.box_gate (d := some 10) ?_); (first | refine Kx.boxa HB rfl ?_ | refine Kx.boxt HB rfl rfl ?_ | refine Kx.box1 HB rfl rfl ?_); clear HB; intro b10 w_ HB; refine Kx.fr ?_) | ((with_reducible refine Kx.alloc_gate (d := some 10) ?_); (first | refine Kx.ala HB ?_ | refine Kx.al1 HB ?_); clear HB; intro b10 w_ HB; refine Kx.fr ?_) | ((with_reducible refine Kx.box_gate ?_); (first | refine Kx.boxa HB rfl ?_ | refine Kx.boxt HB rfl rfl ?_ | refine Kx.box1 HB rfl rfl ?_); clear HB; intro b_ w_ HB; refine Kx.fr ?_) | ((with_reducible refine Kx.alloc_gate ?_); (first | refine Kx.ala HB ?_ | refine Kx.al1 HB ?_); clear HB; intro b_ w_ HB; refine Kx.fr ?_) | ((with_reducible refine Kx.loads_gate ?_); first | refine Kx.l1 HB rfl rfl ?_ | refine Kx.la HB rfl ?_ | refine Kx.lo HB rfl HC.out ?_) | ((with_reducible refine Kx.loadg_gate ?_); first | refine Kx.l1g HB rfl rfl rfl ?_ | refine Kx.lag HB rfl rfl ?_ | refine Kx.log HB rfl HC.out rfl ?_) | ((with_reducible refine Kx.store_gate ?_); (first | refine Kx.stwa HB rfl rfl ?_ | refine Kx.sta HB rfl rfl ?_ | refine Kx.stc HB rfl rfl ?_ | refine Kx.stt HB rfl rfl rfl ?_ | refine Kx.st1 HB rfl rfl rfl ?_); clear HB; intro w_ HB)))
        rw [i64s_snoc] at HB
        have hle2 := (HB.out.rows _ (List.mem_cons_self ..)).1.le
        go_wp2_with (first | ((with_reducible refine Kx.absorb HB ?_); clear HB; intro w_ HB) | ((with_reducible refine Kx.box_gate (d := some 5) ?_); (first | refine Kx.boxa HB rfl ?_ | refine Kx.boxt HB rfl rfl ?_ | refine Kx.box1 HB rfl rfl ?_); clear HB; intro b5 w_ HB; refine Kx.fr ?_) | ((with_reducible refine Kx.alloc_gate (d := some 5) ?_); (first | refine Kx.ala HB ?_ | refine Kx.al1 HB ?_); clear HB; intro b5 w_ HB; refine Kx.fr ?_) | ((with_reducible refine Kx.box_gate (d := some 6) ?_); (first | refine Kx.boxa HB rfl ?_ | refine Kx.boxt HB rfl rfl ?_ | refine Kx.box1 HB rfl rfl ?_); clear HB; intro b6 w_ HB; refine Kx.fr ?_) | ((with_reducible refine Kx.alloc_gate (d := some 6) ?_); (first | refine Kx.ala HB ?_ | refine Kx.al1 HB ?_); clear HB; intro b6 w_ HB; refine Kx.fr ?_) | ((with_reducible refine Kx.box_gate (d := some 10) ?_); (first | refine Kx.boxa HB rfl ?_ | refine Kx.boxt HB rfl rfl ?_ | refine Kx.box1 HB rfl rfl ?_); clear HB; intro b10 w_ HB; refine Kx.fr ?_) | ((with_reducible refine Kx.alloc_gate (d := some 10) ?_); (first | refine Kx.ala HB ?_ | refine Kx.al1 HB ?_); clear HB; intro b10 w_ HB; refine Kx.fr ?_) | ((with_reducible refine Kx.box_gate ?_); (first | refine Kx.boxa HB rfl ?_ | refine Kx.boxt HB rfl rfl ?_ | refine Kx.box1 HB rfl rfl ?_); clear HB; intro b_ w_ HB; refine Kx.fr ?_) | ((with_reducible refine Kx.alloc_gate ?_); (first | refine Kx.ala HB ?_ | refine Kx.al1 HB ?_); clear HB; intro b_ w_ HB; refine Kx.fr ?_) | ((with_reducible refine Kx.loads_gate ?_); first | refine Kx.l1 HB rfl rfl ?_ | refine Kx.la HB rfl ?_ | refine Kx.lo HB rfl HC.out ?_) | ((with_reducible refine Kx.loadg_gate ?_); first | refine Kx.l1g HB rfl rfl rfl ?_ | refine Kx.lag HB rfl rfl ?_ | refine Kx.log HB rfl HC.out rfl ?_) | ((with_reducible refine Kx.store_gate ?_); (first | refine Kx.stwa HB rfl rfl ?_ | refine Kx.sta HB rfl rfl ?_ | refine Kx.stc HB rfl rfl ?_ | refine Kx.stt HB rfl rfl rfl ?_ | refine Kx.st1 HB rfl rfl rfl ?_); clear HB; intro w_ HB))
        refine bodyPost_ret (Kx.results_x HB rfl _ _ _ rfl (by simp <;> rfl) (by simp <;> rfl)) rfl ?_; exact ⟨some ⟨g2, 0, none⟩, c2, rfl, HB.out.below, HB.out.newRow (A := some ⟨g2, 0, none⟩), hle2.1⟩
end Go.Proofs.YtpbogacodhjlfaaDoor

/- The next plan: the document's, what it refuses. -/
namespace Go.Proofs.YtpbogacodhjlfaaDoor
open Go.RowKit Go.Shelf Km Kx Kc Kt
set_option linter.unusedVariables false

set_option maxRecDepth 100000 in
set_option maxHeartbeats 2000000 in
theorem RNext_no (c : Cf) (x : Gm.Pl) (A : Option Addr) (n c0 : Nat) (A' : Option Addr) (n' c' : Nat) (up : Nat) (now : Int) (w : World) (xs : List Int)
    (h : (∀ W, Below w.heap.size w W → Calls Tryd.prog 8 #[.agg (cf c).toArray] W fun e w' => e = .returned (.bool false) ∧ Below W.heap.size W w') ∨
      ((∀ W, Below w.heap.size w W → Calls Tryd.prog 8 #[.agg (cf c).toArray] W fun e w' => e = .returned (.bool true) ∧ Below W.heap.size W w') ∧
        ((∀ W, Below w.heap.size w W → Calls Tryd.prog 23 #[.agg (cf c).toArray, .agg (pc x A n c0 A' n' c').toArray] W fun e w' => e = .returned (.bool false) ∧ Below W.heap.size W w') ∨
        ((∀ W, Below w.heap.size w W → Calls Tryd.prog 23 #[.agg (cf c).toArray, .agg (pc x A n c0 A' n' c').toArray] W fun e w' => e = .returned (.bool true) ∧ Below W.heap.size W w') ∧ 4611686018427387904 ≤ x.e))))
    (ht : tell c xs x up now = none) :
    Calls Tryd.prog 6 #[.agg (cf c).toArray, .agg (pc x A n c0 A' n' c').toArray, .int .u64 (up : Int), .int .i64 now] w (NextSays w c xs ⟨x, A, n, c0, A', n', c'⟩ up now) := by
  have HB := Lib.hid (Bxs.start w)
  have HT := Lib.hid ht
  clear ht
  have fin : ∀ W, Below w.heap.size w W → NextSays w c xs ⟨x, A, n, c0, A', n', c'⟩ up now (.returned (.tuple #[.agg (pc noPlan none 0 0 none 0 0).toArray, .bool false])) W := fun W hb =>
    ⟨noPt, false, rfl, hb, New.nil _ _ _ _, New.nil _ _ _ _, noPt_okm, fun q => (by cases q), fun _ => ⟨HT.out, rfl⟩⟩
  have HF := Lib.hid fin
  clear fin
  rcases h with h1 | ⟨h1, h2 | ⟨h2, h3⟩⟩
  · have H1 := Lib.hid h1
    clear h1
    dsimp only [pc] at *
    go_enter Tryd.func6, Tryd.ntmps6
    go_wp2_with (first | ((with_reducible refine Kx.build_gate ?_); refine Km.wpList_build rfl 28 _ rfl #[] rfl (pc noPlan none 0 0 none 0 0).toArray (noPlan_built) ?_; refine Kx.framed ?_ (by simp only [Act.put, List.setIfInBounds_toArray, List.set_cons_succ, List.set_cons_zero] <;> rfl)) | (go_at_call 8; refine Calls.mono (H1.out _ HB.out.below) ?_; rintro e w_ ⟨rfl, hb_⟩; replace HB := Lib.hid (HB.out.call hb_); clear hb_) | (first | ((with_reducible refine Kx.absorb HB ?_); clear HB; intro w_ HB) | ((with_reducible refine Kx.box_gate ?_); (first | refine Kx.boxa HB rfl ?_ | refine Kx.boxt HB rfl rfl ?_ | refine Kx.box1 HB rfl rfl ?_); clear HB; intro b_ w_ HB; refine Kx.fr ?_) | ((with_reducible refine Kx.alloc_gate ?_); (first | refine Kx.ala HB ?_ | refine Kx.al1 HB ?_); clear HB; intro b_ w_ HB; refine Kx.fr ?_) | ((with_reducible refine Kx.loads_gate ?_); first | refine Kx.l1 HB rfl rfl ?_ | refine Kx.la HB rfl ?_ | refine Kx.lo HB rfl HC.out ?_) | ((with_reducible refine Kx.loadg_gate ?_); first | refine Kx.l1g HB rfl rfl rfl ?_ | refine Kx.lag HB rfl rfl ?_ | refine Kx.log HB rfl HC.out rfl ?_) | ((with_reducible refine Kx.store_gate ?_); (first | refine Kx.stwa HB rfl rfl ?_ | refine Kx.sta HB rfl rfl ?_ | refine Kx.stc HB rfl rfl ?_ | refine Kx.stt HB rfl rfl rfl ?_ | refine Kx.st1 HB rfl rfl rfl ?_); clear HB; intro w_ HB)))
    refine bodyPost_ret (Kx.results_xt HB rfl _ _ _ rfl (by simp <;> rfl) (by simp <;> rfl)) rfl ?_; exact HF.out _ HB.out.below
  · have H1 := Lib.hid h1
    have H2 := Lib.hid h2
    clear h1 h2
    dsimp only [pc] at *
    go_enter Tryd.func6, Tryd.ntmps6
    go_wp2_with (first | ((with_reducible refine Kx.build_gate ?_); refine Km.wpList_build rfl 28 _ rfl #[] rfl (pc noPlan none 0 0 none 0 0).toArray (noPlan_built) ?_; refine Kx.framed ?_ (by simp only [Act.put, List.setIfInBounds_toArray, List.set_cons_succ, List.set_cons_zero] <;> rfl)) | (go_at_call 8; refine Calls.mono (H1.out _ HB.out.below) ?_; rintro e w_ ⟨rfl, hb_⟩; replace HB := Lib.hid (HB.out.call hb_); clear hb_) | (go_at_call 23; refine Calls.mono (H2.out _ HB.out.below) ?_; rintro e w_ ⟨rfl, hb_⟩; replace HB := Lib.hid (HB.out.call hb_); clear hb_) | (first | ((with_reducible refine Kx.absorb HB ?_); clear HB; intro w_ HB) | ((with_reducible refine Kx.box_gate ?_); (first | refine Kx.boxa HB rfl ?_ | refine Kx.boxt HB rfl rfl ?_ | refine Kx.box1 HB rfl rfl ?_); clear HB; intro b_ w_ HB; refine Kx.fr ?_) | ((with_reducible refine Kx.alloc_gate ?_); (first | refine Kx.ala HB ?_ | refine Kx.al1 HB ?_); clear HB; intro b_ w_ HB; refine Kx.fr ?_) | ((with_reducible refine Kx.loads_gate ?_); first | refine Kx.l1 HB rfl rfl ?_ | refine Kx.la HB rfl ?_ | refine Kx.lo HB rfl HC.out ?_) | ((with_reducible refine Kx.loadg_gate ?_); first | refine Kx.l1g HB rfl rfl rfl ?_ | refine Kx.lag HB rfl rfl ?_ | refine Kx.log HB rfl HC.out rfl ?_) | ((with_reducible refine Kx.store_gate ?_); (first | refine Kx.stwa HB rfl rfl ?_ | refine Kx.sta HB rfl rfl ?_ | refine Kx.stc HB rfl rfl ?_ | refine Kx.stt HB rfl rfl rfl ?_ | refine Kx.st1 HB rfl rfl rfl ?_); clear HB; intro w_ HB)))
    refine bodyPost_ret (Kx.results_xt HB rfl _ _ _ rfl (by simp <;> rfl) (by simp <;> rfl)) rfl ?_; exact HF.out _ HB.out.below
  · have H1 := Lib.hid h1
    have H2 := Lib.hid h2
    have d3 : decide (4611686018427387904 ≤ x.e) = true := decide_eq_true h3
    clear h1 h2
    dsimp only [pc] at *
    go_enter Tryd.func6, Tryd.ntmps6
    go_wp2_with (first | ((with_reducible refine Kx.build_gate ?_); refine Km.wpList_build rfl 28 _ rfl #[] rfl (pc noPlan none 0 0 none 0 0).toArray (noPlan_built) ?_; refine Kx.framed ?_ (by simp only [Act.put, List.setIfInBounds_toArray, List.set_cons_succ, List.set_cons_zero] <;> rfl)) | (go_at_call 8; refine Calls.mono (H1.out _ HB.out.below) ?_; rintro e w_ ⟨rfl, hb_⟩; replace HB := Lib.hid (HB.out.call hb_); clear hb_) | (go_at_call 23; refine Calls.mono (H2.out _ HB.out.below) ?_; rintro e w_ ⟨rfl, hb_⟩; replace HB := Lib.hid (HB.out.call hb_); clear hb_) | (first | ((with_reducible refine Kx.absorb HB ?_); clear HB; intro w_ HB) | ((with_reducible refine Kx.box_gate ?_); (first | refine Kx.boxa HB rfl ?_ | refine Kx.boxt HB rfl rfl ?_ | refine Kx.box1 HB rfl rfl ?_); clear HB; intro b_ w_ HB; refine Kx.fr ?_) | ((with_reducible refine Kx.alloc_gate ?_); (first | refine Kx.ala HB ?_ | refine Kx.al1 HB ?_); clear HB; intro b_ w_ HB; refine Kx.fr ?_) | ((with_reducible refine Kx.loads_gate ?_); first | refine Kx.l1 HB rfl rfl ?_ | refine Kx.la HB rfl ?_ | refine Kx.lo HB rfl HC.out ?_) | ((with_reducible refine Kx.loadg_gate ?_); first | refine Kx.l1g HB rfl rfl rfl ?_ | refine Kx.lag HB rfl rfl ?_ | refine Kx.log HB rfl HC.out rfl ?_) | ((with_reducible refine Kx.store_gate ?_); (first | refine Kx.stwa HB rfl rfl ?_ | refine Kx.sta HB rfl rfl ?_ | refine Kx.stc HB rfl rfl ?_ | refine Kx.stt HB rfl rfl rfl ?_ | refine Kx.st1 HB rfl rfl rfl ?_); clear HB; intro w_ HB)))
    refine bodyPost_ret (Kx.results_xt HB rfl _ _ _ rfl (by simp <;> rfl) (by simp <;> rfl)) rfl ?_; exact HF.out _ HB.out.below

end Go.Proofs.YtpbogacodhjlfaaDoor
