/- Whether clocks drift: the program's. -/
import Derived.Test.YtfdpogbhhocaeaaCi
import Derived.WalkMore
import Derived.Deep.LoopGhost
import Derived.Deep.CutBlock
import Derived.Deep.DeepCutAuto
import Derived.WalkSpells
namespace Go.Proofs.Ytfdpogbhhocaeaa
open Go.RowKit Go.Shelf Km

set_option maxRecDepth 100000 in
set_option maxHeartbeats 8000000 in
theorem Drift_any (A : Option Addr) (n cap B : Nat) (l : List (Int × Int)) (A1 : Option Addr) (n1 c1 B1 : Nat) (some1 : List Int) (much : Int) (A3 : Option Addr) (n3 c3 B3 : Nat) (others : List Int) (least : Int) (w : World)
    (hr : Rd w B A (svs l)) (hn : l.length = n) (hnc : n ≤ cap) (hB : B ≤ w.heap.size) (hl : Wl l) (hm : n ≤ 10000)
    (h1 : Rd w B1 A1 (i64s some1)) (hn1 : some1.length = n1) (hB1 : B1 ≤ w.heap.size) (hs1 : ∀ x ∈ some1, in64 x) (hm1 : n1 ≤ 1000000)
    (h3 : Rd w B3 A3 (i64s others)) (hn3 : others.length = n3) (hB3 : B3 ≤ w.heap.size) (hs3 : ∀ x ∈ others, in64 x) (hm3 : n3 ≤ 1000000) :
    Calls Try.prog 12 #[.slice A n cap, .slice A1 n1 c1, .int .i64 much, .slice A3 n3 c3, .int .i64 least] w fun e w' => ∃ b, e = .returned (.bool b) ∧ (b = true ↔ Cl.Dr l some1 much others least) ∧ Below w.heap.size w w' := by
  have hi2 : (Try.prog.info? 30).map (·.size) = some 2 := by kernel_rfl
  have HR := Lib.hid hr
  have HN := Lib.hid hn
  have HL := Lib.hid hl
  have hdm := @Cl.dr_mem l some1 (dst some1) others (dst others) much least (dst_mem some1) (dst_mem others)
  have HS1 : Hid (∀ x ∈ dst some1, in64 x) := Lib.hid (fun x hx => hs1 x ((dst_mem _ _).1 hx))
  have HS3 : Hid (∀ x ∈ dst others, in64 x) := Lib.hid (fun x hx => hs3 x ((dst_mem _ _).1 hx))
  have HO1 := Lib.hid (dst_sorted some1)
  have hd1 := dst_len some1
  have hd3 := dst_len others
  have hb2 : Below w.heap.size w ((w.alloc (.cells #[.int .i64 much] 2)).alloc (.cells #[.int .i64 least] 2)) := ((Below.refl _ w).alloc (Nat.le_refl _) _).alloc (by simp) _
  have hs2 : ((w.alloc (.cells #[.int .i64 much] 2)).alloc (.cells #[.int .i64 least] 2)).heap.size = w.heap.size + 2 := by rw [World.size_alloc, World.size_alloc]
  have y0 := ((Boxed.new w 2 (.int .i64 much)).alloc (.cells #[.int .i64 least] 2)).cell
  have z0 := (Boxed.new (w.alloc (.cells #[.int .i64 much] 2)) 2 (.int .i64 least)).cell
  rw [World.size_alloc] at z0
  have HD1 := Lib.hid (distinct_any A1 n1 c1 B1 some1 hn1 (by omega) _ (h1.below (hb2.mono hB1)) (by omega))
  have H3 := Lib.hid (h3.below (hb2.mono hB3))
  have HN3 := Lib.hid hn3
  have HDM := Lib.hid hdm
  rw [hn1] at hd1
  rw [hn3] at hd3
  clear hr hn hl h1 h3 hdm hs1 hs3 hn1 hn3
  go_enter Try.func12, Try.ntmps12
  have d0 : decide ((10000 : Int) < (n : Int)) = false := by simp; omega
  go_wp2
  go_step3
  go_wp2_with (go_at_call 16; fail)
  generalize hg2 : (w.alloc (.cells #[.int .i64 much] 2)).alloc (.cells #[.int .i64 least] 2) = w2 at *
  clear hg2
  refine HD1.out.mono ?_
  rintro e w3 ⟨v1, rfl, hv1, hb3⟩
  have hs3 := hb3.size
  have HD3 := Lib.hid (distinct_any A3 n3 c3 B3 others HN3.out (by omega) w3 (H3.out.below (hb3.mono (by omega))) (by omega))
  obtain ⟨Ax, cx, rfl, -, -, -⟩ := id hv1
  have HV1 := Lib.hid hv1
  have HB3 := Lib.hid hb3
  clear hv1 hb3 HD1 H3
  go_wp2_with (go_at_call 16; fail)
  refine HD3.out.mono ?_
  rintro e w5 ⟨v3, rfl, hv3, hb5⟩
  have hs5 := hb5.size
  have HV1' := Lib.hid (HV1.out.below hb5)
  obtain ⟨Ay, cy, rfl, hy1, hy2, hy3, -⟩ := id hv3
  have HV3 := Lib.hid hv3
  have HB5 := Lib.hid (HB3.out.trans (hb5.mono hs3))
  clear hv3 hb5 HD3 HV1 HB3
  have mp := MapF.made w5
  have bx := Boxed.new (w5.alloc (.map #[] 0)) 38 (.map (some w5.heap.size))
  rw [World.size_alloc] at bx
  have hbx : Below w5.heap.size w5 ((w5.alloc (.map #[] 0)).alloc (.cells #[.map (some w5.heap.size)] 38)) := ((Below.refl _ w5).alloc (Nat.le_refl _) _).alloc (by simp) _
  have hs9 : ((w5.alloc (.map #[] 0)).alloc (.cells #[.map (some w5.heap.size)] 38)).heap.size = w5.heap.size + 2 := by rw [World.size_alloc, World.size_alloc]
  have at4 : At w5.heap.size w5 ((w5.alloc (.map #[] 0)).alloc (.cells #[.map (some w5.heap.size)] 38)) 0 (fun _ => 0) :=
    ⟨hbx, mp.kept (World.grownBy_alloc _ _ none) (by simp), bx.cell, by omega⟩
  have HF := Lib.hid at4
  have HY : Hid (w5.cell? ⟨w.heap.size, 0, none⟩ = some (.int .i64 much)) := Lib.hid ((HB5.out.cell (p := ⟨w.heap.size, 0, none⟩) (by dsimp only; omega)).trans y0)
  have HZ : Hid (w5.cell? ⟨w.heap.size + 1, 0, none⟩ = some (.int .i64 least)) := Lib.hid ((HB5.out.cell (p := ⟨w.heap.size + 1, 0, none⟩) (by dsimp only; omega)).trans z0)
  have HR5 : Hid (Rd w5 w5.heap.size A (svs l)) := Lib.hid ((((HR.out.below (hb2.mono hB)).below (HB5.out.mono (by omega)))).more (by omega))
  have HVF : Hid (∀ W, Below w5.heap.size w5 W → Nds w2.heap.size W (.slice Ax (dst some1).length cx) (dst some1)) := Lib.hid (fun W h => HV1'.out.below h)
  have HVS : Hid (∀ W, Below w5.heap.size w5 W → Nds w3.heap.size W (.slice Ay (dst others).length cy) (dst others)) := Lib.hid (fun W h => HV3.out.below h)
  have HYS := Lib.hid hy3
  have HBW : Hid (Below w.heap.size w w5) := Lib.hid (hb2.trans (HB5.out.mono (by omega)))
  have hgm : w.heap.size + 1 < w5.heap.size := by omega
  have hmm := @run_makeMap Try.prog
  clear mp bx hbx at4 y0 z0 hb2 hy3 hB hB1 hB3 HR HV1' HV3 HB5 HN3
  go_upto_region 7 with fail
  clear hmm
  generalize (w5.alloc (.map #[] 0)).alloc (.cells #[.map (some w5.heap.size)] 38) = w6 at *
  generalize w2.heap.size = base2 at *
  generalize w3.heap.size = base3 at *
  generalize hmz : w5.heap.size = m at *
  clear hmz hs2 hs3 hs5
  go_cut [35] from 28 to 35 (fun t wx => ∃ b, t = .bool b ∧ wx = w6 ∧ Hid (b = true → ¬ Cl.Dr l some1 much others least) ∧ Hid (b = false → ∀ i, Cl.Pk l (dst some1) (dst others) much least i 0))
  case first =>
    have f6 := HF.out
    have HCF := Lib.hid (Containsfast_any _ (dst some1) (m + 1) w.heap.size m 0 (fun _ => 0) much w6 base2 (HVF.out w6 f6.bel) HS1.out f6.box (f6.cell HY.out (by dsimp only; omega)) f6.map)
    generalize hA : (dst some1).any (fun x => decide (much ≤ (fun _ => (0 : Int)) x)) = bA at HCF
    have HA := Lib.hid hA
    clear hA
    have HCS := Lib.hid (Containsslow_any _ (dst others) (m + 1) (w.heap.size + 1) m 0 (fun _ => 0) least w6 base3 (HVS.out w6 f6.bel) HS3.out f6.box (f6.cell HZ.out (by dsimp only; omega)) f6.map)
    generalize hC : (dst others).any (fun x => decide ((fun _ => (0 : Int)) x < least)) = bC at HCS
    have HC := Lib.hid hC
    have HBF := Lib.hid (HBW.out.trans (f6.bel.mono (by omega)))
    clear hC f6 HF
    go_wp2_with (go_at_call 19; fail)
    refine HCF.out.mono ?_
    rintro e w7 ⟨rfl, rfl⟩
    cases bA with
    | true =>
      go_wp2_with (go_at_call 19; fail)
      refine HCS.out.mono ?_
      rintro e w8 ⟨rfl, rfl⟩
      cases bC with
      | true =>
        have hno := Cl.no_start (l := l) HA.out HC.out
        rw [HDM.out] at hno
        have HNO := Lib.hid hno
        clear hno HA HC HCS
        go_wp2
        go_meet
        case rel => exact ⟨_, rfl, rfl, Lib.hid (fun _ => HNO.out), Lib.hid (fun h => by cases h)⟩
      | false =>
        go_wp2
        go_meet
        case rel => exact ⟨_, rfl, rfl, Lib.hid (fun h => by cases h), Lib.hid (fun _ => Cl.Pk.start (.inr HC.out))⟩
    | false =>
      go_wp2
      go_meet
      case rel => exact ⟨_, rfl, rfl, Lib.hid (fun h => by cases h), Lib.hid (fun _ => Cl.Pk.start (.inl HA.out))⟩
  case rest =>
    obtain ⟨b0, rfl, ew, HNO, HPK⟩ := hcut
    have hwc := ew.symm
    subst hwc
    cases b0 with
    | true =>
      have HBF := Lib.hid (HBW.out.trans (HF.out.bel.mono (by omega)))
      go_wp2
      try rw [Exit.noGoto_ret]
      go_ret
      exact ⟨false, rfl, ⟨(fun h => by cases h), fun h => absurd h (HNO.out (by simp))⟩, HBF.out⟩
    | false =>
      have HPK2 := Lib.hid (HPK.out rfl)
      clear HPK HNO
      go_wp2
      go_step3
      go_wp2_with fail
      go_loopg [38] n (fun gh ix wr => ∃ i : Nat, gh + i = n ∧ ix = .int .i64 (i : Int) ∧ Hid (Cl.Don l (dst some1) (dst others) much least i) ∧ Hid (∃ q f, At m w5 wr q f))
      case atStart => exact ⟨0, by omega, rfl, Lib.hid Cl.Don.start, Lib.hid ⟨_, _, HF.out⟩⟩
      case round =>
        obtain ⟨i, hi, rfl, HDN, HAT⟩ := hrel
        obtain ⟨g0, rfl⟩ : ∃ q, q = gk := ⟨_, rfl⟩
        by_cases hin : i < n
        · obtain ⟨q0, f0, at0⟩ := HAT.out
          have hbx := at0.box
          have HA0 := Lib.hid at0
          have d3 : (i : Int) < (n : Int) := by omega
          have hcut := run_cutS A n cap i (by omega)
          have HRC : Hid (Rd w5 m (cutS A i cap) (svs (l.drop i))) := Lib.hid (HR5.out.cutS (by rw [HN.out]; exact hnc))
          clear at0 HAT
          go_wp2_with (first | ((with_reducible refine wpList_gate ?_); refine wpList_mclear rfl _ rfl m q0 f0 rfl HA0.out.map ?_; intro w8 hm8 hg8; have at8 := HA0.out.turn hm8 hg8; clear hm8 hg8) | fail)
          clear hcut
          generalize cutS A i cap = AC at *
          have F0 : Cl.F l i 0 = fun _ => 0 := funext fun x => Cl.F_zero l i x
          rw [← F0] at at8
          have HA8 := Lib.hid at8
          clear at8 F0 HA0
          go_loopg [47, 15] (n - i) (fun gh jx lx wr => ∃ (j : Nat) (A15 : Option Addr) (len15 c c15 : Nat), gh + j = n - i ∧ jx = .int .i64 (j : Int) ∧ lx = .slice A15 len15 c15 ∧ len15 + c = (dst others).length ∧ len15 ≤ c15 ∧
            Hid (Rd w5 m A15 (i64s ((dst others).drop c))) ∧ Hid (∀ b ∈ (dst others).take c, least ≤ Cl.F l i j b) ∧ Hid (Cl.Pk l (dst some1) (dst others) much least i j) ∧ Hid (At m w5 wr j (Cl.F l i j)))
          case atStart => exact ⟨0, _, _, 0, _, by omega, rfl, rfl, by omega, hy1, Lib.hid (by rw [List.drop_zero]; exact HYS.out), Lib.hid (fun b hb => by rw [List.take_zero] at hb; cases hb), Lib.hid (HPK2.out i), HA8⟩
          case round =>
            obtain ⟨j, A15, len15, c, c15, hj, rfl, rfl, hlc, hl15, HRL, HTK, HK, HAT⟩ := hrel
            obtain ⟨g1, rfl⟩ : ∃ q, q = gk := ⟨_, rfl⟩
            have hni : ((n - i : Nat) : Int) = (n : Int) - (i : Int) := by omega
            by_cases hjn : j < n - i
            · obtain ⟨p, hp⟩ : ∃ p, l[i + j]? = some p := ⟨l[i + j]'(by rw [HN.out]; omega), List.getElem?_eq_getElem _⟩
              have hpd : (l.drop i)[j]? = some p := by rw [List.getElem?_drop]; exact hp
              obtain ⟨ad, rfl, hab, hc⟩ := (HAT.out.rd HRC.out).sts hpd
              have HPW := Lib.hid (HL.out p (List.mem_of_getElem? hp))
              have hfm := Cl.F_most l i j p.1
              have hfp := Cl.F_pos l i j p.1
              have HP := Lib.hid hp
              have HC : Hid (∀ k v, (sv p)[k]? = some v → wr.cell? ((ad.add (j * 2)).add k) = some v) := Lib.hid hc
              have hr9 := range_new wr (sv p) 30
              have x0 := range_at hr9 0 (v := .int .i64 p.1) rfl
              have x1 := range_at hr9 1 (v := .int .i64 p.2) rfl
              have hb9 : Below wr.heap.size wr (wr.alloc (.cells (sv p).toArray 30)) := (Below.refl _ wr).alloc (Nat.le_refl _) _
              have HA9 := Lib.hid (HAT.out.below hb9)
              have HRG := Lib.hid hr9
              have hs9 : (wr.alloc (.cells (sv p).toArray 30)).heap.size = wr.heap.size + 1 := World.size_alloc ..
              have hall : (sv p).toArray.all (·.oneCell') = true := by simp [sv, Value.oneCell']
              have hcz : (#[Value.int .i64 0, .int .i64 0] : Array Value).size = (sv p).toArray.size := rfl
              have d5 : (j : Int) < ((n - i : Nat) : Int) := by omega
              clear hc hp hpd hr9 hb9 hab hni
              rw [HN.out] at hfm
              go_wp2_with (first | (go_at_call 14; fail) | ((with_reducible refine wpList_gate ?_); (refine wpList_load_any rfl 30 _ rfl _ rfl (sv p) _ HC.out Try.underlying30 rfl hi2 ?_)) | ((with_reducible refine wpList_gate ?_); (refine wpList_store_new rfl 30 _ _ rfl _ (sv p).toArray rfl rfl hi2 hcz hall ?_; generalize World.alloc wr _ = w9 at *)) | ((with_reducible refine wpList_gate ?_); (refine wpList_load_on 30 _ rfl wr.heap.size 0 rfl (sv p) _ HRG.out Try.underlying30 rfl hi2 (by kernel_rfl) ?_)))
              refine (counts_any p w9).mono ?_
              rintro e w10 ⟨rfl, hb10⟩
              have HA10 := Lib.hid (HA9.out.below hb10)
              have y0 := (hb10.cell (p := ⟨wr.heap.size, 0, none⟩) (by dsimp only; omega)).trans x0
              have y1 := (hb10.cell (p := ⟨wr.heap.size, 1, none⟩) (by dsimp only; omega)).trans x1
              have hs10 := hb10.size
              clear x0 x1 hb10 HC HRG HA9 hall hcz
              by_cases hS : Cl.isS p
              · have d2 : decide (Cl.isS p) = true := decide_eq_true hS
                rw [d2]
                have hgv : Cl.gives p p.1 = p.2 := if_pos ⟨hS, rfl⟩
                have hSu : 0 ≤ p.1 ∧ 0 ≤ p.2 ∧ p.2 ≤ 1099511627776 := hS
                have hw1 : IntKind.i64.wrap (Cl.F l i j p.1 + p.2) = Cl.F l i j p.1 + p.2 := by rw [IntKind.wrap_i64]; omega
                have hyb : in64 (Cl.F l i j p.1 + p.2) := by unfold in64; omega
                have hbx10 := HA10.out.box
                have HFP := Lib.hid (Cl.F_put HP.out hS)
                clear hgv d2 hS
                go_wp2_with (first | (at_lookup; refine wpList_look rfl _ _ rfl m j (Cl.F l i j) rfl HA10.out.map _ HPW.out.1 rfl ?_) | (at_mapUpdate; refine wpList_mset rfl _ _ _ rfl m j (Cl.F l i j) rfl HA10.out.map (by unfold maxLen; omega) _ _ HPW.out.1 hyb rfl rfl ?_; intro w11 hm11 hg11; have at11 := HA10.out.turn hm11 hg11; have z0 := (World.cell?_of_block (a := ⟨wr.heap.size, 0, none⟩) (hg11.block wr.heap.size (by omega) (fun e => by injection e with e; have := HAT.out.size; omega))).trans y0; clear hm11 hg11) | fail)
                go_frame
                rw [HFP.out] at at11
                have HA11 := Lib.hid at11
                have HTK1 : Hid (∀ b ∈ (dst others).take c, least ≤ Cl.F l i (j + 1) b) := Lib.hid (fun b hb => Int.le_trans (HTK.out b hb) (Cl.F_later l (Nat.le_refl _) (by omega) b))
                clear at11 y0 y1 hbx10 HA10 HTK hw1 hyb HFP HAT
                go_loopg [15] len15 (fun gh lx wx => ∃ (A16 : Option Addr) (d c16 : Nat), gh + d = (dst others).length ∧ lx = .slice A16 gh c16 ∧ gh ≤ c16 ∧ wx = w11 ∧ Hid (Rd w5 m A16 (i64s ((dst others).drop d))) ∧ Hid (∀ b ∈ (dst others).take d, least ≤ Cl.F l i (j + 1) b))
                case atStart => exact ⟨_, c, _, hlc, rfl, hl15, rfl, HRL, HTK1⟩
                case round =>
                  clear HRL HTK1
                  obtain ⟨A16, d, c16, hd, rfl, hl16, ew, HRL, HTK1⟩ := hrel
                  subst ew
                  obtain ⟨g2, rfl⟩ : ∃ q, q = gk := ⟨_, rfl⟩
                  by_cases hg : 0 < g2
                  · obtain ⟨b, hb⟩ : ∃ b, (dst others)[d]? = some b := ⟨(dst others)[d]'(by omega), List.getElem?_eq_getElem _⟩
                    have hbm : b ∈ dst others := List.mem_of_getElem? hb
                    obtain ⟨ad2, rfl, hab2, hc2⟩ := HA11.out.rd HRL.out 0 _ (i64s_get (show ((dst others).drop d)[0]? = some b by rw [List.getElem?_drop]; exact hb))
                    rw [Addr.add_zero'] at hc2
                    have HSL := Lib.hid (slow_any (m + 1) (w.heap.size + 1) m (j + 1) (Cl.F l i (j + 1)) least b wr HA11.out.box (HA11.out.cell HZ.out (by dsimp only; omega)) HA11.out.map (HS3.out b hbm))
                    have ht : (dst others).take (d + 1) = (dst others).take d ++ [b] := by rw [List.take_add_one, hb]; rfl
                    have d6 : (0 : Int) < (g2 : Int) := by omega
                    have HT := Lib.hid ht
                    have HBM := Lib.hid hbm
                    clear ht hb hbm hab2
                    by_cases hlow : Cl.F l i (j + 1) b < least
                    · have d7 : decide (Cl.F l i (j + 1) b < least) = true := decide_eq_true hlow
                      rw [d7] at HSL
                      have HLW := Lib.hid hlow
                      clear d7 hlow
                      go_wp2_with (go_at_call 18; fail)
                      refine HSL.out.mono ?_
                      rintro e w12 ⟨rfl, rfl⟩
                      have d8 : ((g2 : Int) == 0) = false := by simp; omega
                      clear HSL hc2
                      have a11 := HA11.out
                      have HFS := Lib.hid (fast_any (m + 1) w.heap.size m (j + 1) (Cl.F l i (j + 1)) much p.1 w12 a11.box (a11.cell HY.out (by dsimp only; omega)) a11.map HPW.out.1)
                      have HHS := Lib.hid (has_any _ base2 (dst some1) p.1 w12 (HVF.out w12 a11.bel) HO1.out (by omega))
                      have HBF := Lib.hid (HBW.out.trans (a11.bel.mono (by omega)))
                      have hnx := fun q => HK.out.next HP.out HBM.out HLW.out (p := p) q
                      have HNX := Lib.hid hnx
                      have hln : i + (j + 1) ≤ n := by omega
                      clear a11 hnx HK
                      generalize hbf : decide (much ≤ Cl.F l i (j + 1) p.1) = bf at HFS
                      have HBFS := Lib.hid hbf
                      clear hbf
                      go_wp2_with (go_at_call 17; fail)
                      refine HFS.out.mono ?_
                      rintro e w13 ⟨rfl, rfl⟩
                      clear HFS
                      cases bf with
                      | true =>
                        generalize hbh : decide (p.1 ∈ dst some1) = bh at HHS
                        have HBH := Lib.hid hbh
                        clear hbh
                        go_wp2_with (go_at_call 20; fail)
                        refine HHS.out.mono ?_
                        rintro e w14 ⟨rfl, q, ew⟩
                        subst ew
                        clear HHS
                        cases bh with
                        | true =>
                          have hno := Cl.no_step (l := l) (i := i) (j := j + 1) (by rw [HN.out]; exact hln) HBM.out HLW.out (of_decide_eq_true HBFS.out) (of_decide_eq_true HBH.out)
                          rw [HDM.out] at hno
                          have HNO := Lib.hid hno
                          clear hno
                          go_wp2
                          try rw [Exit.noGoto_ret]
                          go_ret
                          exact ⟨false, rfl, ⟨(fun h => by cases h), fun h => absurd h HNO.out⟩, below_drawn HBF.out q⟩
                        | false =>
                          have HK1 := Lib.hid (HNX.out (fun h => absurd h.2 (of_decide_eq_false HBH.out)))
                          clear HNX
                          go_wp2
                          go_roundg (g1 - 1)
                          case measure => omega
                          case rel => exact ⟨j + 1, _, _, d, _, by omega, by go_num, rfl, hd, hl16, HRL, HTK1, HK1, Lib.hid (HA11.out.drew q)⟩
                      | false =>
                        have HK1 := Lib.hid (HNX.out (fun h => absurd h.1 (of_decide_eq_false HBFS.out)))
                        clear HNX HHS
                        go_wp2
                        go_roundg (g1 - 1)
                        case measure => omega
                        case rel => exact ⟨j + 1, _, _, d, _, by omega, by go_num, rfl, hd, hl16, HRL, HTK1, HK1, HA11⟩
                    · have d7 : decide (Cl.F l i (j + 1) b < least) = false := decide_eq_false hlow
                      rw [d7] at HSL
                      have hcut1 : ∀ W, (Instr.slice 23 (.slice (some ad2) g2 c16) (some (.int .i64 1)) none none).run Try.prog W = .ok (.slice (cutA (some ad2) 1 c16) (g2 - 1) (c16 - 1)) W := run_cutI (some ad2) g2 c16 1 (by omega)
                      have HRL2 : Hid (Rd w5 m (cutA (some ad2) 1 c16) (i64s ((dst others).drop (d + 1)))) := Lib.hid (by
                        have h := HRL.out.cutA (k := 1) (cap := c16) (by unfold i64s; rw [List.length_map, List.length_drop]; omega)
                        unfold i64s at h ⊢
                        rw [← List.map_drop, List.drop_drop] at h
                        exact h)
                      have HTK2 : Hid (∀ b ∈ (dst others).take (d + 1), least ≤ Cl.F l i (j + 1) b) := Lib.hid (fun x hx => by
                        rw [HT.out] at hx
                        rcases List.mem_append.1 hx with h | h
                        · exact HTK1.out x h
                        · cases List.mem_singleton.1 h; omega)
                      clear d7 hlow HT
                      go_wp2_with (go_at_call 18; fail)
                      refine HSL.out.mono ?_
                      rintro e w12 ⟨rfl, rfl⟩
                      clear HSL hc2
                      go_wp2
                      go_roundg (g2 - 1)
                      case measure => omega
                      case rel => exact ⟨_, d + 1, c16 - 1, by omega, rfl, by omega, rfl, HRL2, HTK2⟩
                  · obtain rfl : g2 = 0 := by omega
                    have HDN2 := Lib.hid (HDN.out.next HK.out (j := j) (fun b hb => HTK1.out b (by rw [List.take_of_length_le (by omega)]; exact hb)))
                    clear HTK1 HRL HK
                    go_wp2
                    go_roundg (g0 - 1)
                    case measure => omega
                    case rel => exact ⟨i + 1, by omega, by go_num, HDN2, Lib.hid ⟨_, _, HA11.out⟩⟩
              · have d2 : decide (Cl.isS p) = false := decide_eq_false hS
                rw [d2]
                have e1 := Cl.F_same HP.out hS
                have HK1 := Lib.hid (HK.out.skip HP.out hS)
                have HA11 : Hid (At m w5 w10 (j + 1) (Cl.F l i (j + 1))) := Lib.hid (by rw [e1]; exact ⟨HA10.out.bel, HA10.out.map.mono (by omega), HA10.out.box, HA10.out.size⟩)
                have HTK1 : Hid (∀ b ∈ (dst others).take c, least ≤ Cl.F l i (j + 1) b) := Lib.hid (by rw [e1]; exact HTK.out)
                clear y0 y1 d2 hS e1 HA10 HTK HK
                go_wp2
                go_roundg (g1 - 1)
                case measure => omega
                case rel => exact ⟨j + 1, _, _, c, _, by omega, by go_num, rfl, hlc, hl15, HRL, HTK1, HK1, HA11⟩
            · obtain rfl : j = n - i := by omega
              have d5 : decide (((n - i : Nat) : Int) < ((n - i : Nat) : Int)) = false := by simp
              have hdr := Cl.Don.stop HDN.out HK.out (by rw [HN.out]; omega)
              rw [HDM.out] at hdr
              have HDR := Lib.hid hdr
              have HBF := Lib.hid (HBW.out.trans (HAT.out.bel.mono (by omega)))
              clear hdr HK HTK HAT HRL
              go_wp2
              try rw [Exit.noGoto_ret]
              go_ret
              exact ⟨true, rfl, ⟨(fun _ => HDR.out), fun _ => rfl⟩, HBF.out⟩
        · obtain rfl : i = n := by omega
          have d3 : decide ((i : Int) < (i : Int)) = false := by simp
          have hdr := Cl.Don.stop HDN.out (HPK2.out i) (by rw [HN.out]; omega)
          rw [HDM.out] at hdr
          obtain ⟨q0, f0, at0⟩ := HAT.out
          have HDR := Lib.hid hdr
          have HBF := Lib.hid (HBW.out.trans (at0.bel.mono (by omega)))
          clear hdr at0 HAT
          go_wp2
          try rw [Exit.noGoto_ret]
          go_ret
          exact ⟨true, rfl, ⟨(fun _ => HDR.out), fun _ => rfl⟩, HBF.out⟩
end Go.Proofs.Ytfdpogbhhocaeaa
