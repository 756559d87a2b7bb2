/- The next plan: the program's. -/
import Derived.Test.YtpbogacodhjlfaaDoorHz0
import Derived.Deep.CutBlock
import Derived.Deep.DeepCutAuto
namespace Go.Proofs.YtpbogacodhjlfaaDoor
open Go.RowKit Go.Shelf Km Kx Kc Kt
set_option linter.unusedVariables false

set_option maxRecDepth 100000 in
set_option maxHeartbeats 8000000 in
theorem PNext_go (c : Cf) (xs : List Int) (x : Gm.Pl) (A : Option Addr) (N c0 : Nat) (A' : Option Addr) (n' c' : Nat) (up b : Nat) (now : Int) (w : World) (hc : ConfP c xs) (hl : xs.length = c.tn) (hr : Rd w w.heap.size c.ta (Kc.i64s xs)) (hp : PAt w w.heap.size x A N c0 A' n' c') (hf : Gm.Fits (gc c xs) x)
    (hN : c.targets = (N : Int)) (hb : c.b = (b : Int)) (he : x.e < 4611686018427387904) (hT : Tabs w) (hup : up < 18446744073709551616)
    (h1 : ∀ W, Below w.heap.size w W → Calls Tryd.prog 7 #[.agg (cf c).toArray] W fun e w' => e = .returned (.bool true) ∧ Below W.heap.size W w')
    (h2 : ∀ W, Below w.heap.size w W → Calls Tryd.prog 13 #[.agg (cf c).toArray, .agg (pc x A N c0 A' n' c').toArray] W fun e w' => e = .returned (.bool true) ∧ Below W.heap.size W w') :
    Calls Tryd.prog 5 #[.agg (cf c).toArray, .agg (pc x A N c0 A' n' c').toArray, .int .u64 (up : Int), .int .i64 now] w (NextSays w c xs ⟨x, A, N, c0, A', n', c'⟩ up now) := by
  have HB := Lib.hid (Bxs.start w)
  have hok := hc.gok hl
  have hN1 := hc.targets
  have hb1 := hc.b
  have h16 : N ≤ 16 := by omega
  have hgN : (gc c xs).n = N := by show c.targets.toNat = N; omega
  have hgb : (gc c xs).b = b := by show c.b.toNat = b; omega
  have htn : c.tn = N := by have := hc.n; omega
  have hlN : xs.length = N := by omega
  obtain ⟨u, hu0⟩ : ∃ u : Nat, up % 2 ^ N = u := ⟨_, rfl⟩
  have hu : u < 2 ^ N := hu0 ▸ Nat.mod_lt _ (Nat.two_pow_pos N)
  have hu2 : u < 2 ^ (gc c xs).n := by rw [hgN]; exact hu
  have hand := u64_and_nat up (2 ^ N - 1) hup (by have := Gm.pow16 h16; omega)
  rw [Nat.and_two_pow_sub_one_eq_mod, hu0] at hand
  obtain ⟨m, hm⟩ : ∃ m : Int, (if 1099511627776 < now then 1099511627776 else now) = m := ⟨_, rfl⟩
  obtain ⟨t, ht⟩ : ∃ t : Int, (if m < x.st then x.st else m) = t := ⟨_, rfl⟩
  have hcl : Gm.clamp now x.st = t := by
    unfold Gm.clamp
    rw [← ht, ← hm]
    split <;> split <;> omega
  have htin := Gm.clamp_in (now := now) hf.st
  rw [hcl] at htin
  obtain ⟨htT, htle⟩ := htin
  have HO : Hid (∀ W, Below w.heap.size w W → Calls Tryd.prog 14 #[.agg (cf c).toArray, .agg (pc x A N c0 A' n' c').toArray, .int .u64 (u : Int), .int .i64 t] W fun e w' => ∃ A2 c2, e = .returned (.agg (pc (Gm.obs x t u (Gm.sups (gc c xs) x u t) (Gm.pens (gc c xs) x u t)) A2 N c2 A' n' c').toArray) ∧ Below W.heap.size W w' ∧ w'.ownsRow W.heap.size 3 1 (.slice A2 N c2) N (Kc.i64s (Gm.pens (gc c xs) x u t))) := Lib.hid (fun W hW =>
    observed_any c xs x A N c0 A' n' c' u t W ((hp.below hW).more hW.size) hc hl hf hN (hT.below hW (Nat.le_refl _)) hu htT htle he)
  have hGd : Gm.andN u (Gm.sups (gc c xs) x u t) = Gm.good (gc c xs) x u t := Gm.good_eq (by rw [hgN]; exact h16) hu2 t
  have hsl : Gm.sups (gc c xs) x u t < 2 ^ N := by rw [← hgN]; exact Gm.maskOf_lt _ _
  have hGl : Gm.good (gc c xs) x u t < 2 ^ N := by rw [← hgN]; exact Gm.good_lt _ _ _ _
  have hgan := u64_andNot_nat u (Gm.sups (gc c xs) x u t) (Gm.p64 h16 hu) (Gm.p64 h16 hsl)
  unfold Gm.andN at hGd
  rw [hGd] at hgan
  have hOok := Gm.obs_ok hok hf hp.ok he hu2 htT htle
  have hZin := Gm.to_in hf hu2 t
  rw [hgN] at hZin
  have hxt := hf.t
  rw [hgN] at hxt
  have hZeq : candT xs N (Gm.good (gc c xs) x u t) u x.t = Gm.to (gc c xs) x u t := by
    unfold candT Gm.to Gm.best
    rw [hgN]
    rfl
  have HCa : Hid (∀ W A2 c2, Below w.heap.size w W → Calls Tryd.prog 16 #[.agg (cf c).toArray, .agg (pc (Gm.obs x t u (Gm.sups (gc c xs) x u t) (Gm.pens (gc c xs) x u t)) A2 N c2 A' n' c').toArray, .int .u64 ((Gm.good (gc c xs) x u t : Nat) : Int)] W fun e w' => e = .returned (.int .i64 (Gm.to (gc c xs) x u t)) ∧ Below W.heap.size W w') := Lib.hid (fun W A2 c2 hW => by
    have := candidate_any c xs (Gm.obs x t u (Gm.sups (gc c xs) x u t) (Gm.pens (gc c xs) x u t)) A2 N c2 A' n' c' N (Gm.good (gc c xs) x u t) u W ((hr.below hW).more hW.size) hlN htn h16 hGl hu rfl (hT.b.below hW (Nat.le_refl _))
    rw [← hZeq]
    exact this)
  have hMI : MayP (Gm.obs x t u (Gm.sups (gc c xs) x u t) (Gm.pens (gc c xs) x u t)) (Gm.to (gc c xs) x u t) t (Gm.good (gc c xs) x u t) (gc c xs).b c.d c.w c.dwell ↔ Gm.May (gc c xs) x u t := Iff.rfl
  rw [hgb] at hMI
  have hnb : n' ≤ b := by have h := hf.ch.1; rw [hgb, hp.n'] at h; exact h
  have hpl : (Gm.pens (gc c xs) x u t).length = N := by rw [← hgN]; exact Gm.listed_len _ _
  have HMay : Hid (∀ W A2 c2, Below w.heap.size w W → Rd W W.heap.size A2 (Kc.i64s (Gm.pens (gc c xs) x u t)) → Calls Tryd.prog 17 #[.agg (cf c).toArray, .agg (pc (Gm.obs x t u (Gm.sups (gc c xs) x u t) (Gm.pens (gc c xs) x u t)) A2 N c2 A' n' c').toArray, .int .i64 (Gm.to (gc c xs) x u t), .int .u64 ((Gm.good (gc c xs) x u t : Nat) : Int)] W fun e w' => e = .returned (.bool (decide (Gm.May (gc c xs) x u t))) ∧ Below W.heap.size W w') := Lib.hid (fun W A2 c2 hW hrd => by
    have := mayChange_any c (Gm.obs x t u (Gm.sups (gc c xs) x u t) (Gm.pens (gc c xs) x u t)) A2 N c2 A' n' c' (Gm.to (gc c xs) x u t) (Gm.good (gc c xs) x u t) b W.heap.size W ⟨hOok, hrd, (hp.ch.below hW).more hW.size, hp.k', hpl, hp.n'⟩ (Nat.le_refl _) (Gm.p64 h16 hGl) (by constructor <;> dsimp only [Gm.obs] <;> omega) hb (by omega) (by omega) htT (fun v hv => hf.ch.2 v hv) hf.si
    have hd : decide (MayP (Gm.obs x t u (Gm.sups (gc c xs) x u t) (Gm.pens (gc c xs) x u t)) (Gm.to (gc c xs) x u t) (Gm.obs x t u (Gm.sups (gc c xs) x u t) (Gm.pens (gc c xs) x u t)).st (Gm.good (gc c xs) x u t) b c.d c.w c.dwell) = decide (Gm.May (gc c xs) x u t) := decide_eq_decide.2 hMI
    rw [hd] at this
    exact this)
  have HSP : Hid (∀ (z : Int) W, -1 ≤ z → z ≤ 15 → Below w.heap.size w W → Calls Tryd.prog 20 #[.slice c.ta c.tn c.tc, .int .u64 ((Gm.andN (Gm.good (gc c xs) x u t) (Gm.bitv z) : Nat) : Int)] W fun e w' => e = .returned (.int .i64 (Gm.spill (gc c xs) (Gm.good (gc c xs) x u t) z)) ∧ Below W.heap.size W w') := Lib.hid (fun z W z1 z2 hW => by
    have := best_any c.ta N c.tc xs (Gm.andN (Gm.good (gc c xs) x u t) (Gm.bitv z)) W ((hr.below hW).more hW.size) hlN h16 (Gm.andN_lt hGl) (hT.b.below hW (Nat.le_refl _))
    have hs := Gm.spill_eq (c := gc c xs) (by rw [hgN]; exact h16) (g := Gm.good (gc c xs) x u t) (by rw [hgN]; exact hGl) z1 z2
    rw [hgN] at hs
    rw [htn, ← hs]
    exact this)
  have HAN : Hid (∀ z : Int, z ≤ 15 → bits .andNot .u64 ((Gm.good (gc c xs) x u t : Nat) : Int) ((Gm.bitv z : Nat) : Int) = ((Gm.andN (Gm.good (gc c xs) x u t) (Gm.bitv z) : Nat) : Int)) := Lib.hid (fun z z2 => u64_andNot_nat _ _ (Gm.p64 h16 hGl) (by have := Gm.bitv_lt z2; omega))
  have HLO := Lib.hid (fun W => lowest_b N W h16)
  have H1 := Lib.hid h1
  have H2 := Lib.hid h2
  have HCT : Hid ((cf c)[2]? = some (.int .i64 (N : Int))) := Lib.hid (by rw [← hN]; rfl)
  -- what is told
  have htell : tell c xs x up now = Gm.next (gc c xs) x up now := tell_next hc hf hp.ok he
  have hnxt : Gm.next (gc c xs) x up now = if Gm.Same x (Gm.nx (gc c xs) x u t) then none else some (Gm.nx (gc c xs) x u t) := by
    unfold Gm.next
    rw [hcl, hgN, hu0]
  have HNO : Hid (Gm.Same x (Gm.nx (gc c xs) x u t) → ∀ W, Below w.heap.size w W → NextSays w c xs ⟨x, A, N, c0, A', n', c'⟩ up now (.returned (.tuple #[.agg (pc noPlan none 0 0 none 0 0).toArray, .bool false])) W) := Lib.hid (fun hs W hW =>
    ⟨noPt, false, rfl, hW, New.nil _ _ _ _, New.nil _ _ _ _, noPt_okm, fun q => (by cases q), fun _ => ⟨by rw [htell, hnxt, if_pos hs], rfl⟩⟩)
  have HYES : Hid (¬ Gm.Same x (Gm.nx (gc c xs) x u t) → ∀ W A2 c2 A3 m3 c3, Below w.heap.size w W → New w W [(A, i64s x.pen), (A', i64s x.ch)] A2 (Kc.i64s (Gm.pens (gc c xs) x u t)) → New w W [(A, i64s x.pen), (A', i64s x.ch)] A3 (Kc.i64s (Gm.nx (gc c xs) x u t).ch) → (Gm.nx (gc c xs) x u t).ch.length = m3 → m3 ≤ c3 →
      NextSays w c xs ⟨x, A, N, c0, A', n', c'⟩ up now (.returned (.tuple #[.agg (pc (Gm.nx (gc c xs) x u t) A2 N c2 A3 m3 c3).toArray, .bool true])) W) := Lib.hid (fun hs W A2 c2 A3 m3 c3 hW n1 n2 hm3 hk3 =>
    ⟨⟨Gm.nx (gc c xs) x u t, A2, N, c2, A3, m3, c3⟩, true, rfl, hW, (by show New w W _ A2 (Kc.i64s (Gm.nx (gc c xs) x u t).pen); rw [Gm.nx_pen.1]; exact n1), n2, ⟨Gm.nx_ok hok hf he hu2 htT htle, (by show (Gm.nx (gc c xs) x u t).pen.length = N; rw [nx_pen', hgN]), hm3, hk3⟩, fun _ => by rw [htell, hnxt, if_neg hs], fun q => by cases q⟩)
  have HDF : Hid (∀ W A2 c2 A3 m3 c3, Calls Tryd.prog 22 #[.agg (pc (Gm.nx (gc c xs) x u t) A2 N c2 A3 m3 c3).toArray, .agg (pc x A N c0 A' n' c').toArray] W fun e w' => e = .returned (.bool (!decide (Gm.Same x (Gm.nx (gc c xs) x u t)))) ∧ Below W.heap.size W w') := Lib.hid (fun W A2 c2 A3 m3 c3 => differ_any _ _ _ _ _ _ _ _ _ _ _ _ _ _ W)
  have HCH : Hid (∀ W A2 c2, Below w.heap.size w W → Calls Tryd.prog 18 #[.agg (cf c).toArray, .agg (pc (Gm.obs x t u (Gm.sups (gc c xs) x u t) (Gm.pens (gc c xs) x u t)) A2 N c2 A' n' c').toArray, .int .i64 (Gm.to (gc c xs) x u t), .int .u64 ((Gm.good (gc c xs) x u t : Nat) : Int)] W fun e w' => ∃ A3 c3, e = .returned (.agg (pc (Gm.chg (Gm.obs x t u (Gm.sups (gc c xs) x u t) (Gm.pens (gc c xs) x u t)) (Gm.to (gc c xs) x u t) (if Gm.has (Gm.good (gc c xs) x u t) x.t = true then c.first else 100) b) A2 N c2 A3 (n' - (n' + 1 - b) + 1) c3).toArray) ∧ Below W.heap.size W w' ∧ w'.ownsRow W.heap.size 2 1 (.slice A3 (n' - (n' + 1 - b) + 1) c3) (n' - (n' + 1 - b) + 1) (Kc.i64s (Gm.chg (Gm.obs x t u (Gm.sups (gc c xs) x u t) (Gm.pens (gc c xs) x u t)) (Gm.to (gc c xs) x u t) (if Gm.has (Gm.good (gc c xs) x u t) x.t = true then c.first else 100) b).ch)) := Lib.hid (fun W A2 c2 hW =>
    changed_any c (Gm.obs x t u (Gm.sups (gc c xs) x u t) (Gm.pens (gc c xs) x u t)) A2 N c2 A' n' c' (Gm.to (gc c xs) x u t) (Gm.good (gc c xs) x u t) b W ((hp.ch.below hW).more hW.size) hp.n' hnb hp.k' hb (by omega) (Gm.p64 h16 hGl) (by constructor <;> dsimp only [Gm.obs] <;> omega))
  have HKE : Hid (∀ W A2 c2, Below w.heap.size w W → Calls Tryd.prog 19 #[.agg (cf c).toArray, .agg (pc (Gm.obs x t u (Gm.sups (gc c xs) x u t) (Gm.pens (gc c xs) x u t)) A2 N c2 A' n' c').toArray] W fun e w' => ∃ A3 c3, e = .returned (.agg (pc (Gm.keptP (Gm.obs x t u (Gm.sups (gc c xs) x u t) (Gm.pens (gc c xs) x u t)) c.step c.stepTime) A2 N c2 A3 n' c3).toArray) ∧ Below W.heap.size W w' ∧ w'.ownsRow W.heap.size 2 1 (.slice A3 n' c3) n' (Kc.i64s x.ch)) := Lib.hid (fun W A2 c2 hW =>
    kept_any c (Gm.obs x t u (Gm.sups (gc c xs) x u t) (Gm.pens (gc c xs) x u t)) A2 N c2 A' n' c' W ((hp.ch.below hW).more hW.size) hp.n' (by omega) htT hf.ra hf.per hc.step)
  have d0 : decide (4611686018427387904 ≤ x.e) = false := decide_eq_false (by omega)
  have hmlen : n' - (n' + 1 - b) + 1 = (Gm.newCh (gc c xs) x t).length := by rw [Gm.newCh_len hok hf, hgb, hp.n']; omega
  have hpn' := hp.n'
  have hNXc := Gm.nx_chg (c := gc c xs) (p := x) (u := u) (t := t)
  have hNXk := Gm.nx_kept (c := gc c xs) (p := x) (u := u) (t := t)
  rw [hgb] at hNXc
  obtain ⟨kc, kra, hK⟩ := Gm.kept_form x t u (Gm.sups (gc c xs) x u t) (Gm.pens (gc c xs) x u t) c.step c.stepTime
  have hstt : (gc c xs).step = c.step ∧ (gc c xs).stt = c.stepTime ∧ (gc c xs).first = c.first := ⟨rfl, rfl, rfl⟩
  rw [hstt.1, hstt.2.1, hK] at hNXk
  rw [hstt.2.2] at hNXc
  rw [hK] at HKE
  have hBO : ∀ z : Int, -1 ≤ z → z ≤ 15 → ∀ W : World, Calls Tryd.prog 21 #[.int .i64 z] W fun e w' => e = .returned (.int .u64 ((Gm.bitv z : Nat) : Int)) ∧ Below W.heap.size W w' := fun z z1 z2 W => bit_b z W z1 z2
  obtain ⟨pz, hpz⟩ : ∃ pz : Int, (if Gm.has (Gm.good (gc c xs) x u t) x.t = true then c.first else 100) = pz := ⟨_, rfl⟩
  rw [hpz] at hNXc HCH
  have hZ1 := hZin.1
  have hZ2 := hZin.2.1
  have hx1 := hxt.1
  have hx2 := hxt.2
  have hZBIT := hBO (Gm.to (gc c xs) x u t) hZ1 (by omega)
  have hXBIT := hBO x.t hx1 (by omega)
  have hZAN := HAN.out (Gm.to (gc c xs) x u t) (by omega)
  have hXAN := HAN.out x.t (by omega)
  have hZSP := fun W => HSP.out (Gm.to (gc c xs) x u t) W hZ1 (by omega)
  have hXSP := fun W => HSP.out x.t W hx1 (by omega)
  have HZBIT := Lib.hid hZBIT
  have HXBIT := Lib.hid hXBIT
  have HZSP := Lib.hid hZSP
  have HXSP := Lib.hid hXSP
  have hmm : n' - (n' + 1 - b) + 1 = (Gm.newCh (gc c xs) x t).length := hmlen
  have HMM := Lib.hid (⟨hmm, hpn', hgb⟩ : _ ∧ _ ∧ _)
  have HNXC := Lib.hid hNXc
  have HNXK := Lib.hid hNXk
  clear hZBIT hXBIT hZSP hXSP hmm hmlen hpn' hgb HAN HSP hstt hK hNXc hNXk hZin hxt hZ1 hZ2 hx1 hx2 hpz hBO hok hf hp hr hc hl hN hb he hT hup h1 h2 hN1 hb1 hgN htn hlN hu0 hu hu2 hcl htT htle hGd hsl hGl hOok hZeq hMI hnb hpl htell hnxt
  have hnxch : ∀ q, (Gm.setS (Gm.chg (Gm.obs x t u (Gm.sups (gc c xs) x u t) (Gm.pens (gc c xs) x u t)) (Gm.to (gc c xs) x u t) pz b) q).ch = (Gm.chg (Gm.obs x t u (Gm.sups (gc c xs) x u t) (Gm.pens (gc c xs) x u t)) (Gm.to (gc c xs) x u t) pz b).ch := fun _ => rfl
  generalize Gm.sups (gc c xs) x u t = SS at *
  generalize Gm.pens (gc c xs) x u t = PS at *
  generalize Gm.good (gc c xs) x u t = G at *
  generalize Gm.to (gc c xs) x u t = Z at *
  generalize Gm.spill (gc c xs) G Z = SZ at *
  generalize Gm.spill (gc c xs) G x.t = SX at *
  generalize Gm.andN G (Gm.bitv Z) = MZ at *
  generalize Gm.andN G (Gm.bitv x.t) = MX at *
  generalize Gm.bitv Z = BZ at *
  generalize Gm.bitv x.t = BX at *
  have HLENC : Hid ((x.ch.drop (x.ch.length + 1 - b) ++ [t]).length = n' - (n' + 1 - b) + 1) := Lib.hid (by rw [List.length_append, List.length_drop, HMM.out.2.1]; rfl)
  have HLENK : Hid (x.ch.length = n') := Lib.hid HMM.out.2.1
  clear HMM hnxch
  generalize 2 ^ N - 1 = zz at *
  obtain ⟨xe, xt, xp, xs', xc, xst, xsi, xra, xup, xsu, pen, ch⟩ := x
  dsimp only [pc, Gm.obs, Gm.chg, Gm.setS] at *
  go_enter Tryd.func5, Tryd.ntmps5
  go_wp2_with (first | (go_at_call 7; refine Calls.mono (H1.out _ HB.out.below) ?_; rintro e w_ ⟨rfl, hb_⟩; replace HB := Lib.hid (HB.out.call hb_); clear hb_) | (go_at_call 13; refine Calls.mono (H2.out _ HB.out.below) ?_; rintro e w_ ⟨rfl, hb_⟩; replace HB := Lib.hid (HB.out.call hb_); clear hb_) | (first | ((with_reducible refine Kx.absorb HB ?_); clear HB; intro w_ HB) | ((with_reducible refine Kx.box_gate (d := some 4) ?_); (first | refine Kx.boxa HB rfl ?_ | refine Kx.boxt HB rfl rfl ?_ | refine Kx.box1 HB rfl rfl ?_); clear HB; intro b4 w_ HB; refine Kx.fr ?_) | ((with_reducible refine Kx.alloc_gate (d := some 4) ?_); (first | refine Kx.ala HB ?_ | refine Kx.al1 HB ?_); clear HB; intro b4 w_ HB; refine Kx.fr ?_) | ((with_reducible refine Kx.box_gate (d := some 5) ?_); (first | refine Kx.boxa HB rfl ?_ | refine Kx.boxt HB rfl rfl ?_ | refine Kx.box1 HB rfl rfl ?_); clear HB; intro b5 w_ HB; refine Kx.fr ?_) | ((with_reducible refine Kx.alloc_gate (d := some 5) ?_); (first | refine Kx.ala HB ?_ | refine Kx.al1 HB ?_); clear HB; intro b5 w_ HB; refine Kx.fr ?_) | ((with_reducible refine Kx.box_gate (d := some 8) ?_); (first | refine Kx.boxa HB rfl ?_ | refine Kx.boxt HB rfl rfl ?_ | refine Kx.box1 HB rfl rfl ?_); clear HB; intro b8 w_ HB; refine Kx.fr ?_) | ((with_reducible refine Kx.alloc_gate (d := some 8) ?_); (first | refine Kx.ala HB ?_ | refine Kx.al1 HB ?_); clear HB; intro b8 w_ HB; refine Kx.fr ?_) | ((with_reducible refine Kx.box_gate ?_); (first | refine Kx.boxa HB rfl ?_ | refine Kx.boxt HB rfl rfl ?_ | refine Kx.box1 HB rfl rfl ?_); clear HB; intro b_ w_ HB; refine Kx.fr ?_) | ((with_reducible refine Kx.alloc_gate ?_); (first | refine Kx.ala HB ?_ | refine Kx.al1 HB ?_); clear HB; intro b_ w_ HB; refine Kx.fr ?_) | ((with_reducible refine Kx.loads_gate ?_); first | refine Kx.l1 HB rfl rfl ?_ | refine Kx.la HB rfl ?_ | refine Kx.lo HB rfl HC.out ?_) | ((with_reducible refine Kx.loadg_gate ?_); first | refine Kx.l1g HB rfl rfl rfl ?_ | refine Kx.lag HB rfl rfl ?_ | refine Kx.log HB rfl HC.out rfl ?_) | ((with_reducible refine Kx.store_gate ?_); (first | refine Kx.stwa HB rfl rfl ?_ | refine Kx.sta HB rfl rfl ?_ | refine Kx.stc HB rfl rfl ?_ | refine Kx.stt HB rfl rfl rfl ?_ | refine Kx.st1 HB rfl rfl rfl ?_); clear HB; intro w_ HB)))
  go_cut [10] from 28 to 41 (fun bp wx => ∃ (A2 : Option Addr) (c2 b10 : Nat), bp = .pointer (some ⟨b10, 0, none⟩) ∧ Hid (Bxs w wx [(b10, [.int .i64 (xe + 1), .int .i64 xt, .int .i64 xp, .int .i64 xs', .int .i64 xc, .int .i64 t, .int .i64 xsi, .int .i64 xra, .int .u64 (u : Int), .int .u64 (SS : Int), .slice A2 N c2, .slice A' n' c']), (b8, pc noPlan none 0 0 none 0 0), (b5, [.int .i64 xe, .int .i64 xt, .int .i64 xp, .int .i64 xs', .int .i64 xc, .int .i64 xst, .int .i64 xsi, .int .i64 xra, .int .u64 xup, .int .u64 xsu, .slice A N c0, .slice A' n' c']), (b4, cf c)] [⟨A2, c2, 3, 1, N, Kc.i64s PS⟩]))
  case first =>
    refine Kx.region_x HB (fun i => false) (by kernel_rfl) ?_
    first | refine Kx.xl1 0 rfl rfl rfl ?_ | refine Kx.xla 0 rfl rfl ?_ | refine Kx.xlo 0 rfl rfl HC.out ?_
    first | refine Kx.xl1 1 rfl rfl rfl ?_ | refine Kx.xla 1 rfl rfl ?_ | refine Kx.xlo 1 rfl rfl HC.out ?_
    refine Kx.tk 2 rfl ?_
    refine Kx.tk 3 rfl ?_
    refine anyW_take (i := 4) (v := ?v4_164) (a' := ?a4_164) (by first | exact Kx.bears_x | exact bears_u | assumption) rfl (by kernel_rfl) (by kernel_rfl) (by kernel_rfl) (fun _ _ _ h => h) (by kernel_rfl) ?w4_164 ?y4_164 ?f4_164 ?r4_164
    case w4_164 => kernel_rfl
    case y4_164 => (intro W hW; first | (refine Eq.trans (Kx.tells_load1_x (v := .int .i64 (N : Int)) hW b4 2 rfl (cf c) inferInstance (Tryd.isAgg3 _) HCT.out) ?_; with_reducible rfl))
    case f4_164 => (go_simp; try with_reducible rfl)
    refine anyW_call (i := 5) (v := ?v5_165) (f := ?g5_165) (args := ?s5_165) (a' := ?a5_165) (by first | exact Kx.bears_x | exact bears_u | assumption) rfl (by kernel_rfl) (by kernel_rfl) (by kernel_rfl) (fun _ _ _ h => h) (by kernel_rfl) ?c5_165 ?w5_165 ?y5_165 ?f5_165 ?r5_165
    case w5_165 => kernel_rfl
    case y5_165 => (intro W hW; go_simp; first | (refine ⟨?_, ?_⟩ <;> with_reducible rfl) | with_reducible rfl)
    case c5_165 => (intro W hW; refine Calls.mono (HLO.out W) ?_; rintro e w_ ⟨rfl, hb_⟩; refine ⟨?_, by first | exact hb_ | exact hb_ ▸ Below.refl _ _⟩; with_reducible rfl)
    case f5_165 => (go_simp; try with_reducible rfl)
    refine Kx.tk 6 rfl ?_
    refine Kx.tk 7 rfl ?_
    refine Kx.tk 8 rfl ?_
    refine Kx.tk 9 rfl ?_
    first | refine Kx.xl1 10 rfl rfl rfl ?_ | refine Kx.xla 10 rfl rfl ?_ | refine Kx.xlo 10 rfl rfl HC.out ?_
    refine Kx.tk 11 rfl ?_
    refine anyW_two (i := 12) (j := 13) (by kernel_rfl) ?one ?two
    case one =>
      refine AtW.call (α := Option Addr × Nat) (none, 0) (fun y => .agg ([.int .i64 (xe + 1), .int .i64 xt, .int .i64 xp, .int .i64 xs', .int .i64 xc, .int .i64 t, .int .i64 xsi, .int .i64 xra, .int .u64 (u : Int), .int .u64 (SS : Int), .slice y.1 N y.2, .slice A' n' c']).toArray) (fun y w' => Bxs w w' [(b8, pc noPlan none 0 0 none 0 0), (b5, [.int .i64 xe, .int .i64 xt, .int .i64 xp, .int .i64 xs', .int .i64 xc, .int .i64 xst, .int .i64 xsi, .int .i64 xra, .int .u64 xup, .int .u64 xsu, .slice A N c0, .slice A' n' c']), (b4, cf c)] [⟨y.1, y.2, 3, 1, N, Kc.i64s PS⟩]) (fun y => bears_x) (fun y W q => q.rowTail) (f := ?g1) (args := ?s1) rfl (by kernel_rfl) 40 rfl ?y1 ?c1 ?r1
      case y1 => (intro W hW; go_simp; first | (refine ⟨?_, ?_⟩ <;> with_reducible rfl) | with_reducible rfl)
      case c1 =>
        intro W hW
        refine (HO.out W hW.below).mono ?_
        rintro e w' ⟨A2, c2, rfl, hb, hown⟩
        exact ⟨(A2, c2), rfl, hW.callRow hb hown⟩
      case r1 =>
      intro y
      refine Kx.framedW (by simp only [Act.put, List.setIfInBounds_toArray, List.set_cons_succ, List.set_cons_zero] <;> rfl) ?_
      refine anyW_at (i := 13) (by kernel_rfl) (AtW.allocU rfl (by kernel_rfl) 10 rfl 28 rfl 12 _ rfl (fun w => (Tryd.zeroValue28 w)) ?_)
      intro b10
      refine Kx.framedW (by simp only [Act.put, List.setIfInBounds_toArray, List.set_cons_succ, List.set_cons_zero] <;> rfl) ?_
      refine anyW_storeU (i := 14) rfl (by kernel_rfl) (by kernel_rfl) rfl _ _ _ rfl _ 12 rfl _ rfl rfl (fun w => (Tryd.sizeOf28 w)) (by rfl) ?_
      refine anyW_done (by kernel_rfl) ?_
      clear HB
      intro w_ HB_
      have HB := Lib.hid HB_
      clear HB_
      go_wp2_with fail
      go_meet
      case rel => exact ⟨y.1, y.2, b10, rfl, HB⟩
    case two =>
      refine AtW.allocU rfl (by kernel_rfl) 10 rfl 28 rfl 12 _ rfl (fun w => (Tryd.zeroValue28 w)) ?_
      intro b10
      refine Kx.framedW (by simp only [Act.put, List.setIfInBounds_toArray, List.set_cons_succ, List.set_cons_zero] <;> rfl) ?_
      refine anyW_at (i := 12) (by kernel_rfl) ?three
      case three =>
      refine AtW.call (α := Option Addr × Nat) (none, 0) (fun y => .agg ([.int .i64 (xe + 1), .int .i64 xt, .int .i64 xp, .int .i64 xs', .int .i64 xc, .int .i64 t, .int .i64 xsi, .int .i64 xra, .int .u64 (u : Int), .int .u64 (SS : Int), .slice y.1 N y.2, .slice A' n' c']).toArray) (fun y => Cu w b10 12 [(b8, pc noPlan none 0 0 none 0 0), (b5, [.int .i64 xe, .int .i64 xt, .int .i64 xp, .int .i64 xs', .int .i64 xc, .int .i64 xst, .int .i64 xsi, .int .i64 xra, .int .u64 xup, .int .u64 xsu, .slice A N c0, .slice A' n' c']), (b4, cf c)] [⟨y.1, y.2, 3, 1, N, Kc.i64s PS⟩] []) (fun y => bears_u) (fun y W q => by obtain ⟨cs, e, q⟩ := q; exact ⟨cs, e, q.rowTail⟩) (f := ?g2) (args := ?s2) rfl (by kernel_rfl) 40 rfl ?y2 ?c2 ?r2
      case y2 => (intro W hW; go_simp; first | (refine ⟨?_, ?_⟩ <;> with_reducible rfl) | with_reducible rfl)
      case c2 =>
        rintro W ⟨cs8, e8, hW⟩
        refine (HO.out W hW.below).mono ?_
        rintro e w' ⟨A2, c2, rfl, hb, hown⟩
        exact ⟨(A2, c2), rfl, cs8, e8, hW.callRow hb hown⟩
      case r2 =>
      intro y
      refine Kx.framedW (by simp only [Act.put, List.setIfInBounds_toArray, List.set_cons_succ, List.set_cons_zero] <;> rfl) ?_
      refine anyW_storeU (i := 14) rfl (by kernel_rfl) (by kernel_rfl) rfl _ _ _ rfl _ 12 rfl _ rfl rfl (fun w => (Tryd.sizeOf28 w)) (by rfl) ?_
      refine anyW_done (by kernel_rfl) ?_
      clear HB
      intro w_ HB_
      have HB := Lib.hid HB_
      clear HB_
      go_wp2_with fail
      go_meet
      case rel => exact ⟨y.1, y.2, b10, rfl, HB⟩
  case rest =>
    obtain ⟨A2, c2, b10, rfl, HB⟩ := hcut
    clear HO H1 H2 HLO HCT hand hm ht d0
    by_cases hMay : Gm.May (gc c xs) ⟨xe, xt, xp, xs', xc, xst, xsi, xra, xup, xsu, pen, ch⟩ u t
    case pos =>
      have HNX := Lib.hid (HNXC.out hMay)
      rw [decide_eq_true hMay] at HMay
      clear HNXC HNXK HKE HXBIT HXSP hXAN hMay HLENK
      by_cases hS : Gm.Same ⟨xe, xt, xp, xs', xc, xst, xsi, xra, xup, xsu, pen, ch⟩ (Gm.nx (gc c xs) ⟨xe, xt, xp, xs', xc, xst, xsi, xra, xup, xsu, pen, ch⟩ u t)
      · have HFIN := Lib.hid (HNO.out hS)
        rw [decide_eq_true hS, Bool.not_true] at HDF
        rw [HNX.out] at HDF
        clear HNO HYES HNX hS
        go_wp2_with (first | (go_at_call 16; refine Calls.mono (HCa.out _ A2 c2 HB.out.below) ?_; rintro e w_ ⟨rfl, hb_⟩; replace HB := Lib.hid (HB.out.call hb_); clear hb_) | (go_at_call 17; refine Calls.mono (HMay.out _ A2 c2 HB.out.below (HB.out.rowRd (A := A2))) ?_; rintro e w_ ⟨rfl, hb_⟩; replace HB := Lib.hid (HB.out.call hb_); clear hb_) | (go_at_call 18; refine Calls.mono (HCH.out _ A2 c2 HB.out.below) ?_; rintro e w_ ⟨A3, c3, rfl, hb_, hown_⟩; replace HB := Lib.hid (HB.out.callRow hb_ hown_); clear hb_ hown_) | (first | ((with_reducible refine Kx.absorb HB ?_); clear HB; intro w_ HB) | ((with_reducible refine Kx.box_gate ?_); (first | refine Kx.boxa HB rfl ?_ | refine Kx.boxt HB rfl rfl ?_ | refine Kx.box1 HB rfl rfl ?_); clear HB; intro b_ w_ HB; refine Kx.fr ?_) | ((with_reducible refine Kx.alloc_gate ?_); (first | refine Kx.ala HB ?_ | refine Kx.al1 HB ?_); clear HB; intro b_ w_ HB; refine Kx.fr ?_) | ((with_reducible refine Kx.loads_gate ?_); first | refine Kx.l1 HB rfl rfl ?_ | refine Kx.la HB rfl ?_ | refine Kx.lo HB rfl HC.out ?_) | ((with_reducible refine Kx.loadg_gate ?_); first | refine Kx.l1g HB rfl rfl rfl ?_ | refine Kx.lag HB rfl rfl ?_ | refine Kx.log HB rfl HC.out rfl ?_) | ((with_reducible refine Kx.store_gate ?_); (first | refine Kx.stwa HB rfl rfl ?_ | refine Kx.sta HB rfl rfl ?_ | refine Kx.stc HB rfl rfl ?_ | refine Kx.stt HB rfl rfl rfl ?_ | refine Kx.st1 HB rfl rfl rfl ?_); clear HB; intro w_ HB)))
        refine Kx.region_x HB (fun i => i == 9) (by kernel_rfl) ?_
        refine Kx.tk 0 rfl ?_
        first | refine Kx.xl1 1 rfl rfl rfl ?_ | refine Kx.xla 1 rfl rfl ?_ | refine Kx.xlo 1 rfl rfl HC.out ?_
        refine Kx.tk 2 rfl ?_
        refine Kx.tk 3 rfl ?_
        first | refine Kx.xl1 4 rfl rfl rfl ?_ | refine Kx.xla 4 rfl rfl ?_ | refine Kx.xlo 4 rfl rfl HC.out ?_
        refine anyW_call (i := 5) (v := ?v5_166) (f := ?g5_166) (args := ?s5_166) (a' := ?a5_166) (by first | exact Kx.bears_x | exact bears_u | assumption) rfl (by kernel_rfl) (by kernel_rfl) (by kernel_rfl) (fun _ _ _ h => h) (by kernel_rfl) ?c5_166 ?w5_166 ?y5_166 ?f5_166 ?r5_166
        case w5_166 => kernel_rfl
        case y5_166 => (intro W hW; go_simp; first | (refine ⟨?_, ?_⟩ <;> with_reducible rfl) | with_reducible rfl)
        case c5_166 => (intro W hW; refine Calls.mono (HZBIT.out W) ?_; rintro e w_ ⟨rfl, hb_⟩; refine ⟨?_, by first | exact hb_ | exact hb_ ▸ Below.refl _ _⟩; with_reducible rfl)
        case f5_166 => (go_simp; try with_reducible rfl)
        refine Kx.tk 6 rfl ?_
        refine anyW_call (i := 7) (v := ?v7_167) (f := ?g7_167) (args := ?s7_167) (a' := ?a7_167) (by first | exact Kx.bears_x | exact bears_u | assumption) rfl (by kernel_rfl) (by kernel_rfl) (by kernel_rfl) (fun _ _ _ h => h) (by kernel_rfl) ?c7_167 ?w7_167 ?y7_167 ?f7_167 ?r7_167
        case w7_167 => kernel_rfl
        case y7_167 => (intro W hW; go_simp; first | (refine ⟨?_, ?_⟩ <;> with_reducible rfl) | with_reducible rfl)
        case c7_167 => (intro W hW; refine Calls.mono (HZSP.out W hW.below) ?_; rintro e w_ ⟨rfl, hb_⟩; refine ⟨?_, by first | exact hb_ | exact hb_ ▸ Below.refl _ _⟩; with_reducible rfl)
        case f7_167 => (go_simp; try with_reducible rfl)
        refine Kx.tk 8 rfl ?_
        first | (refine Kx.anyW_storewa_x (i := 9) rfl (by kernel_rfl) (by kernel_rfl) (by rfl) rfl _ _ _ rfl _ rfl _ rfl _ (by rfl) (fun w => (Tryd.sizeOf24 w)) (by rfl) ?_) | (refine Kx.anyW_storewa_x (i := 9) rfl (by kernel_rfl) (by kernel_rfl) (by rfl) rfl _ _ _ rfl _ rfl _ rfl _ (by rfl) (fun w => (Tryd.sizeOf28 w)) (by rfl) ?_) | (refine Kx.anyW_storewa_x (i := 9) rfl (by kernel_rfl) (by kernel_rfl) (by rfl) rfl _ _ _ rfl _ rfl _ rfl _ (by rfl) (fun w => (Tryd.sizeOf3 w)) (by rfl) ?_) | (refine Kx.anyW_storewa_x (i := 9) rfl (by kernel_rfl) (by kernel_rfl) (by rfl) rfl _ _ _ rfl _ rfl _ rfl _ (by rfl) (fun w => (Tryd.sizeOf22 w)) (by rfl) ?_) | (refine Kx.anyW_storea_x (i := 9) rfl (by kernel_rfl) (by kernel_rfl) (by rfl) rfl _ _ _ rfl _ rfl _ rfl _ _ (by simp [Kx.splice] <;> rfl) (by simp) (fun w => (Tryd.sizeOf24 w)) (by rfl) ?_) | (refine Kx.anyW_storea_x (i := 9) rfl (by kernel_rfl) (by kernel_rfl) (by rfl) rfl _ _ _ rfl _ rfl _ rfl _ _ (by simp [Kx.splice] <;> rfl) (by simp) (fun w => (Tryd.sizeOf28 w)) (by rfl) ?_) | (refine Kx.anyW_storea_x (i := 9) rfl (by kernel_rfl) (by kernel_rfl) (by rfl) rfl _ _ _ rfl _ rfl _ rfl _ _ (by simp [Kx.splice] <;> rfl) (by simp) (fun w => (Tryd.sizeOf3 w)) (by rfl) ?_) | (refine Kx.anyW_storea_x (i := 9) rfl (by kernel_rfl) (by kernel_rfl) (by rfl) rfl _ _ _ rfl _ rfl _ rfl _ _ (by simp [Kx.splice] <;> rfl) (by simp) (fun w => (Tryd.sizeOf22 w)) (by rfl) ?_) | (refine Kx.anyW_storec_x (i := 9) rfl (by kernel_rfl) (by kernel_rfl) (by rfl) rfl _ _ _ rfl _ rfl rfl _ _ (by simp <;> rfl) (by simp) (fun w => (Tryd.sizeOf24 w)) ?_) | (refine Kx.anyW_storec_x (i := 9) rfl (by kernel_rfl) (by kernel_rfl) (by rfl) rfl _ _ _ rfl _ rfl rfl _ _ (by simp <;> rfl) (by simp) (fun w => (Tryd.sizeOf28 w)) ?_) | (refine Kx.anyW_storec_x (i := 9) rfl (by kernel_rfl) (by kernel_rfl) (by rfl) rfl _ _ _ rfl _ rfl rfl _ _ (by simp <;> rfl) (by simp) (fun w => (Tryd.sizeOf3 w)) ?_) | (refine Kx.anyW_storec_x (i := 9) rfl (by kernel_rfl) (by kernel_rfl) (by rfl) rfl _ _ _ rfl _ rfl rfl _ _ (by simp <;> rfl) (by simp) (fun w => (Tryd.sizeOf22 w)) ?_) | (refine Kx.anyW_storet_x (i := 9) rfl (by kernel_rfl) (by kernel_rfl) (by rfl) rfl _ _ _ rfl _ rfl _ rfl rfl _ _ (by simp <;> rfl) (by simp) (fun w => (Tryd.sizeOf24 w)) ?_) | (refine Kx.anyW_storet_x (i := 9) rfl (by kernel_rfl) (by kernel_rfl) (by rfl) rfl _ _ _ rfl _ rfl _ rfl rfl _ _ (by simp <;> rfl) (by simp) (fun w => (Tryd.sizeOf28 w)) ?_) | (refine Kx.anyW_storet_x (i := 9) rfl (by kernel_rfl) (by kernel_rfl) (by rfl) rfl _ _ _ rfl _ rfl _ rfl rfl _ _ (by simp <;> rfl) (by simp) (fun w => (Tryd.sizeOf3 w)) ?_) | (refine Kx.anyW_storet_x (i := 9) rfl (by kernel_rfl) (by kernel_rfl) (by rfl) rfl _ _ _ rfl _ rfl _ rfl rfl _ _ (by simp <;> rfl) (by simp) (fun w => (Tryd.sizeOf22 w)) ?_)
        refine anyW_done (by kernel_rfl) ?_
        clear HB
        intro w_ HB_
        have HB := Lib.hid HB_
        clear HB_
        go_wp2_with (first | (go_at_call 22; refine Calls.mono (HDF.out _ A2 c2 A3 _ c3) ?_; rintro e w_ ⟨rfl, hb_⟩; replace HB := Lib.hid (HB.out.call hb_); clear hb_) | ((with_reducible refine Kx.build_gate ?_); refine Km.wpList_build rfl 28 _ rfl #[] rfl (pc noPlan none 0 0 none 0 0).toArray (noPlan_built) ?_; refine Kx.framed ?_ (by simp only [Act.put, List.setIfInBounds_toArray, List.set_cons_succ, List.set_cons_zero] <;> rfl)) | (first | ((with_reducible refine Kx.absorb HB ?_); clear HB; intro w_ HB) | ((with_reducible refine Kx.box_gate ?_); (first | refine Kx.boxa HB rfl ?_ | refine Kx.boxt HB rfl rfl ?_ | refine Kx.box1 HB rfl rfl ?_); clear HB; intro b_ w_ HB; refine Kx.fr ?_) | ((with_reducible refine Kx.alloc_gate ?_); (first | refine Kx.ala HB ?_ | refine Kx.al1 HB ?_); clear HB; intro b_ w_ HB; refine Kx.fr ?_) | ((with_reducible refine Kx.loads_gate ?_); first | refine Kx.l1 HB rfl rfl ?_ | refine Kx.la HB rfl ?_ | refine Kx.lo HB rfl HC.out ?_) | ((with_reducible refine Kx.loadg_gate ?_); first | refine Kx.l1g HB rfl rfl rfl ?_ | refine Kx.lag HB rfl rfl ?_ | refine Kx.log HB rfl HC.out rfl ?_) | ((with_reducible refine Kx.store_gate ?_); (first | refine Kx.stwa HB rfl rfl ?_ | refine Kx.sta HB rfl rfl ?_ | refine Kx.stc HB rfl rfl ?_ | refine Kx.stt HB rfl rfl rfl ?_ | refine Kx.st1 HB rfl rfl rfl ?_); clear HB; intro w_ HB)))
        refine bodyPost_ret (Kx.results_xt HB rfl _ _ _ rfl (by simp <;> rfl) (by simp <;> rfl)) rfl ?_; exact HFIN.out _ HB.out.below
      · have HFIN := Lib.hid (HYES.out hS)
        rw [decide_eq_false hS, Bool.not_false] at HDF
        rw [HNX.out] at HFIN
        rw [HNX.out] at HDF
        clear HNO HYES HNX hS
        go_wp2_with (first | (go_at_call 16; refine Calls.mono (HCa.out _ A2 c2 HB.out.below) ?_; rintro e w_ ⟨rfl, hb_⟩; replace HB := Lib.hid (HB.out.call hb_); clear hb_) | (go_at_call 17; refine Calls.mono (HMay.out _ A2 c2 HB.out.below (HB.out.rowRd (A := A2))) ?_; rintro e w_ ⟨rfl, hb_⟩; replace HB := Lib.hid (HB.out.call hb_); clear hb_) | (go_at_call 18; refine Calls.mono (HCH.out _ A2 c2 HB.out.below) ?_; rintro e w_ ⟨A3, c3, rfl, hb_, hown_⟩; replace HB := Lib.hid (HB.out.callRow hb_ hown_); clear hb_ hown_) | (first | ((with_reducible refine Kx.absorb HB ?_); clear HB; intro w_ HB) | ((with_reducible refine Kx.box_gate ?_); (first | refine Kx.boxa HB rfl ?_ | refine Kx.boxt HB rfl rfl ?_ | refine Kx.box1 HB rfl rfl ?_); clear HB; intro b_ w_ HB; refine Kx.fr ?_) | ((with_reducible refine Kx.alloc_gate ?_); (first | refine Kx.ala HB ?_ | refine Kx.al1 HB ?_); clear HB; intro b_ w_ HB; refine Kx.fr ?_) | ((with_reducible refine Kx.loads_gate ?_); first | refine Kx.l1 HB rfl rfl ?_ | refine Kx.la HB rfl ?_ | refine Kx.lo HB rfl HC.out ?_) | ((with_reducible refine Kx.loadg_gate ?_); first | refine Kx.l1g HB rfl rfl rfl ?_ | refine Kx.lag HB rfl rfl ?_ | refine Kx.log HB rfl HC.out rfl ?_) | ((with_reducible refine Kx.store_gate ?_); (first | refine Kx.stwa HB rfl rfl ?_ | refine Kx.sta HB rfl rfl ?_ | refine Kx.stc HB rfl rfl ?_ | refine Kx.stt HB rfl rfl rfl ?_ | refine Kx.st1 HB rfl rfl rfl ?_); clear HB; intro w_ HB)))
        refine Kx.region_x HB (fun i => i == 9) (by kernel_rfl) ?_
        refine Kx.tk 0 rfl ?_
        first | refine Kx.xl1 1 rfl rfl rfl ?_ | refine Kx.xla 1 rfl rfl ?_ | refine Kx.xlo 1 rfl rfl HC.out ?_
        refine Kx.tk 2 rfl ?_
        refine Kx.tk 3 rfl ?_
        first | refine Kx.xl1 4 rfl rfl rfl ?_ | refine Kx.xla 4 rfl rfl ?_ | refine Kx.xlo 4 rfl rfl HC.out ?_
        refine anyW_call (i := 5) (v := ?v5_168) (f := ?g5_168) (args := ?s5_168) (a' := ?a5_168) (by first | exact Kx.bears_x | exact bears_u | assumption) rfl (by kernel_rfl) (by kernel_rfl) (by kernel_rfl) (fun _ _ _ h => h) (by kernel_rfl) ?c5_168 ?w5_168 ?y5_168 ?f5_168 ?r5_168
        case w5_168 => kernel_rfl
        case y5_168 => (intro W hW; go_simp; first | (refine ⟨?_, ?_⟩ <;> with_reducible rfl) | with_reducible rfl)
        case c5_168 => (intro W hW; refine Calls.mono (HZBIT.out W) ?_; rintro e w_ ⟨rfl, hb_⟩; refine ⟨?_, by first | exact hb_ | exact hb_ ▸ Below.refl _ _⟩; with_reducible rfl)
        case f5_168 => (go_simp; try with_reducible rfl)
        refine Kx.tk 6 rfl ?_
        refine anyW_call (i := 7) (v := ?v7_169) (f := ?g7_169) (args := ?s7_169) (a' := ?a7_169) (by first | exact Kx.bears_x | exact bears_u | assumption) rfl (by kernel_rfl) (by kernel_rfl) (by kernel_rfl) (fun _ _ _ h => h) (by kernel_rfl) ?c7_169 ?w7_169 ?y7_169 ?f7_169 ?r7_169
        case w7_169 => kernel_rfl
        case y7_169 => (intro W hW; go_simp; first | (refine ⟨?_, ?_⟩ <;> with_reducible rfl) | with_reducible rfl)
        case c7_169 => (intro W hW; refine Calls.mono (HZSP.out W hW.below) ?_; rintro e w_ ⟨rfl, hb_⟩; refine ⟨?_, by first | exact hb_ | exact hb_ ▸ Below.refl _ _⟩; with_reducible rfl)
        case f7_169 => (go_simp; try with_reducible rfl)
        refine Kx.tk 8 rfl ?_
        first | (refine Kx.anyW_storewa_x (i := 9) rfl (by kernel_rfl) (by kernel_rfl) (by rfl) rfl _ _ _ rfl _ rfl _ rfl _ (by rfl) (fun w => (Tryd.sizeOf24 w)) (by rfl) ?_) | (refine Kx.anyW_storewa_x (i := 9) rfl (by kernel_rfl) (by kernel_rfl) (by rfl) rfl _ _ _ rfl _ rfl _ rfl _ (by rfl) (fun w => (Tryd.sizeOf28 w)) (by rfl) ?_) | (refine Kx.anyW_storewa_x (i := 9) rfl (by kernel_rfl) (by kernel_rfl) (by rfl) rfl _ _ _ rfl _ rfl _ rfl _ (by rfl) (fun w => (Tryd.sizeOf3 w)) (by rfl) ?_) | (refine Kx.anyW_storewa_x (i := 9) rfl (by kernel_rfl) (by kernel_rfl) (by rfl) rfl _ _ _ rfl _ rfl _ rfl _ (by rfl) (fun w => (Tryd.sizeOf22 w)) (by rfl) ?_) | (refine Kx.anyW_storea_x (i := 9) rfl (by kernel_rfl) (by kernel_rfl) (by rfl) rfl _ _ _ rfl _ rfl _ rfl _ _ (by simp [Kx.splice] <;> rfl) (by simp) (fun w => (Tryd.sizeOf24 w)) (by rfl) ?_) | (refine Kx.anyW_storea_x (i := 9) rfl (by kernel_rfl) (by kernel_rfl) (by rfl) rfl _ _ _ rfl _ rfl _ rfl _ _ (by simp [Kx.splice] <;> rfl) (by simp) (fun w => (Tryd.sizeOf28 w)) (by rfl) ?_) | (refine Kx.anyW_storea_x (i := 9) rfl (by kernel_rfl) (by kernel_rfl) (by rfl) rfl _ _ _ rfl _ rfl _ rfl _ _ (by simp [Kx.splice] <;> rfl) (by simp) (fun w => (Tryd.sizeOf3 w)) (by rfl) ?_) | (refine Kx.anyW_storea_x (i := 9) rfl (by kernel_rfl) (by kernel_rfl) (by rfl) rfl _ _ _ rfl _ rfl _ rfl _ _ (by simp [Kx.splice] <;> rfl) (by simp) (fun w => (Tryd.sizeOf22 w)) (by rfl) ?_) | (refine Kx.anyW_storec_x (i := 9) rfl (by kernel_rfl) (by kernel_rfl) (by rfl) rfl _ _ _ rfl _ rfl rfl _ _ (by simp <;> rfl) (by simp) (fun w => (Tryd.sizeOf24 w)) ?_) | (refine Kx.anyW_storec_x (i := 9) rfl (by kernel_rfl) (by kernel_rfl) (by rfl) rfl _ _ _ rfl _ rfl rfl _ _ (by simp <;> rfl) (by simp) (fun w => (Tryd.sizeOf28 w)) ?_) | (refine Kx.anyW_storec_x (i := 9) rfl (by kernel_rfl) (by kernel_rfl) (by rfl) rfl _ _ _ rfl _ rfl rfl _ _ (by simp <;> rfl) (by simp) (fun w => (Tryd.sizeOf3 w)) ?_) | (refine Kx.anyW_storec_x (i := 9) rfl (by kernel_rfl) (by kernel_rfl) (by rfl) rfl _ _ _ rfl _ rfl rfl _ _ (by simp <;> rfl) (by simp) (fun w => (Tryd.sizeOf22 w)) ?_) | (refine Kx.anyW_storet_x (i := 9) rfl (by kernel_rfl) (by kernel_rfl) (by rfl) rfl _ _ _ rfl _ rfl _ rfl rfl _ _ (by simp <;> rfl) (by simp) (fun w => (Tryd.sizeOf24 w)) ?_) | (refine Kx.anyW_storet_x (i := 9) rfl (by kernel_rfl) (by kernel_rfl) (by rfl) rfl _ _ _ rfl _ rfl _ rfl rfl _ _ (by simp <;> rfl) (by simp) (fun w => (Tryd.sizeOf28 w)) ?_) | (refine Kx.anyW_storet_x (i := 9) rfl (by kernel_rfl) (by kernel_rfl) (by rfl) rfl _ _ _ rfl _ rfl _ rfl rfl _ _ (by simp <;> rfl) (by simp) (fun w => (Tryd.sizeOf3 w)) ?_) | (refine Kx.anyW_storet_x (i := 9) rfl (by kernel_rfl) (by kernel_rfl) (by rfl) rfl _ _ _ rfl _ rfl _ rfl rfl _ _ (by simp <;> rfl) (by simp) (fun w => (Tryd.sizeOf22 w)) ?_)
        refine anyW_done (by kernel_rfl) ?_
        clear HB
        intro w_ HB_
        have HB := Lib.hid HB_
        clear HB_
        go_wp2_with (first | (go_at_call 22; refine Calls.mono (HDF.out _ A2 c2 A3 _ c3) ?_; rintro e w_ ⟨rfl, hb_⟩; replace HB := Lib.hid (HB.out.call hb_); clear hb_) | ((with_reducible refine Kx.build_gate ?_); refine Km.wpList_build rfl 28 _ rfl #[] rfl (pc noPlan none 0 0 none 0 0).toArray (noPlan_built) ?_; refine Kx.framed ?_ (by simp only [Act.put, List.setIfInBounds_toArray, List.set_cons_succ, List.set_cons_zero] <;> rfl)) | (first | ((with_reducible refine Kx.absorb HB ?_); clear HB; intro w_ HB) | ((with_reducible refine Kx.box_gate ?_); (first | refine Kx.boxa HB rfl ?_ | refine Kx.boxt HB rfl rfl ?_ | refine Kx.box1 HB rfl rfl ?_); clear HB; intro b_ w_ HB; refine Kx.fr ?_) | ((with_reducible refine Kx.alloc_gate ?_); (first | refine Kx.ala HB ?_ | refine Kx.al1 HB ?_); clear HB; intro b_ w_ HB; refine Kx.fr ?_) | ((with_reducible refine Kx.loads_gate ?_); first | refine Kx.l1 HB rfl rfl ?_ | refine Kx.la HB rfl ?_ | refine Kx.lo HB rfl HC.out ?_) | ((with_reducible refine Kx.loadg_gate ?_); first | refine Kx.l1g HB rfl rfl rfl ?_ | refine Kx.lag HB rfl rfl ?_ | refine Kx.log HB rfl HC.out rfl ?_) | ((with_reducible refine Kx.store_gate ?_); (first | refine Kx.stwa HB rfl rfl ?_ | refine Kx.sta HB rfl rfl ?_ | refine Kx.stc HB rfl rfl ?_ | refine Kx.stt HB rfl rfl rfl ?_ | refine Kx.st1 HB rfl rfl rfl ?_); clear HB; intro w_ HB)))
        refine bodyPost_ret (Kx.results_xt HB rfl _ _ _ rfl (by simp <;> rfl) (by simp <;> rfl)) rfl ?_; exact HFIN.out _ A2 c2 A3 _ c3 HB.out.below (HB.out.newRow (A := A2)) HB.out.newHead HLENC.out (HB.out.rows _ (List.mem_cons_self ..)).1.le.1
    case neg =>
      have HNX := Lib.hid (HNXK.out hMay)
      rw [decide_eq_false hMay] at HMay
      clear HNXC HNXK HCH HZBIT HZSP hZAN hMay HLENC
      by_cases hS : Gm.Same ⟨xe, xt, xp, xs', xc, xst, xsi, xra, xup, xsu, pen, ch⟩ (Gm.nx (gc c xs) ⟨xe, xt, xp, xs', xc, xst, xsi, xra, xup, xsu, pen, ch⟩ u t)
      · have HFIN := Lib.hid (HNO.out hS)
        rw [decide_eq_true hS, Bool.not_true] at HDF
        rw [HNX.out] at HDF
        clear HNO HYES HNX hS
        go_wp2_with (first | (go_at_call 16; refine Calls.mono (HCa.out _ A2 c2 HB.out.below) ?_; rintro e w_ ⟨rfl, hb_⟩; replace HB := Lib.hid (HB.out.call hb_); clear hb_) | (go_at_call 17; refine Calls.mono (HMay.out _ A2 c2 HB.out.below (HB.out.rowRd (A := A2))) ?_; rintro e w_ ⟨rfl, hb_⟩; replace HB := Lib.hid (HB.out.call hb_); clear hb_) | (go_at_call 19; refine Calls.mono (HKE.out _ A2 c2 HB.out.below) ?_; rintro e w_ ⟨A3, c3, rfl, hb_, hown_⟩; replace HB := Lib.hid (HB.out.callRow hb_ hown_); clear hb_ hown_) | (first | ((with_reducible refine Kx.absorb HB ?_); clear HB; intro w_ HB) | ((with_reducible refine Kx.box_gate ?_); (first | refine Kx.boxa HB rfl ?_ | refine Kx.boxt HB rfl rfl ?_ | refine Kx.box1 HB rfl rfl ?_); clear HB; intro b_ w_ HB; refine Kx.fr ?_) | ((with_reducible refine Kx.alloc_gate ?_); (first | refine Kx.ala HB ?_ | refine Kx.al1 HB ?_); clear HB; intro b_ w_ HB; refine Kx.fr ?_) | ((with_reducible refine Kx.loads_gate ?_); first | refine Kx.l1 HB rfl rfl ?_ | refine Kx.la HB rfl ?_ | refine Kx.lo HB rfl HC.out ?_) | ((with_reducible refine Kx.loadg_gate ?_); first | refine Kx.l1g HB rfl rfl rfl ?_ | refine Kx.lag HB rfl rfl ?_ | refine Kx.log HB rfl HC.out rfl ?_) | ((with_reducible refine Kx.store_gate ?_); (first | refine Kx.stwa HB rfl rfl ?_ | refine Kx.sta HB rfl rfl ?_ | refine Kx.stc HB rfl rfl ?_ | refine Kx.stt HB rfl rfl rfl ?_ | refine Kx.st1 HB rfl rfl rfl ?_); clear HB; intro w_ HB)))
        refine Kx.region_x HB (fun i => i == 9) (by kernel_rfl) ?_
        refine Kx.tk 0 rfl ?_
        first | refine Kx.xl1 1 rfl rfl rfl ?_ | refine Kx.xla 1 rfl rfl ?_ | refine Kx.xlo 1 rfl rfl HC.out ?_
        refine Kx.tk 2 rfl ?_
        refine Kx.tk 3 rfl ?_
        first | refine Kx.xl1 4 rfl rfl rfl ?_ | refine Kx.xla 4 rfl rfl ?_ | refine Kx.xlo 4 rfl rfl HC.out ?_
        refine anyW_call (i := 5) (v := ?v5_170) (f := ?g5_170) (args := ?s5_170) (a' := ?a5_170) (by first | exact Kx.bears_x | exact bears_u | assumption) rfl (by kernel_rfl) (by kernel_rfl) (by kernel_rfl) (fun _ _ _ h => h) (by kernel_rfl) ?c5_170 ?w5_170 ?y5_170 ?f5_170 ?r5_170
        case w5_170 => kernel_rfl
        case y5_170 => (intro W hW; go_simp; first | (refine ⟨?_, ?_⟩ <;> with_reducible rfl) | with_reducible rfl)
        case c5_170 => (intro W hW; refine Calls.mono (HXBIT.out W) ?_; rintro e w_ ⟨rfl, hb_⟩; refine ⟨?_, by first | exact hb_ | exact hb_ ▸ Below.refl _ _⟩; with_reducible rfl)
        case f5_170 => (go_simp; try with_reducible rfl)
        refine Kx.tk 6 rfl ?_
        refine anyW_call (i := 7) (v := ?v7_171) (f := ?g7_171) (args := ?s7_171) (a' := ?a7_171) (by first | exact Kx.bears_x | exact bears_u | assumption) rfl (by kernel_rfl) (by kernel_rfl) (by kernel_rfl) (fun _ _ _ h => h) (by kernel_rfl) ?c7_171 ?w7_171 ?y7_171 ?f7_171 ?r7_171
        case w7_171 => kernel_rfl
        case y7_171 => (intro W hW; go_simp; first | (refine ⟨?_, ?_⟩ <;> with_reducible rfl) | with_reducible rfl)
        case c7_171 => (intro W hW; refine Calls.mono (HXSP.out W hW.below) ?_; rintro e w_ ⟨rfl, hb_⟩; refine ⟨?_, by first | exact hb_ | exact hb_ ▸ Below.refl _ _⟩; with_reducible rfl)
        case f7_171 => (go_simp; try with_reducible rfl)
        refine Kx.tk 8 rfl ?_
        first | (refine Kx.anyW_storewa_x (i := 9) rfl (by kernel_rfl) (by kernel_rfl) (by rfl) rfl _ _ _ rfl _ rfl _ rfl _ (by rfl) (fun w => (Tryd.sizeOf24 w)) (by rfl) ?_) | (refine Kx.anyW_storewa_x (i := 9) rfl (by kernel_rfl) (by kernel_rfl) (by rfl) rfl _ _ _ rfl _ rfl _ rfl _ (by rfl) (fun w => (Tryd.sizeOf28 w)) (by rfl) ?_) | (refine Kx.anyW_storewa_x (i := 9) rfl (by kernel_rfl) (by kernel_rfl) (by rfl) rfl _ _ _ rfl _ rfl _ rfl _ (by rfl) (fun w => (Tryd.sizeOf3 w)) (by rfl) ?_) | (refine Kx.anyW_storewa_x (i := 9) rfl (by kernel_rfl) (by kernel_rfl) (by rfl) rfl _ _ _ rfl _ rfl _ rfl _ (by rfl) (fun w => (Tryd.sizeOf22 w)) (by rfl) ?_) | (refine Kx.anyW_storea_x (i := 9) rfl (by kernel_rfl) (by kernel_rfl) (by rfl) rfl _ _ _ rfl _ rfl _ rfl _ _ (by simp [Kx.splice] <;> rfl) (by simp) (fun w => (Tryd.sizeOf24 w)) (by rfl) ?_) | (refine Kx.anyW_storea_x (i := 9) rfl (by kernel_rfl) (by kernel_rfl) (by rfl) rfl _ _ _ rfl _ rfl _ rfl _ _ (by simp [Kx.splice] <;> rfl) (by simp) (fun w => (Tryd.sizeOf28 w)) (by rfl) ?_) | (refine Kx.anyW_storea_x (i := 9) rfl (by kernel_rfl) (by kernel_rfl) (by rfl) rfl _ _ _ rfl _ rfl _ rfl _ _ (by simp [Kx.splice] <;> rfl) (by simp) (fun w => (Tryd.sizeOf3 w)) (by rfl) ?_) | (refine Kx.anyW_storea_x (i := 9) rfl (by kernel_rfl) (by kernel_rfl) (by rfl) rfl _ _ _ rfl _ rfl _ rfl _ _ (by simp [Kx.splice] <;> rfl) (by simp) (fun w => (Tryd.sizeOf22 w)) (by rfl) ?_) | (refine Kx.anyW_storec_x (i := 9) rfl (by kernel_rfl) (by kernel_rfl) (by rfl) rfl _ _ _ rfl _ rfl rfl _ _ (by simp <;> rfl) (by simp) (fun w => (Tryd.sizeOf24 w)) ?_) | (refine Kx.anyW_storec_x (i := 9) rfl (by kernel_rfl) (by kernel_rfl) (by rfl) rfl _ _ _ rfl _ rfl rfl _ _ (by simp <;> rfl) (by simp) (fun w => (Tryd.sizeOf28 w)) ?_) | (refine Kx.anyW_storec_x (i := 9) rfl (by kernel_rfl) (by kernel_rfl) (by rfl) rfl _ _ _ rfl _ rfl rfl _ _ (by simp <;> rfl) (by simp) (fun w => (Tryd.sizeOf3 w)) ?_) | (refine Kx.anyW_storec_x (i := 9) rfl (by kernel_rfl) (by kernel_rfl) (by rfl) rfl _ _ _ rfl _ rfl rfl _ _ (by simp <;> rfl) (by simp) (fun w => (Tryd.sizeOf22 w)) ?_) | (refine Kx.anyW_storet_x (i := 9) rfl (by kernel_rfl) (by kernel_rfl) (by rfl) rfl _ _ _ rfl _ rfl _ rfl rfl _ _ (by simp <;> rfl) (by simp) (fun w => (Tryd.sizeOf24 w)) ?_) | (refine Kx.anyW_storet_x (i := 9) rfl (by kernel_rfl) (by kernel_rfl) (by rfl) rfl _ _ _ rfl _ rfl _ rfl rfl _ _ (by simp <;> rfl) (by simp) (fun w => (Tryd.sizeOf28 w)) ?_) | (refine Kx.anyW_storet_x (i := 9) rfl (by kernel_rfl) (by kernel_rfl) (by rfl) rfl _ _ _ rfl _ rfl _ rfl rfl _ _ (by simp <;> rfl) (by simp) (fun w => (Tryd.sizeOf3 w)) ?_) | (refine Kx.anyW_storet_x (i := 9) rfl (by kernel_rfl) (by kernel_rfl) (by rfl) rfl _ _ _ rfl _ rfl _ rfl rfl _ _ (by simp <;> rfl) (by simp) (fun w => (Tryd.sizeOf22 w)) ?_)
        refine anyW_done (by kernel_rfl) ?_
        clear HB
        intro w_ HB_
        have HB := Lib.hid HB_
        clear HB_
        go_wp2_with (first | (go_at_call 22; refine Calls.mono (HDF.out _ A2 c2 A3 _ c3) ?_; rintro e w_ ⟨rfl, hb_⟩; replace HB := Lib.hid (HB.out.call hb_); clear hb_) | ((with_reducible refine Kx.build_gate ?_); refine Km.wpList_build rfl 28 _ rfl #[] rfl (pc noPlan none 0 0 none 0 0).toArray (noPlan_built) ?_; refine Kx.framed ?_ (by simp only [Act.put, List.setIfInBounds_toArray, List.set_cons_succ, List.set_cons_zero] <;> rfl)) | (first | ((with_reducible refine Kx.absorb HB ?_); clear HB; intro w_ HB) | ((with_reducible refine Kx.box_gate ?_); (first | refine Kx.boxa HB rfl ?_ | refine Kx.boxt HB rfl rfl ?_ | refine Kx.box1 HB rfl rfl ?_); clear HB; intro b_ w_ HB; refine Kx.fr ?_) | ((with_reducible refine Kx.alloc_gate ?_); (first | refine Kx.ala HB ?_ | refine Kx.al1 HB ?_); clear HB; intro b_ w_ HB; refine Kx.fr ?_) | ((with_reducible refine Kx.loads_gate ?_); first | refine Kx.l1 HB rfl rfl ?_ | refine Kx.la HB rfl ?_ | refine Kx.lo HB rfl HC.out ?_) | ((with_reducible refine Kx.loadg_gate ?_); first | refine Kx.l1g HB rfl rfl rfl ?_ | refine Kx.lag HB rfl rfl ?_ | refine Kx.log HB rfl HC.out rfl ?_) | ((with_reducible refine Kx.store_gate ?_); (first | refine Kx.stwa HB rfl rfl ?_ | refine Kx.sta HB rfl rfl ?_ | refine Kx.stc HB rfl rfl ?_ | refine Kx.stt HB rfl rfl rfl ?_ | refine Kx.st1 HB rfl rfl rfl ?_); clear HB; intro w_ HB)))
        refine bodyPost_ret (Kx.results_xt HB rfl _ _ _ rfl (by simp <;> rfl) (by simp <;> rfl)) rfl ?_; exact HFIN.out _ HB.out.below
      · have HFIN := Lib.hid (HYES.out hS)
        rw [decide_eq_false hS, Bool.not_false] at HDF
        rw [HNX.out] at HFIN
        rw [HNX.out] at HDF
        clear HNO HYES HNX hS
        go_wp2_with (first | (go_at_call 16; refine Calls.mono (HCa.out _ A2 c2 HB.out.below) ?_; rintro e w_ ⟨rfl, hb_⟩; replace HB := Lib.hid (HB.out.call hb_); clear hb_) | (go_at_call 17; refine Calls.mono (HMay.out _ A2 c2 HB.out.below (HB.out.rowRd (A := A2))) ?_; rintro e w_ ⟨rfl, hb_⟩; replace HB := Lib.hid (HB.out.call hb_); clear hb_) | (go_at_call 19; refine Calls.mono (HKE.out _ A2 c2 HB.out.below) ?_; rintro e w_ ⟨A3, c3, rfl, hb_, hown_⟩; replace HB := Lib.hid (HB.out.callRow hb_ hown_); clear hb_ hown_) | (first | ((with_reducible refine Kx.absorb HB ?_); clear HB; intro w_ HB) | ((with_reducible refine Kx.box_gate ?_); (first | refine Kx.boxa HB rfl ?_ | refine Kx.boxt HB rfl rfl ?_ | refine Kx.box1 HB rfl rfl ?_); clear HB; intro b_ w_ HB; refine Kx.fr ?_) | ((with_reducible refine Kx.alloc_gate ?_); (first | refine Kx.ala HB ?_ | refine Kx.al1 HB ?_); clear HB; intro b_ w_ HB; refine Kx.fr ?_) | ((with_reducible refine Kx.loads_gate ?_); first | refine Kx.l1 HB rfl rfl ?_ | refine Kx.la HB rfl ?_ | refine Kx.lo HB rfl HC.out ?_) | ((with_reducible refine Kx.loadg_gate ?_); first | refine Kx.l1g HB rfl rfl rfl ?_ | refine Kx.lag HB rfl rfl ?_ | refine Kx.log HB rfl HC.out rfl ?_) | ((with_reducible refine Kx.store_gate ?_); (first | refine Kx.stwa HB rfl rfl ?_ | refine Kx.sta HB rfl rfl ?_ | refine Kx.stc HB rfl rfl ?_ | refine Kx.stt HB rfl rfl rfl ?_ | refine Kx.st1 HB rfl rfl rfl ?_); clear HB; intro w_ HB)))
        refine Kx.region_x HB (fun i => i == 9) (by kernel_rfl) ?_
        refine Kx.tk 0 rfl ?_
        first | refine Kx.xl1 1 rfl rfl rfl ?_ | refine Kx.xla 1 rfl rfl ?_ | refine Kx.xlo 1 rfl rfl HC.out ?_
        refine Kx.tk 2 rfl ?_
        refine Kx.tk 3 rfl ?_
        first | refine Kx.xl1 4 rfl rfl rfl ?_ | refine Kx.xla 4 rfl rfl ?_ | refine Kx.xlo 4 rfl rfl HC.out ?_
        refine anyW_call (i := 5) (v := ?v5_172) (f := ?g5_172) (args := ?s5_172) (a' := ?a5_172) (by first | exact Kx.bears_x | exact bears_u | assumption) rfl (by kernel_rfl) (by kernel_rfl) (by kernel_rfl) (fun _ _ _ h => h) (by kernel_rfl) ?c5_172 ?w5_172 ?y5_172 ?f5_172 ?r5_172
        case w5_172 => kernel_rfl
        case y5_172 => (intro W hW; go_simp; first | (refine ⟨?_, ?_⟩ <;> with_reducible rfl) | with_reducible rfl)
        case c5_172 => (intro W hW; refine Calls.mono (HXBIT.out W) ?_; rintro e w_ ⟨rfl, hb_⟩; refine ⟨?_, by first | exact hb_ | exact hb_ ▸ Below.refl _ _⟩; with_reducible rfl)
        case f5_172 => (go_simp; try with_reducible rfl)
        refine Kx.tk 6 rfl ?_
        refine anyW_call (i := 7) (v := ?v7_173) (f := ?g7_173) (args := ?s7_173) (a' := ?a7_173) (by first | exact Kx.bears_x | exact bears_u | assumption) rfl (by kernel_rfl) (by kernel_rfl) (by kernel_rfl) (fun _ _ _ h => h) (by kernel_rfl) ?c7_173 ?w7_173 ?y7_173 ?f7_173 ?r7_173
        case w7_173 => kernel_rfl
        case y7_173 => (intro W hW; go_simp; first | (refine ⟨?_, ?_⟩ <;> with_reducible rfl) | with_reducible rfl)
        case c7_173 => (intro W hW; refine Calls.mono (HXSP.out W hW.below) ?_; rintro e w_ ⟨rfl, hb_⟩; refine ⟨?_, by first | exact hb_ | exact hb_ ▸ Below.refl _ _⟩; with_reducible rfl)
        case f7_173 => (go_simp; try with_reducible rfl)
        refine Kx.tk 8 rfl ?_
        first | (refine Kx.anyW_storewa_x (i := 9) rfl (by kernel_rfl) (by kernel_rfl) (by rfl) rfl _ _ _ rfl _ rfl _ rfl _ (by rfl) (fun w => (Tryd.sizeOf24 w)) (by rfl) ?_) | (refine Kx.anyW_storewa_x (i := 9) rfl (by kernel_rfl) (by kernel_rfl) (by rfl) rfl _ _ _ rfl _ rfl _ rfl _ (by rfl) (fun w => (Tryd.sizeOf28 w)) (by rfl) ?_) | (refine Kx.anyW_storewa_x (i := 9) rfl (by kernel_rfl) (by kernel_rfl) (by rfl) rfl _ _ _ rfl _ rfl _ rfl _ (by rfl) (fun w => (Tryd.sizeOf3 w)) (by rfl) ?_) | (refine Kx.anyW_storewa_x (i := 9) rfl (by kernel_rfl) (by kernel_rfl) (by rfl) rfl _ _ _ rfl _ rfl _ rfl _ (by rfl) (fun w => (Tryd.sizeOf22 w)) (by rfl) ?_) | (refine Kx.anyW_storea_x (i := 9) rfl (by kernel_rfl) (by kernel_rfl) (by rfl) rfl _ _ _ rfl _ rfl _ rfl _ _ (by simp [Kx.splice] <;> rfl) (by simp) (fun w => (Tryd.sizeOf24 w)) (by rfl) ?_) | (refine Kx.anyW_storea_x (i := 9) rfl (by kernel_rfl) (by kernel_rfl) (by rfl) rfl _ _ _ rfl _ rfl _ rfl _ _ (by simp [Kx.splice] <;> rfl) (by simp) (fun w => (Tryd.sizeOf28 w)) (by rfl) ?_) | (refine Kx.anyW_storea_x (i := 9) rfl (by kernel_rfl) (by kernel_rfl) (by rfl) rfl _ _ _ rfl _ rfl _ rfl _ _ (by simp [Kx.splice] <;> rfl) (by simp) (fun w => (Tryd.sizeOf3 w)) (by rfl) ?_) | (refine Kx.anyW_storea_x (i := 9) rfl (by kernel_rfl) (by kernel_rfl) (by rfl) rfl _ _ _ rfl _ rfl _ rfl _ _ (by simp [Kx.splice] <;> rfl) (by simp) (fun w => (Tryd.sizeOf22 w)) (by rfl) ?_) | (refine Kx.anyW_storec_x (i := 9) rfl (by kernel_rfl) (by kernel_rfl) (by rfl) rfl _ _ _ rfl _ rfl rfl _ _ (by simp <;> rfl) (by simp) (fun w => (Tryd.sizeOf24 w)) ?_) | (refine Kx.anyW_storec_x (i := 9) rfl (by kernel_rfl) (by kernel_rfl) (by rfl) rfl _ _ _ rfl _ rfl rfl _ _ (by simp <;> rfl) (by simp) (fun w => (Tryd.sizeOf28 w)) ?_) | (refine Kx.anyW_storec_x (i := 9) rfl (by kernel_rfl) (by kernel_rfl) (by rfl) rfl _ _ _ rfl _ rfl rfl _ _ (by simp <;> rfl) (by simp) (fun w => (Tryd.sizeOf3 w)) ?_) | (refine Kx.anyW_storec_x (i := 9) rfl (by kernel_rfl) (by kernel_rfl) (by rfl) rfl _ _ _ rfl _ rfl rfl _ _ (by simp <;> rfl) (by simp) (fun w => (Tryd.sizeOf22 w)) ?_) | (refine Kx.anyW_storet_x (i := 9) rfl (by kernel_rfl) (by kernel_rfl) (by rfl) rfl _ _ _ rfl _ rfl _ rfl rfl _ _ (by simp <;> rfl) (by simp) (fun w => (Tryd.sizeOf24 w)) ?_) | (refine Kx.anyW_storet_x (i := 9) rfl (by kernel_rfl) (by kernel_rfl) (by rfl) rfl _ _ _ rfl _ rfl _ rfl rfl _ _ (by simp <;> rfl) (by simp) (fun w => (Tryd.sizeOf28 w)) ?_) | (refine Kx.anyW_storet_x (i := 9) rfl (by kernel_rfl) (by kernel_rfl) (by rfl) rfl _ _ _ rfl _ rfl _ rfl rfl _ _ (by simp <;> rfl) (by simp) (fun w => (Tryd.sizeOf3 w)) ?_) | (refine Kx.anyW_storet_x (i := 9) rfl (by kernel_rfl) (by kernel_rfl) (by rfl) rfl _ _ _ rfl _ rfl _ rfl rfl _ _ (by simp <;> rfl) (by simp) (fun w => (Tryd.sizeOf22 w)) ?_)
        refine anyW_done (by kernel_rfl) ?_
        clear HB
        intro w_ HB_
        have HB := Lib.hid HB_
        clear HB_
        go_wp2_with (first | (go_at_call 22; refine Calls.mono (HDF.out _ A2 c2 A3 _ c3) ?_; rintro e w_ ⟨rfl, hb_⟩; replace HB := Lib.hid (HB.out.call hb_); clear hb_) | ((with_reducible refine Kx.build_gate ?_); refine Km.wpList_build rfl 28 _ rfl #[] rfl (pc noPlan none 0 0 none 0 0).toArray (noPlan_built) ?_; refine Kx.framed ?_ (by simp only [Act.put, List.setIfInBounds_toArray, List.set_cons_succ, List.set_cons_zero] <;> rfl)) | (first | ((with_reducible refine Kx.absorb HB ?_); clear HB; intro w_ HB) | ((with_reducible refine Kx.box_gate ?_); (first | refine Kx.boxa HB rfl ?_ | refine Kx.boxt HB rfl rfl ?_ | refine Kx.box1 HB rfl rfl ?_); clear HB; intro b_ w_ HB; refine Kx.fr ?_) | ((with_reducible refine Kx.alloc_gate ?_); (first | refine Kx.ala HB ?_ | refine Kx.al1 HB ?_); clear HB; intro b_ w_ HB; refine Kx.fr ?_) | ((with_reducible refine Kx.loads_gate ?_); first | refine Kx.l1 HB rfl rfl ?_ | refine Kx.la HB rfl ?_ | refine Kx.lo HB rfl HC.out ?_) | ((with_reducible refine Kx.loadg_gate ?_); first | refine Kx.l1g HB rfl rfl rfl ?_ | refine Kx.lag HB rfl rfl ?_ | refine Kx.log HB rfl HC.out rfl ?_) | ((with_reducible refine Kx.store_gate ?_); (first | refine Kx.stwa HB rfl rfl ?_ | refine Kx.sta HB rfl rfl ?_ | refine Kx.stc HB rfl rfl ?_ | refine Kx.stt HB rfl rfl rfl ?_ | refine Kx.st1 HB rfl rfl rfl ?_); clear HB; intro w_ HB)))
        refine bodyPost_ret (Kx.results_xt HB rfl _ _ _ rfl (by simp <;> rfl) (by simp <;> rfl)) rfl ?_; exact HFIN.out _ A2 c2 A3 _ c3 HB.out.below (HB.out.newRow (A := A2)) HB.out.newHead HLENK.out (HB.out.rows _ (List.mem_cons_self ..)).1.le.1

theorem PNext_any (c : Cf) (xs : List Int) (p : Pt) (up : Nat) (now : Int) (w : World) (ht : Tabs w) (hr : Rd w w.heap.size c.ta (Kc.i64s xs)) (hl : xs.length = c.tn) (hp : PAt w w.heap.size p.x p.A p.n p.c p.A' p.n' p.c') (hn : p.n ≤ 1000 ∧ p.n' ≤ 1000) (hu : up < 18446744073709551616) (hw : in64 now) :
    Calls Tryd.prog 5 #[.agg (cf c).toArray, .agg p.cells.toArray, .int .u64 (up : Int), .int .i64 now] w (NextSays w c xs p up now) := by
  obtain ⟨x, A, n, c0, A', n', c'⟩ := p
  dsimp only at hp hn
  show Calls Tryd.prog 5 #[.agg (cf c).toArray, .agg (pc x A n c0 A' n' c').toArray, .int .u64 (up : Int), .int .i64 now] w _
  by_cases hc : ConfP c xs
  case neg =>
    refine PNext_no c x A n c0 A' n' c' up now w xs (.inl fun W hb => ?_) (if_neg fun q => hc q.1)
    have := PRight_b c xs W ((hr.below hb).more hb.size) hl
    rwa [pright_is false ⟨fun q => (by cases q), fun q => absurd q hc⟩] at this
  have hN1 := hc.targets
  have hb1 := hc.b
  obtain ⟨N, hN⟩ : ∃ N : Nat, c.targets = (N : Int) := ⟨c.targets.toNat, by omega⟩
  obtain ⟨b, hb⟩ : ∃ b : Nat, c.b = (b : Int) := ⟨c.b.toNat, by omega⟩
  have h1 : ∀ W, Below w.heap.size w W → Calls Tryd.prog 7 #[.agg (cf c).toArray] W fun e w' => e = .returned (.bool true) ∧ Below W.heap.size W w' := fun W hb => by
    have := PRight_b c xs W ((hr.below hb).more hb.size) hl
    rwa [(right_iff c xs).2 hc] at this
  have hFN : FitsP N b x ↔ FitsP c.targets.toNat c.b.toNat x := by rw [hN, hb, Int.toNat_natCast, Int.toNat_natCast]
  have h2 : ∀ W, Below w.heap.size w W → Calls Tryd.prog 13 #[.agg (cf c).toArray, .agg (pc x A n c0 A' n' c').toArray] W (Says W (FitsP N b x)) := fun W hW =>
    PFits_any c x A n c0 A' n' c' N b W.heap.size W ((hp.below hW).more hW.size) (Nat.le_refl _) (by omega) (by omega) hN (by omega) hb (ht.below hW (Nat.le_refl _))
  by_cases hf : FitsP N b x
  case neg =>
    refine PNext_no c x A n c0 A' n' c' up now w xs (.inr ⟨h1, .inl fun W hW => ?_⟩) (if_neg fun q => hf (hFN.2 q.2.1))
    refine (h2 W hW).mono ?_
    rintro e w' ⟨q, rfl, hq, hbb⟩
    refine ⟨?_, hbb⟩
    cases q with
    | false => rfl
    | true => exact absurd (hq.1 rfl) hf
  have h3 : ∀ W, Below w.heap.size w W → Calls Tryd.prog 13 #[.agg (cf c).toArray, .agg (pc x A n c0 A' n' c').toArray] W fun e w' => e = .returned (.bool true) ∧ Below W.heap.size W w' := fun W hW => by
    refine (h2 W hW).mono ?_
    rintro e w' ⟨q, rfl, hq, hbb⟩
    refine ⟨?_, hbb⟩
    rw [hq.2 hf]
  by_cases he : x.e < 4611686018427387904
  case neg => exact PNext_no c x A n c0 A' n' c' up now w xs (.inr ⟨h1, .inr ⟨h3, by omega⟩⟩) (if_neg fun q => he q.2.2)
  have hnN : n = N := by have := hf.n; rw [hp.n] at this; exact this
  subst hnN
  exact PNext_go c xs x A n c0 A' n' c' up b now w hc hl hr hp ((fits_iff hc hp.ok).1 (hFN.1 hf)) hN hb he ht hu h1 h3
end Go.Proofs.YtpbogacodhjlfaaDoor
