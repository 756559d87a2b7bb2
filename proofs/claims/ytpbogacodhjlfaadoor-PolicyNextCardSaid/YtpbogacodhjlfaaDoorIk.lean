/- What a plan becomes as far as its target doesn't matter; one that is kept, one that is changed: the program's. -/
import Derived.Test.YtpbogacodhjlfaaDoorIj
import Derived.Test.YtpbogacodhjlfaaDoorKitP
namespace Go.Proofs.YtpbogacodhjlfaaDoor
open Go.RowKit Go.Shelf Km Kx Kc Kt
set_option linter.unusedVariables false

namespace Gm
/-- the next plan, but for what its target makes -/
def obs (x : Pl) (t : Int) (u su : Nat) (pen : List Int) : Pl := ⟨x.e + 1, x.t, x.p, x.s, x.c, t, x.si, x.ra, (u : Int), (su : Int), pen, x.ch⟩
def keptP (x : Pl) (step stt : Int) : Pl := if x.c < 100 ∧ stt ≤ x.st - x.ra then ⟨x.e, x.t, x.p, x.s, min (x.c + step) 100, x.st, x.si, x.st, x.up, x.su, x.pen, x.ch⟩ else x
def chg (x : Pl) (z c : Int) (b : Nat) : Pl := ⟨x.e, z, x.t, x.s, c, x.st, x.st, x.st, x.up, x.su, x.pen, x.ch.drop (x.ch.length + 1 - b) ++ [x.st]⟩
theorem sups_supF (c : Gc) (p : Pl) (u : Nat) (t : Int) (sv : Nat) (h : p.su = (sv : Int)) : maskOf (supF sv (pens c p u t) c.sup c.reu) c.n = sups c p u t := by
  refine maskOf_congr fun i hi => ?_
  unfold supF supAt
  rw [h, Int.toNat_natCast, pens_get c p u t hi]
end Gm

set_option maxRecDepth 100000 in
set_option maxHeartbeats 4000000 in
theorem observed_any (c : Cf) (xs : List Int) (x : Gm.Pl) (A : Option Addr) (n c0 : Nat) (A' : Option Addr) (n' c' : Nat) (u : Nat) (t : Int) (w : World) (hp : PAt w w.heap.size x A n c0 A' n' c') (hc : ConfP c xs) (hl : xs.length = c.tn) (hf : Gm.Fits (gc c xs) x) (hN : c.targets = (n : Int)) (hT : Tabs w)
    (hu : u < 2 ^ n) (ht : Gm.T t) (hle : x.st ≤ t) (he : x.e < 4611686018427387904) :
    Calls Tryd.prog 14 #[.agg (cf c).toArray, .agg (pc x A n c0 A' n' c').toArray, .int .u64 (u : Int), .int .i64 t] w fun e w' => ∃ A2 c2, e = .returned (.agg (pc (Gm.obs x t u (Gm.sups (gc c xs) x u t) (Gm.pens (gc c xs) x u t)) A2 n c2 A' n' c').toArray) ∧ Below w.heap.size w w' ∧ w'.ownsRow w.heap.size 3 1 (.slice A2 n c2) n (Kc.i64s (Gm.pens (gc c xs) x u t)) := by
  have HB := Lib.hid (Bxs.start w)
  have hn16 : n ≤ 16 := by have := hc.targets; omega
  have hgn : (gc c xs).n = n := by show c.targets.toNat = n; omega
  have hu64 : u < 18446744073709551616 := Nat.lt_of_lt_of_le hu (Nat.le_trans (Gm.pow16 hn16) (by decide))
  have hfu := hf.up
  have hfs := hf.su
  rw [hgn] at hfu hfs
  have har := fun i => Gm.pen_ar (hc.gok hl) hf ht hle i
  have HP : Hid (∀ W, Below w.heap.size w W → Calls Tryd.prog 38 #[.agg (cf c).toArray, .agg (pc x A n c0 A' n' c').toArray, .int .u64 (u : Int), .int .i64 t] W fun e w' => ∃ A2 c2, e = .returned (.slice A2 n c2) ∧ Below W.heap.size W w' ∧ w'.ownsRow W.heap.size 3 1 (.slice A2 n c2) n (Kc.i64s (Gm.pens (gc c xs) x u t))) := Lib.hid (fun W hb =>
    callsIn_wide.1 (penalties_in c xs x A n c0 A' n' c' u t W ((hp.below hb).more hb.size) hn16 hN (hT.below hb (Nat.le_refl _)) hu64 hfu hf.st ht har))
  obtain ⟨sv, hsv⟩ : ∃ sv : Nat, x.su = (sv : Int) := ⟨x.su.toNat, by omega⟩
  have hs2 := hfs.2
  rw [hsv] at hs2
  have hs3 : sv < 2 ^ n := by exact_mod_cast hs2
  have hs64 : sv < 18446744073709551616 := Nat.lt_of_lt_of_le hs3 (Nat.le_trans (Gm.pow16 hn16) (by decide))
  have hpl : (Gm.pens (gc c xs) x u t).length = n := by rw [← hgn]; exact Gm.listed_len _ _
  have HSP := Gm.sups_supF (gc c xs) x u t sv hsv
  rw [hgn] at HSP
  have HSU : Hid (∀ W A2 c2, Rd W W.heap.size A2 (Kc.i64s (Gm.pens (gc c xs) x u t)) → Calls Tryd.prog 39 #[.agg (cf c).toArray, .int .u64 (sv : Int), .slice A2 n c2] W fun e w' => e = .returned (.int .u64 ((Gm.sups (gc c xs) x u t : Nat) : Int)) ∧ Below W.heap.size W w') := Lib.hid (fun W A2 c2 hr => by
    have := suppressed_any c sv A2 n c2 W.heap.size (Gm.pens (gc c xs) x u t) W hr (Nat.le_refl _) hpl hn16 hs64
    rw [← HSP]
    exact this)
  have hwe : IntKind.i64.wrap (x.e + 1) = x.e + 1 := by have := hf.e; rw [IntKind.wrap_i64]; omega
  generalize Gm.pens (gc c xs) x u t = PS at *
  generalize Gm.sups (gc c xs) x u t = SS at *
  clear hp hc hl hf hN hT hu ht hle he hfu hfs har hs2 hs3 hs64 HSP hu64 hgn hpl
  obtain ⟨xe, xt, xp, xs', xc, xst, xsi, xra, xup, xsu, pen, ch⟩ := x
  dsimp only at hsv hwe
  subst hsv
  unfold Gm.obs
  dsimp only [pc] at *
  go_enter Tryd.func14, Tryd.ntmps14
  go_wp2_with (first | (go_at_call 38; refine Calls.mono (HP.out _ HB.out.below) ?_; rintro e w_ ⟨A2, c2, rfl, hb_, hown_⟩; replace HB := Lib.hid (HB.out.callRow hb_ hown_); clear hb_ hown_) | (go_at_call 39; refine Calls.mono (HSU.out _ _ _ (HB.out.rowRd (A := A2))) ?_; rintro e w_ ⟨rfl, hb_⟩; replace HB := Lib.hid (HB.out.call hb_); clear hb_) | (first | ((with_reducible refine Kx.absorb HB ?_); clear HB; intro w_ HB) | ((with_reducible refine Kx.box_gate (d := some 4) ?_); (first | refine Kx.boxa HB rfl ?_ | refine Kx.boxt HB rfl rfl ?_ | refine Kx.box1 HB rfl rfl ?_); clear HB; intro b4 w_ HB; refine Kx.fr ?_) | ((with_reducible refine Kx.alloc_gate (d := some 4) ?_); (first | refine Kx.ala HB ?_ | refine Kx.al1 HB ?_); clear HB; intro b4 w_ HB; refine Kx.fr ?_) | ((with_reducible refine Kx.box_gate (d := some 5) ?_); (first | refine Kx.boxa HB rfl ?_ | refine Kx.boxt HB rfl rfl ?_ | refine Kx.box1 HB rfl rfl ?_); clear HB; intro b5 w_ HB; refine Kx.fr ?_) | ((with_reducible refine Kx.alloc_gate (d := some 5) ?_); (first | refine Kx.ala HB ?_ | refine Kx.al1 HB ?_); clear HB; intro b5 w_ HB; refine Kx.fr ?_) | ((with_reducible refine Kx.box_gate (d := some 8) ?_); (first | refine Kx.boxa HB rfl ?_ | refine Kx.boxt HB rfl rfl ?_ | refine Kx.box1 HB rfl rfl ?_); clear HB; intro b8 w_ HB; refine Kx.fr ?_) | ((with_reducible refine Kx.alloc_gate (d := some 8) ?_); (first | refine Kx.ala HB ?_ | refine Kx.al1 HB ?_); clear HB; intro b8 w_ HB; refine Kx.fr ?_) | ((with_reducible refine Kx.box_gate (d := some 9) ?_); (first | refine Kx.boxa HB rfl ?_ | refine Kx.boxt HB rfl rfl ?_ | refine Kx.box1 HB rfl rfl ?_); clear HB; intro b9 w_ HB; refine Kx.fr ?_) | ((with_reducible refine Kx.alloc_gate (d := some 9) ?_); (first | refine Kx.ala HB ?_ | refine Kx.al1 HB ?_); clear HB; intro b9 w_ HB; refine Kx.fr ?_) | ((with_reducible refine Kx.box_gate ?_); (first | refine Kx.boxa HB rfl ?_ | refine Kx.boxt HB rfl rfl ?_ | refine Kx.box1 HB rfl rfl ?_); clear HB; intro b_ w_ HB; refine Kx.fr ?_) | ((with_reducible refine Kx.alloc_gate ?_); (first | refine Kx.ala HB ?_ | refine Kx.al1 HB ?_); clear HB; intro b_ w_ HB; refine Kx.fr ?_) | ((with_reducible refine Kx.loads_gate ?_); first | refine Kx.l1 HB rfl rfl ?_ | refine Kx.la HB rfl ?_ | refine Kx.lo HB rfl HC.out ?_) | ((with_reducible refine Kx.loadg_gate ?_); first | refine Kx.l1g HB rfl rfl rfl ?_ | refine Kx.lag HB rfl rfl ?_ | refine Kx.log HB rfl HC.out rfl ?_) | ((with_reducible refine Kx.store_gate ?_); (first | refine Kx.stwa HB rfl rfl ?_ | refine Kx.sta HB rfl rfl ?_ | refine Kx.stc HB rfl rfl ?_ | refine Kx.stt HB rfl rfl rfl ?_ | refine Kx.st1 HB rfl rfl rfl ?_); clear HB; intro w_ HB)))
  refine bodyPost_ret (Kx.results_x HB rfl _ _ _ rfl (by simp <;> rfl) (by simp <;> rfl)) rfl ?_; exact ⟨A2, c2, rfl, HB.out.below, (HB.out.rows _ (List.mem_cons_self ..)).1⟩

set_option maxRecDepth 100000 in
set_option maxHeartbeats 4000000 in
theorem kept_any (c : Cf) (x : Gm.Pl) (A : Option Addr) (n c0 : Nat) (A' : Option Addr) (n' c' : Nat) (w : World) (hr : Rd w w.heap.size A' (Kc.i64s x.ch)) (hn : x.ch.length = n') (hm : n' ≤ 1000) (hst : Gm.T x.st) (hra : Gm.T x.ra) (hcc : 0 ≤ x.c ∧ x.c ≤ 100) (hstep : 1 ≤ c.step ∧ c.step ≤ 100) :
    Calls Tryd.prog 19 #[.agg (cf c).toArray, .agg (pc x A n c0 A' n' c').toArray] w fun e w' => ∃ A2 c2, e = .returned (.agg (pc (Gm.keptP x c.step c.stepTime) A n c0 A2 n' c2).toArray) ∧ Below w.heap.size w w' ∧ w'.ownsRow w.heap.size 2 1 (.slice A2 n' c2) n' (Kc.i64s x.ch) := by
  have HB := Lib.hid (Bxs.start w)
  have HC : Hid (∀ W, Below w.heap.size w W → Calls Tryd.prog 42 #[.slice A' n' c'] W fun e w' => ∃ A2 c2, e = .returned (.slice A2 n' c2) ∧ Below W.heap.size W w' ∧ w'.ownsRow W.heap.size 2 1 (.slice A2 n' c2) n' (Kc.i64s x.ch)) := Lib.hid (fun W hb =>
    CloneL_any A' n' c' W.heap.size x.ch W ((hr.below hb).more hb.size) (Nat.le_refl _) hn (by omega))
  have hts := T_sub hst hra
  obtain ⟨xe, xt, xp, xs', xc, xst, xsi, xra, xup, xsu, pen, ch⟩ := x
  dsimp only at hst hra hcc hts HC
  clear hr hn hm hst hra
  by_cases h1 : xc < 100
  case neg =>
    have hE : Gm.keptP ⟨xe, xt, xp, xs', xc, xst, xsi, xra, xup, xsu, pen, ch⟩ c.step c.stepTime = ⟨xe, xt, xp, xs', xc, xst, xsi, xra, xup, xsu, pen, ch⟩ := if_neg (fun q => h1 q.1)
    have d1 : decide (xc < 100) = false := decide_eq_false h1
    rw [hE]
    clear hE h1 hcc hstep hts
    dsimp only [pc] at *
    go_enter Tryd.func19, Tryd.ntmps19
    go_wp2_with (first | (go_at_call 42; refine Calls.mono (HC.out _ HB.out.below) ?_; rintro e w_ ⟨A2, c2, rfl, hb_, hown_⟩; replace HB := Lib.hid (HB.out.callRow hb_ hown_); clear hb_ hown_) | (first | ((with_reducible refine Kx.absorb HB ?_); clear HB; intro w_ HB) | ((with_reducible refine Kx.box_gate (d := some 2) ?_); (first | refine Kx.boxa HB rfl ?_ | refine Kx.boxt HB rfl rfl ?_ | refine Kx.box1 HB rfl rfl ?_); clear HB; intro b2 w_ HB; refine Kx.fr ?_) | ((with_reducible refine Kx.alloc_gate (d := some 2) ?_); (first | refine Kx.ala HB ?_ | refine Kx.al1 HB ?_); clear HB; intro b2 w_ HB; refine Kx.fr ?_) | ((with_reducible refine Kx.box_gate (d := some 3) ?_); (first | refine Kx.boxa HB rfl ?_ | refine Kx.boxt HB rfl rfl ?_ | refine Kx.box1 HB rfl rfl ?_); clear HB; intro b3 w_ HB; refine Kx.fr ?_) | ((with_reducible refine Kx.alloc_gate (d := some 3) ?_); (first | refine Kx.ala HB ?_ | refine Kx.al1 HB ?_); clear HB; intro b3 w_ HB; refine Kx.fr ?_) | ((with_reducible refine Kx.box_gate (d := some 4) ?_); (first | refine Kx.boxa HB rfl ?_ | refine Kx.boxt HB rfl rfl ?_ | refine Kx.box1 HB rfl rfl ?_); clear HB; intro b4 w_ HB; refine Kx.fr ?_) | ((with_reducible refine Kx.alloc_gate (d := some 4) ?_); (first | refine Kx.ala HB ?_ | refine Kx.al1 HB ?_); clear HB; intro b4 w_ HB; refine Kx.fr ?_) | ((with_reducible refine Kx.box_gate ?_); (first | refine Kx.boxa HB rfl ?_ | refine Kx.boxt HB rfl rfl ?_ | refine Kx.box1 HB rfl rfl ?_); clear HB; intro b_ w_ HB; refine Kx.fr ?_) | ((with_reducible refine Kx.alloc_gate ?_); (first | refine Kx.ala HB ?_ | refine Kx.al1 HB ?_); clear HB; intro b_ w_ HB; refine Kx.fr ?_) | ((with_reducible refine Kx.loads_gate ?_); first | refine Kx.l1 HB rfl rfl ?_ | refine Kx.la HB rfl ?_ | refine Kx.lo HB rfl HC.out ?_) | ((with_reducible refine Kx.loadg_gate ?_); first | refine Kx.l1g HB rfl rfl rfl ?_ | refine Kx.lag HB rfl rfl ?_ | refine Kx.log HB rfl HC.out rfl ?_) | ((with_reducible refine Kx.store_gate ?_); (first | refine Kx.stwa HB rfl rfl ?_ | refine Kx.sta HB rfl rfl ?_ | refine Kx.stc HB rfl rfl ?_ | refine Kx.stt HB rfl rfl rfl ?_ | refine Kx.st1 HB rfl rfl rfl ?_); clear HB; intro w_ HB)))
    refine bodyPost_ret (Kx.results_x HB rfl _ _ _ rfl (by simp <;> rfl) (by simp <;> rfl)) rfl ?_; exact ⟨A2, c2, rfl, HB.out.below, (HB.out.rows _ (List.mem_cons_self ..)).1⟩
  have d1 : decide (xc < 100) = true := decide_eq_true h1
  by_cases h2 : c.stepTime ≤ xst - xra
  case neg =>
    have hE : Gm.keptP ⟨xe, xt, xp, xs', xc, xst, xsi, xra, xup, xsu, pen, ch⟩ c.step c.stepTime = ⟨xe, xt, xp, xs', xc, xst, xsi, xra, xup, xsu, pen, ch⟩ := if_neg (fun q => h2 q.2)
    have d2 : decide (c.stepTime ≤ xst - xra) = false := decide_eq_false h2
    rw [hE]
    clear hE h1 h2 hcc hstep
    dsimp only [pc] at *
    go_enter Tryd.func19, Tryd.ntmps19
    go_wp2_with (first | (go_at_call 42; refine Calls.mono (HC.out _ HB.out.below) ?_; rintro e w_ ⟨A2, c2, rfl, hb_, hown_⟩; replace HB := Lib.hid (HB.out.callRow hb_ hown_); clear hb_ hown_) | (first | ((with_reducible refine Kx.absorb HB ?_); clear HB; intro w_ HB) | ((with_reducible refine Kx.box_gate (d := some 2) ?_); (first | refine Kx.boxa HB rfl ?_ | refine Kx.boxt HB rfl rfl ?_ | refine Kx.box1 HB rfl rfl ?_); clear HB; intro b2 w_ HB; refine Kx.fr ?_) | ((with_reducible refine Kx.alloc_gate (d := some 2) ?_); (first | refine Kx.ala HB ?_ | refine Kx.al1 HB ?_); clear HB; intro b2 w_ HB; refine Kx.fr ?_) | ((with_reducible refine Kx.box_gate (d := some 3) ?_); (first | refine Kx.boxa HB rfl ?_ | refine Kx.boxt HB rfl rfl ?_ | refine Kx.box1 HB rfl rfl ?_); clear HB; intro b3 w_ HB; refine Kx.fr ?_) | ((with_reducible refine Kx.alloc_gate (d := some 3) ?_); (first | refine Kx.ala HB ?_ | refine Kx.al1 HB ?_); clear HB; intro b3 w_ HB; refine Kx.fr ?_) | ((with_reducible refine Kx.box_gate (d := some 4) ?_); (first | refine Kx.boxa HB rfl ?_ | refine Kx.boxt HB rfl rfl ?_ | refine Kx.box1 HB rfl rfl ?_); clear HB; intro b4 w_ HB; refine Kx.fr ?_) | ((with_reducible refine Kx.alloc_gate (d := some 4) ?_); (first | refine Kx.ala HB ?_ | refine Kx.al1 HB ?_); clear HB; intro b4 w_ HB; refine Kx.fr ?_) | ((with_reducible refine Kx.box_gate ?_); (first | refine Kx.boxa HB rfl ?_ | refine Kx.boxt HB rfl rfl ?_ | refine Kx.box1 HB rfl rfl ?_); clear HB; intro b_ w_ HB; refine Kx.fr ?_) | ((with_reducible refine Kx.alloc_gate ?_); (first | refine Kx.ala HB ?_ | refine Kx.al1 HB ?_); clear HB; intro b_ w_ HB; refine Kx.fr ?_) | ((with_reducible refine Kx.loads_gate ?_); first | refine Kx.l1 HB rfl rfl ?_ | refine Kx.la HB rfl ?_ | refine Kx.lo HB rfl HC.out ?_) | ((with_reducible refine Kx.loadg_gate ?_); first | refine Kx.l1g HB rfl rfl rfl ?_ | refine Kx.lag HB rfl rfl ?_ | refine Kx.log HB rfl HC.out rfl ?_) | ((with_reducible refine Kx.store_gate ?_); (first | refine Kx.stwa HB rfl rfl ?_ | refine Kx.sta HB rfl rfl ?_ | refine Kx.stc HB rfl rfl ?_ | refine Kx.stt HB rfl rfl rfl ?_ | refine Kx.st1 HB rfl rfl rfl ?_); clear HB; intro w_ HB)))
    refine bodyPost_ret (Kx.results_x HB rfl _ _ _ rfl (by simp <;> rfl) (by simp <;> rfl)) rfl ?_; exact ⟨A2, c2, rfl, HB.out.below, (HB.out.rows _ (List.mem_cons_self ..)).1⟩
  have d2 : decide (c.stepTime ≤ xst - xra) = true := decide_eq_true h2
  have hE : Gm.keptP ⟨xe, xt, xp, xs', xc, xst, xsi, xra, xup, xsu, pen, ch⟩ c.step c.stepTime = ⟨xe, xt, xp, xs', min (xc + c.step) 100, xst, xsi, xst, xup, xsu, pen, ch⟩ := if_pos ⟨h1, h2⟩
  have hws : IntKind.i64.wrap (xc + c.step) = xc + c.step := by rw [IntKind.wrap_i64]; omega
  rw [hE]
  by_cases h3 : xc + c.step ≤ 100
  · rw [show min (xc + c.step) 100 = xc + c.step by omega]
    clear hE h1 h2 hcc hstep
    dsimp only [pc] at *
    go_enter Tryd.func19, Tryd.ntmps19
    go_wp2_with (first | (go_at_call 42; refine Calls.mono (HC.out _ HB.out.below) ?_; rintro e w_ ⟨A2, c2, rfl, hb_, hown_⟩; replace HB := Lib.hid (HB.out.callRow hb_ hown_); clear hb_ hown_) | (first | ((with_reducible refine Kx.absorb HB ?_); clear HB; intro w_ HB) | ((with_reducible refine Kx.box_gate (d := some 2) ?_); (first | refine Kx.boxa HB rfl ?_ | refine Kx.boxt HB rfl rfl ?_ | refine Kx.box1 HB rfl rfl ?_); clear HB; intro b2 w_ HB; refine Kx.fr ?_) | ((with_reducible refine Kx.alloc_gate (d := some 2) ?_); (first | refine Kx.ala HB ?_ | refine Kx.al1 HB ?_); clear HB; intro b2 w_ HB; refine Kx.fr ?_) | ((with_reducible refine Kx.box_gate (d := some 3) ?_); (first | refine Kx.boxa HB rfl ?_ | refine Kx.boxt HB rfl rfl ?_ | refine Kx.box1 HB rfl rfl ?_); clear HB; intro b3 w_ HB; refine Kx.fr ?_) | ((with_reducible refine Kx.alloc_gate (d := some 3) ?_); (first | refine Kx.ala HB ?_ | refine Kx.al1 HB ?_); clear HB; intro b3 w_ HB; refine Kx.fr ?_) | ((with_reducible refine Kx.box_gate (d := some 4) ?_); (first | refine Kx.boxa HB rfl ?_ | refine Kx.boxt HB rfl rfl ?_ | refine Kx.box1 HB rfl rfl ?_); clear HB; intro b4 w_ HB; refine Kx.fr ?_) | ((with_reducible refine Kx.alloc_gate (d := some 4) ?_); (first | refine Kx.ala HB ?_ | refine Kx.al1 HB ?_); clear HB; intro b4 w_ HB; refine Kx.fr ?_) | ((with_reducible refine Kx.box_gate ?_); (first | refine Kx.boxa HB rfl ?_ | refine Kx.boxt HB rfl rfl ?_ | refine Kx.box1 HB rfl rfl ?_); clear HB; intro b_ w_ HB; refine Kx.fr ?_) | ((with_reducible refine Kx.alloc_gate ?_); (first | refine Kx.ala HB ?_ | refine Kx.al1 HB ?_); clear HB; intro b_ w_ HB; refine Kx.fr ?_) | ((with_reducible refine Kx.loads_gate ?_); first | refine Kx.l1 HB rfl rfl ?_ | refine Kx.la HB rfl ?_ | refine Kx.lo HB rfl HC.out ?_) | ((with_reducible refine Kx.loadg_gate ?_); first | refine Kx.l1g HB rfl rfl rfl ?_ | refine Kx.lag HB rfl rfl ?_ | refine Kx.log HB rfl HC.out rfl ?_) | ((with_reducible refine Kx.store_gate ?_); (first | refine Kx.stwa HB rfl rfl ?_ | refine Kx.sta HB rfl rfl ?_ | refine Kx.stc HB rfl rfl ?_ | refine Kx.stt HB rfl rfl rfl ?_ | refine Kx.st1 HB rfl rfl rfl ?_); clear HB; intro w_ HB)))
    refine bodyPost_ret (Kx.results_x HB rfl _ _ _ rfl (by simp <;> rfl) (by simp <;> rfl)) rfl ?_; exact ⟨A2, c2, rfl, HB.out.below, (HB.out.rows _ (List.mem_cons_self ..)).1⟩
  · rw [show min (xc + c.step) 100 = 100 by omega]
    have h3' : 100 < xc + c.step := by omega
    clear hE h1 h2 hcc hstep
    dsimp only [pc] at *
    go_enter Tryd.func19, Tryd.ntmps19
    go_wp2_with (first | (go_at_call 42; refine Calls.mono (HC.out _ HB.out.below) ?_; rintro e w_ ⟨A2, c2, rfl, hb_, hown_⟩; replace HB := Lib.hid (HB.out.callRow hb_ hown_); clear hb_ hown_) | (first | ((with_reducible refine Kx.absorb HB ?_); clear HB; intro w_ HB) | ((with_reducible refine Kx.box_gate (d := some 2) ?_); (first | refine Kx.boxa HB rfl ?_ | refine Kx.boxt HB rfl rfl ?_ | refine Kx.box1 HB rfl rfl ?_); clear HB; intro b2 w_ HB; refine Kx.fr ?_) | ((with_reducible refine Kx.alloc_gate (d := some 2) ?_); (first | refine Kx.ala HB ?_ | refine Kx.al1 HB ?_); clear HB; intro b2 w_ HB; refine Kx.fr ?_) | ((with_reducible refine Kx.box_gate (d := some 3) ?_); (first | refine Kx.boxa HB rfl ?_ | refine Kx.boxt HB rfl rfl ?_ | refine Kx.box1 HB rfl rfl ?_); clear HB; intro b3 w_ HB; refine Kx.fr ?_) | ((with_reducible refine Kx.alloc_gate (d := some 3) ?_); (first | refine Kx.ala HB ?_ | refine Kx.al1 HB ?_); clear HB; intro b3 w_ HB; refine Kx.fr ?_) | ((with_reducible refine Kx.box_gate (d := some 4) ?_); (first | refine Kx.boxa HB rfl ?_ | refine Kx.boxt HB rfl rfl ?_ | refine Kx.box1 HB rfl rfl ?_); clear HB; intro b4 w_ HB; refine Kx.fr ?_) | ((with_reducible refine Kx.alloc_gate (d := some 4) ?_); (first | refine Kx.ala HB ?_ | refine Kx.al1 HB ?_); clear HB; intro b4 w_ HB; refine Kx.fr ?_) | ((with_reducible refine Kx.box_gate ?_); (first | refine Kx.boxa HB rfl ?_ | refine Kx.boxt HB rfl rfl ?_ | refine Kx.box1 HB rfl rfl ?_); clear HB; intro b_ w_ HB; refine Kx.fr ?_) | ((with_reducible refine Kx.alloc_gate ?_); (first | refine Kx.ala HB ?_ | refine Kx.al1 HB ?_); clear HB; intro b_ w_ HB; refine Kx.fr ?_) | ((with_reducible refine Kx.loads_gate ?_); first | refine Kx.l1 HB rfl rfl ?_ | refine Kx.la HB rfl ?_ | refine Kx.lo HB rfl HC.out ?_) | ((with_reducible refine Kx.loadg_gate ?_); first | refine Kx.l1g HB rfl rfl rfl ?_ | refine Kx.lag HB rfl rfl ?_ | refine Kx.log HB rfl HC.out rfl ?_) | ((with_reducible refine Kx.store_gate ?_); (first | refine Kx.stwa HB rfl rfl ?_ | refine Kx.sta HB rfl rfl ?_ | refine Kx.stc HB rfl rfl ?_ | refine Kx.stt HB rfl rfl rfl ?_ | refine Kx.st1 HB rfl rfl rfl ?_); clear HB; intro w_ HB)))
    refine bodyPost_ret (Kx.results_x HB rfl _ _ _ rfl (by simp <;> rfl) (by simp <;> rfl)) rfl ?_; exact ⟨A2, c2, rfl, HB.out.below, (HB.out.rows _ (List.mem_cons_self ..)).1⟩
end Go.Proofs.YtpbogacodhjlfaaDoor
