/- Whether a plan fits: the program's. -/
import Derived.Test.YtpbogacodhjlfaaDoorIf
import Derived.Laws.BitsAllLaws
namespace Go.Proofs.YtpbogacodhjlfaaDoor
open Go.RowKit Go.Shelf Km Kx Kc Kt
set_option linter.unusedVariables false

namespace Gm
/-- a mask without another -/
def andN (a b : Nat) : Nat := a &&& (18446744073709551615 - b)
theorem andN_bit {a b : Nat} (ha : a < 18446744073709551616) (hb : b < 18446744073709551616) (i : Nat) : (andN a b).testBit i = (a.testBit i && !b.testBit i) := by
  unfold andN
  rw [Nat.testBit_and]
  have e : 18446744073709551615 - b = 2 ^ 64 - (b + 1) := by omega
  rw [e, Nat.testBit_two_pow_sub_succ (by omega)]
  by_cases h : i < 64
  · rw [decide_eq_true h, Bool.true_and]
  · have : a.testBit i = false := Nat.testBit_lt_two_pow (Nat.lt_of_lt_of_le ha (Nat.pow_le_pow_right (show 2 > 0 by decide) (show 64 ≤ i by omega)))
    rw [this]; rfl
theorem andN_lt {a b k : Nat} (h : a < k) : andN a b < k := Nat.lt_of_le_of_lt Nat.and_le_left h
theorem low_bit (n i : Nat) : (2 ^ n - 1).testBit i = decide (i < n) := Nat.testBit_two_pow_sub_one n i
theorem beyond_none {u v n : Nat} (hu : u < 18446744073709551616) (hv : v < 18446744073709551616) (hn : n ≤ 16) : andN (u ||| v) (2 ^ n - 1) = 0 ↔ (u / 2 ^ n = 0 ∧ v / 2 ^ n = 0) := by
  have ho : u ||| v < 18446744073709551616 := Nat.or_lt_two_pow (n := 64) hu hv
  have hz : 2 ^ n - 1 < 18446744073709551616 := by
    have : 2 ^ n ≤ 2 ^ 16 := Nat.pow_le_pow_right (by decide) hn
    omega
  have hd : ∀ x : Nat, x / 2 ^ n = 0 ↔ ∀ i, n ≤ i → x.testBit i = false := fun x => by
    constructor
    · intro h i hi
      have h1 : (x / 2 ^ n).testBit (i - n) = false := by rw [h, Nat.zero_testBit]
      rw [Nat.testBit_div_two_pow] at h1
      rwa [show i - n + n = i by omega] at h1
    · intro h
      apply Nat.eq_of_testBit_eq
      intro j
      rw [Nat.testBit_div_two_pow, Nat.zero_testBit]
      exact h _ (by omega)
  rw [hd u, hd v]
  constructor
  · intro h
    have hb : ∀ i, ((u ||| v).testBit i && !(2 ^ n - 1).testBit i) = false := fun i => by rw [← andN_bit ho hz, h, Nat.zero_testBit]
    have hb2 : ∀ i, n ≤ i → (u.testBit i || v.testBit i) = false := fun i hi => by
      have := hb i
      rwa [low_bit, decide_eq_false (by omega), Bool.not_false, Bool.and_true, Nat.testBit_or] at this
    exact ⟨fun i hi => (Bool.or_eq_false_iff.1 (hb2 i hi)).1, fun i hi => (Bool.or_eq_false_iff.1 (hb2 i hi)).2⟩
  · intro ⟨h1, h2⟩
    apply Nat.eq_of_testBit_eq
    intro i
    rw [andN_bit ho hz, low_bit, Nat.testBit_or, Nat.zero_testBit]
    by_cases hi : i < n
    · rw [decide_eq_true hi]; simp
    · rw [h1 i (by omega), h2 i (by omega)]; rfl
end Gm
theorem in_three {lo hi a b c : Int} : Gm.inAll lo hi [a, b, c] = true ↔ (lo ≤ a ∧ a ≤ hi) ∧ (lo ≤ b ∧ b ≤ hi) ∧ (lo ≤ c ∧ c ≤ hi) := by rw [Gm.inAll_iff]; simp
theorem lowest_b (n : Nat) (w : World) (hn : n ≤ 16) : Calls Tryd.prog 15 #[.int .i64 (n : Int)] w fun e w' => e = .returned (.int .u64 ((2 ^ n - 1 : Nat) : Int)) ∧ Below w.heap.size w w' :=
  (lowest_any n w hn).mono fun _ _ h => ⟨h.1, h.2 ▸ Below.refl _ _⟩
theorem int_div_pow (u N : Nat) : ((u : Int) / 2 ^ N = 0) ↔ (u / 2 ^ N = 0) := by
  have e : ((2 : Int) ^ N) = ((2 ^ N : Nat) : Int) := (Int.natCast_pow 2 N).symm
  rw [e]
  generalize 2 ^ N = z
  rw [← Int.natCast_ediv]
  omega

set_option maxRecDepth 100000 in
set_option maxHeartbeats 4000000 in
theorem PFits_any (c : Cf) (x : Gm.Pl) (A : Option Addr) (n c0 : Nat) (A' : Option Addr) (n' c' : Nat) (N b : Nat) (B : Nat) (w : World) (hp : PAt w B x A n c0 A' n' c') (hB : B ≤ w.heap.size) (hn9 : n ≤ 9000000) (hm9 : n' ≤ 9000000) (hN : c.targets = (N : Int)) (hN1 : 1 ≤ N ∧ N ≤ 16) (hb : c.b = (b : Int)) (hT : Tabs w) :
    Calls Tryd.prog 13 #[.agg (cf c).toArray, .agg (pc x A n c0 A' n' c').toArray] w (Says w (FitsP N b x)) := by
  have HB := Lib.hid (Bxs.start w)
  have HR : Hid (∀ W, Below w.heap.size w W → Calls Tryd.prog 36 #[.agg (pc x A n c0 A' n' c').toArray] W (Says W (RightP x))) := Lib.hid (fun W hb => PlanRight_any x A n c0 A' n' c' B W (hp.below (hb.mono hB)) (Nat.le_trans hB hb.size) hn9 hm9 (hT.below hb (Nat.le_refl _)))
  have hn := hp.n
  have hn' := hp.n'
  have hU := hp.ok.up
  have hV := hp.ok.su
  unfold Pm.U at hU hV
  clear hp hB hT
  have hw : IntKind.i64.wrap ((N : Int) - 1) = (N : Int) - 1 := by rw [IntKind.wrap_i64]; omega
  have HLO := Lib.hid (fun W => lowest_b N W hN1.2)
  by_cases hR : RightP x
  case neg =>
    have HR2 : Hid (∀ W, Below w.heap.size w W → Calls Tryd.prog 36 #[.agg (pc x A n c0 A' n' c').toArray] W fun e w' => e = .returned (.bool false) ∧ Below W.heap.size W w') := Lib.hid (fun W hb => by
      refine (HR.out W hb).mono ?_
      rintro e w' ⟨q, rfl, hq, hbb⟩
      refine ⟨?_, hbb⟩
      cases q with
      | false => rfl
      | true => exact absurd (hq.1 rfl) hR)
    clear HR
    obtain ⟨xe, xt, xp, xs, xc, xst, xsi, xra, xup, xsu, pen, ch⟩ := x
    dsimp only [pc, cf] at *
    rw [hN, hb]
    clear hN hb
    go_enter Tryd.func13, Tryd.ntmps13
    go_wp2_with (first | ((with_reducible refine Kx.absorb HB ?_); clear HB; intro w_ HB) | ((with_reducible refine Kx.box_gate (d := some 2) ?_); (first | refine Kx.boxa HB rfl ?_ | refine Kx.boxt HB rfl rfl ?_ | refine Kx.box1 HB rfl rfl ?_); clear HB; intro b2 w_ HB; refine Kx.fr ?_) | ((with_reducible refine Kx.alloc_gate (d := some 2) ?_); (first | refine Kx.ala HB ?_ | refine Kx.al1 HB ?_); clear HB; intro b2 w_ HB; refine Kx.fr ?_) | ((with_reducible refine Kx.box_gate (d := some 3) ?_); (first | refine Kx.boxa HB rfl ?_ | refine Kx.boxt HB rfl rfl ?_ | refine Kx.box1 HB rfl rfl ?_); clear HB; intro b3 w_ HB; refine Kx.fr ?_) | ((with_reducible refine Kx.alloc_gate (d := some 3) ?_); (first | refine Kx.ala HB ?_ | refine Kx.al1 HB ?_); clear HB; intro b3 w_ HB; refine Kx.fr ?_) | ((with_reducible refine Kx.box_gate ?_); (first | refine Kx.boxa HB rfl ?_ | refine Kx.boxt HB rfl rfl ?_ | refine Kx.box1 HB rfl rfl ?_); clear HB; intro b_ w_ HB; refine Kx.fr ?_) | ((with_reducible refine Kx.alloc_gate ?_); (first | refine Kx.ala HB ?_ | refine Kx.al1 HB ?_); clear HB; intro b_ w_ HB; refine Kx.fr ?_) | ((with_reducible refine Kx.loads_gate ?_); first | refine Kx.l1 HB rfl rfl ?_ | refine Kx.la HB rfl ?_ | refine Kx.lo HB rfl HC.out ?_) | ((with_reducible refine Kx.loadg_gate ?_); first | refine Kx.l1g HB rfl rfl rfl ?_ | refine Kx.lag HB rfl rfl ?_ | refine Kx.log HB rfl HC.out rfl ?_) | ((with_reducible refine Kx.store_gate ?_); (first | refine Kx.stwa HB rfl rfl ?_ | refine Kx.sta HB rfl rfl ?_ | refine Kx.stc HB rfl rfl ?_ | refine Kx.stt HB rfl rfl rfl ?_ | refine Kx.st1 HB rfl rfl rfl ?_); clear HB; intro w_ HB))
    refine Kx.region_x HB (fun i => false) (by kernel_rfl) ?_
    first | refine Kx.xl1 0 rfl rfl rfl ?_ | refine Kx.xla 0 rfl rfl ?_ | refine Kx.xlo 0 rfl rfl HC.out ?_
    refine anyW_call (i := 1) (v := ?v1_101) (f := ?g1_101) (args := ?s1_101) (a' := ?a1_101) (by first | exact Kx.bears_x | exact bears_u | assumption) rfl (by kernel_rfl) (by kernel_rfl) (by kernel_rfl) (fun _ _ _ h => h) (by kernel_rfl) ?c1_101 ?w1_101 ?y1_101 ?f1_101 ?r1_101
    case w1_101 => kernel_rfl
    case y1_101 => (intro W hW; go_simp; first | (refine ⟨?_, ?_⟩ <;> with_reducible rfl) | with_reducible rfl)
    case c1_101 => (intro W hW; refine Calls.mono (HR2.out W hW.below) ?_; rintro e w_ ⟨rfl, hb_⟩; refine ⟨?_, by first | exact hb_ | exact hb_ ▸ Below.refl _ _⟩; with_reducible rfl)
    case f1_101 => (go_simp; try with_reducible rfl)
    refine Kx.tk 2 rfl ?_
    refine Kx.sk 3 rfl ?_
    refine Kx.sk 4 rfl ?_
    refine Kx.sk 5 rfl ?_
    refine Kx.sk 6 rfl ?_
    refine Kx.sk 7 rfl ?_
    refine Kx.sk 8 rfl ?_
    refine Kx.tk 9 rfl ?_
    refine Kx.tk 10 rfl ?_
    refine Kx.sk 11 rfl ?_
    refine Kx.sk 12 rfl ?_
    refine Kx.sk 13 rfl ?_
    refine Kx.sk 14 rfl ?_
    refine Kx.sk 15 rfl ?_
    refine Kx.sk 16 rfl ?_
    refine Kx.sk 17 rfl ?_
    refine Kx.sk 18 rfl ?_
    refine Kx.sk 19 rfl ?_
    refine Kx.sk 20 rfl ?_
    refine Kx.sk 21 rfl ?_
    refine Kx.tk 22 rfl ?_
    refine Kx.tk 23 rfl ?_
    refine Kx.sk 24 rfl ?_
    refine Kx.sk 25 rfl ?_
    refine Kx.sk 26 rfl ?_
    refine Kx.sk 27 rfl ?_
    refine Kx.sk 28 rfl ?_
    refine Kx.sk 29 rfl ?_
    refine Kx.sk 30 rfl ?_
    refine Kx.sk 31 rfl ?_
    refine Kx.sk 32 rfl ?_
    refine Kx.sk 33 rfl ?_
    refine Kx.tk 34 rfl ?_
    refine Kx.tk 35 rfl ?_
    refine Kx.sk 36 rfl ?_
    refine Kx.sk 37 rfl ?_
    refine Kx.sk 38 rfl ?_
    refine Kx.sk 39 rfl ?_
    refine Kx.sk 40 rfl ?_
    refine Kx.sk 41 rfl ?_
    refine Kx.tk 42 rfl ?_
    refine Kx.tk 43 rfl ?_
    refine anyW_done (by kernel_rfl) ?_
    clear HB
    intro w_ HB_
    have HB := Lib.hid HB_
    clear HB_
    go_wp2_with fail
    go_ret
    exact says_no rfl (fun q => hR q.r) HB.out.below
  have HR2 : Hid (∀ W, Below w.heap.size w W → Calls Tryd.prog 36 #[.agg (pc x A n c0 A' n' c').toArray] W fun e w' => e = .returned (.bool true) ∧ Below W.heap.size W w') := Lib.hid (fun W hb => by
    refine (HR.out W hb).mono ?_
    rintro e w' ⟨q, rfl, hq, hbb⟩
    refine ⟨?_, hbb⟩
    rw [hq.2 hR])
  clear HR
  have HRR := Lib.hid hR
  clear hR
  obtain ⟨xe, xt, xp, xs, xc, xst, xsi, xra, xup, xsu, pen, ch⟩ := x
  dsimp only [pc, cf] at *
  rw [hN, hb]
  clear hN hb
  obtain ⟨u, rfl⟩ : ∃ u : Nat, xup = (u : Int) := ⟨xup.toNat, by omega⟩
  obtain ⟨v, rfl⟩ : ∃ v : Nat, xsu = (v : Int) := ⟨xsu.toNat, by omega⟩
  have hu64 : u < 18446744073709551616 := by omega
  have hv64 : v < 18446744073709551616 := by omega
  have hor := u64_or_nat u v hu64 hv64
  have HBY := Lib.hid (Gm.beyond_none hu64 hv64 hN1.2)
  have hz : 2 ^ N - 1 < 18446744073709551616 := by
    have : 2 ^ N ≤ 2 ^ 16 := Nat.pow_le_pow_right (by decide) hN1.2
    omega
  have han := u64_andNot_nat (u ||| v) (2 ^ N - 1) (Nat.or_lt_two_pow (n := 64) hu64 hv64) hz
  have HU := Lib.hid (int_div_pow u N)
  have HV := Lib.hid (int_div_pow v N)
  unfold Gm.andN at HBY
  generalize hq : (u ||| v) &&& (18446744073709551615 - (2 ^ N - 1)) = q at *
  generalize u ||| v = o at *
  generalize 2 ^ N - 1 = z at *
  clear hU hV hz hu64 hv64 hq
  by_cases hnN : n = N
  case neg =>
    have d1 : ((n : Int) == (N : Int)) = false := by rw [beq_eq_false_iff_ne]; omega
    have HN := Lib.hid hnN
    clear hnN
    go_enter Tryd.func13, Tryd.ntmps13
    go_wp2_with (first | ((with_reducible refine Kx.absorb HB ?_); clear HB; intro w_ HB) | ((with_reducible refine Kx.box_gate (d := some 2) ?_); (first | refine Kx.boxa HB rfl ?_ | refine Kx.boxt HB rfl rfl ?_ | refine Kx.box1 HB rfl rfl ?_); clear HB; intro b2 w_ HB; refine Kx.fr ?_) | ((with_reducible refine Kx.alloc_gate (d := some 2) ?_); (first | refine Kx.ala HB ?_ | refine Kx.al1 HB ?_); clear HB; intro b2 w_ HB; refine Kx.fr ?_) | ((with_reducible refine Kx.box_gate (d := some 3) ?_); (first | refine Kx.boxa HB rfl ?_ | refine Kx.boxt HB rfl rfl ?_ | refine Kx.box1 HB rfl rfl ?_); clear HB; intro b3 w_ HB; refine Kx.fr ?_) | ((with_reducible refine Kx.alloc_gate (d := some 3) ?_); (first | refine Kx.ala HB ?_ | refine Kx.al1 HB ?_); clear HB; intro b3 w_ HB; refine Kx.fr ?_) | ((with_reducible refine Kx.box_gate ?_); (first | refine Kx.boxa HB rfl ?_ | refine Kx.boxt HB rfl rfl ?_ | refine Kx.box1 HB rfl rfl ?_); clear HB; intro b_ w_ HB; refine Kx.fr ?_) | ((with_reducible refine Kx.alloc_gate ?_); (first | refine Kx.ala HB ?_ | refine Kx.al1 HB ?_); clear HB; intro b_ w_ HB; refine Kx.fr ?_) | ((with_reducible refine Kx.loads_gate ?_); first | refine Kx.l1 HB rfl rfl ?_ | refine Kx.la HB rfl ?_ | refine Kx.lo HB rfl HC.out ?_) | ((with_reducible refine Kx.loadg_gate ?_); first | refine Kx.l1g HB rfl rfl rfl ?_ | refine Kx.lag HB rfl rfl ?_ | refine Kx.log HB rfl HC.out rfl ?_) | ((with_reducible refine Kx.store_gate ?_); (first | refine Kx.stwa HB rfl rfl ?_ | refine Kx.sta HB rfl rfl ?_ | refine Kx.stc HB rfl rfl ?_ | refine Kx.stt HB rfl rfl rfl ?_ | refine Kx.st1 HB rfl rfl rfl ?_); clear HB; intro w_ HB))
    refine Kx.region_x HB (fun i => false) (by kernel_rfl) ?_
    first | refine Kx.xl1 0 rfl rfl rfl ?_ | refine Kx.xla 0 rfl rfl ?_ | refine Kx.xlo 0 rfl rfl HC.out ?_
    refine anyW_call (i := 1) (v := ?v1_102) (f := ?g1_102) (args := ?s1_102) (a' := ?a1_102) (by first | exact Kx.bears_x | exact bears_u | assumption) rfl (by kernel_rfl) (by kernel_rfl) (by kernel_rfl) (fun _ _ _ h => h) (by kernel_rfl) ?c1_102 ?w1_102 ?y1_102 ?f1_102 ?r1_102
    case w1_102 => kernel_rfl
    case y1_102 => (intro W hW; go_simp; first | (refine ⟨?_, ?_⟩ <;> with_reducible rfl) | with_reducible rfl)
    case c1_102 => (intro W hW; refine Calls.mono (HR2.out W hW.below) ?_; rintro e w_ ⟨rfl, hb_⟩; refine ⟨?_, by first | exact hb_ | exact hb_ ▸ Below.refl _ _⟩; with_reducible rfl)
    case f1_102 => (go_simp; try with_reducible rfl)
    refine Kx.tk 2 rfl ?_
    refine Kx.tk 3 rfl ?_
    first | refine Kx.xl1 4 rfl rfl rfl ?_ | refine Kx.xla 4 rfl rfl ?_ | refine Kx.xlo 4 rfl rfl HC.out ?_
    refine Kx.tk 5 rfl ?_
    refine Kx.tk 6 rfl ?_
    first | refine Kx.xl1 7 rfl rfl rfl ?_ | refine Kx.xla 7 rfl rfl ?_ | refine Kx.xlo 7 rfl rfl HC.out ?_
    refine Kx.tk 8 rfl ?_
    refine Kx.tk 9 rfl ?_
    refine Kx.tk 10 rfl ?_
    refine Kx.sk 11 rfl ?_
    refine Kx.sk 12 rfl ?_
    refine Kx.sk 13 rfl ?_
    refine Kx.sk 14 rfl ?_
    refine Kx.sk 15 rfl ?_
    refine Kx.sk 16 rfl ?_
    refine Kx.sk 17 rfl ?_
    refine Kx.sk 18 rfl ?_
    refine Kx.sk 19 rfl ?_
    refine Kx.sk 20 rfl ?_
    refine Kx.sk 21 rfl ?_
    refine Kx.tk 22 rfl ?_
    refine Kx.tk 23 rfl ?_
    refine Kx.sk 24 rfl ?_
    refine Kx.sk 25 rfl ?_
    refine Kx.sk 26 rfl ?_
    refine Kx.sk 27 rfl ?_
    refine Kx.sk 28 rfl ?_
    refine Kx.sk 29 rfl ?_
    refine Kx.sk 30 rfl ?_
    refine Kx.sk 31 rfl ?_
    refine Kx.sk 32 rfl ?_
    refine Kx.sk 33 rfl ?_
    refine Kx.tk 34 rfl ?_
    refine Kx.tk 35 rfl ?_
    refine Kx.sk 36 rfl ?_
    refine Kx.sk 37 rfl ?_
    refine Kx.sk 38 rfl ?_
    refine Kx.sk 39 rfl ?_
    refine Kx.sk 40 rfl ?_
    refine Kx.sk 41 rfl ?_
    refine Kx.tk 42 rfl ?_
    refine Kx.tk 43 rfl ?_
    refine anyW_done (by kernel_rfl) ?_
    clear HB
    intro w_ HB_
    have HB := Lib.hid HB_
    clear HB_
    go_wp2_with fail
    go_ret
    exact says_no rfl (fun q => HN.out (by have := q.n; dsimp only at this; omega)) HB.out.below
  have d1 : ((n : Int) == (N : Int)) = true := by rw [beq_iff_eq]; omega
  have HNE := Lib.hid (hn.trans hnN)
  clear hn hnN
  cases h3 : Gm.inAll (-1) ((N : Int) - 1) [xt, xp, xs]
  case false =>
    have H3 := Lib.hid h3
    clear h3
    go_enter Tryd.func13, Tryd.ntmps13
    go_wp2_with (first | ((with_reducible refine Kx.absorb HB ?_); clear HB; intro w_ HB) | ((with_reducible refine Kx.box_gate (d := some 2) ?_); (first | refine Kx.boxa HB rfl ?_ | refine Kx.boxt HB rfl rfl ?_ | refine Kx.box1 HB rfl rfl ?_); clear HB; intro b2 w_ HB; refine Kx.fr ?_) | ((with_reducible refine Kx.alloc_gate (d := some 2) ?_); (first | refine Kx.ala HB ?_ | refine Kx.al1 HB ?_); clear HB; intro b2 w_ HB; refine Kx.fr ?_) | ((with_reducible refine Kx.box_gate (d := some 3) ?_); (first | refine Kx.boxa HB rfl ?_ | refine Kx.boxt HB rfl rfl ?_ | refine Kx.box1 HB rfl rfl ?_); clear HB; intro b3 w_ HB; refine Kx.fr ?_) | ((with_reducible refine Kx.alloc_gate (d := some 3) ?_); (first | refine Kx.ala HB ?_ | refine Kx.al1 HB ?_); clear HB; intro b3 w_ HB; refine Kx.fr ?_) | ((with_reducible refine Kx.box_gate ?_); (first | refine Kx.boxa HB rfl ?_ | refine Kx.boxt HB rfl rfl ?_ | refine Kx.box1 HB rfl rfl ?_); clear HB; intro b_ w_ HB; refine Kx.fr ?_) | ((with_reducible refine Kx.alloc_gate ?_); (first | refine Kx.ala HB ?_ | refine Kx.al1 HB ?_); clear HB; intro b_ w_ HB; refine Kx.fr ?_) | ((with_reducible refine Kx.loads_gate ?_); first | refine Kx.l1 HB rfl rfl ?_ | refine Kx.la HB rfl ?_ | refine Kx.lo HB rfl HC.out ?_) | ((with_reducible refine Kx.loadg_gate ?_); first | refine Kx.l1g HB rfl rfl rfl ?_ | refine Kx.lag HB rfl rfl ?_ | refine Kx.log HB rfl HC.out rfl ?_) | ((with_reducible refine Kx.store_gate ?_); (first | refine Kx.stwa HB rfl rfl ?_ | refine Kx.sta HB rfl rfl ?_ | refine Kx.stc HB rfl rfl ?_ | refine Kx.stt HB rfl rfl rfl ?_ | refine Kx.st1 HB rfl rfl rfl ?_); clear HB; intro w_ HB))
    refine Kx.region_x HB (fun i => false) (by kernel_rfl) ?_
    first | refine Kx.xl1 0 rfl rfl rfl ?_ | refine Kx.xla 0 rfl rfl ?_ | refine Kx.xlo 0 rfl rfl HC.out ?_
    refine anyW_call (i := 1) (v := ?v1_103) (f := ?g1_103) (args := ?s1_103) (a' := ?a1_103) (by first | exact Kx.bears_x | exact bears_u | assumption) rfl (by kernel_rfl) (by kernel_rfl) (by kernel_rfl) (fun _ _ _ h => h) (by kernel_rfl) ?c1_103 ?w1_103 ?y1_103 ?f1_103 ?r1_103
    case w1_103 => kernel_rfl
    case y1_103 => (intro W hW; go_simp; first | (refine ⟨?_, ?_⟩ <;> with_reducible rfl) | with_reducible rfl)
    case c1_103 => (intro W hW; refine Calls.mono (HR2.out W hW.below) ?_; rintro e w_ ⟨rfl, hb_⟩; refine ⟨?_, by first | exact hb_ | exact hb_ ▸ Below.refl _ _⟩; with_reducible rfl)
    case f1_103 => (go_simp; try with_reducible rfl)
    refine Kx.tk 2 rfl ?_
    refine Kx.tk 3 rfl ?_
    first | refine Kx.xl1 4 rfl rfl rfl ?_ | refine Kx.xla 4 rfl rfl ?_ | refine Kx.xlo 4 rfl rfl HC.out ?_
    refine Kx.tk 5 rfl ?_
    refine Kx.tk 6 rfl ?_
    first | refine Kx.xl1 7 rfl rfl rfl ?_ | refine Kx.xla 7 rfl rfl ?_ | refine Kx.xlo 7 rfl rfl HC.out ?_
    refine Kx.tk 8 rfl ?_
    refine Kx.tk 9 rfl ?_
    refine Kx.tk 10 rfl ?_
    refine Kx.tk 11 rfl ?_
    first | refine Kx.xl1 12 rfl rfl rfl ?_ | refine Kx.xla 12 rfl rfl ?_ | refine Kx.xlo 12 rfl rfl HC.out ?_
    refine Kx.tk 13 rfl ?_
    refine Kx.tk 14 rfl ?_
    first | refine Kx.xl1 15 rfl rfl rfl ?_ | refine Kx.xla 15 rfl rfl ?_ | refine Kx.xlo 15 rfl rfl HC.out ?_
    refine Kx.tk 16 rfl ?_
    first | refine Kx.xl1 17 rfl rfl rfl ?_ | refine Kx.xla 17 rfl rfl ?_ | refine Kx.xlo 17 rfl rfl HC.out ?_
    refine Kx.tk 18 rfl ?_
    first | refine Kx.xl1 19 rfl rfl rfl ?_ | refine Kx.xla 19 rfl rfl ?_ | refine Kx.xlo 19 rfl rfl HC.out ?_
    refine Kx.anyW_build_x (i := 20) (cs := ?cs20_104) (t := ?t20_104) (m := ?m20_104) rfl (by kernel_rfl) (by kernel_rfl) rfl ?run20_104 ?nx20_104
    case run20_104 => (intro W; go_simp; first | (refine ⟨?_, ?_⟩ <;> with_reducible rfl) | with_reducible rfl)
    intro b20
    refine Kx.framedW (by simp only [Act.put, List.setIfInBounds_toArray, List.set_cons_succ, List.set_cons_zero] <;> rfl) ?_
    refine anyW_call (i := 21) (v := ?v21_105) (f := ?g21_105) (args := ?s21_105) (a' := ?a21_105) (by first | exact Kx.bears_x | exact bears_u | assumption) rfl (by kernel_rfl) (by kernel_rfl) (by kernel_rfl) (fun _ _ _ h => h) (by kernel_rfl) ?c21_105 ?w21_105 ?y21_105 ?f21_105 ?r21_105
    case w21_105 => kernel_rfl
    case y21_105 => (intro W hW; go_simp; first | (refine ⟨?_, ?_⟩ <;> with_reducible rfl) | with_reducible rfl)
    case c21_105 => (intro W hW; refine Calls.mono (bets_I (-1) ((N : Int) - 1) _ 3 _ _ [xt, xp, xs] _ false H3.out (hW.rd (cs := [.int .i64 xt, .int .i64 xp, .int .i64 xs])) rfl (by decide)) ?_; rintro e w_ ⟨rfl, hb_⟩; refine ⟨?_, by first | exact hb_ | exact hb_ ▸ Below.refl _ _⟩; with_reducible rfl)
    case f21_105 => (go_simp; try with_reducible rfl)
    refine Kx.tk 22 rfl ?_
    refine Kx.tk 23 rfl ?_
    refine Kx.sk 24 rfl ?_
    refine Kx.sk 25 rfl ?_
    refine Kx.sk 26 rfl ?_
    refine Kx.sk 27 rfl ?_
    refine Kx.sk 28 rfl ?_
    refine Kx.sk 29 rfl ?_
    refine Kx.sk 30 rfl ?_
    refine Kx.sk 31 rfl ?_
    refine Kx.sk 32 rfl ?_
    refine Kx.sk 33 rfl ?_
    refine Kx.tk 34 rfl ?_
    refine Kx.tk 35 rfl ?_
    refine Kx.sk 36 rfl ?_
    refine Kx.sk 37 rfl ?_
    refine Kx.sk 38 rfl ?_
    refine Kx.sk 39 rfl ?_
    refine Kx.sk 40 rfl ?_
    refine Kx.sk 41 rfl ?_
    refine Kx.tk 42 rfl ?_
    refine Kx.tk 43 rfl ?_
    refine anyW_done (by kernel_rfl) ?_
    clear HB
    intro w_ HB_
    have HB := Lib.hid HB_
    clear HB_
    go_wp2_with fail
    go_ret
    exact says_no rfl (fun q => by
      have h := H3.out
      rw [in_three.2 ⟨⟨(show (-1 : Int) ≤ xt from HRR.out.t1), by have := q.t; dsimp only at this; omega⟩, ⟨(show (-1 : Int) ≤ xp from HRR.out.p1), by have := q.p; dsimp only at this; omega⟩, ⟨(show (-1 : Int) ≤ xs from HRR.out.s1), by have := q.s; dsimp only at this; omega⟩⟩] at h
      cases h) HB.out.below
  have H3 := Lib.hid h3
  clear h3
  by_cases hq0 : q = 0
  case neg =>
    have d2 : ((q : Int) == 0) = false := by rw [beq_eq_false_iff_ne]; omega
    have HQ := Lib.hid hq0
    clear hq0
    go_enter Tryd.func13, Tryd.ntmps13
    go_wp2_with (first | ((with_reducible refine Kx.absorb HB ?_); clear HB; intro w_ HB) | ((with_reducible refine Kx.box_gate (d := some 2) ?_); (first | refine Kx.boxa HB rfl ?_ | refine Kx.boxt HB rfl rfl ?_ | refine Kx.box1 HB rfl rfl ?_); clear HB; intro b2 w_ HB; refine Kx.fr ?_) | ((with_reducible refine Kx.alloc_gate (d := some 2) ?_); (first | refine Kx.ala HB ?_ | refine Kx.al1 HB ?_); clear HB; intro b2 w_ HB; refine Kx.fr ?_) | ((with_reducible refine Kx.box_gate (d := some 3) ?_); (first | refine Kx.boxa HB rfl ?_ | refine Kx.boxt HB rfl rfl ?_ | refine Kx.box1 HB rfl rfl ?_); clear HB; intro b3 w_ HB; refine Kx.fr ?_) | ((with_reducible refine Kx.alloc_gate (d := some 3) ?_); (first | refine Kx.ala HB ?_ | refine Kx.al1 HB ?_); clear HB; intro b3 w_ HB; refine Kx.fr ?_) | ((with_reducible refine Kx.box_gate ?_); (first | refine Kx.boxa HB rfl ?_ | refine Kx.boxt HB rfl rfl ?_ | refine Kx.box1 HB rfl rfl ?_); clear HB; intro b_ w_ HB; refine Kx.fr ?_) | ((with_reducible refine Kx.alloc_gate ?_); (first | refine Kx.ala HB ?_ | refine Kx.al1 HB ?_); clear HB; intro b_ w_ HB; refine Kx.fr ?_) | ((with_reducible refine Kx.loads_gate ?_); first | refine Kx.l1 HB rfl rfl ?_ | refine Kx.la HB rfl ?_ | refine Kx.lo HB rfl HC.out ?_) | ((with_reducible refine Kx.loadg_gate ?_); first | refine Kx.l1g HB rfl rfl rfl ?_ | refine Kx.lag HB rfl rfl ?_ | refine Kx.log HB rfl HC.out rfl ?_) | ((with_reducible refine Kx.store_gate ?_); (first | refine Kx.stwa HB rfl rfl ?_ | refine Kx.sta HB rfl rfl ?_ | refine Kx.stc HB rfl rfl ?_ | refine Kx.stt HB rfl rfl rfl ?_ | refine Kx.st1 HB rfl rfl rfl ?_); clear HB; intro w_ HB))
    refine Kx.region_x HB (fun i => false) (by kernel_rfl) ?_
    first | refine Kx.xl1 0 rfl rfl rfl ?_ | refine Kx.xla 0 rfl rfl ?_ | refine Kx.xlo 0 rfl rfl HC.out ?_
    refine anyW_call (i := 1) (v := ?v1_106) (f := ?g1_106) (args := ?s1_106) (a' := ?a1_106) (by first | exact Kx.bears_x | exact bears_u | assumption) rfl (by kernel_rfl) (by kernel_rfl) (by kernel_rfl) (fun _ _ _ h => h) (by kernel_rfl) ?c1_106 ?w1_106 ?y1_106 ?f1_106 ?r1_106
    case w1_106 => kernel_rfl
    case y1_106 => (intro W hW; go_simp; first | (refine ⟨?_, ?_⟩ <;> with_reducible rfl) | with_reducible rfl)
    case c1_106 => (intro W hW; refine Calls.mono (HR2.out W hW.below) ?_; rintro e w_ ⟨rfl, hb_⟩; refine ⟨?_, by first | exact hb_ | exact hb_ ▸ Below.refl _ _⟩; with_reducible rfl)
    case f1_106 => (go_simp; try with_reducible rfl)
    refine Kx.tk 2 rfl ?_
    refine Kx.tk 3 rfl ?_
    first | refine Kx.xl1 4 rfl rfl rfl ?_ | refine Kx.xla 4 rfl rfl ?_ | refine Kx.xlo 4 rfl rfl HC.out ?_
    refine Kx.tk 5 rfl ?_
    refine Kx.tk 6 rfl ?_
    first | refine Kx.xl1 7 rfl rfl rfl ?_ | refine Kx.xla 7 rfl rfl ?_ | refine Kx.xlo 7 rfl rfl HC.out ?_
    refine Kx.tk 8 rfl ?_
    refine Kx.tk 9 rfl ?_
    refine Kx.tk 10 rfl ?_
    refine Kx.tk 11 rfl ?_
    first | refine Kx.xl1 12 rfl rfl rfl ?_ | refine Kx.xla 12 rfl rfl ?_ | refine Kx.xlo 12 rfl rfl HC.out ?_
    refine Kx.tk 13 rfl ?_
    refine Kx.tk 14 rfl ?_
    first | refine Kx.xl1 15 rfl rfl rfl ?_ | refine Kx.xla 15 rfl rfl ?_ | refine Kx.xlo 15 rfl rfl HC.out ?_
    refine Kx.tk 16 rfl ?_
    first | refine Kx.xl1 17 rfl rfl rfl ?_ | refine Kx.xla 17 rfl rfl ?_ | refine Kx.xlo 17 rfl rfl HC.out ?_
    refine Kx.tk 18 rfl ?_
    first | refine Kx.xl1 19 rfl rfl rfl ?_ | refine Kx.xla 19 rfl rfl ?_ | refine Kx.xlo 19 rfl rfl HC.out ?_
    refine Kx.anyW_build_x (i := 20) (cs := ?cs20_107) (t := ?t20_107) (m := ?m20_107) rfl (by kernel_rfl) (by kernel_rfl) rfl ?run20_107 ?nx20_107
    case run20_107 => (intro W; go_simp; first | (refine ⟨?_, ?_⟩ <;> with_reducible rfl) | with_reducible rfl)
    intro b20
    refine Kx.framedW (by simp only [Act.put, List.setIfInBounds_toArray, List.set_cons_succ, List.set_cons_zero] <;> rfl) ?_
    refine anyW_call (i := 21) (v := ?v21_108) (f := ?g21_108) (args := ?s21_108) (a' := ?a21_108) (by first | exact Kx.bears_x | exact bears_u | assumption) rfl (by kernel_rfl) (by kernel_rfl) (by kernel_rfl) (fun _ _ _ h => h) (by kernel_rfl) ?c21_108 ?w21_108 ?y21_108 ?f21_108 ?r21_108
    case w21_108 => kernel_rfl
    case y21_108 => (intro W hW; go_simp; first | (refine ⟨?_, ?_⟩ <;> with_reducible rfl) | with_reducible rfl)
    case c21_108 => (intro W hW; refine Calls.mono (bets_I (-1) ((N : Int) - 1) _ 3 _ _ [xt, xp, xs] _ true H3.out (hW.rd (cs := [.int .i64 xt, .int .i64 xp, .int .i64 xs])) rfl (by decide)) ?_; rintro e w_ ⟨rfl, hb_⟩; refine ⟨?_, by first | exact hb_ | exact hb_ ▸ Below.refl _ _⟩; with_reducible rfl)
    case f21_108 => (go_simp; try with_reducible rfl)
    refine Kx.tk 22 rfl ?_
    refine Kx.tk 23 rfl ?_
    refine Kx.tk 24 rfl ?_
    first | refine Kx.xl1 25 rfl rfl rfl ?_ | refine Kx.xla 25 rfl rfl ?_ | refine Kx.xlo 25 rfl rfl HC.out ?_
    refine Kx.tk 26 rfl ?_
    first | refine Kx.xl1 27 rfl rfl rfl ?_ | refine Kx.xla 27 rfl rfl ?_ | refine Kx.xlo 27 rfl rfl HC.out ?_
    refine Kx.tk 28 rfl ?_
    refine Kx.tk 29 rfl ?_
    first | refine Kx.xl1 30 rfl rfl rfl ?_ | refine Kx.xla 30 rfl rfl ?_ | refine Kx.xlo 30 rfl rfl HC.out ?_
    refine anyW_call (i := 31) (v := ?v31_109) (f := ?g31_109) (args := ?s31_109) (a' := ?a31_109) (by first | exact Kx.bears_x | exact bears_u | assumption) rfl (by kernel_rfl) (by kernel_rfl) (by kernel_rfl) (fun _ _ _ h => h) (by kernel_rfl) ?c31_109 ?w31_109 ?y31_109 ?f31_109 ?r31_109
    case w31_109 => kernel_rfl
    case y31_109 => (intro W hW; go_simp; first | (refine ⟨?_, ?_⟩ <;> with_reducible rfl) | with_reducible rfl)
    case c31_109 => (intro W hW; refine Calls.mono (HLO.out W) ?_; rintro e w_ ⟨rfl, hb_⟩; refine ⟨?_, by first | exact hb_ | exact hb_ ▸ Below.refl _ _⟩; with_reducible rfl)
    case f31_109 => (go_simp; try with_reducible rfl)
    refine Kx.tk 32 rfl ?_
    refine Kx.tk 33 rfl ?_
    refine Kx.tk 34 rfl ?_
    refine Kx.tk 35 rfl ?_
    refine Kx.sk 36 rfl ?_
    refine Kx.sk 37 rfl ?_
    refine Kx.sk 38 rfl ?_
    refine Kx.sk 39 rfl ?_
    refine Kx.sk 40 rfl ?_
    refine Kx.sk 41 rfl ?_
    refine Kx.tk 42 rfl ?_
    refine Kx.tk 43 rfl ?_
    refine anyW_done (by kernel_rfl) ?_
    clear HB
    intro w_ HB_
    have HB := Lib.hid HB_
    clear HB_
    go_wp2_with fail
    go_ret
    exact says_no rfl (fun q => HQ.out (HBY.out.2 ⟨HU.out.1 q.up, HV.out.1 q.su⟩)) HB.out.below
  have d2 : ((q : Int) == 0) = true := by rw [beq_iff_eq]; omega
  have HQ := Lib.hid hq0
  clear hq0
  by_cases hbn : n' ≤ b
  case neg =>
    have d3 : decide ((n' : Int) ≤ (b : Int)) = false := decide_eq_false (by omega)
    have d3' : decide (n' ≤ b) = false := decide_eq_false hbn
    go_enter Tryd.func13, Tryd.ntmps13
    go_wp2_with (first | ((with_reducible refine Kx.absorb HB ?_); clear HB; intro w_ HB) | ((with_reducible refine Kx.box_gate (d := some 2) ?_); (first | refine Kx.boxa HB rfl ?_ | refine Kx.boxt HB rfl rfl ?_ | refine Kx.box1 HB rfl rfl ?_); clear HB; intro b2 w_ HB; refine Kx.fr ?_) | ((with_reducible refine Kx.alloc_gate (d := some 2) ?_); (first | refine Kx.ala HB ?_ | refine Kx.al1 HB ?_); clear HB; intro b2 w_ HB; refine Kx.fr ?_) | ((with_reducible refine Kx.box_gate (d := some 3) ?_); (first | refine Kx.boxa HB rfl ?_ | refine Kx.boxt HB rfl rfl ?_ | refine Kx.box1 HB rfl rfl ?_); clear HB; intro b3 w_ HB; refine Kx.fr ?_) | ((with_reducible refine Kx.alloc_gate (d := some 3) ?_); (first | refine Kx.ala HB ?_ | refine Kx.al1 HB ?_); clear HB; intro b3 w_ HB; refine Kx.fr ?_) | ((with_reducible refine Kx.box_gate ?_); (first | refine Kx.boxa HB rfl ?_ | refine Kx.boxt HB rfl rfl ?_ | refine Kx.box1 HB rfl rfl ?_); clear HB; intro b_ w_ HB; refine Kx.fr ?_) | ((with_reducible refine Kx.alloc_gate ?_); (first | refine Kx.ala HB ?_ | refine Kx.al1 HB ?_); clear HB; intro b_ w_ HB; refine Kx.fr ?_) | ((with_reducible refine Kx.loads_gate ?_); first | refine Kx.l1 HB rfl rfl ?_ | refine Kx.la HB rfl ?_ | refine Kx.lo HB rfl HC.out ?_) | ((with_reducible refine Kx.loadg_gate ?_); first | refine Kx.l1g HB rfl rfl rfl ?_ | refine Kx.lag HB rfl rfl ?_ | refine Kx.log HB rfl HC.out rfl ?_) | ((with_reducible refine Kx.store_gate ?_); (first | refine Kx.stwa HB rfl rfl ?_ | refine Kx.sta HB rfl rfl ?_ | refine Kx.stc HB rfl rfl ?_ | refine Kx.stt HB rfl rfl rfl ?_ | refine Kx.st1 HB rfl rfl rfl ?_); clear HB; intro w_ HB))
    refine Kx.region_x HB (fun i => false) (by kernel_rfl) ?_
    first | refine Kx.xl1 0 rfl rfl rfl ?_ | refine Kx.xla 0 rfl rfl ?_ | refine Kx.xlo 0 rfl rfl HC.out ?_
    refine anyW_call (i := 1) (v := ?v1_110) (f := ?g1_110) (args := ?s1_110) (a' := ?a1_110) (by first | exact Kx.bears_x | exact bears_u | assumption) rfl (by kernel_rfl) (by kernel_rfl) (by kernel_rfl) (fun _ _ _ h => h) (by kernel_rfl) ?c1_110 ?w1_110 ?y1_110 ?f1_110 ?r1_110
    case w1_110 => kernel_rfl
    case y1_110 => (intro W hW; go_simp; first | (refine ⟨?_, ?_⟩ <;> with_reducible rfl) | with_reducible rfl)
    case c1_110 => (intro W hW; refine Calls.mono (HR2.out W hW.below) ?_; rintro e w_ ⟨rfl, hb_⟩; refine ⟨?_, by first | exact hb_ | exact hb_ ▸ Below.refl _ _⟩; with_reducible rfl)
    case f1_110 => (go_simp; try with_reducible rfl)
    refine Kx.tk 2 rfl ?_
    refine Kx.tk 3 rfl ?_
    first | refine Kx.xl1 4 rfl rfl rfl ?_ | refine Kx.xla 4 rfl rfl ?_ | refine Kx.xlo 4 rfl rfl HC.out ?_
    refine Kx.tk 5 rfl ?_
    refine Kx.tk 6 rfl ?_
    first | refine Kx.xl1 7 rfl rfl rfl ?_ | refine Kx.xla 7 rfl rfl ?_ | refine Kx.xlo 7 rfl rfl HC.out ?_
    refine Kx.tk 8 rfl ?_
    refine Kx.tk 9 rfl ?_
    refine Kx.tk 10 rfl ?_
    refine Kx.tk 11 rfl ?_
    first | refine Kx.xl1 12 rfl rfl rfl ?_ | refine Kx.xla 12 rfl rfl ?_ | refine Kx.xlo 12 rfl rfl HC.out ?_
    refine Kx.tk 13 rfl ?_
    refine Kx.tk 14 rfl ?_
    first | refine Kx.xl1 15 rfl rfl rfl ?_ | refine Kx.xla 15 rfl rfl ?_ | refine Kx.xlo 15 rfl rfl HC.out ?_
    refine Kx.tk 16 rfl ?_
    first | refine Kx.xl1 17 rfl rfl rfl ?_ | refine Kx.xla 17 rfl rfl ?_ | refine Kx.xlo 17 rfl rfl HC.out ?_
    refine Kx.tk 18 rfl ?_
    first | refine Kx.xl1 19 rfl rfl rfl ?_ | refine Kx.xla 19 rfl rfl ?_ | refine Kx.xlo 19 rfl rfl HC.out ?_
    refine Kx.anyW_build_x (i := 20) (cs := ?cs20_111) (t := ?t20_111) (m := ?m20_111) rfl (by kernel_rfl) (by kernel_rfl) rfl ?run20_111 ?nx20_111
    case run20_111 => (intro W; go_simp; first | (refine ⟨?_, ?_⟩ <;> with_reducible rfl) | with_reducible rfl)
    intro b20
    refine Kx.framedW (by simp only [Act.put, List.setIfInBounds_toArray, List.set_cons_succ, List.set_cons_zero] <;> rfl) ?_
    refine anyW_call (i := 21) (v := ?v21_112) (f := ?g21_112) (args := ?s21_112) (a' := ?a21_112) (by first | exact Kx.bears_x | exact bears_u | assumption) rfl (by kernel_rfl) (by kernel_rfl) (by kernel_rfl) (fun _ _ _ h => h) (by kernel_rfl) ?c21_112 ?w21_112 ?y21_112 ?f21_112 ?r21_112
    case w21_112 => kernel_rfl
    case y21_112 => (intro W hW; go_simp; first | (refine ⟨?_, ?_⟩ <;> with_reducible rfl) | with_reducible rfl)
    case c21_112 => (intro W hW; refine Calls.mono (bets_I (-1) ((N : Int) - 1) _ 3 _ _ [xt, xp, xs] _ true H3.out (hW.rd (cs := [.int .i64 xt, .int .i64 xp, .int .i64 xs])) rfl (by decide)) ?_; rintro e w_ ⟨rfl, hb_⟩; refine ⟨?_, by first | exact hb_ | exact hb_ ▸ Below.refl _ _⟩; with_reducible rfl)
    case f21_112 => (go_simp; try with_reducible rfl)
    refine Kx.tk 22 rfl ?_
    refine Kx.tk 23 rfl ?_
    refine Kx.tk 24 rfl ?_
    first | refine Kx.xl1 25 rfl rfl rfl ?_ | refine Kx.xla 25 rfl rfl ?_ | refine Kx.xlo 25 rfl rfl HC.out ?_
    refine Kx.tk 26 rfl ?_
    first | refine Kx.xl1 27 rfl rfl rfl ?_ | refine Kx.xla 27 rfl rfl ?_ | refine Kx.xlo 27 rfl rfl HC.out ?_
    refine Kx.tk 28 rfl ?_
    refine Kx.tk 29 rfl ?_
    first | refine Kx.xl1 30 rfl rfl rfl ?_ | refine Kx.xla 30 rfl rfl ?_ | refine Kx.xlo 30 rfl rfl HC.out ?_
    refine anyW_call (i := 31) (v := ?v31_113) (f := ?g31_113) (args := ?s31_113) (a' := ?a31_113) (by first | exact Kx.bears_x | exact bears_u | assumption) rfl (by kernel_rfl) (by kernel_rfl) (by kernel_rfl) (fun _ _ _ h => h) (by kernel_rfl) ?c31_113 ?w31_113 ?y31_113 ?f31_113 ?r31_113
    case w31_113 => kernel_rfl
    case y31_113 => (intro W hW; go_simp; first | (refine ⟨?_, ?_⟩ <;> with_reducible rfl) | with_reducible rfl)
    case c31_113 => (intro W hW; refine Calls.mono (HLO.out W) ?_; rintro e w_ ⟨rfl, hb_⟩; refine ⟨?_, by first | exact hb_ | exact hb_ ▸ Below.refl _ _⟩; with_reducible rfl)
    case f31_113 => (go_simp; try with_reducible rfl)
    refine Kx.tk 32 rfl ?_
    refine Kx.tk 33 rfl ?_
    refine Kx.tk 34 rfl ?_
    refine Kx.tk 35 rfl ?_
    refine Kx.tk 36 rfl ?_
    first | refine Kx.xl1 37 rfl rfl rfl ?_ | refine Kx.xla 37 rfl rfl ?_ | refine Kx.xlo 37 rfl rfl HC.out ?_
    refine Kx.tk 38 rfl ?_
    refine Kx.tk 39 rfl ?_
    first | refine Kx.xl1 40 rfl rfl rfl ?_ | refine Kx.xla 40 rfl rfl ?_ | refine Kx.xlo 40 rfl rfl HC.out ?_
    refine Kx.tk 41 rfl ?_
    refine Kx.tk 42 rfl ?_
    refine Kx.tk 43 rfl ?_
    refine anyW_done (by kernel_rfl) ?_
    clear HB
    intro w_ HB_
    have HB := Lib.hid HB_
    clear HB_
    go_wp2_with fail
    go_ret
    exact says_no rfl (fun q => by have := q.b; dsimp only at this; omega) HB.out.below
  have d3 : decide ((n' : Int) ≤ (b : Int)) = true := decide_eq_true (by omega)
  have d3' : decide (n' ≤ b) = true := decide_eq_true hbn
  go_enter Tryd.func13, Tryd.ntmps13
  go_wp2_with (first | ((with_reducible refine Kx.absorb HB ?_); clear HB; intro w_ HB) | ((with_reducible refine Kx.box_gate (d := some 2) ?_); (first | refine Kx.boxa HB rfl ?_ | refine Kx.boxt HB rfl rfl ?_ | refine Kx.box1 HB rfl rfl ?_); clear HB; intro b2 w_ HB; refine Kx.fr ?_) | ((with_reducible refine Kx.alloc_gate (d := some 2) ?_); (first | refine Kx.ala HB ?_ | refine Kx.al1 HB ?_); clear HB; intro b2 w_ HB; refine Kx.fr ?_) | ((with_reducible refine Kx.box_gate (d := some 3) ?_); (first | refine Kx.boxa HB rfl ?_ | refine Kx.boxt HB rfl rfl ?_ | refine Kx.box1 HB rfl rfl ?_); clear HB; intro b3 w_ HB; refine Kx.fr ?_) | ((with_reducible refine Kx.alloc_gate (d := some 3) ?_); (first | refine Kx.ala HB ?_ | refine Kx.al1 HB ?_); clear HB; intro b3 w_ HB; refine Kx.fr ?_) | ((with_reducible refine Kx.box_gate ?_); (first | refine Kx.boxa HB rfl ?_ | refine Kx.boxt HB rfl rfl ?_ | refine Kx.box1 HB rfl rfl ?_); clear HB; intro b_ w_ HB; refine Kx.fr ?_) | ((with_reducible refine Kx.alloc_gate ?_); (first | refine Kx.ala HB ?_ | refine Kx.al1 HB ?_); clear HB; intro b_ w_ HB; refine Kx.fr ?_) | ((with_reducible refine Kx.loads_gate ?_); first | refine Kx.l1 HB rfl rfl ?_ | refine Kx.la HB rfl ?_ | refine Kx.lo HB rfl HC.out ?_) | ((with_reducible refine Kx.loadg_gate ?_); first | refine Kx.l1g HB rfl rfl rfl ?_ | refine Kx.lag HB rfl rfl ?_ | refine Kx.log HB rfl HC.out rfl ?_) | ((with_reducible refine Kx.store_gate ?_); (first | refine Kx.stwa HB rfl rfl ?_ | refine Kx.sta HB rfl rfl ?_ | refine Kx.stc HB rfl rfl ?_ | refine Kx.stt HB rfl rfl rfl ?_ | refine Kx.st1 HB rfl rfl rfl ?_); clear HB; intro w_ HB))
  refine Kx.region_x HB (fun i => false) (by kernel_rfl) ?_
  first | refine Kx.xl1 0 rfl rfl rfl ?_ | refine Kx.xla 0 rfl rfl ?_ | refine Kx.xlo 0 rfl rfl HC.out ?_
  refine anyW_call (i := 1) (v := ?v1_114) (f := ?g1_114) (args := ?s1_114) (a' := ?a1_114) (by first | exact Kx.bears_x | exact bears_u | assumption) rfl (by kernel_rfl) (by kernel_rfl) (by kernel_rfl) (fun _ _ _ h => h) (by kernel_rfl) ?c1_114 ?w1_114 ?y1_114 ?f1_114 ?r1_114
  case w1_114 => kernel_rfl
  case y1_114 => (intro W hW; go_simp; first | (refine ⟨?_, ?_⟩ <;> with_reducible rfl) | with_reducible rfl)
  case c1_114 => (intro W hW; refine Calls.mono (HR2.out W hW.below) ?_; rintro e w_ ⟨rfl, hb_⟩; refine ⟨?_, by first | exact hb_ | exact hb_ ▸ Below.refl _ _⟩; with_reducible rfl)
  case f1_114 => (go_simp; try with_reducible rfl)
  refine Kx.tk 2 rfl ?_
  refine Kx.tk 3 rfl ?_
  first | refine Kx.xl1 4 rfl rfl rfl ?_ | refine Kx.xla 4 rfl rfl ?_ | refine Kx.xlo 4 rfl rfl HC.out ?_
  refine Kx.tk 5 rfl ?_
  refine Kx.tk 6 rfl ?_
  first | refine Kx.xl1 7 rfl rfl rfl ?_ | refine Kx.xla 7 rfl rfl ?_ | refine Kx.xlo 7 rfl rfl HC.out ?_
  refine Kx.tk 8 rfl ?_
  refine Kx.tk 9 rfl ?_
  refine Kx.tk 10 rfl ?_
  refine Kx.tk 11 rfl ?_
  first | refine Kx.xl1 12 rfl rfl rfl ?_ | refine Kx.xla 12 rfl rfl ?_ | refine Kx.xlo 12 rfl rfl HC.out ?_
  refine Kx.tk 13 rfl ?_
  refine Kx.tk 14 rfl ?_
  first | refine Kx.xl1 15 rfl rfl rfl ?_ | refine Kx.xla 15 rfl rfl ?_ | refine Kx.xlo 15 rfl rfl HC.out ?_
  refine Kx.tk 16 rfl ?_
  first | refine Kx.xl1 17 rfl rfl rfl ?_ | refine Kx.xla 17 rfl rfl ?_ | refine Kx.xlo 17 rfl rfl HC.out ?_
  refine Kx.tk 18 rfl ?_
  first | refine Kx.xl1 19 rfl rfl rfl ?_ | refine Kx.xla 19 rfl rfl ?_ | refine Kx.xlo 19 rfl rfl HC.out ?_
  refine Kx.anyW_build_x (i := 20) (cs := ?cs20_115) (t := ?t20_115) (m := ?m20_115) rfl (by kernel_rfl) (by kernel_rfl) rfl ?run20_115 ?nx20_115
  case run20_115 => (intro W; go_simp; first | (refine ⟨?_, ?_⟩ <;> with_reducible rfl) | with_reducible rfl)
  intro b20
  refine Kx.framedW (by simp only [Act.put, List.setIfInBounds_toArray, List.set_cons_succ, List.set_cons_zero] <;> rfl) ?_
  refine anyW_call (i := 21) (v := ?v21_116) (f := ?g21_116) (args := ?s21_116) (a' := ?a21_116) (by first | exact Kx.bears_x | exact bears_u | assumption) rfl (by kernel_rfl) (by kernel_rfl) (by kernel_rfl) (fun _ _ _ h => h) (by kernel_rfl) ?c21_116 ?w21_116 ?y21_116 ?f21_116 ?r21_116
  case w21_116 => kernel_rfl
  case y21_116 => (intro W hW; go_simp; first | (refine ⟨?_, ?_⟩ <;> with_reducible rfl) | with_reducible rfl)
  case c21_116 => (intro W hW; refine Calls.mono (bets_I (-1) ((N : Int) - 1) _ 3 _ _ [xt, xp, xs] _ true H3.out (hW.rd (cs := [.int .i64 xt, .int .i64 xp, .int .i64 xs])) rfl (by decide)) ?_; rintro e w_ ⟨rfl, hb_⟩; refine ⟨?_, by first | exact hb_ | exact hb_ ▸ Below.refl _ _⟩; with_reducible rfl)
  case f21_116 => (go_simp; try with_reducible rfl)
  refine Kx.tk 22 rfl ?_
  refine Kx.tk 23 rfl ?_
  refine Kx.tk 24 rfl ?_
  first | refine Kx.xl1 25 rfl rfl rfl ?_ | refine Kx.xla 25 rfl rfl ?_ | refine Kx.xlo 25 rfl rfl HC.out ?_
  refine Kx.tk 26 rfl ?_
  first | refine Kx.xl1 27 rfl rfl rfl ?_ | refine Kx.xla 27 rfl rfl ?_ | refine Kx.xlo 27 rfl rfl HC.out ?_
  refine Kx.tk 28 rfl ?_
  refine Kx.tk 29 rfl ?_
  first | refine Kx.xl1 30 rfl rfl rfl ?_ | refine Kx.xla 30 rfl rfl ?_ | refine Kx.xlo 30 rfl rfl HC.out ?_
  refine anyW_call (i := 31) (v := ?v31_117) (f := ?g31_117) (args := ?s31_117) (a' := ?a31_117) (by first | exact Kx.bears_x | exact bears_u | assumption) rfl (by kernel_rfl) (by kernel_rfl) (by kernel_rfl) (fun _ _ _ h => h) (by kernel_rfl) ?c31_117 ?w31_117 ?y31_117 ?f31_117 ?r31_117
  case w31_117 => kernel_rfl
  case y31_117 => (intro W hW; go_simp; first | (refine ⟨?_, ?_⟩ <;> with_reducible rfl) | with_reducible rfl)
  case c31_117 => (intro W hW; refine Calls.mono (HLO.out W) ?_; rintro e w_ ⟨rfl, hb_⟩; refine ⟨?_, by first | exact hb_ | exact hb_ ▸ Below.refl _ _⟩; with_reducible rfl)
  case f31_117 => (go_simp; try with_reducible rfl)
  refine Kx.tk 32 rfl ?_
  refine Kx.tk 33 rfl ?_
  refine Kx.tk 34 rfl ?_
  refine Kx.tk 35 rfl ?_
  refine Kx.tk 36 rfl ?_
  first | refine Kx.xl1 37 rfl rfl rfl ?_ | refine Kx.xla 37 rfl rfl ?_ | refine Kx.xlo 37 rfl rfl HC.out ?_
  refine Kx.tk 38 rfl ?_
  refine Kx.tk 39 rfl ?_
  first | refine Kx.xl1 40 rfl rfl rfl ?_ | refine Kx.xla 40 rfl rfl ?_ | refine Kx.xlo 40 rfl rfl HC.out ?_
  refine Kx.tk 41 rfl ?_
  refine Kx.tk 42 rfl ?_
  refine Kx.tk 43 rfl ?_
  refine anyW_done (by kernel_rfl) ?_
  clear HB
  intro w_ HB_
  have HB := Lib.hid HB_
  clear HB_
  go_wp2_with fail
  go_ret
  obtain ⟨t3, p3, s3⟩ := in_three.1 H3.out
  exact says_yes rfl ⟨HRR.out, HNE.out, by dsimp only; omega, by dsimp only; omega, by dsimp only; omega, HU.out.2 (HBY.out.1 HQ.out).1, HV.out.2 (HBY.out.1 HQ.out).2, by dsimp only; omega⟩ HB.out.below
end Go.Proofs.YtpbogacodhjlfaaDoor
