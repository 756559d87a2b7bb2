/- Whether a plan is right: the document's. -/
import Derived.Test.YtpbogacodhjlfaaDoorGs
import Derived.Deep.CutBlock
import Derived.Deep.DeepCutAuto
namespace Go.Proofs.YtpbogacodhjlfaaDoor
open Go.RowKit Go.Shelf Km Kx Kc
set_option linter.unusedVariables false


set_option maxRecDepth 100000 in
set_option maxHeartbeats 4000000 in
theorem R4Right_any (x : Gm.Pl) (A : Option Addr) (n c0 : Nat) (A' : Option Addr) (n' c' : Nat) (B : Nat) (w : World) (hp : PAt w B x A n c0 A' n' c') (hB : B ≤ w.heap.size) (hn9 : n ≤ 9000000) (hm9 : n' ≤ 9000000) :
    Calls Tryd.prog 44 #[.agg (pc x A n c0 A' n' c').toArray] w (Says w (RightP x)) := by
  have HB := Lib.hid (Bxs.start w)
  have HPN := Lib.hid (hp.pen.more hB)
  have HCH := Lib.hid (hp.ch.more hB)
  have hn := hp.n
  have hn' := hp.n'
  clear hp hB
  obtain ⟨xe, xt, xp, xs, xc, xst, xsi, xra, xup, xsu, pen, ch⟩ := x
  dsimp only [pc] at *
  go_enter Tryd.func44, Tryd.ntmps44
  go_upto_region 1 with (first | ((with_reducible refine Kx.absorb HB ?_); clear HB; intro w_ HB) | ((with_reducible refine Kx.box_gate (d := some 1) ?_); (first | refine Kx.boxa HB rfl ?_ | refine Kx.boxt HB rfl rfl ?_ | refine Kx.box1 HB rfl rfl ?_); clear HB; intro b1 w_ HB; refine Kx.fr ?_) | ((with_reducible refine Kx.alloc_gate (d := some 1) ?_); (first | refine Kx.ala HB ?_ | refine Kx.al1 HB ?_); clear HB; intro b1 w_ HB; refine Kx.fr ?_) | ((with_reducible refine Kx.box_gate ?_); (first | refine Kx.boxa HB rfl ?_ | refine Kx.boxt HB rfl rfl ?_ | refine Kx.box1 HB rfl rfl ?_); clear HB; intro b_ w_ HB; refine Kx.fr ?_) | ((with_reducible refine Kx.alloc_gate ?_); (first | refine Kx.ala HB ?_ | refine Kx.al1 HB ?_); clear HB; intro b_ w_ HB; refine Kx.fr ?_) | ((with_reducible refine Kx.loads_gate ?_); first | refine Kx.l1 HB rfl rfl ?_ | refine Kx.la HB rfl ?_ | refine Kx.lo HB rfl HC.out ?_) | ((with_reducible refine Kx.loadg_gate ?_); first | refine Kx.l1g HB rfl rfl rfl ?_ | refine Kx.lag HB rfl rfl ?_ | refine Kx.log HB rfl HC.out rfl ?_) | ((with_reducible refine Kx.store_gate ?_); (first | refine Kx.stwa HB rfl rfl ?_ | refine Kx.sta HB rfl rfl ?_ | refine Kx.stc HB rfl rfl ?_ | refine Kx.stt HB rfl rfl rfl ?_ | refine Kx.st1 HB rfl rfl rfl ?_); clear HB; intro w_ HB))
  by_cases h1 : xe < 0
  case pos =>
    have d1_0 : decide (xe < (0 : Int)) = true := by simp; omega
    go_wp2_with (first | ((with_reducible refine Kx.absorb HB ?_); clear HB; intro w_ HB) | ((with_reducible refine Kx.box_gate ?_); (first | refine Kx.boxa HB rfl ?_ | refine Kx.boxt HB rfl rfl ?_ | refine Kx.box1 HB rfl rfl ?_); clear HB; intro b_ w_ HB; refine Kx.fr ?_) | ((with_reducible refine Kx.alloc_gate ?_); (first | refine Kx.ala HB ?_ | refine Kx.al1 HB ?_); clear HB; intro b_ w_ HB; refine Kx.fr ?_) | ((with_reducible refine Kx.loads_gate ?_); first | refine Kx.l1 HB rfl rfl ?_ | refine Kx.la HB rfl ?_ | refine Kx.lo HB rfl HC.out ?_) | ((with_reducible refine Kx.loadg_gate ?_); first | refine Kx.l1g HB rfl rfl rfl ?_ | refine Kx.lag HB rfl rfl ?_ | refine Kx.log HB rfl HC.out rfl ?_) | ((with_reducible refine Kx.store_gate ?_); (first | refine Kx.stwa HB rfl rfl ?_ | refine Kx.sta HB rfl rfl ?_ | refine Kx.stc HB rfl rfl ?_ | refine Kx.stt HB rfl rfl rfl ?_ | refine Kx.st1 HB rfl rfl rfl ?_); clear HB; intro w_ HB))
    go_ret
    exact says_no rfl (fun q => absurd q.e (by dsimp only; omega)) HB.out.below
  have d1_0 : decide (xe < (0 : Int)) = false := by simp; omega
  by_cases h2 : xt < -1
  case pos =>
    have d2_0 : decide (xt < (-1 : Int)) = true := by simp; omega
    go_wp2_with (first | ((with_reducible refine Kx.absorb HB ?_); clear HB; intro w_ HB) | ((with_reducible refine Kx.box_gate ?_); (first | refine Kx.boxa HB rfl ?_ | refine Kx.boxt HB rfl rfl ?_ | refine Kx.box1 HB rfl rfl ?_); clear HB; intro b_ w_ HB; refine Kx.fr ?_) | ((with_reducible refine Kx.alloc_gate ?_); (first | refine Kx.ala HB ?_ | refine Kx.al1 HB ?_); clear HB; intro b_ w_ HB; refine Kx.fr ?_) | ((with_reducible refine Kx.loads_gate ?_); first | refine Kx.l1 HB rfl rfl ?_ | refine Kx.la HB rfl ?_ | refine Kx.lo HB rfl HC.out ?_) | ((with_reducible refine Kx.loadg_gate ?_); first | refine Kx.l1g HB rfl rfl rfl ?_ | refine Kx.lag HB rfl rfl ?_ | refine Kx.log HB rfl HC.out rfl ?_) | ((with_reducible refine Kx.store_gate ?_); (first | refine Kx.stwa HB rfl rfl ?_ | refine Kx.sta HB rfl rfl ?_ | refine Kx.stc HB rfl rfl ?_ | refine Kx.stt HB rfl rfl rfl ?_ | refine Kx.st1 HB rfl rfl rfl ?_); clear HB; intro w_ HB))
    go_ret
    exact says_no rfl (fun q => absurd q.t1 (by dsimp only; omega)) HB.out.below
  have d2_0 : decide (xt < (-1 : Int)) = false := by simp; omega
  by_cases h3 : 16 ≤ xt
  case pos =>
    have d3_0 : decide ((16 : Int) ≤ xt) = true := by simp; omega
    go_wp2_with (first | ((with_reducible refine Kx.absorb HB ?_); clear HB; intro w_ HB) | ((with_reducible refine Kx.box_gate ?_); (first | refine Kx.boxa HB rfl ?_ | refine Kx.boxt HB rfl rfl ?_ | refine Kx.box1 HB rfl rfl ?_); clear HB; intro b_ w_ HB; refine Kx.fr ?_) | ((with_reducible refine Kx.alloc_gate ?_); (first | refine Kx.ala HB ?_ | refine Kx.al1 HB ?_); clear HB; intro b_ w_ HB; refine Kx.fr ?_) | ((with_reducible refine Kx.loads_gate ?_); first | refine Kx.l1 HB rfl rfl ?_ | refine Kx.la HB rfl ?_ | refine Kx.lo HB rfl HC.out ?_) | ((with_reducible refine Kx.loadg_gate ?_); first | refine Kx.l1g HB rfl rfl rfl ?_ | refine Kx.lag HB rfl rfl ?_ | refine Kx.log HB rfl HC.out rfl ?_) | ((with_reducible refine Kx.store_gate ?_); (first | refine Kx.stwa HB rfl rfl ?_ | refine Kx.sta HB rfl rfl ?_ | refine Kx.stc HB rfl rfl ?_ | refine Kx.stt HB rfl rfl rfl ?_ | refine Kx.st1 HB rfl rfl rfl ?_); clear HB; intro w_ HB))
    go_ret
    exact says_no rfl (fun q => absurd q.t2 (by dsimp only; omega)) HB.out.below
  have d3_0 : decide ((16 : Int) ≤ xt) = false := by simp; omega
  by_cases h4 : xp < -1
  case pos =>
    have d4_0 : decide (xp < (-1 : Int)) = true := by simp; omega
    go_wp2_with (first | ((with_reducible refine Kx.absorb HB ?_); clear HB; intro w_ HB) | ((with_reducible refine Kx.box_gate ?_); (first | refine Kx.boxa HB rfl ?_ | refine Kx.boxt HB rfl rfl ?_ | refine Kx.box1 HB rfl rfl ?_); clear HB; intro b_ w_ HB; refine Kx.fr ?_) | ((with_reducible refine Kx.alloc_gate ?_); (first | refine Kx.ala HB ?_ | refine Kx.al1 HB ?_); clear HB; intro b_ w_ HB; refine Kx.fr ?_) | ((with_reducible refine Kx.loads_gate ?_); first | refine Kx.l1 HB rfl rfl ?_ | refine Kx.la HB rfl ?_ | refine Kx.lo HB rfl HC.out ?_) | ((with_reducible refine Kx.loadg_gate ?_); first | refine Kx.l1g HB rfl rfl rfl ?_ | refine Kx.lag HB rfl rfl ?_ | refine Kx.log HB rfl HC.out rfl ?_) | ((with_reducible refine Kx.store_gate ?_); (first | refine Kx.stwa HB rfl rfl ?_ | refine Kx.sta HB rfl rfl ?_ | refine Kx.stc HB rfl rfl ?_ | refine Kx.stt HB rfl rfl rfl ?_ | refine Kx.st1 HB rfl rfl rfl ?_); clear HB; intro w_ HB))
    go_ret
    exact says_no rfl (fun q => absurd q.p1 (by dsimp only; omega)) HB.out.below
  have d4_0 : decide (xp < (-1 : Int)) = false := by simp; omega
  by_cases h5 : 16 ≤ xp
  case pos =>
    have d5_0 : decide ((16 : Int) ≤ xp) = true := by simp; omega
    go_wp2_with (first | ((with_reducible refine Kx.absorb HB ?_); clear HB; intro w_ HB) | ((with_reducible refine Kx.box_gate ?_); (first | refine Kx.boxa HB rfl ?_ | refine Kx.boxt HB rfl rfl ?_ | refine Kx.box1 HB rfl rfl ?_); clear HB; intro b_ w_ HB; refine Kx.fr ?_) | ((with_reducible refine Kx.alloc_gate ?_); (first | refine Kx.ala HB ?_ | refine Kx.al1 HB ?_); clear HB; intro b_ w_ HB; refine Kx.fr ?_) | ((with_reducible refine Kx.loads_gate ?_); first | refine Kx.l1 HB rfl rfl ?_ | refine Kx.la HB rfl ?_ | refine Kx.lo HB rfl HC.out ?_) | ((with_reducible refine Kx.loadg_gate ?_); first | refine Kx.l1g HB rfl rfl rfl ?_ | refine Kx.lag HB rfl rfl ?_ | refine Kx.log HB rfl HC.out rfl ?_) | ((with_reducible refine Kx.store_gate ?_); (first | refine Kx.stwa HB rfl rfl ?_ | refine Kx.sta HB rfl rfl ?_ | refine Kx.stc HB rfl rfl ?_ | refine Kx.stt HB rfl rfl rfl ?_ | refine Kx.st1 HB rfl rfl rfl ?_); clear HB; intro w_ HB))
    go_ret
    exact says_no rfl (fun q => absurd q.p2 (by dsimp only; omega)) HB.out.below
  have d5_0 : decide ((16 : Int) ≤ xp) = false := by simp; omega
  by_cases h6 : xs < -1
  case pos =>
    have d6_0 : decide (xs < (-1 : Int)) = true := by simp; omega
    go_wp2_with (first | ((with_reducible refine Kx.absorb HB ?_); clear HB; intro w_ HB) | ((with_reducible refine Kx.box_gate ?_); (first | refine Kx.boxa HB rfl ?_ | refine Kx.boxt HB rfl rfl ?_ | refine Kx.box1 HB rfl rfl ?_); clear HB; intro b_ w_ HB; refine Kx.fr ?_) | ((with_reducible refine Kx.alloc_gate ?_); (first | refine Kx.ala HB ?_ | refine Kx.al1 HB ?_); clear HB; intro b_ w_ HB; refine Kx.fr ?_) | ((with_reducible refine Kx.loads_gate ?_); first | refine Kx.l1 HB rfl rfl ?_ | refine Kx.la HB rfl ?_ | refine Kx.lo HB rfl HC.out ?_) | ((with_reducible refine Kx.loadg_gate ?_); first | refine Kx.l1g HB rfl rfl rfl ?_ | refine Kx.lag HB rfl rfl ?_ | refine Kx.log HB rfl HC.out rfl ?_) | ((with_reducible refine Kx.store_gate ?_); (first | refine Kx.stwa HB rfl rfl ?_ | refine Kx.sta HB rfl rfl ?_ | refine Kx.stc HB rfl rfl ?_ | refine Kx.stt HB rfl rfl rfl ?_ | refine Kx.st1 HB rfl rfl rfl ?_); clear HB; intro w_ HB))
    go_ret
    exact says_no rfl (fun q => absurd q.s1 (by dsimp only; omega)) HB.out.below
  have d6_0 : decide (xs < (-1 : Int)) = false := by simp; omega
  by_cases h7 : 16 ≤ xs
  case pos =>
    have d7_0 : decide ((16 : Int) ≤ xs) = true := by simp; omega
    go_wp2_with (first | ((with_reducible refine Kx.absorb HB ?_); clear HB; intro w_ HB) | ((with_reducible refine Kx.box_gate ?_); (first | refine Kx.boxa HB rfl ?_ | refine Kx.boxt HB rfl rfl ?_ | refine Kx.box1 HB rfl rfl ?_); clear HB; intro b_ w_ HB; refine Kx.fr ?_) | ((with_reducible refine Kx.alloc_gate ?_); (first | refine Kx.ala HB ?_ | refine Kx.al1 HB ?_); clear HB; intro b_ w_ HB; refine Kx.fr ?_) | ((with_reducible refine Kx.loads_gate ?_); first | refine Kx.l1 HB rfl rfl ?_ | refine Kx.la HB rfl ?_ | refine Kx.lo HB rfl HC.out ?_) | ((with_reducible refine Kx.loadg_gate ?_); first | refine Kx.l1g HB rfl rfl rfl ?_ | refine Kx.lag HB rfl rfl ?_ | refine Kx.log HB rfl HC.out rfl ?_) | ((with_reducible refine Kx.store_gate ?_); (first | refine Kx.stwa HB rfl rfl ?_ | refine Kx.sta HB rfl rfl ?_ | refine Kx.stc HB rfl rfl ?_ | refine Kx.stt HB rfl rfl rfl ?_ | refine Kx.st1 HB rfl rfl rfl ?_); clear HB; intro w_ HB))
    go_ret
    exact says_no rfl (fun q => absurd q.s2 (by dsimp only; omega)) HB.out.below
  have d7_0 : decide ((16 : Int) ≤ xs) = false := by simp; omega
  by_cases h8 : xc < 0
  case pos =>
    have d8_0 : decide (xc < (0 : Int)) = true := by simp; omega
    go_wp2_with (first | ((with_reducible refine Kx.absorb HB ?_); clear HB; intro w_ HB) | ((with_reducible refine Kx.box_gate ?_); (first | refine Kx.boxa HB rfl ?_ | refine Kx.boxt HB rfl rfl ?_ | refine Kx.box1 HB rfl rfl ?_); clear HB; intro b_ w_ HB; refine Kx.fr ?_) | ((with_reducible refine Kx.alloc_gate ?_); (first | refine Kx.ala HB ?_ | refine Kx.al1 HB ?_); clear HB; intro b_ w_ HB; refine Kx.fr ?_) | ((with_reducible refine Kx.loads_gate ?_); first | refine Kx.l1 HB rfl rfl ?_ | refine Kx.la HB rfl ?_ | refine Kx.lo HB rfl HC.out ?_) | ((with_reducible refine Kx.loadg_gate ?_); first | refine Kx.l1g HB rfl rfl rfl ?_ | refine Kx.lag HB rfl rfl ?_ | refine Kx.log HB rfl HC.out rfl ?_) | ((with_reducible refine Kx.store_gate ?_); (first | refine Kx.stwa HB rfl rfl ?_ | refine Kx.sta HB rfl rfl ?_ | refine Kx.stc HB rfl rfl ?_ | refine Kx.stt HB rfl rfl rfl ?_ | refine Kx.st1 HB rfl rfl rfl ?_); clear HB; intro w_ HB))
    go_ret
    exact says_no rfl (fun q => absurd q.c1 (by dsimp only; omega)) HB.out.below
  have d8_0 : decide (xc < (0 : Int)) = false := by simp; omega
  by_cases h9 : 100 < xc
  case pos =>
    have d9_0 : decide ((100 : Int) < xc) = true := by simp; omega
    go_wp2_with (first | ((with_reducible refine Kx.absorb HB ?_); clear HB; intro w_ HB) | ((with_reducible refine Kx.box_gate ?_); (first | refine Kx.boxa HB rfl ?_ | refine Kx.boxt HB rfl rfl ?_ | refine Kx.box1 HB rfl rfl ?_); clear HB; intro b_ w_ HB; refine Kx.fr ?_) | ((with_reducible refine Kx.alloc_gate ?_); (first | refine Kx.ala HB ?_ | refine Kx.al1 HB ?_); clear HB; intro b_ w_ HB; refine Kx.fr ?_) | ((with_reducible refine Kx.loads_gate ?_); first | refine Kx.l1 HB rfl rfl ?_ | refine Kx.la HB rfl ?_ | refine Kx.lo HB rfl HC.out ?_) | ((with_reducible refine Kx.loadg_gate ?_); first | refine Kx.l1g HB rfl rfl rfl ?_ | refine Kx.lag HB rfl rfl ?_ | refine Kx.log HB rfl HC.out rfl ?_) | ((with_reducible refine Kx.store_gate ?_); (first | refine Kx.stwa HB rfl rfl ?_ | refine Kx.sta HB rfl rfl ?_ | refine Kx.stc HB rfl rfl ?_ | refine Kx.stt HB rfl rfl rfl ?_ | refine Kx.st1 HB rfl rfl rfl ?_); clear HB; intro w_ HB))
    go_ret
    exact says_no rfl (fun q => absurd q.c2 (by dsimp only; omega)) HB.out.below
  have d9_0 : decide ((100 : Int) < xc) = false := by simp; omega
  go_upto_region 3 with (first | ((with_reducible refine Kx.absorb HB ?_); clear HB; intro w_ HB) | ((with_reducible refine Kx.box_gate ?_); (first | refine Kx.boxa HB rfl ?_ | refine Kx.boxt HB rfl rfl ?_ | refine Kx.box1 HB rfl rfl ?_); clear HB; intro b_ w_ HB; refine Kx.fr ?_) | ((with_reducible refine Kx.alloc_gate ?_); (first | refine Kx.ala HB ?_ | refine Kx.al1 HB ?_); clear HB; intro b_ w_ HB; refine Kx.fr ?_) | ((with_reducible refine Kx.loads_gate ?_); first | refine Kx.l1 HB rfl rfl ?_ | refine Kx.la HB rfl ?_ | refine Kx.lo HB rfl HC.out ?_) | ((with_reducible refine Kx.loadg_gate ?_); first | refine Kx.l1g HB rfl rfl rfl ?_ | refine Kx.lag HB rfl rfl ?_ | refine Kx.log HB rfl HC.out rfl ?_) | ((with_reducible refine Kx.store_gate ?_); (first | refine Kx.stwa HB rfl rfl ?_ | refine Kx.sta HB rfl rfl ?_ | refine Kx.stc HB rfl rfl ?_ | refine Kx.stt HB rfl rfl rfl ?_ | refine Kx.st1 HB rfl rfl rfl ?_); clear HB; intro w_ HB))
  clear d1_0 d2_0 d3_0 d4_0 d5_0 d6_0 d7_0 d8_0 d9_0
  by_cases h10 : 0 ≤ xst ∧ xst ≤ 1099511627776
  case neg =>
    have Hxst : Hid (∀ W, Calls Tryd.prog 56 #[.int .i64 xst, .int .i64 0, .int .i64 1099511627776] W fun e w' => e = .returned (.bool false) ∧ W = w') := Lib.hid (fun W => by have h := in4_any xst 0 1099511627776 W; rwa [show (decide ((0 : Int) ≤ xst) && decide (xst ≤ 1099511627776)) = false from by by_cases q : (0 : Int) ≤ xst; (rw [decide_eq_true q, decide_eq_false (by omega)]; rfl); (rw [decide_eq_false q]; rfl)] at h)
    go_wp2_with (first | (go_at_call 56; with_reducible refine Kx.args_gate #[.int .i64 xst, _, _] ?_; refine (Hxst.out _).mono ?_; rintro e w2 ⟨rfl, rfl⟩) | (first | ((with_reducible refine Kx.absorb HB ?_); clear HB; intro w_ HB) | ((with_reducible refine Kx.box_gate ?_); (first | refine Kx.boxa HB rfl ?_ | refine Kx.boxt HB rfl rfl ?_ | refine Kx.box1 HB rfl rfl ?_); clear HB; intro b_ w_ HB; refine Kx.fr ?_) | ((with_reducible refine Kx.alloc_gate ?_); (first | refine Kx.ala HB ?_ | refine Kx.al1 HB ?_); clear HB; intro b_ w_ HB; refine Kx.fr ?_) | ((with_reducible refine Kx.loads_gate ?_); first | refine Kx.l1 HB rfl rfl ?_ | refine Kx.la HB rfl ?_ | refine Kx.lo HB rfl HC.out ?_) | ((with_reducible refine Kx.loadg_gate ?_); first | refine Kx.l1g HB rfl rfl rfl ?_ | refine Kx.lag HB rfl rfl ?_ | refine Kx.log HB rfl HC.out rfl ?_) | ((with_reducible refine Kx.store_gate ?_); (first | refine Kx.stwa HB rfl rfl ?_ | refine Kx.sta HB rfl rfl ?_ | refine Kx.stc HB rfl rfl ?_ | refine Kx.stt HB rfl rfl rfl ?_ | refine Kx.st1 HB rfl rfl rfl ?_); clear HB; intro w_ HB)))
    go_ret
    exact says_no rfl (fun q => h10 q.st) HB.out.below
  have Hxst : Hid (∀ W, Calls Tryd.prog 56 #[.int .i64 xst, .int .i64 0, .int .i64 1099511627776] W fun e w' => e = .returned (.bool true) ∧ W = w') := Lib.hid (fun W => by have h := in4_any xst 0 1099511627776 W; rwa [show (decide ((0 : Int) ≤ xst) && decide (xst ≤ 1099511627776)) = true from by rw [decide_eq_true (by omega), decide_eq_true (by omega)]; rfl] at h)
  by_cases h11 : 0 ≤ xsi ∧ xsi ≤ 1099511627776
  case neg =>
    have Hxsi : Hid (∀ W, Calls Tryd.prog 56 #[.int .i64 xsi, .int .i64 0, .int .i64 1099511627776] W fun e w' => e = .returned (.bool false) ∧ W = w') := Lib.hid (fun W => by have h := in4_any xsi 0 1099511627776 W; rwa [show (decide ((0 : Int) ≤ xsi) && decide (xsi ≤ 1099511627776)) = false from by by_cases q : (0 : Int) ≤ xsi; (rw [decide_eq_true q, decide_eq_false (by omega)]; rfl); (rw [decide_eq_false q]; rfl)] at h)
    go_wp2_with (first | (go_at_call 56; with_reducible refine Kx.args_gate #[.int .i64 xst, _, _] ?_; refine (Hxst.out _).mono ?_; rintro e w2 ⟨rfl, rfl⟩) | (go_at_call 56; with_reducible refine Kx.args_gate #[.int .i64 xsi, _, _] ?_; refine (Hxsi.out _).mono ?_; rintro e w2 ⟨rfl, rfl⟩) | (first | ((with_reducible refine Kx.absorb HB ?_); clear HB; intro w_ HB) | ((with_reducible refine Kx.box_gate ?_); (first | refine Kx.boxa HB rfl ?_ | refine Kx.boxt HB rfl rfl ?_ | refine Kx.box1 HB rfl rfl ?_); clear HB; intro b_ w_ HB; refine Kx.fr ?_) | ((with_reducible refine Kx.alloc_gate ?_); (first | refine Kx.ala HB ?_ | refine Kx.al1 HB ?_); clear HB; intro b_ w_ HB; refine Kx.fr ?_) | ((with_reducible refine Kx.loads_gate ?_); first | refine Kx.l1 HB rfl rfl ?_ | refine Kx.la HB rfl ?_ | refine Kx.lo HB rfl HC.out ?_) | ((with_reducible refine Kx.loadg_gate ?_); first | refine Kx.l1g HB rfl rfl rfl ?_ | refine Kx.lag HB rfl rfl ?_ | refine Kx.log HB rfl HC.out rfl ?_) | ((with_reducible refine Kx.store_gate ?_); (first | refine Kx.stwa HB rfl rfl ?_ | refine Kx.sta HB rfl rfl ?_ | refine Kx.stc HB rfl rfl ?_ | refine Kx.stt HB rfl rfl rfl ?_ | refine Kx.st1 HB rfl rfl rfl ?_); clear HB; intro w_ HB)))
    go_ret
    exact says_no rfl (fun q => h11 q.si) HB.out.below
  have Hxsi : Hid (∀ W, Calls Tryd.prog 56 #[.int .i64 xsi, .int .i64 0, .int .i64 1099511627776] W fun e w' => e = .returned (.bool true) ∧ W = w') := Lib.hid (fun W => by have h := in4_any xsi 0 1099511627776 W; rwa [show (decide ((0 : Int) ≤ xsi) && decide (xsi ≤ 1099511627776)) = true from by rw [decide_eq_true (by omega), decide_eq_true (by omega)]; rfl] at h)
  by_cases h12 : 0 ≤ xra ∧ xra ≤ 1099511627776
  case neg =>
    have Hxra : Hid (∀ W, Calls Tryd.prog 56 #[.int .i64 xra, .int .i64 0, .int .i64 1099511627776] W fun e w' => e = .returned (.bool false) ∧ W = w') := Lib.hid (fun W => by have h := in4_any xra 0 1099511627776 W; rwa [show (decide ((0 : Int) ≤ xra) && decide (xra ≤ 1099511627776)) = false from by by_cases q : (0 : Int) ≤ xra; (rw [decide_eq_true q, decide_eq_false (by omega)]; rfl); (rw [decide_eq_false q]; rfl)] at h)
    go_wp2_with (first | (go_at_call 56; with_reducible refine Kx.args_gate #[.int .i64 xst, _, _] ?_; refine (Hxst.out _).mono ?_; rintro e w2 ⟨rfl, rfl⟩) | (go_at_call 56; with_reducible refine Kx.args_gate #[.int .i64 xsi, _, _] ?_; refine (Hxsi.out _).mono ?_; rintro e w2 ⟨rfl, rfl⟩) | (go_at_call 56; with_reducible refine Kx.args_gate #[.int .i64 xra, _, _] ?_; refine (Hxra.out _).mono ?_; rintro e w2 ⟨rfl, rfl⟩) | (first | ((with_reducible refine Kx.absorb HB ?_); clear HB; intro w_ HB) | ((with_reducible refine Kx.box_gate ?_); (first | refine Kx.boxa HB rfl ?_ | refine Kx.boxt HB rfl rfl ?_ | refine Kx.box1 HB rfl rfl ?_); clear HB; intro b_ w_ HB; refine Kx.fr ?_) | ((with_reducible refine Kx.alloc_gate ?_); (first | refine Kx.ala HB ?_ | refine Kx.al1 HB ?_); clear HB; intro b_ w_ HB; refine Kx.fr ?_) | ((with_reducible refine Kx.loads_gate ?_); first | refine Kx.l1 HB rfl rfl ?_ | refine Kx.la HB rfl ?_ | refine Kx.lo HB rfl HC.out ?_) | ((with_reducible refine Kx.loadg_gate ?_); first | refine Kx.l1g HB rfl rfl rfl ?_ | refine Kx.lag HB rfl rfl ?_ | refine Kx.log HB rfl HC.out rfl ?_) | ((with_reducible refine Kx.store_gate ?_); (first | refine Kx.stwa HB rfl rfl ?_ | refine Kx.sta HB rfl rfl ?_ | refine Kx.stc HB rfl rfl ?_ | refine Kx.stt HB rfl rfl rfl ?_ | refine Kx.st1 HB rfl rfl rfl ?_); clear HB; intro w_ HB)))
    go_ret
    exact says_no rfl (fun q => h12 q.ra) HB.out.below
  have Hxra : Hid (∀ W, Calls Tryd.prog 56 #[.int .i64 xra, .int .i64 0, .int .i64 1099511627776] W fun e w' => e = .returned (.bool true) ∧ W = w') := Lib.hid (fun W => by have h := in4_any xra 0 1099511627776 W; rwa [show (decide ((0 : Int) ≤ xra) && decide (xra ≤ 1099511627776)) = true from by rw [decide_eq_true (by omega), decide_eq_true (by omega)]; rfl] at h)
  by_cases h13 : 65535 < xup
  case pos =>
    have d13_0 : decide ((65535 : Int) < xup) = true := by simp; omega
    go_wp2_with (first | (go_at_call 56; with_reducible refine Kx.args_gate #[.int .i64 xst, _, _] ?_; refine (Hxst.out _).mono ?_; rintro e w2 ⟨rfl, rfl⟩) | (go_at_call 56; with_reducible refine Kx.args_gate #[.int .i64 xsi, _, _] ?_; refine (Hxsi.out _).mono ?_; rintro e w2 ⟨rfl, rfl⟩) | (go_at_call 56; with_reducible refine Kx.args_gate #[.int .i64 xra, _, _] ?_; refine (Hxra.out _).mono ?_; rintro e w2 ⟨rfl, rfl⟩) | (first | ((with_reducible refine Kx.absorb HB ?_); clear HB; intro w_ HB) | ((with_reducible refine Kx.box_gate ?_); (first | refine Kx.boxa HB rfl ?_ | refine Kx.boxt HB rfl rfl ?_ | refine Kx.box1 HB rfl rfl ?_); clear HB; intro b_ w_ HB; refine Kx.fr ?_) | ((with_reducible refine Kx.alloc_gate ?_); (first | refine Kx.ala HB ?_ | refine Kx.al1 HB ?_); clear HB; intro b_ w_ HB; refine Kx.fr ?_) | ((with_reducible refine Kx.loads_gate ?_); first | refine Kx.l1 HB rfl rfl ?_ | refine Kx.la HB rfl ?_ | refine Kx.lo HB rfl HC.out ?_) | ((with_reducible refine Kx.loadg_gate ?_); first | refine Kx.l1g HB rfl rfl rfl ?_ | refine Kx.lag HB rfl rfl ?_ | refine Kx.log HB rfl HC.out rfl ?_) | ((with_reducible refine Kx.store_gate ?_); (first | refine Kx.stwa HB rfl rfl ?_ | refine Kx.sta HB rfl rfl ?_ | refine Kx.stc HB rfl rfl ?_ | refine Kx.stt HB rfl rfl rfl ?_ | refine Kx.st1 HB rfl rfl rfl ?_); clear HB; intro w_ HB)))
    go_ret
    exact says_no rfl (fun q => absurd q.up (by dsimp only; omega)) HB.out.below
  have d13_0 : decide ((65535 : Int) < xup) = false := by simp; omega
  by_cases h14 : 65535 < xsu
  case pos =>
    have d14_0 : decide ((65535 : Int) < xsu) = true := by simp; omega
    go_wp2_with (first | (go_at_call 56; with_reducible refine Kx.args_gate #[.int .i64 xst, _, _] ?_; refine (Hxst.out _).mono ?_; rintro e w2 ⟨rfl, rfl⟩) | (go_at_call 56; with_reducible refine Kx.args_gate #[.int .i64 xsi, _, _] ?_; refine (Hxsi.out _).mono ?_; rintro e w2 ⟨rfl, rfl⟩) | (go_at_call 56; with_reducible refine Kx.args_gate #[.int .i64 xra, _, _] ?_; refine (Hxra.out _).mono ?_; rintro e w2 ⟨rfl, rfl⟩) | (first | ((with_reducible refine Kx.absorb HB ?_); clear HB; intro w_ HB) | ((with_reducible refine Kx.box_gate ?_); (first | refine Kx.boxa HB rfl ?_ | refine Kx.boxt HB rfl rfl ?_ | refine Kx.box1 HB rfl rfl ?_); clear HB; intro b_ w_ HB; refine Kx.fr ?_) | ((with_reducible refine Kx.alloc_gate ?_); (first | refine Kx.ala HB ?_ | refine Kx.al1 HB ?_); clear HB; intro b_ w_ HB; refine Kx.fr ?_) | ((with_reducible refine Kx.loads_gate ?_); first | refine Kx.l1 HB rfl rfl ?_ | refine Kx.la HB rfl ?_ | refine Kx.lo HB rfl HC.out ?_) | ((with_reducible refine Kx.loadg_gate ?_); first | refine Kx.l1g HB rfl rfl rfl ?_ | refine Kx.lag HB rfl rfl ?_ | refine Kx.log HB rfl HC.out rfl ?_) | ((with_reducible refine Kx.store_gate ?_); (first | refine Kx.stwa HB rfl rfl ?_ | refine Kx.sta HB rfl rfl ?_ | refine Kx.stc HB rfl rfl ?_ | refine Kx.stt HB rfl rfl rfl ?_ | refine Kx.st1 HB rfl rfl rfl ?_); clear HB; intro w_ HB)))
    go_ret
    exact says_no rfl (fun q => absurd q.su (by dsimp only; omega)) HB.out.below
  have d14_0 : decide ((65535 : Int) < xsu) = false := by simp; omega
  by_cases h15 : 16 < n
  case pos =>
    have d15_0 : decide ((16 : Int) < (n : Int)) = true := by simp; omega
    have d15_1 : decide (16 < n) = true := by simp; omega
    go_wp2_with (first | (go_at_call 56; with_reducible refine Kx.args_gate #[.int .i64 xst, _, _] ?_; refine (Hxst.out _).mono ?_; rintro e w2 ⟨rfl, rfl⟩) | (go_at_call 56; with_reducible refine Kx.args_gate #[.int .i64 xsi, _, _] ?_; refine (Hxsi.out _).mono ?_; rintro e w2 ⟨rfl, rfl⟩) | (go_at_call 56; with_reducible refine Kx.args_gate #[.int .i64 xra, _, _] ?_; refine (Hxra.out _).mono ?_; rintro e w2 ⟨rfl, rfl⟩) | (first | ((with_reducible refine Kx.absorb HB ?_); clear HB; intro w_ HB) | ((with_reducible refine Kx.box_gate ?_); (first | refine Kx.boxa HB rfl ?_ | refine Kx.boxt HB rfl rfl ?_ | refine Kx.box1 HB rfl rfl ?_); clear HB; intro b_ w_ HB; refine Kx.fr ?_) | ((with_reducible refine Kx.alloc_gate ?_); (first | refine Kx.ala HB ?_ | refine Kx.al1 HB ?_); clear HB; intro b_ w_ HB; refine Kx.fr ?_) | ((with_reducible refine Kx.loads_gate ?_); first | refine Kx.l1 HB rfl rfl ?_ | refine Kx.la HB rfl ?_ | refine Kx.lo HB rfl HC.out ?_) | ((with_reducible refine Kx.loadg_gate ?_); first | refine Kx.l1g HB rfl rfl rfl ?_ | refine Kx.lag HB rfl rfl ?_ | refine Kx.log HB rfl HC.out rfl ?_) | ((with_reducible refine Kx.store_gate ?_); (first | refine Kx.stwa HB rfl rfl ?_ | refine Kx.sta HB rfl rfl ?_ | refine Kx.stc HB rfl rfl ?_ | refine Kx.stt HB rfl rfl rfl ?_ | refine Kx.st1 HB rfl rfl rfl ?_); clear HB; intro w_ HB)))
    go_ret
    exact says_no rfl (fun q => absurd q.np (by dsimp only; omega)) HB.out.below
  have d15_0 : decide ((16 : Int) < (n : Int)) = false := by simp; omega
  have d15_1 : decide (16 < n) = false := by simp; omega
  by_cases h16 : 8 < n'
  case pos =>
    have d16_0 : decide ((8 : Int) < (n' : Int)) = true := by simp; omega
    have d16_1 : decide (8 < n') = true := by simp; omega
    go_wp2_with (first | (go_at_call 56; with_reducible refine Kx.args_gate #[.int .i64 xst, _, _] ?_; refine (Hxst.out _).mono ?_; rintro e w2 ⟨rfl, rfl⟩) | (go_at_call 56; with_reducible refine Kx.args_gate #[.int .i64 xsi, _, _] ?_; refine (Hxsi.out _).mono ?_; rintro e w2 ⟨rfl, rfl⟩) | (go_at_call 56; with_reducible refine Kx.args_gate #[.int .i64 xra, _, _] ?_; refine (Hxra.out _).mono ?_; rintro e w2 ⟨rfl, rfl⟩) | (first | ((with_reducible refine Kx.absorb HB ?_); clear HB; intro w_ HB) | ((with_reducible refine Kx.box_gate ?_); (first | refine Kx.boxa HB rfl ?_ | refine Kx.boxt HB rfl rfl ?_ | refine Kx.box1 HB rfl rfl ?_); clear HB; intro b_ w_ HB; refine Kx.fr ?_) | ((with_reducible refine Kx.alloc_gate ?_); (first | refine Kx.ala HB ?_ | refine Kx.al1 HB ?_); clear HB; intro b_ w_ HB; refine Kx.fr ?_) | ((with_reducible refine Kx.loads_gate ?_); first | refine Kx.l1 HB rfl rfl ?_ | refine Kx.la HB rfl ?_ | refine Kx.lo HB rfl HC.out ?_) | ((with_reducible refine Kx.loadg_gate ?_); first | refine Kx.l1g HB rfl rfl rfl ?_ | refine Kx.lag HB rfl rfl ?_ | refine Kx.log HB rfl HC.out rfl ?_) | ((with_reducible refine Kx.store_gate ?_); (first | refine Kx.stwa HB rfl rfl ?_ | refine Kx.sta HB rfl rfl ?_ | refine Kx.stc HB rfl rfl ?_ | refine Kx.stt HB rfl rfl rfl ?_ | refine Kx.st1 HB rfl rfl rfl ?_); clear HB; intro w_ HB)))
    go_ret
    exact says_no rfl (fun q => absurd q.nc (by dsimp only; omega)) HB.out.below
  have d16_0 : decide ((8 : Int) < (n' : Int)) = false := by simp; omega
  have d16_1 : decide (8 < n') = false := by simp; omega
  go_wp2_with (first | (go_at_call 56; with_reducible refine Kx.args_gate #[.int .i64 xst, _, _] ?_; refine (Hxst.out _).mono ?_; rintro e w2 ⟨rfl, rfl⟩) | (go_at_call 56; with_reducible refine Kx.args_gate #[.int .i64 xsi, _, _] ?_; refine (Hxsi.out _).mono ?_; rintro e w2 ⟨rfl, rfl⟩) | (go_at_call 56; with_reducible refine Kx.args_gate #[.int .i64 xra, _, _] ?_; refine (Hxra.out _).mono ?_; rintro e w2 ⟨rfl, rfl⟩) | (first | ((with_reducible refine Kx.absorb HB ?_); clear HB; intro w_ HB) | ((with_reducible refine Kx.box_gate ?_); (first | refine Kx.boxa HB rfl ?_ | refine Kx.boxt HB rfl rfl ?_ | refine Kx.box1 HB rfl rfl ?_); clear HB; intro b_ w_ HB; refine Kx.fr ?_) | ((with_reducible refine Kx.alloc_gate ?_); (first | refine Kx.ala HB ?_ | refine Kx.al1 HB ?_); clear HB; intro b_ w_ HB; refine Kx.fr ?_) | ((with_reducible refine Kx.loads_gate ?_); first | refine Kx.l1 HB rfl rfl ?_ | refine Kx.la HB rfl ?_ | refine Kx.lo HB rfl HC.out ?_) | ((with_reducible refine Kx.loadg_gate ?_); first | refine Kx.l1g HB rfl rfl rfl ?_ | refine Kx.lag HB rfl rfl ?_ | refine Kx.log HB rfl HC.out rfl ?_) | ((with_reducible refine Kx.store_gate ?_); (first | refine Kx.stwa HB rfl rfl ?_ | refine Kx.sta HB rfl rfl ?_ | refine Kx.stc HB rfl rfl ?_ | refine Kx.stt HB rfl rfl rfl ?_ | refine Kx.st1 HB rfl rfl rfl ?_); clear HB; intro w_ HB)))
  go_loopg [3] n (fun gh ix wr => ∃ k : Nat, gh + k = n ∧ ix = .int .i64 (k : Int) ∧ Hid (Bxs w wr [(b1, [.int .i64 xe, .int .i64 xt, .int .i64 xp, .int .i64 xs, .int .i64 xc, .int .i64 xst, .int .i64 xsi, .int .i64 xra, .int .u64 xup, .int .u64 xsu, .slice A n c0, .slice A' n' c'])]) ∧ Hid (∀ j, j < k → 0 ≤ pen.getD j 0 ∧ pen.getD j 0 ≤ 1000000))
  case atStart => exact ⟨0, by omega, rfl, HB, Lib.hid (fun j hj => by omega)⟩
  case round =>
    clear HB
    obtain ⟨k, hk, rfl, HB, HI⟩ := hrel
    by_cases hlt : k < n
    · obtain ⟨ad, e1, -, hc⟩ := HPN.out.num (k := k) (by rw [hn]; exact hlt)
      subst e1
      have hmem := getD_mem (l := pen) (k := k) (by rw [hn]; exact hlt)
      obtain ⟨v, hv⟩ : ∃ v, pen.getD k 0 = v := ⟨_, rfl⟩
      rw [hv] at hc hmem
      have HC := Lib.hid hc
      have HM := Lib.hid hmem
      have HV := Lib.hid hv
      have d3 : (k : Int) < (n : Int) := by omega
      clear hc hmem hv
      by_cases g1 : v < 0
      · have d4 : decide (v < (0 : Int)) = true := decide_eq_true g1
        go_wp2_with (first | ((with_reducible refine Kx.absorb HB ?_); clear HB; intro w_ HB) | ((with_reducible refine Kx.box_gate ?_); (first | refine Kx.boxa HB rfl ?_ | refine Kx.boxt HB rfl rfl ?_ | refine Kx.box1 HB rfl rfl ?_); clear HB; intro b_ w_ HB; refine Kx.fr ?_) | ((with_reducible refine Kx.alloc_gate ?_); (first | refine Kx.ala HB ?_ | refine Kx.al1 HB ?_); clear HB; intro b_ w_ HB; refine Kx.fr ?_) | ((with_reducible refine Kx.loads_gate ?_); first | refine Kx.l1 HB rfl rfl ?_ | refine Kx.la HB rfl ?_ | refine Kx.lo HB rfl HC.out ?_) | ((with_reducible refine Kx.loadg_gate ?_); first | refine Kx.l1g HB rfl rfl rfl ?_ | refine Kx.lag HB rfl rfl ?_ | refine Kx.log HB rfl HC.out rfl ?_) | ((with_reducible refine Kx.store_gate ?_); (first | refine Kx.stwa HB rfl rfl ?_ | refine Kx.sta HB rfl rfl ?_ | refine Kx.stc HB rfl rfl ?_ | refine Kx.stt HB rfl rfl rfl ?_ | refine Kx.st1 HB rfl rfl rfl ?_); clear HB; intro w_ HB))
        go_ret
        exact says_no rfl (fun q => absurd (q.pen v HM.out).1 (by omega)) HB.out.below
      have d4 : decide (v < (0 : Int)) = false := decide_eq_false g1
      by_cases g2 : 1000000 < v
      · have d5 : decide ((1000000 : Int) < v) = true := decide_eq_true g2
        go_wp2_with (first | ((with_reducible refine Kx.absorb HB ?_); clear HB; intro w_ HB) | ((with_reducible refine Kx.box_gate ?_); (first | refine Kx.boxa HB rfl ?_ | refine Kx.boxt HB rfl rfl ?_ | refine Kx.box1 HB rfl rfl ?_); clear HB; intro b_ w_ HB; refine Kx.fr ?_) | ((with_reducible refine Kx.alloc_gate ?_); (first | refine Kx.ala HB ?_ | refine Kx.al1 HB ?_); clear HB; intro b_ w_ HB; refine Kx.fr ?_) | ((with_reducible refine Kx.loads_gate ?_); first | refine Kx.l1 HB rfl rfl ?_ | refine Kx.la HB rfl ?_ | refine Kx.lo HB rfl HC.out ?_) | ((with_reducible refine Kx.loadg_gate ?_); first | refine Kx.l1g HB rfl rfl rfl ?_ | refine Kx.lag HB rfl rfl ?_ | refine Kx.log HB rfl HC.out rfl ?_) | ((with_reducible refine Kx.store_gate ?_); (first | refine Kx.stwa HB rfl rfl ?_ | refine Kx.sta HB rfl rfl ?_ | refine Kx.stc HB rfl rfl ?_ | refine Kx.stt HB rfl rfl rfl ?_ | refine Kx.st1 HB rfl rfl rfl ?_); clear HB; intro w_ HB))
        go_ret
        exact says_no rfl (fun q => absurd (q.pen v HM.out).2 (by omega)) HB.out.below
      have d5 : decide ((1000000 : Int) < v) = false := decide_eq_false g2
      have HV2 : Hid (0 ≤ v ∧ v ≤ 1000000) := Lib.hid ⟨by omega, by omega⟩
      clear g1 g2
      go_wp2_with (first | ((with_reducible refine Kx.absorb HB ?_); clear HB; intro w_ HB) | ((with_reducible refine Kx.box_gate ?_); (first | refine Kx.boxa HB rfl ?_ | refine Kx.boxt HB rfl rfl ?_ | refine Kx.box1 HB rfl rfl ?_); clear HB; intro b_ w_ HB; refine Kx.fr ?_) | ((with_reducible refine Kx.alloc_gate ?_); (first | refine Kx.ala HB ?_ | refine Kx.al1 HB ?_); clear HB; intro b_ w_ HB; refine Kx.fr ?_) | ((with_reducible refine Kx.loads_gate ?_); first | refine Kx.l1 HB rfl rfl ?_ | refine Kx.la HB rfl ?_ | refine Kx.lo HB rfl HC.out ?_) | ((with_reducible refine Kx.loadg_gate ?_); first | refine Kx.l1g HB rfl rfl rfl ?_ | refine Kx.lag HB rfl rfl ?_ | refine Kx.log HB rfl HC.out rfl ?_) | ((with_reducible refine Kx.store_gate ?_); (first | refine Kx.stwa HB rfl rfl ?_ | refine Kx.sta HB rfl rfl ?_ | refine Kx.stc HB rfl rfl ?_ | refine Kx.stt HB rfl rfl rfl ?_ | refine Kx.st1 HB rfl rfl rfl ?_); clear HB; intro w_ HB))
      go_roundg (gk - 1)
      case measure => omega
      case rel => exact ⟨k + 1, by omega, by go_num, HB, Lib.hid (fun j hj => by
        rcases Nat.lt_or_ge j k with h | h
        · exact HI.out j h
        · obtain rfl : j = k := by omega
          rw [HV.out]; exact HV2.out)⟩
    · obtain rfl : k = n := by omega
      have d0 : decide ((k : Int) < (k : Int)) = false := by simp
      have HPB : Hid (∀ v ∈ pen, 0 ≤ v ∧ v ≤ 1000000) := Lib.hid (fun v hv => by
        obtain ⟨j, hj, rfl⟩ := mem_getD hv
        exact HI.out j (by omega))
      clear HI hlt hk
      go_wp2_with (first | ((with_reducible refine Kx.absorb HB ?_); clear HB; intro w_ HB) | ((with_reducible refine Kx.box_gate ?_); (first | refine Kx.boxa HB rfl ?_ | refine Kx.boxt HB rfl rfl ?_ | refine Kx.box1 HB rfl rfl ?_); clear HB; intro b_ w_ HB; refine Kx.fr ?_) | ((with_reducible refine Kx.alloc_gate ?_); (first | refine Kx.ala HB ?_ | refine Kx.al1 HB ?_); clear HB; intro b_ w_ HB; refine Kx.fr ?_) | ((with_reducible refine Kx.loads_gate ?_); first | refine Kx.l1 HB rfl rfl ?_ | refine Kx.la HB rfl ?_ | refine Kx.lo HB rfl HC.out ?_) | ((with_reducible refine Kx.loadg_gate ?_); first | refine Kx.l1g HB rfl rfl rfl ?_ | refine Kx.lag HB rfl rfl ?_ | refine Kx.log HB rfl HC.out rfl ?_) | ((with_reducible refine Kx.store_gate ?_); (first | refine Kx.stwa HB rfl rfl ?_ | refine Kx.sta HB rfl rfl ?_ | refine Kx.stc HB rfl rfl ?_ | refine Kx.stt HB rfl rfl rfl ?_ | refine Kx.st1 HB rfl rfl rfl ?_); clear HB; intro w_ HB))
      go_loopg [4] n' (fun gh ix wr => ∃ i : Nat, gh + i = n' ∧ ix = .int .i64 (i : Int) ∧ Hid (Bxs w wr [(b1, [.int .i64 xe, .int .i64 xt, .int .i64 xp, .int .i64 xs, .int .i64 xc, .int .i64 xst, .int .i64 xsi, .int .i64 xra, .int .u64 xup, .int .u64 xsu, .slice A k c0, .slice A' n' c'])]) ∧ Hid (∀ j, j < i → Gm.T (ch.getD j 0) ∧ (0 < j → ch.getD (j - 1) 0 ≤ ch.getD j 0)))
      case atStart => exact ⟨0, by omega, rfl, HB, Lib.hid (fun j hj => by omega)⟩
      case round =>
        clear HB
        obtain ⟨i, hi, rfl, HB, HI⟩ := hrel
        by_cases hil : i < n'
        · obtain ⟨ad, e1, -, hc⟩ := HCH.out.num (k := i) (by rw [hn']; exact hil)
          subst e1
          have hmem := getD_mem (l := ch) (k := i) (by rw [hn']; exact hil)
          obtain ⟨v, hv⟩ : ∃ v, ch.getD i 0 = v := ⟨_, rfl⟩
          rw [hv] at hc hmem
          have HC := Lib.hid hc
          have HM := Lib.hid hmem
          have HV := Lib.hid hv
          have d6 : (i : Int) < (n' : Int) := by omega
          clear hc hmem hv
          by_cases g1 : 0 ≤ v ∧ v ≤ 1099511627776
          case neg =>
            have HIN : Hid (∀ W, Calls Tryd.prog 56 #[.int .i64 v, .int .i64 0, .int .i64 1099511627776] W fun e w' => e = .returned (.bool false) ∧ Below W.heap.size W w') := Lib.hid (fun W => by refine (in4_any v 0 1099511627776 W).mono ?_; rintro e w' ⟨rfl, rfl⟩; exact ⟨by rw [show (decide ((0 : Int) ≤ v) && decide (v ≤ 1099511627776)) = false from by by_cases q : (0 : Int) ≤ v; (rw [decide_eq_true q, decide_eq_false (by omega)]; rfl); (rw [decide_eq_false q]; rfl)], Below.refl _ _⟩)
            go_wp2_with (first | ((with_reducible refine Kx.absorb HB ?_); clear HB; intro w_ HB) | ((with_reducible refine Kx.box_gate ?_); (first | refine Kx.boxa HB rfl ?_ | refine Kx.boxt HB rfl rfl ?_ | refine Kx.box1 HB rfl rfl ?_); clear HB; intro b_ w_ HB; refine Kx.fr ?_) | ((with_reducible refine Kx.alloc_gate ?_); (first | refine Kx.ala HB ?_ | refine Kx.al1 HB ?_); clear HB; intro b_ w_ HB; refine Kx.fr ?_) | ((with_reducible refine Kx.loads_gate ?_); first | refine Kx.l1 HB rfl rfl ?_ | refine Kx.la HB rfl ?_ | refine Kx.lo HB rfl HC.out ?_) | ((with_reducible refine Kx.loadg_gate ?_); first | refine Kx.l1g HB rfl rfl rfl ?_ | refine Kx.lag HB rfl rfl ?_ | refine Kx.log HB rfl HC.out rfl ?_) | ((with_reducible refine Kx.store_gate ?_); (first | refine Kx.stwa HB rfl rfl ?_ | refine Kx.sta HB rfl rfl ?_ | refine Kx.stc HB rfl rfl ?_ | refine Kx.stt HB rfl rfl rfl ?_ | refine Kx.st1 HB rfl rfl rfl ?_); clear HB; intro w_ HB))
            refine Kx.region_x HB (fun i => false) (by kernel_rfl) ?_
            refine Kx.tk 0 rfl ?_
            refine anyW_take (i := 1) (v := ?v1_75) (a' := ?a1_75) (by first | exact Kx.bears_x | exact bears_u | assumption) rfl (by kernel_rfl) (by kernel_rfl) (by kernel_rfl) (fun _ _ _ h => h) (by kernel_rfl) ?w1_75 ?y1_75 ?f1_75 ?r1_75
            case w1_75 => kernel_rfl
            case y1_75 => (intro W hW; first | (refine Eq.trans (Kx.tells_load1_x (v := .slice (some ad) n' c') hW b1 11 rfl _ inferInstance (Tryd.isAgg26 _) rfl) ?_; with_reducible rfl))
            case f1_75 => (go_simp; try with_reducible rfl)
            refine Kx.tk 2 rfl ?_
            refine Kx.tk 3 rfl ?_
            refine anyW_take (i := 4) (v := ?v4_76) (a' := ?a4_76) (by first | exact Kx.bears_x | exact bears_u | assumption) rfl (by kernel_rfl) (by kernel_rfl) (by kernel_rfl) (fun _ _ _ h => h) (by kernel_rfl) ?w4_76 ?y4_76 ?f4_76 ?r4_76
            case w4_76 => kernel_rfl
            case y4_76 => (intro W hW; first | (refine Eq.trans (tells_cell (v := .int .i64 v) (ad.add i) rfl (Tryd.isAgg2 _) (hW.old HC.out)) ?_; with_reducible rfl))
            case f4_76 => (go_simp; try with_reducible rfl)
            refine anyW_call (i := 5) (v := ?v5_77) (f := ?g5_77) (args := ?s5_77) (a' := ?a5_77) (by first | exact Kx.bears_x | exact bears_u | assumption) rfl (by kernel_rfl) (by kernel_rfl) (by kernel_rfl) (fun _ _ _ h => h) (by kernel_rfl) ?c5_77 ?w5_77 ?y5_77 ?f5_77 ?r5_77
            case w5_77 => kernel_rfl
            case y5_77 => (intro W hW; go_simp; first | (refine ⟨?_, ?_⟩ <;> with_reducible rfl) | with_reducible rfl)
            case c5_77 => (intro W hW; refine Calls.mono (HIN.out W) ?_; rintro e w_ ⟨rfl, hb_⟩; refine ⟨?_, by first | exact hb_ | exact hb_ ▸ Below.refl _ _⟩; with_reducible rfl)
            case f5_77 => (go_simp; try with_reducible rfl)
            refine Kx.tk 6 rfl ?_
            refine Kx.tk 7 rfl ?_
            refine Kx.sk 8 rfl ?_
            refine Kx.sk 9 rfl ?_
            refine Kx.sk 10 rfl ?_
            refine Kx.sk 11 rfl ?_
            refine Kx.sk 12 rfl ?_
            refine Kx.sk 13 rfl ?_
            refine Kx.sk 14 rfl ?_
            refine Kx.sk 15 rfl ?_
            refine Kx.sk 16 rfl ?_
            refine Kx.sk 17 rfl ?_
            refine Kx.sk 18 rfl ?_
            refine Kx.sk 19 rfl ?_
            refine Kx.sk 20 rfl ?_
            refine Kx.sk 21 rfl ?_
            refine Kx.sk 22 rfl ?_
            refine Kx.sk 23 rfl ?_
            refine Kx.tk 24 rfl ?_
            refine anyW_done (by kernel_rfl) ?_
            clear HB
            intro w_ HB_
            have HB := Lib.hid HB_
            clear HB_
            go_wp2_with (first | ((with_reducible refine Kx.absorb HB ?_); clear HB; intro w_ HB) | ((with_reducible refine Kx.box_gate ?_); (first | refine Kx.boxa HB rfl ?_ | refine Kx.boxt HB rfl rfl ?_ | refine Kx.box1 HB rfl rfl ?_); clear HB; intro b_ w_ HB; refine Kx.fr ?_) | ((with_reducible refine Kx.alloc_gate ?_); (first | refine Kx.ala HB ?_ | refine Kx.al1 HB ?_); clear HB; intro b_ w_ HB; refine Kx.fr ?_) | ((with_reducible refine Kx.loads_gate ?_); first | refine Kx.l1 HB rfl rfl ?_ | refine Kx.la HB rfl ?_ | refine Kx.lo HB rfl HC.out ?_) | ((with_reducible refine Kx.loadg_gate ?_); first | refine Kx.l1g HB rfl rfl rfl ?_ | refine Kx.lag HB rfl rfl ?_ | refine Kx.log HB rfl HC.out rfl ?_) | ((with_reducible refine Kx.store_gate ?_); (first | refine Kx.stwa HB rfl rfl ?_ | refine Kx.sta HB rfl rfl ?_ | refine Kx.stc HB rfl rfl ?_ | refine Kx.stt HB rfl rfl rfl ?_ | refine Kx.st1 HB rfl rfl rfl ?_); clear HB; intro w_ HB))
            go_ret
            exact says_no rfl (fun q => g1 (q.ch v HM.out)) HB.out.below
          have HIN : Hid (∀ W, Calls Tryd.prog 56 #[.int .i64 v, .int .i64 0, .int .i64 1099511627776] W fun e w' => e = .returned (.bool true) ∧ Below W.heap.size W w') := Lib.hid (fun W => by refine (in4_any v 0 1099511627776 W).mono ?_; rintro e w' ⟨rfl, rfl⟩; exact ⟨by rw [show (decide ((0 : Int) ≤ v) && decide (v ≤ 1099511627776)) = true from by rw [decide_eq_true g1.1, decide_eq_true g1.2]; rfl], Below.refl _ _⟩)
          by_cases g2 : i = 0
          case pos =>
            subst g2
            have d7 : decide ((0 : Int) < ((0 : Nat) : Int)) = false := by simp
            go_wp2_with (first | ((with_reducible refine Kx.absorb HB ?_); clear HB; intro w_ HB) | ((with_reducible refine Kx.box_gate ?_); (first | refine Kx.boxa HB rfl ?_ | refine Kx.boxt HB rfl rfl ?_ | refine Kx.box1 HB rfl rfl ?_); clear HB; intro b_ w_ HB; refine Kx.fr ?_) | ((with_reducible refine Kx.alloc_gate ?_); (first | refine Kx.ala HB ?_ | refine Kx.al1 HB ?_); clear HB; intro b_ w_ HB; refine Kx.fr ?_) | ((with_reducible refine Kx.loads_gate ?_); first | refine Kx.l1 HB rfl rfl ?_ | refine Kx.la HB rfl ?_ | refine Kx.lo HB rfl HC.out ?_) | ((with_reducible refine Kx.loadg_gate ?_); first | refine Kx.l1g HB rfl rfl rfl ?_ | refine Kx.lag HB rfl rfl ?_ | refine Kx.log HB rfl HC.out rfl ?_) | ((with_reducible refine Kx.store_gate ?_); (first | refine Kx.stwa HB rfl rfl ?_ | refine Kx.sta HB rfl rfl ?_ | refine Kx.stc HB rfl rfl ?_ | refine Kx.stt HB rfl rfl rfl ?_ | refine Kx.st1 HB rfl rfl rfl ?_); clear HB; intro w_ HB))
            refine Kx.region_x HB (fun i => false) (by kernel_rfl) ?_
            refine Kx.tk 0 rfl ?_
            refine anyW_take (i := 1) (v := ?v1_78) (a' := ?a1_78) (by first | exact Kx.bears_x | exact bears_u | assumption) rfl (by kernel_rfl) (by kernel_rfl) (by kernel_rfl) (fun _ _ _ h => h) (by kernel_rfl) ?w1_78 ?y1_78 ?f1_78 ?r1_78
            case w1_78 => kernel_rfl
            case y1_78 => (intro W hW; first | (refine Eq.trans (Kx.tells_load1_x (v := .slice (some ad) n' c') hW b1 11 rfl _ inferInstance (Tryd.isAgg26 _) rfl) ?_; with_reducible rfl))
            case f1_78 => (go_simp; try with_reducible rfl)
            refine Kx.tk 2 rfl ?_
            refine Kx.tk 3 rfl ?_
            refine anyW_take (i := 4) (v := ?v4_79) (a' := ?a4_79) (by first | exact Kx.bears_x | exact bears_u | assumption) rfl (by kernel_rfl) (by kernel_rfl) (by kernel_rfl) (fun _ _ _ h => h) (by kernel_rfl) ?w4_79 ?y4_79 ?f4_79 ?r4_79
            case w4_79 => kernel_rfl
            case y4_79 => (intro W hW; first | (refine Eq.trans (tells_cell (v := .int .i64 v) (ad.add 0) rfl (Tryd.isAgg2 _) (hW.old HC.out)) ?_; with_reducible rfl))
            case f4_79 => (go_simp; try with_reducible rfl)
            refine anyW_call (i := 5) (v := ?v5_80) (f := ?g5_80) (args := ?s5_80) (a' := ?a5_80) (by first | exact Kx.bears_x | exact bears_u | assumption) rfl (by kernel_rfl) (by kernel_rfl) (by kernel_rfl) (fun _ _ _ h => h) (by kernel_rfl) ?c5_80 ?w5_80 ?y5_80 ?f5_80 ?r5_80
            case w5_80 => kernel_rfl
            case y5_80 => (intro W hW; go_simp; first | (refine ⟨?_, ?_⟩ <;> with_reducible rfl) | with_reducible rfl)
            case c5_80 => (intro W hW; refine Calls.mono (HIN.out W) ?_; rintro e w_ ⟨rfl, hb_⟩; refine ⟨?_, by first | exact hb_ | exact hb_ ▸ Below.refl _ _⟩; with_reducible rfl)
            case f5_80 => (go_simp; try with_reducible rfl)
            refine Kx.tk 6 rfl ?_
            refine Kx.tk 7 rfl ?_
            refine Kx.tk 8 rfl ?_
            refine Kx.tk 9 rfl ?_
            refine Kx.tk 10 rfl ?_
            refine Kx.sk 11 rfl ?_
            refine Kx.sk 12 rfl ?_
            refine Kx.sk 13 rfl ?_
            refine Kx.sk 14 rfl ?_
            refine Kx.sk 15 rfl ?_
            refine Kx.sk 16 rfl ?_
            refine Kx.sk 17 rfl ?_
            refine Kx.sk 18 rfl ?_
            refine Kx.sk 19 rfl ?_
            refine Kx.sk 20 rfl ?_
            refine Kx.sk 21 rfl ?_
            refine Kx.sk 22 rfl ?_
            refine Kx.tk 23 rfl ?_
            refine Kx.tk 24 rfl ?_
            refine anyW_done (by kernel_rfl) ?_
            clear HB
            intro w_ HB_
            have HB := Lib.hid HB_
            clear HB_
            go_wp2_with (first | ((with_reducible refine Kx.absorb HB ?_); clear HB; intro w_ HB) | ((with_reducible refine Kx.box_gate ?_); (first | refine Kx.boxa HB rfl ?_ | refine Kx.boxt HB rfl rfl ?_ | refine Kx.box1 HB rfl rfl ?_); clear HB; intro b_ w_ HB; refine Kx.fr ?_) | ((with_reducible refine Kx.alloc_gate ?_); (first | refine Kx.ala HB ?_ | refine Kx.al1 HB ?_); clear HB; intro b_ w_ HB; refine Kx.fr ?_) | ((with_reducible refine Kx.loads_gate ?_); first | refine Kx.l1 HB rfl rfl ?_ | refine Kx.la HB rfl ?_ | refine Kx.lo HB rfl HC.out ?_) | ((with_reducible refine Kx.loadg_gate ?_); first | refine Kx.l1g HB rfl rfl rfl ?_ | refine Kx.lag HB rfl rfl ?_ | refine Kx.log HB rfl HC.out rfl ?_) | ((with_reducible refine Kx.store_gate ?_); (first | refine Kx.stwa HB rfl rfl ?_ | refine Kx.sta HB rfl rfl ?_ | refine Kx.stc HB rfl rfl ?_ | refine Kx.stt HB rfl rfl rfl ?_ | refine Kx.st1 HB rfl rfl rfl ?_); clear HB; intro w_ HB))
            go_roundg (gk - 1)
            case measure => omega
            case rel => exact ⟨0 + 1, by omega, by go_num, HB, Lib.hid (fun j hj => by
              rcases Nat.lt_or_ge j 0 with h | h
              · exact HI.out j h
              · obtain rfl : j = 0 := by omega
                rw [HV.out]; exact ⟨g1, fun h0 => by omega⟩)⟩
          obtain ⟨ad', e2, -, hc2⟩ := HCH.out.num (k := i - 1) (by rw [hn']; omega)
          cases e2
          obtain ⟨u, hu⟩ : ∃ u, ch.getD (i - 1) 0 = u := ⟨_, rfl⟩
          rw [hu] at hc2
          have HU := Lib.hid hc2
          have HUV := Lib.hid hu
          have hwi : IntKind.i64.wrap ((i : Int) - 1) = ((i - 1 : Nat) : Int) := by rw [IntKind.wrap_i64]; omega
          have d8 : ((i - 1 : Nat) : Int) < (n' : Int) := by omega
          have d9 : (0 : Int) < (i : Int) := by omega
          have d10 : 0 < i := by omega
          clear hc2 hu
          by_cases g3 : v < u
          case pos =>
            have d11 : decide (v < u) = true := decide_eq_true g3
            go_wp2_with (first | ((with_reducible refine Kx.absorb HB ?_); clear HB; intro w_ HB) | ((with_reducible refine Kx.box_gate ?_); (first | refine Kx.boxa HB rfl ?_ | refine Kx.boxt HB rfl rfl ?_ | refine Kx.box1 HB rfl rfl ?_); clear HB; intro b_ w_ HB; refine Kx.fr ?_) | ((with_reducible refine Kx.alloc_gate ?_); (first | refine Kx.ala HB ?_ | refine Kx.al1 HB ?_); clear HB; intro b_ w_ HB; refine Kx.fr ?_) | ((with_reducible refine Kx.loads_gate ?_); first | refine Kx.l1 HB rfl rfl ?_ | refine Kx.la HB rfl ?_ | refine Kx.lo HB rfl HC.out ?_) | ((with_reducible refine Kx.loadg_gate ?_); first | refine Kx.l1g HB rfl rfl rfl ?_ | refine Kx.lag HB rfl rfl ?_ | refine Kx.log HB rfl HC.out rfl ?_) | ((with_reducible refine Kx.store_gate ?_); (first | refine Kx.stwa HB rfl rfl ?_ | refine Kx.sta HB rfl rfl ?_ | refine Kx.stc HB rfl rfl ?_ | refine Kx.stt HB rfl rfl rfl ?_ | refine Kx.st1 HB rfl rfl rfl ?_); clear HB; intro w_ HB))
            refine Kx.region_x HB (fun i => false) (by kernel_rfl) ?_
            refine Kx.tk 0 rfl ?_
            refine anyW_take (i := 1) (v := ?v1_81) (a' := ?a1_81) (by first | exact Kx.bears_x | exact bears_u | assumption) rfl (by kernel_rfl) (by kernel_rfl) (by kernel_rfl) (fun _ _ _ h => h) (by kernel_rfl) ?w1_81 ?y1_81 ?f1_81 ?r1_81
            case w1_81 => kernel_rfl
            case y1_81 => (intro W hW; first | (refine Eq.trans (Kx.tells_load1_x (v := .slice (some ad) n' c') hW b1 11 rfl _ inferInstance (Tryd.isAgg26 _) rfl) ?_; with_reducible rfl))
            case f1_81 => (go_simp; try with_reducible rfl)
            refine Kx.tk 2 rfl ?_
            refine Kx.tk 3 rfl ?_
            refine anyW_take (i := 4) (v := ?v4_82) (a' := ?a4_82) (by first | exact Kx.bears_x | exact bears_u | assumption) rfl (by kernel_rfl) (by kernel_rfl) (by kernel_rfl) (fun _ _ _ h => h) (by kernel_rfl) ?w4_82 ?y4_82 ?f4_82 ?r4_82
            case w4_82 => kernel_rfl
            case y4_82 => (intro W hW; first | (refine Eq.trans (tells_cell (v := .int .i64 v) (ad.add i) rfl (Tryd.isAgg2 _) (hW.old HC.out)) ?_; with_reducible rfl))
            case f4_82 => (go_simp; try with_reducible rfl)
            refine anyW_call (i := 5) (v := ?v5_83) (f := ?g5_83) (args := ?s5_83) (a' := ?a5_83) (by first | exact Kx.bears_x | exact bears_u | assumption) rfl (by kernel_rfl) (by kernel_rfl) (by kernel_rfl) (fun _ _ _ h => h) (by kernel_rfl) ?c5_83 ?w5_83 ?y5_83 ?f5_83 ?r5_83
            case w5_83 => kernel_rfl
            case y5_83 => (intro W hW; go_simp; first | (refine ⟨?_, ?_⟩ <;> with_reducible rfl) | with_reducible rfl)
            case c5_83 => (intro W hW; refine Calls.mono (HIN.out W) ?_; rintro e w_ ⟨rfl, hb_⟩; refine ⟨?_, by first | exact hb_ | exact hb_ ▸ Below.refl _ _⟩; with_reducible rfl)
            case f5_83 => (go_simp; try with_reducible rfl)
            refine Kx.tk 6 rfl ?_
            refine Kx.tk 7 rfl ?_
            refine Kx.tk 8 rfl ?_
            refine Kx.tk 9 rfl ?_
            refine Kx.tk 10 rfl ?_
            refine Kx.tk 11 rfl ?_
            refine anyW_take (i := 12) (v := ?v12_84) (a' := ?a12_84) (by first | exact Kx.bears_x | exact bears_u | assumption) rfl (by kernel_rfl) (by kernel_rfl) (by kernel_rfl) (fun _ _ _ h => h) (by kernel_rfl) ?w12_84 ?y12_84 ?f12_84 ?r12_84
            case w12_84 => kernel_rfl
            case y12_84 => (intro W hW; first | (refine Eq.trans (Kx.tells_load1_x (v := .slice (some ad) n' c') hW b1 11 rfl _ inferInstance (Tryd.isAgg26 _) rfl) ?_; with_reducible rfl))
            case f12_84 => (go_simp; try with_reducible rfl)
            refine Kx.tk 13 rfl ?_
            refine Kx.tk 14 rfl ?_
            refine Kx.tk 15 rfl ?_
            refine anyW_take (i := 16) (v := ?v16_85) (a' := ?a16_85) (by first | exact Kx.bears_x | exact bears_u | assumption) rfl (by kernel_rfl) (by kernel_rfl) (by kernel_rfl) (fun _ _ _ h => h) (by kernel_rfl) ?w16_85 ?y16_85 ?f16_85 ?r16_85
            case w16_85 => kernel_rfl
            case y16_85 => (intro W hW; first | (refine Eq.trans (tells_cell (v := .int .i64 u) (ad.add (i - 1)) rfl (Tryd.isAgg2 _) (hW.old HU.out)) ?_; with_reducible rfl))
            case f16_85 => (go_simp; try with_reducible rfl)
            refine Kx.tk 17 rfl ?_
            refine anyW_take (i := 18) (v := ?v18_86) (a' := ?a18_86) (by first | exact Kx.bears_x | exact bears_u | assumption) rfl (by kernel_rfl) (by kernel_rfl) (by kernel_rfl) (fun _ _ _ h => h) (by kernel_rfl) ?w18_86 ?y18_86 ?f18_86 ?r18_86
            case w18_86 => kernel_rfl
            case y18_86 => (intro W hW; first | (refine Eq.trans (Kx.tells_load1_x (v := .slice (some ad) n' c') hW b1 11 rfl _ inferInstance (Tryd.isAgg26 _) rfl) ?_; with_reducible rfl))
            case f18_86 => (go_simp; try with_reducible rfl)
            refine Kx.tk 19 rfl ?_
            refine Kx.tk 20 rfl ?_
            refine anyW_take (i := 21) (v := ?v21_87) (a' := ?a21_87) (by first | exact Kx.bears_x | exact bears_u | assumption) rfl (by kernel_rfl) (by kernel_rfl) (by kernel_rfl) (fun _ _ _ h => h) (by kernel_rfl) ?w21_87 ?y21_87 ?f21_87 ?r21_87
            case w21_87 => kernel_rfl
            case y21_87 => (intro W hW; first | (refine Eq.trans (tells_cell (v := .int .i64 v) (ad.add i) rfl (Tryd.isAgg2 _) (hW.old HC.out)) ?_; with_reducible rfl))
            case f21_87 => (go_simp; try with_reducible rfl)
            refine Kx.tk 22 rfl ?_
            refine Kx.tk 23 rfl ?_
            refine Kx.tk 24 rfl ?_
            refine anyW_done (by kernel_rfl) ?_
            clear HB
            intro w_ HB_
            have HB := Lib.hid HB_
            clear HB_
            go_wp2_with (first | ((with_reducible refine Kx.absorb HB ?_); clear HB; intro w_ HB) | ((with_reducible refine Kx.box_gate ?_); (first | refine Kx.boxa HB rfl ?_ | refine Kx.boxt HB rfl rfl ?_ | refine Kx.box1 HB rfl rfl ?_); clear HB; intro b_ w_ HB; refine Kx.fr ?_) | ((with_reducible refine Kx.alloc_gate ?_); (first | refine Kx.ala HB ?_ | refine Kx.al1 HB ?_); clear HB; intro b_ w_ HB; refine Kx.fr ?_) | ((with_reducible refine Kx.loads_gate ?_); first | refine Kx.l1 HB rfl rfl ?_ | refine Kx.la HB rfl ?_ | refine Kx.lo HB rfl HC.out ?_) | ((with_reducible refine Kx.loadg_gate ?_); first | refine Kx.l1g HB rfl rfl rfl ?_ | refine Kx.lag HB rfl rfl ?_ | refine Kx.log HB rfl HC.out rfl ?_) | ((with_reducible refine Kx.store_gate ?_); (first | refine Kx.stwa HB rfl rfl ?_ | refine Kx.sta HB rfl rfl ?_ | refine Kx.stc HB rfl rfl ?_ | refine Kx.stt HB rfl rfl rfl ?_ | refine Kx.st1 HB rfl rfl rfl ?_); clear HB; intro w_ HB))
            go_ret
            refine says_no rfl (fun q => ?_) HB.out.below
            have h9 := q.sd (i - 1) (by show i - 1 + 1 < ch.length; omega)
            have h8 : ch.getD (i - 1) 0 ≤ ch.getD (i - 1 + 1) 0 := h9
            rw [show i - 1 + 1 = i by omega, HUV.out, HV.out] at h8
            omega
          have d11 : decide (v < u) = false := decide_eq_false g3
          have HUL : Hid (u ≤ v) := Lib.hid (by omega)
          clear g3
          go_wp2_with (first | ((with_reducible refine Kx.absorb HB ?_); clear HB; intro w_ HB) | ((with_reducible refine Kx.box_gate ?_); (first | refine Kx.boxa HB rfl ?_ | refine Kx.boxt HB rfl rfl ?_ | refine Kx.box1 HB rfl rfl ?_); clear HB; intro b_ w_ HB; refine Kx.fr ?_) | ((with_reducible refine Kx.alloc_gate ?_); (first | refine Kx.ala HB ?_ | refine Kx.al1 HB ?_); clear HB; intro b_ w_ HB; refine Kx.fr ?_) | ((with_reducible refine Kx.loads_gate ?_); first | refine Kx.l1 HB rfl rfl ?_ | refine Kx.la HB rfl ?_ | refine Kx.lo HB rfl HC.out ?_) | ((with_reducible refine Kx.loadg_gate ?_); first | refine Kx.l1g HB rfl rfl rfl ?_ | refine Kx.lag HB rfl rfl ?_ | refine Kx.log HB rfl HC.out rfl ?_) | ((with_reducible refine Kx.store_gate ?_); (first | refine Kx.stwa HB rfl rfl ?_ | refine Kx.sta HB rfl rfl ?_ | refine Kx.stc HB rfl rfl ?_ | refine Kx.stt HB rfl rfl rfl ?_ | refine Kx.st1 HB rfl rfl rfl ?_); clear HB; intro w_ HB))
          refine Kx.region_x HB (fun i => false) (by kernel_rfl) ?_
          refine Kx.tk 0 rfl ?_
          refine anyW_take (i := 1) (v := ?v1_88) (a' := ?a1_88) (by first | exact Kx.bears_x | exact bears_u | assumption) rfl (by kernel_rfl) (by kernel_rfl) (by kernel_rfl) (fun _ _ _ h => h) (by kernel_rfl) ?w1_88 ?y1_88 ?f1_88 ?r1_88
          case w1_88 => kernel_rfl
          case y1_88 => (intro W hW; first | (refine Eq.trans (Kx.tells_load1_x (v := .slice (some ad) n' c') hW b1 11 rfl _ inferInstance (Tryd.isAgg26 _) rfl) ?_; with_reducible rfl))
          case f1_88 => (go_simp; try with_reducible rfl)
          refine Kx.tk 2 rfl ?_
          refine Kx.tk 3 rfl ?_
          refine anyW_take (i := 4) (v := ?v4_89) (a' := ?a4_89) (by first | exact Kx.bears_x | exact bears_u | assumption) rfl (by kernel_rfl) (by kernel_rfl) (by kernel_rfl) (fun _ _ _ h => h) (by kernel_rfl) ?w4_89 ?y4_89 ?f4_89 ?r4_89
          case w4_89 => kernel_rfl
          case y4_89 => (intro W hW; first | (refine Eq.trans (tells_cell (v := .int .i64 v) (ad.add i) rfl (Tryd.isAgg2 _) (hW.old HC.out)) ?_; with_reducible rfl))
          case f4_89 => (go_simp; try with_reducible rfl)
          refine anyW_call (i := 5) (v := ?v5_90) (f := ?g5_90) (args := ?s5_90) (a' := ?a5_90) (by first | exact Kx.bears_x | exact bears_u | assumption) rfl (by kernel_rfl) (by kernel_rfl) (by kernel_rfl) (fun _ _ _ h => h) (by kernel_rfl) ?c5_90 ?w5_90 ?y5_90 ?f5_90 ?r5_90
          case w5_90 => kernel_rfl
          case y5_90 => (intro W hW; go_simp; first | (refine ⟨?_, ?_⟩ <;> with_reducible rfl) | with_reducible rfl)
          case c5_90 => (intro W hW; refine Calls.mono (HIN.out W) ?_; rintro e w_ ⟨rfl, hb_⟩; refine ⟨?_, by first | exact hb_ | exact hb_ ▸ Below.refl _ _⟩; with_reducible rfl)
          case f5_90 => (go_simp; try with_reducible rfl)
          refine Kx.tk 6 rfl ?_
          refine Kx.tk 7 rfl ?_
          refine Kx.tk 8 rfl ?_
          refine Kx.tk 9 rfl ?_
          refine Kx.tk 10 rfl ?_
          refine Kx.tk 11 rfl ?_
          refine anyW_take (i := 12) (v := ?v12_91) (a' := ?a12_91) (by first | exact Kx.bears_x | exact bears_u | assumption) rfl (by kernel_rfl) (by kernel_rfl) (by kernel_rfl) (fun _ _ _ h => h) (by kernel_rfl) ?w12_91 ?y12_91 ?f12_91 ?r12_91
          case w12_91 => kernel_rfl
          case y12_91 => (intro W hW; first | (refine Eq.trans (Kx.tells_load1_x (v := .slice (some ad) n' c') hW b1 11 rfl _ inferInstance (Tryd.isAgg26 _) rfl) ?_; with_reducible rfl))
          case f12_91 => (go_simp; try with_reducible rfl)
          refine Kx.tk 13 rfl ?_
          refine Kx.tk 14 rfl ?_
          refine Kx.tk 15 rfl ?_
          refine anyW_take (i := 16) (v := ?v16_92) (a' := ?a16_92) (by first | exact Kx.bears_x | exact bears_u | assumption) rfl (by kernel_rfl) (by kernel_rfl) (by kernel_rfl) (fun _ _ _ h => h) (by kernel_rfl) ?w16_92 ?y16_92 ?f16_92 ?r16_92
          case w16_92 => kernel_rfl
          case y16_92 => (intro W hW; first | (refine Eq.trans (tells_cell (v := .int .i64 u) (ad.add (i - 1)) rfl (Tryd.isAgg2 _) (hW.old HU.out)) ?_; with_reducible rfl))
          case f16_92 => (go_simp; try with_reducible rfl)
          refine Kx.tk 17 rfl ?_
          refine anyW_take (i := 18) (v := ?v18_93) (a' := ?a18_93) (by first | exact Kx.bears_x | exact bears_u | assumption) rfl (by kernel_rfl) (by kernel_rfl) (by kernel_rfl) (fun _ _ _ h => h) (by kernel_rfl) ?w18_93 ?y18_93 ?f18_93 ?r18_93
          case w18_93 => kernel_rfl
          case y18_93 => (intro W hW; first | (refine Eq.trans (Kx.tells_load1_x (v := .slice (some ad) n' c') hW b1 11 rfl _ inferInstance (Tryd.isAgg26 _) rfl) ?_; with_reducible rfl))
          case f18_93 => (go_simp; try with_reducible rfl)
          refine Kx.tk 19 rfl ?_
          refine Kx.tk 20 rfl ?_
          refine anyW_take (i := 21) (v := ?v21_94) (a' := ?a21_94) (by first | exact Kx.bears_x | exact bears_u | assumption) rfl (by kernel_rfl) (by kernel_rfl) (by kernel_rfl) (fun _ _ _ h => h) (by kernel_rfl) ?w21_94 ?y21_94 ?f21_94 ?r21_94
          case w21_94 => kernel_rfl
          case y21_94 => (intro W hW; first | (refine Eq.trans (tells_cell (v := .int .i64 v) (ad.add i) rfl (Tryd.isAgg2 _) (hW.old HC.out)) ?_; with_reducible rfl))
          case f21_94 => (go_simp; try with_reducible rfl)
          refine Kx.tk 22 rfl ?_
          refine Kx.tk 23 rfl ?_
          refine Kx.tk 24 rfl ?_
          refine anyW_done (by kernel_rfl) ?_
          clear HB
          intro w_ HB_
          have HB := Lib.hid HB_
          clear HB_
          go_wp2_with (first | ((with_reducible refine Kx.absorb HB ?_); clear HB; intro w_ HB) | ((with_reducible refine Kx.box_gate ?_); (first | refine Kx.boxa HB rfl ?_ | refine Kx.boxt HB rfl rfl ?_ | refine Kx.box1 HB rfl rfl ?_); clear HB; intro b_ w_ HB; refine Kx.fr ?_) | ((with_reducible refine Kx.alloc_gate ?_); (first | refine Kx.ala HB ?_ | refine Kx.al1 HB ?_); clear HB; intro b_ w_ HB; refine Kx.fr ?_) | ((with_reducible refine Kx.loads_gate ?_); first | refine Kx.l1 HB rfl rfl ?_ | refine Kx.la HB rfl ?_ | refine Kx.lo HB rfl HC.out ?_) | ((with_reducible refine Kx.loadg_gate ?_); first | refine Kx.l1g HB rfl rfl rfl ?_ | refine Kx.lag HB rfl rfl ?_ | refine Kx.log HB rfl HC.out rfl ?_) | ((with_reducible refine Kx.store_gate ?_); (first | refine Kx.stwa HB rfl rfl ?_ | refine Kx.sta HB rfl rfl ?_ | refine Kx.stc HB rfl rfl ?_ | refine Kx.stt HB rfl rfl rfl ?_ | refine Kx.st1 HB rfl rfl rfl ?_); clear HB; intro w_ HB))
          go_roundg (gk - 1)
          case measure => omega
          case rel => exact ⟨i + 1, by omega, by go_num, HB, Lib.hid (fun j hj => by
            rcases Nat.lt_or_ge j i with h | h
            · exact HI.out j h
            · obtain rfl : j = i := by omega
              rw [HV.out]; exact ⟨g1, fun _ => by rw [HUV.out]; exact HUL.out⟩)⟩
        · obtain rfl : i = n' := by omega
          have d12 : decide ((i : Int) < (i : Int)) = false := by simp
          go_wp2_with (first | ((with_reducible refine Kx.absorb HB ?_); clear HB; intro w_ HB) | ((with_reducible refine Kx.box_gate ?_); (first | refine Kx.boxa HB rfl ?_ | refine Kx.boxt HB rfl rfl ?_ | refine Kx.box1 HB rfl rfl ?_); clear HB; intro b_ w_ HB; refine Kx.fr ?_) | ((with_reducible refine Kx.alloc_gate ?_); (first | refine Kx.ala HB ?_ | refine Kx.al1 HB ?_); clear HB; intro b_ w_ HB; refine Kx.fr ?_) | ((with_reducible refine Kx.loads_gate ?_); first | refine Kx.l1 HB rfl rfl ?_ | refine Kx.la HB rfl ?_ | refine Kx.lo HB rfl HC.out ?_) | ((with_reducible refine Kx.loadg_gate ?_); first | refine Kx.l1g HB rfl rfl rfl ?_ | refine Kx.lag HB rfl rfl ?_ | refine Kx.log HB rfl HC.out rfl ?_) | ((with_reducible refine Kx.store_gate ?_); (first | refine Kx.stwa HB rfl rfl ?_ | refine Kx.sta HB rfl rfl ?_ | refine Kx.stc HB rfl rfl ?_ | refine Kx.stt HB rfl rfl rfl ?_ | refine Kx.st1 HB rfl rfl rfl ?_); clear HB; intro w_ HB))
          go_ret
          refine says_yes rfl ⟨?_, ?_, ?_, ?_, ?_, ?_, ?_, ?_, ?_, ?_, ?_, ?_, ?_, ?_, ?_, ?_, HPB.out, fun v hv => ?_, fun j hj => ?_⟩ HB.out.below
          all_goals try (dsimp only; omega)
          · exact h10
          · exact h11
          · exact h12
          · have hv2 : v ∈ ch := hv
            obtain ⟨j, hj, rfl⟩ := mem_getD hv2
            exact (HI.out j (by omega)).1
          · have hj2 : j + 1 < ch.length := hj
            have h9 := (HI.out (j + 1) (by omega)).2 (by omega)
            exact h9
end Go.Proofs.YtpbogacodhjlfaaDoor

/- Whether a plan fits: the document's. -/
namespace Go.Proofs.YtpbogacodhjlfaaDoor
open Go.RowKit Go.Shelf Km Kx Kc
set_option linter.unusedVariables false


set_option maxRecDepth 100000 in
set_option maxHeartbeats 4000000 in
theorem Fits_any (c : Cf) (x : Gm.Pl) (A : Option Addr) (n c0 : Nat) (A' : Option Addr) (n' c' : Nat) (N b : Nat) (B : Nat) (w : World) (hp : PAt w B x A n c0 A' n' c') (hB : B ≤ w.heap.size) (hn9 : n ≤ 9000000) (hm9 : n' ≤ 9000000) (hN : c.targets = (N : Int)) (hN1 : 1 ≤ N ∧ N ≤ 16) (hb : c.b = (b : Int)) (hb1 : 1 ≤ b ∧ b ≤ 8) :
    Calls Tryd.prog 23 #[.agg (cf c).toArray, .agg (pc x A n c0 A' n' c').toArray] w (Says w (FitsP N b x)) := by
  have HB := Lib.hid (Bxs.start w)
  have HR : Hid (∀ W, Below w.heap.size w W → Calls Tryd.prog 44 #[.agg (pc x A n c0 A' n' c').toArray] W (Says W (RightP x))) := Lib.hid (fun W hb => R4Right_any x A n c0 A' n' c' B W (hp.below (hb.mono hB)) (Nat.le_trans hB hb.size) hn9 hm9)
  have hn := hp.n
  have hn' := hp.n'
  clear hp hB
  have h16 : (N : Int) ≤ 64 := by omega
  by_cases hR : RightP x
  case neg =>
    have HR2 : Hid (∀ W, Below w.heap.size w W → Calls Tryd.prog 44 #[.agg (pc x A n c0 A' n' c').toArray] W fun e w' => e = .returned (.bool false) ∧ Below W.heap.size W w') := Lib.hid (fun W hb => by
      refine (HR.out W hb).mono ?_
      rintro e w' ⟨q, rfl, hq, hbb⟩
      refine ⟨?_, hbb⟩
      cases q with
      | false => rfl
      | true => exact absurd (hq.1 rfl) hR)
    clear HR
    obtain ⟨xe, xt, xp, xs, xc, xst, xsi, xra, xup, xsu, pen, ch⟩ := x
    dsimp only [pc, cf] at *
    rw [hN, hb]
    go_enter Tryd.func23, Tryd.ntmps23
    go_wp2_with (first | (go_at_call 44; refine Calls.mono (HR2.out _ HB.out.below) ?_; rintro e w_ ⟨rfl, hb_⟩; replace HB := Lib.hid (HB.out.call hb_); clear hb_) | (first | ((with_reducible refine Kx.absorb HB ?_); clear HB; intro w_ HB) | ((with_reducible refine Kx.box_gate ?_); (first | refine Kx.boxa HB rfl ?_ | refine Kx.boxt HB rfl rfl ?_ | refine Kx.box1 HB rfl rfl ?_); clear HB; intro b_ w_ HB; refine Kx.fr ?_) | ((with_reducible refine Kx.alloc_gate ?_); (first | refine Kx.ala HB ?_ | refine Kx.al1 HB ?_); clear HB; intro b_ w_ HB; refine Kx.fr ?_) | ((with_reducible refine Kx.loads_gate ?_); first | refine Kx.l1 HB rfl rfl ?_ | refine Kx.la HB rfl ?_ | refine Kx.lo HB rfl HC.out ?_) | ((with_reducible refine Kx.loadg_gate ?_); first | refine Kx.l1g HB rfl rfl rfl ?_ | refine Kx.lag HB rfl rfl ?_ | refine Kx.log HB rfl HC.out rfl ?_) | ((with_reducible refine Kx.store_gate ?_); (first | refine Kx.stwa HB rfl rfl ?_ | refine Kx.sta HB rfl rfl ?_ | refine Kx.stc HB rfl rfl ?_ | refine Kx.stt HB rfl rfl rfl ?_ | refine Kx.st1 HB rfl rfl rfl ?_); clear HB; intro w_ HB)))
    go_ret
    exact says_no rfl (fun q => hR q.r) HB.out.below
  have HR2 : Hid (∀ W, Below w.heap.size w W → Calls Tryd.prog 44 #[.agg (pc x A n c0 A' n' c').toArray] W fun e w' => e = .returned (.bool true) ∧ Below W.heap.size W w') := Lib.hid (fun W hb => by
    refine (HR.out W hb).mono ?_
    rintro e w' ⟨q, rfl, hq, hbb⟩
    refine ⟨?_, hbb⟩
    rw [hq.2 hR])
  clear HR
  have hr := hR
  have HRR := Lib.hid hR
  clear hR
  obtain ⟨hr1, hr2, hr3, hr4, hr5, hr6, hr7, hr8, hr9, hr10, hr11, hr12, hr13, hr14, hr15, hr16, -, -, -⟩ := hr
  clear hr1 hr8 hr9 hr10 hr11 hr12
  obtain ⟨xe, xt, xp, xs, xc, xst, xsi, xra, xup, xsu, pen, ch⟩ := x
  dsimp only [pc, cf] at *
  rw [hN, hb]
  clear hN hb
  go_enter Tryd.func23, Tryd.ntmps23
  go_upto_region 2 with (first | (go_at_call 44; refine Calls.mono (HR2.out _ HB.out.below) ?_; rintro e w_ ⟨rfl, hb_⟩; replace HB := Lib.hid (HB.out.call hb_); clear hb_) | (first | ((with_reducible refine Kx.absorb HB ?_); clear HB; intro w_ HB) | ((with_reducible refine Kx.box_gate ?_); (first | refine Kx.boxa HB rfl ?_ | refine Kx.boxt HB rfl rfl ?_ | refine Kx.box1 HB rfl rfl ?_); clear HB; intro b_ w_ HB; refine Kx.fr ?_) | ((with_reducible refine Kx.alloc_gate ?_); (first | refine Kx.ala HB ?_ | refine Kx.al1 HB ?_); clear HB; intro b_ w_ HB; refine Kx.fr ?_) | ((with_reducible refine Kx.loads_gate ?_); first | refine Kx.l1 HB rfl rfl ?_ | refine Kx.la HB rfl ?_ | refine Kx.lo HB rfl HC.out ?_) | ((with_reducible refine Kx.loadg_gate ?_); first | refine Kx.l1g HB rfl rfl rfl ?_ | refine Kx.lag HB rfl rfl ?_ | refine Kx.log HB rfl HC.out rfl ?_) | ((with_reducible refine Kx.store_gate ?_); (first | refine Kx.stwa HB rfl rfl ?_ | refine Kx.sta HB rfl rfl ?_ | refine Kx.stc HB rfl rfl ?_ | refine Kx.stt HB rfl rfl rfl ?_ | refine Kx.st1 HB rfl rfl rfl ?_); clear HB; intro w_ HB)))
  by_cases h0 : n = N
  case neg =>
    have d0_0 : ((n : Int) == (N : Int)) = false := by simp; omega
    have d0_1 : (n == N) = false := by simp; omega
    go_wp2_with (first | ((with_reducible refine Kx.absorb HB ?_); clear HB; intro w_ HB) | ((with_reducible refine Kx.box_gate ?_); (first | refine Kx.boxa HB rfl ?_ | refine Kx.boxt HB rfl rfl ?_ | refine Kx.box1 HB rfl rfl ?_); clear HB; intro b_ w_ HB; refine Kx.fr ?_) | ((with_reducible refine Kx.alloc_gate ?_); (first | refine Kx.ala HB ?_ | refine Kx.al1 HB ?_); clear HB; intro b_ w_ HB; refine Kx.fr ?_) | ((with_reducible refine Kx.loads_gate ?_); first | refine Kx.l1 HB rfl rfl ?_ | refine Kx.la HB rfl ?_ | refine Kx.lo HB rfl HC.out ?_) | ((with_reducible refine Kx.loadg_gate ?_); first | refine Kx.l1g HB rfl rfl rfl ?_ | refine Kx.lag HB rfl rfl ?_ | refine Kx.log HB rfl HC.out rfl ?_) | ((with_reducible refine Kx.store_gate ?_); (first | refine Kx.stwa HB rfl rfl ?_ | refine Kx.sta HB rfl rfl ?_ | refine Kx.stc HB rfl rfl ?_ | refine Kx.stt HB rfl rfl rfl ?_ | refine Kx.st1 HB rfl rfl rfl ?_); clear HB; intro w_ HB))
    go_ret
    exact says_no rfl (fun q => by have hq := q.n; dsimp only at hq; omega) HB.out.below
  have d0_0 : ((n : Int) == (N : Int)) = true := by simp; omega
  have d0_1 : (n == N) = true := by simp; omega
  by_cases h1 : xt < N
  case neg =>
    have d1_0 : decide (xt < (N : Int)) = false := by simp; omega
    go_wp2_with (first | ((with_reducible refine Kx.absorb HB ?_); clear HB; intro w_ HB) | ((with_reducible refine Kx.box_gate ?_); (first | refine Kx.boxa HB rfl ?_ | refine Kx.boxt HB rfl rfl ?_ | refine Kx.box1 HB rfl rfl ?_); clear HB; intro b_ w_ HB; refine Kx.fr ?_) | ((with_reducible refine Kx.alloc_gate ?_); (first | refine Kx.ala HB ?_ | refine Kx.al1 HB ?_); clear HB; intro b_ w_ HB; refine Kx.fr ?_) | ((with_reducible refine Kx.loads_gate ?_); first | refine Kx.l1 HB rfl rfl ?_ | refine Kx.la HB rfl ?_ | refine Kx.lo HB rfl HC.out ?_) | ((with_reducible refine Kx.loadg_gate ?_); first | refine Kx.l1g HB rfl rfl rfl ?_ | refine Kx.lag HB rfl rfl ?_ | refine Kx.log HB rfl HC.out rfl ?_) | ((with_reducible refine Kx.store_gate ?_); (first | refine Kx.stwa HB rfl rfl ?_ | refine Kx.sta HB rfl rfl ?_ | refine Kx.stc HB rfl rfl ?_ | refine Kx.stt HB rfl rfl rfl ?_ | refine Kx.st1 HB rfl rfl rfl ?_); clear HB; intro w_ HB))
    go_ret
    exact says_no rfl (fun q => by have hq := q.t; dsimp only at hq; omega) HB.out.below
  have d1_0 : decide (xt < (N : Int)) = true := by simp; omega
  by_cases h2 : xp < N
  case neg =>
    have d2_0 : decide (xp < (N : Int)) = false := by simp; omega
    go_wp2_with (first | ((with_reducible refine Kx.absorb HB ?_); clear HB; intro w_ HB) | ((with_reducible refine Kx.box_gate ?_); (first | refine Kx.boxa HB rfl ?_ | refine Kx.boxt HB rfl rfl ?_ | refine Kx.box1 HB rfl rfl ?_); clear HB; intro b_ w_ HB; refine Kx.fr ?_) | ((with_reducible refine Kx.alloc_gate ?_); (first | refine Kx.ala HB ?_ | refine Kx.al1 HB ?_); clear HB; intro b_ w_ HB; refine Kx.fr ?_) | ((with_reducible refine Kx.loads_gate ?_); first | refine Kx.l1 HB rfl rfl ?_ | refine Kx.la HB rfl ?_ | refine Kx.lo HB rfl HC.out ?_) | ((with_reducible refine Kx.loadg_gate ?_); first | refine Kx.l1g HB rfl rfl rfl ?_ | refine Kx.lag HB rfl rfl ?_ | refine Kx.log HB rfl HC.out rfl ?_) | ((with_reducible refine Kx.store_gate ?_); (first | refine Kx.stwa HB rfl rfl ?_ | refine Kx.sta HB rfl rfl ?_ | refine Kx.stc HB rfl rfl ?_ | refine Kx.stt HB rfl rfl rfl ?_ | refine Kx.st1 HB rfl rfl rfl ?_); clear HB; intro w_ HB))
    go_ret
    exact says_no rfl (fun q => by have hq := q.p; dsimp only at hq; omega) HB.out.below
  have d2_0 : decide (xp < (N : Int)) = true := by simp; omega
  by_cases h3 : xs < N
  case neg =>
    have d3_0 : decide (xs < (N : Int)) = false := by simp; omega
    go_wp2_with (first | ((with_reducible refine Kx.absorb HB ?_); clear HB; intro w_ HB) | ((with_reducible refine Kx.box_gate ?_); (first | refine Kx.boxa HB rfl ?_ | refine Kx.boxt HB rfl rfl ?_ | refine Kx.box1 HB rfl rfl ?_); clear HB; intro b_ w_ HB; refine Kx.fr ?_) | ((with_reducible refine Kx.alloc_gate ?_); (first | refine Kx.ala HB ?_ | refine Kx.al1 HB ?_); clear HB; intro b_ w_ HB; refine Kx.fr ?_) | ((with_reducible refine Kx.loads_gate ?_); first | refine Kx.l1 HB rfl rfl ?_ | refine Kx.la HB rfl ?_ | refine Kx.lo HB rfl HC.out ?_) | ((with_reducible refine Kx.loadg_gate ?_); first | refine Kx.l1g HB rfl rfl rfl ?_ | refine Kx.lag HB rfl rfl ?_ | refine Kx.log HB rfl HC.out rfl ?_) | ((with_reducible refine Kx.store_gate ?_); (first | refine Kx.stwa HB rfl rfl ?_ | refine Kx.sta HB rfl rfl ?_ | refine Kx.stc HB rfl rfl ?_ | refine Kx.stt HB rfl rfl rfl ?_ | refine Kx.st1 HB rfl rfl rfl ?_); clear HB; intro w_ HB))
    go_ret
    exact says_no rfl (fun q => by have hq := q.s; dsimp only at hq; omega) HB.out.below
  have d3_0 : decide (xs < (N : Int)) = true := by simp; omega
  by_cases h4 : xup / 2 ^ N = 0
  case neg =>
    have d4_0 : (xup / 2 ^ N == 0) = false := by simp; omega
    go_wp2_with (first | ((with_reducible refine Kx.absorb HB ?_); clear HB; intro w_ HB) | ((with_reducible refine Kx.box_gate ?_); (first | refine Kx.boxa HB rfl ?_ | refine Kx.boxt HB rfl rfl ?_ | refine Kx.box1 HB rfl rfl ?_); clear HB; intro b_ w_ HB; refine Kx.fr ?_) | ((with_reducible refine Kx.alloc_gate ?_); (first | refine Kx.ala HB ?_ | refine Kx.al1 HB ?_); clear HB; intro b_ w_ HB; refine Kx.fr ?_) | ((with_reducible refine Kx.loads_gate ?_); first | refine Kx.l1 HB rfl rfl ?_ | refine Kx.la HB rfl ?_ | refine Kx.lo HB rfl HC.out ?_) | ((with_reducible refine Kx.loadg_gate ?_); first | refine Kx.l1g HB rfl rfl rfl ?_ | refine Kx.lag HB rfl rfl ?_ | refine Kx.log HB rfl HC.out rfl ?_) | ((with_reducible refine Kx.store_gate ?_); (first | refine Kx.stwa HB rfl rfl ?_ | refine Kx.sta HB rfl rfl ?_ | refine Kx.stc HB rfl rfl ?_ | refine Kx.stt HB rfl rfl rfl ?_ | refine Kx.st1 HB rfl rfl rfl ?_); clear HB; intro w_ HB))
    go_ret
    exact says_no rfl (fun q => by have hq := q.up; dsimp only at hq; omega) HB.out.below
  have d4_0 : (xup / 2 ^ N == 0) = true := by simp; omega
  by_cases h5 : xsu / 2 ^ N = 0
  case neg =>
    have d5_0 : (xsu / 2 ^ N == 0) = false := by simp; omega
    go_wp2_with (first | ((with_reducible refine Kx.absorb HB ?_); clear HB; intro w_ HB) | ((with_reducible refine Kx.box_gate ?_); (first | refine Kx.boxa HB rfl ?_ | refine Kx.boxt HB rfl rfl ?_ | refine Kx.box1 HB rfl rfl ?_); clear HB; intro b_ w_ HB; refine Kx.fr ?_) | ((with_reducible refine Kx.alloc_gate ?_); (first | refine Kx.ala HB ?_ | refine Kx.al1 HB ?_); clear HB; intro b_ w_ HB; refine Kx.fr ?_) | ((with_reducible refine Kx.loads_gate ?_); first | refine Kx.l1 HB rfl rfl ?_ | refine Kx.la HB rfl ?_ | refine Kx.lo HB rfl HC.out ?_) | ((with_reducible refine Kx.loadg_gate ?_); first | refine Kx.l1g HB rfl rfl rfl ?_ | refine Kx.lag HB rfl rfl ?_ | refine Kx.log HB rfl HC.out rfl ?_) | ((with_reducible refine Kx.store_gate ?_); (first | refine Kx.stwa HB rfl rfl ?_ | refine Kx.sta HB rfl rfl ?_ | refine Kx.stc HB rfl rfl ?_ | refine Kx.stt HB rfl rfl rfl ?_ | refine Kx.st1 HB rfl rfl rfl ?_); clear HB; intro w_ HB))
    go_ret
    exact says_no rfl (fun q => by have hq := q.su; dsimp only at hq; omega) HB.out.below
  have d5_0 : (xsu / 2 ^ N == 0) = true := by simp; omega
  by_cases h6 : n' ≤ b
  case neg =>
    have d6_0 : decide ((n' : Int) ≤ (b : Int)) = false := by simp; omega
    have d6_1 : decide (n' ≤ b) = false := by simp; omega
    go_wp2_with (first | ((with_reducible refine Kx.absorb HB ?_); clear HB; intro w_ HB) | ((with_reducible refine Kx.box_gate ?_); (first | refine Kx.boxa HB rfl ?_ | refine Kx.boxt HB rfl rfl ?_ | refine Kx.box1 HB rfl rfl ?_); clear HB; intro b_ w_ HB; refine Kx.fr ?_) | ((with_reducible refine Kx.alloc_gate ?_); (first | refine Kx.ala HB ?_ | refine Kx.al1 HB ?_); clear HB; intro b_ w_ HB; refine Kx.fr ?_) | ((with_reducible refine Kx.loads_gate ?_); first | refine Kx.l1 HB rfl rfl ?_ | refine Kx.la HB rfl ?_ | refine Kx.lo HB rfl HC.out ?_) | ((with_reducible refine Kx.loadg_gate ?_); first | refine Kx.l1g HB rfl rfl rfl ?_ | refine Kx.lag HB rfl rfl ?_ | refine Kx.log HB rfl HC.out rfl ?_) | ((with_reducible refine Kx.store_gate ?_); (first | refine Kx.stwa HB rfl rfl ?_ | refine Kx.sta HB rfl rfl ?_ | refine Kx.stc HB rfl rfl ?_ | refine Kx.stt HB rfl rfl rfl ?_ | refine Kx.st1 HB rfl rfl rfl ?_); clear HB; intro w_ HB))
    go_ret
    exact says_no rfl (fun q => by have hq := q.b; dsimp only at hq; omega) HB.out.below
  have d6_0 : decide ((n' : Int) ≤ (b : Int)) = true := by simp; omega
  have d6_1 : decide (n' ≤ b) = true := by simp; omega
  go_wp2_with (first | ((with_reducible refine Kx.absorb HB ?_); clear HB; intro w_ HB) | ((with_reducible refine Kx.box_gate ?_); (first | refine Kx.boxa HB rfl ?_ | refine Kx.boxt HB rfl rfl ?_ | refine Kx.box1 HB rfl rfl ?_); clear HB; intro b_ w_ HB; refine Kx.fr ?_) | ((with_reducible refine Kx.alloc_gate ?_); (first | refine Kx.ala HB ?_ | refine Kx.al1 HB ?_); clear HB; intro b_ w_ HB; refine Kx.fr ?_) | ((with_reducible refine Kx.loads_gate ?_); first | refine Kx.l1 HB rfl rfl ?_ | refine Kx.la HB rfl ?_ | refine Kx.lo HB rfl HC.out ?_) | ((with_reducible refine Kx.loadg_gate ?_); first | refine Kx.l1g HB rfl rfl rfl ?_ | refine Kx.lag HB rfl rfl ?_ | refine Kx.log HB rfl HC.out rfl ?_) | ((with_reducible refine Kx.store_gate ?_); (first | refine Kx.stwa HB rfl rfl ?_ | refine Kx.sta HB rfl rfl ?_ | refine Kx.stc HB rfl rfl ?_ | refine Kx.stt HB rfl rfl rfl ?_ | refine Kx.st1 HB rfl rfl rfl ?_); clear HB; intro w_ HB))
  go_ret
  exact says_yes rfl ⟨HRR.out, by dsimp only; omega, h1, h2, h3, h4, h5, by dsimp only; omega⟩ HB.out.below
end Go.Proofs.YtpbogacodhjlfaaDoor
