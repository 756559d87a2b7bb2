/- What the program's three calls answer: whether a config is right, its zero plan, the next plan. -/
import Derived.Test.YtpbogacodhjlfaaDoorIm
namespace Go.Proofs.YtpbogacodhjlfaaDoor
open Go.RowKit Go.Shelf Km Kx Kc Kt
set_option linter.unusedVariables false

namespace Gm
theorem obs_ok {c : Gc} (hc : c.Ok) {p : Pl} (hp : Fits c p) (po : p.Ok) (he : p.e < 4611686018427387904) {u : Nat} (hu : u < 2 ^ c.n) {t : Int} (ht : T t) (hle : p.st ≤ t) : (obs p t u (sups c p u t) (pens c p u t)).Ok := by
  have h16 := pow16 hc.n.2
  have hs : sups c p u t < 2 ^ c.n := maskOf_lt _ _
  have he0 := hp.e
  have ht2 : 0 ≤ t ∧ t ≤ 1099511627776 := ht
  have hpen : Wm.Fits (pens c p u t) := fun v hv => by
    obtain ⟨i, -, rfl⟩ := List.mem_map.1 hv
    have := penAt_in hc hp ht hle u i
    constructor <;> omega
  exact ⟨⟨by show _ ≤ p.e + 1; omega, by show p.e + 1 ≤ _; omega⟩, po.t, po.p, po.s, po.c, ⟨by show _ ≤ t; omega, by show t ≤ _; omega⟩, po.si, po.ra, ⟨by show 0 ≤ (u : Int); omega, by show (u : Int) ≤ _; omega⟩, ⟨by show 0 ≤ ((sups c p u t : Nat) : Int); omega, by show ((sups c p u t : Nat) : Int) ≤ _; omega⟩, hpen, po.ch⟩
theorem kept_form (x : Pl) (t : Int) (u su : Nat) (pen : List Int) (step stt : Int) : ∃ kc kra, keptP (obs x t u su pen) step stt = ⟨x.e + 1, x.t, x.p, x.s, kc, t, x.si, kra, (u : Int), (su : Int), pen, x.ch⟩ := by
  unfold keptP
  split
  · exact ⟨_, _, rfl⟩
  · exact ⟨_, _, rfl⟩
theorem next_some' {c : Gc} {p : Pl} {up : Nat} {now : Int} (h : ¬ Same p (nx c p (up % 2 ^ c.n) (clamp now p.st))) : next c p up now = some (nx c p (up % 2 ^ c.n) (clamp now p.st)) := if_neg h
theorem next_none' {c : Gc} {p : Pl} {up : Nat} {now : Int} (h : Same p (nx c p (up % 2 ^ c.n) (clamp now p.st))) : next c p up now = none := if_pos h
end Gm
theorem nx_pen' (c : Gm.Gc) (p : Gm.Pl) (u : Nat) (t : Int) : (Gm.nx c p u t).pen.length = c.n := by rw [Gm.nx_pen.1]; exact Gm.listed_len _ _

set_option maxRecDepth 100000 in
set_option maxHeartbeats 2000000 in
theorem PNext_no (c : Cf) (x : Gm.Pl) (A : Option Addr) (n c0 : Nat) (A' : Option Addr) (n' c' : Nat) (up : Nat) (now : Int) (w : World) (xs : List Int)
    (h : (∀ W, Below w.heap.size w W → Calls Tryd.prog 7 #[.agg (cf c).toArray] W fun e w' => e = .returned (.bool false) ∧ Below W.heap.size W w') ∨
      ((∀ W, Below w.heap.size w W → Calls Tryd.prog 7 #[.agg (cf c).toArray] W fun e w' => e = .returned (.bool true) ∧ Below W.heap.size W w') ∧
        ((∀ W, Below w.heap.size w W → Calls Tryd.prog 13 #[.agg (cf c).toArray, .agg (pc x A n c0 A' n' c').toArray] W fun e w' => e = .returned (.bool false) ∧ Below W.heap.size W w') ∨
        ((∀ W, Below w.heap.size w W → Calls Tryd.prog 13 #[.agg (cf c).toArray, .agg (pc x A n c0 A' n' c').toArray] W fun e w' => e = .returned (.bool true) ∧ Below W.heap.size W w') ∧ 4611686018427387904 ≤ x.e))))
    (ht : tell c xs x up now = none) :
    Calls Tryd.prog 5 #[.agg (cf c).toArray, .agg (pc x A n c0 A' n' c').toArray, .int .u64 (up : Int), .int .i64 now] w (NextSays w c xs ⟨x, A, n, c0, A', n', c'⟩ up now) := by
  have HB := Lib.hid (Bxs.start w)
  have HT := Lib.hid ht
  clear ht
  have fin : ∀ W, Below w.heap.size w W → NextSays w c xs ⟨x, A, n, c0, A', n', c'⟩ up now (.returned (.tuple #[.agg (pc noPlan none 0 0 none 0 0).toArray, .bool false])) W := fun W hb =>
    ⟨noPt, false, rfl, hb, New.nil _ _ _ _, New.nil _ _ _ _, noPt_okm, fun q => (by cases q), fun _ => ⟨HT.out, rfl⟩⟩
  have HF := Lib.hid fin
  clear fin
  rcases h with h1 | ⟨h1, h2 | ⟨h2, h3⟩⟩
  · have H1 := Lib.hid h1
    clear h1
    dsimp only [pc] at *
    go_enter Tryd.func5, Tryd.ntmps5
    go_wp2_with (first | ((with_reducible refine Kx.build_gate ?_); refine Km.wpList_build rfl 28 _ rfl #[] rfl (pc noPlan none 0 0 none 0 0).toArray (noPlan_built) ?_; refine Kx.framed ?_ (by simp only [Act.put, List.setIfInBounds_toArray, List.set_cons_succ, List.set_cons_zero] <;> rfl)) | (go_at_call 7; refine Calls.mono (H1.out _ HB.out.below) ?_; rintro e w_ ⟨rfl, hb_⟩; replace HB := Lib.hid (HB.out.call hb_); clear hb_) | (first | ((with_reducible refine Kx.absorb HB ?_); clear HB; intro w_ HB) | ((with_reducible refine Kx.box_gate ?_); (first | refine Kx.boxa HB rfl ?_ | refine Kx.boxt HB rfl rfl ?_ | refine Kx.box1 HB rfl rfl ?_); clear HB; intro b_ w_ HB; refine Kx.fr ?_) | ((with_reducible refine Kx.alloc_gate ?_); (first | refine Kx.ala HB ?_ | refine Kx.al1 HB ?_); clear HB; intro b_ w_ HB; refine Kx.fr ?_) | ((with_reducible refine Kx.loads_gate ?_); first | refine Kx.l1 HB rfl rfl ?_ | refine Kx.la HB rfl ?_ | refine Kx.lo HB rfl HC.out ?_) | ((with_reducible refine Kx.loadg_gate ?_); first | refine Kx.l1g HB rfl rfl rfl ?_ | refine Kx.lag HB rfl rfl ?_ | refine Kx.log HB rfl HC.out rfl ?_) | ((with_reducible refine Kx.store_gate ?_); (first | refine Kx.stwa HB rfl rfl ?_ | refine Kx.sta HB rfl rfl ?_ | refine Kx.stc HB rfl rfl ?_ | refine Kx.stt HB rfl rfl rfl ?_ | refine Kx.st1 HB rfl rfl rfl ?_); clear HB; intro w_ HB)))
    refine bodyPost_ret (Kx.results_xt HB rfl _ _ _ rfl (by simp <;> rfl) (by simp <;> rfl)) rfl ?_; exact HF.out _ HB.out.below
  · have H1 := Lib.hid h1
    have H2 := Lib.hid h2
    clear h1 h2
    dsimp only [pc] at *
    go_enter Tryd.func5, Tryd.ntmps5
    go_wp2_with (first | ((with_reducible refine Kx.build_gate ?_); refine Km.wpList_build rfl 28 _ rfl #[] rfl (pc noPlan none 0 0 none 0 0).toArray (noPlan_built) ?_; refine Kx.framed ?_ (by simp only [Act.put, List.setIfInBounds_toArray, List.set_cons_succ, List.set_cons_zero] <;> rfl)) | (go_at_call 7; refine Calls.mono (H1.out _ HB.out.below) ?_; rintro e w_ ⟨rfl, hb_⟩; replace HB := Lib.hid (HB.out.call hb_); clear hb_) | (go_at_call 13; refine Calls.mono (H2.out _ HB.out.below) ?_; rintro e w_ ⟨rfl, hb_⟩; replace HB := Lib.hid (HB.out.call hb_); clear hb_) | (first | ((with_reducible refine Kx.absorb HB ?_); clear HB; intro w_ HB) | ((with_reducible refine Kx.box_gate ?_); (first | refine Kx.boxa HB rfl ?_ | refine Kx.boxt HB rfl rfl ?_ | refine Kx.box1 HB rfl rfl ?_); clear HB; intro b_ w_ HB; refine Kx.fr ?_) | ((with_reducible refine Kx.alloc_gate ?_); (first | refine Kx.ala HB ?_ | refine Kx.al1 HB ?_); clear HB; intro b_ w_ HB; refine Kx.fr ?_) | ((with_reducible refine Kx.loads_gate ?_); first | refine Kx.l1 HB rfl rfl ?_ | refine Kx.la HB rfl ?_ | refine Kx.lo HB rfl HC.out ?_) | ((with_reducible refine Kx.loadg_gate ?_); first | refine Kx.l1g HB rfl rfl rfl ?_ | refine Kx.lag HB rfl rfl ?_ | refine Kx.log HB rfl HC.out rfl ?_) | ((with_reducible refine Kx.store_gate ?_); (first | refine Kx.stwa HB rfl rfl ?_ | refine Kx.sta HB rfl rfl ?_ | refine Kx.stc HB rfl rfl ?_ | refine Kx.stt HB rfl rfl rfl ?_ | refine Kx.st1 HB rfl rfl rfl ?_); clear HB; intro w_ HB)))
    refine bodyPost_ret (Kx.results_xt HB rfl _ _ _ rfl (by simp <;> rfl) (by simp <;> rfl)) rfl ?_; exact HF.out _ HB.out.below
  · have H1 := Lib.hid h1
    have H2 := Lib.hid h2
    have d3 : decide (4611686018427387904 ≤ x.e) = true := decide_eq_true h3
    clear h1 h2
    dsimp only [pc] at *
    go_enter Tryd.func5, Tryd.ntmps5
    go_wp2_with (first | ((with_reducible refine Kx.build_gate ?_); refine Km.wpList_build rfl 28 _ rfl #[] rfl (pc noPlan none 0 0 none 0 0).toArray (noPlan_built) ?_; refine Kx.framed ?_ (by simp only [Act.put, List.setIfInBounds_toArray, List.set_cons_succ, List.set_cons_zero] <;> rfl)) | (go_at_call 7; refine Calls.mono (H1.out _ HB.out.below) ?_; rintro e w_ ⟨rfl, hb_⟩; replace HB := Lib.hid (HB.out.call hb_); clear hb_) | (go_at_call 13; refine Calls.mono (H2.out _ HB.out.below) ?_; rintro e w_ ⟨rfl, hb_⟩; replace HB := Lib.hid (HB.out.call hb_); clear hb_) | (first | ((with_reducible refine Kx.absorb HB ?_); clear HB; intro w_ HB) | ((with_reducible refine Kx.box_gate ?_); (first | refine Kx.boxa HB rfl ?_ | refine Kx.boxt HB rfl rfl ?_ | refine Kx.box1 HB rfl rfl ?_); clear HB; intro b_ w_ HB; refine Kx.fr ?_) | ((with_reducible refine Kx.alloc_gate ?_); (first | refine Kx.ala HB ?_ | refine Kx.al1 HB ?_); clear HB; intro b_ w_ HB; refine Kx.fr ?_) | ((with_reducible refine Kx.loads_gate ?_); first | refine Kx.l1 HB rfl rfl ?_ | refine Kx.la HB rfl ?_ | refine Kx.lo HB rfl HC.out ?_) | ((with_reducible refine Kx.loadg_gate ?_); first | refine Kx.l1g HB rfl rfl rfl ?_ | refine Kx.lag HB rfl rfl ?_ | refine Kx.log HB rfl HC.out rfl ?_) | ((with_reducible refine Kx.store_gate ?_); (first | refine Kx.stwa HB rfl rfl ?_ | refine Kx.sta HB rfl rfl ?_ | refine Kx.stc HB rfl rfl ?_ | refine Kx.stt HB rfl rfl rfl ?_ | refine Kx.st1 HB rfl rfl rfl ?_); clear HB; intro w_ HB)))
    refine bodyPost_ret (Kx.results_xt HB rfl _ _ _ rfl (by simp <;> rfl) (by simp <;> rfl)) rfl ?_; exact HF.out _ HB.out.below

end Go.Proofs.YtpbogacodhjlfaaDoor
