/- The next plan, the document's, of any config and any plan; its zero plan of any config. -/
import Derived.Test.YtpbogacodhjlfaaDoorJd
import Derived.Test.YtpbogacodhjlfaaDoorGef
namespace Go.Proofs.YtpbogacodhjlfaaDoor
open Go.RowKit Go.Shelf Km Kx Kc Kt
set_option linter.unusedVariables false

theorem RNext_any (c : Cf) (xs : List Int) (p : Pt) (up : Nat) (now : Int) (w : World) (hr : Rd w w.heap.size c.ta (Kc.i64s xs)) (hl : xs.length = c.tn) (hp : PAt w w.heap.size p.x p.A p.n p.c p.A' p.n' p.c') (hn : p.n ≤ 1000 ∧ p.n' ≤ 1000) (hu : up < 18446744073709551616) (hw : in64 now) :
    Calls Tryd.prog 6 #[.agg (cf c).toArray, .agg p.cells.toArray, .int .u64 (up : Int), .int .i64 now] w (NextSays w c xs p up now) := by
  obtain ⟨x, A, n, c0, A', n', c'⟩ := p
  dsimp only at hp hn
  show Calls Tryd.prog 6 #[.agg (cf c).toArray, .agg (pc x A n c0 A' n' c').toArray, .int .u64 (up : Int), .int .i64 now] w _
  by_cases hc : ConfP c xs
  case neg =>
    refine RNext_no c x A n c0 A' n' c' up now w xs (.inl fun W hb => ?_) (if_neg fun q => hc q.1)
    refine (R13Right_any c xs w.heap.size W (hr.below hb) hb.size hl).mono ?_
    rintro e w' ⟨q, rfl, hq, hbb⟩
    refine ⟨?_, hbb⟩
    cases q with
    | false => rfl
    | true => exact absurd (hq.1 rfl) hc
  have hN1 := hc.targets
  have hb1 := hc.b
  obtain ⟨N, hN⟩ : ∃ N : Nat, c.targets = (N : Int) := ⟨c.targets.toNat, by omega⟩
  obtain ⟨b, hb⟩ : ∃ b : Nat, c.b = (b : Int) := ⟨c.b.toNat, by omega⟩
  have h1 : ∀ W, Below w.heap.size w W → Calls Tryd.prog 8 #[.agg (cf c).toArray] W fun e w' => e = .returned (.bool true) ∧ Below W.heap.size W w' := fun W hb => by
    refine (R13Right_any c xs w.heap.size W (hr.below hb) hb.size hl).mono ?_
    rintro e w' ⟨q, rfl, hq, hbb⟩
    refine ⟨?_, hbb⟩
    rw [hq.2 hc]
  have hFN : FitsP N b x ↔ FitsP c.targets.toNat c.b.toNat x := by rw [hN, hb, Int.toNat_natCast, Int.toNat_natCast]
  have h2 : ∀ W, Below w.heap.size w W → Calls Tryd.prog 23 #[.agg (cf c).toArray, .agg (pc x A n c0 A' n' c').toArray] W (Says W (FitsP N b x)) := fun W hW =>
    Fits_any c x A n c0 A' n' c' N b W.heap.size W ((hp.below hW).more hW.size) (Nat.le_refl _) (by omega) (by omega) hN (by omega) hb (by omega)
  by_cases hf : FitsP N b x
  case neg =>
    refine RNext_no c x A n c0 A' n' c' up now w xs (.inr ⟨h1, .inl fun W hW => ?_⟩) (if_neg fun q => hf (hFN.2 q.2.1))
    refine (h2 W hW).mono ?_
    rintro e w' ⟨q, rfl, hq, hbb⟩
    refine ⟨?_, hbb⟩
    cases q with
    | false => rfl
    | true => exact absurd (hq.1 rfl) hf
  have h3 : ∀ W, Below w.heap.size w W → Calls Tryd.prog 23 #[.agg (cf c).toArray, .agg (pc x A n c0 A' n' c').toArray] W fun e w' => e = .returned (.bool true) ∧ Below W.heap.size W w' := fun W hW => by
    refine (h2 W hW).mono ?_
    rintro e w' ⟨q, rfl, hq, hbb⟩
    refine ⟨?_, hbb⟩
    rw [hq.2 hf]
  by_cases he : x.e < 4611686018427387904
  case neg => exact RNext_no c x A n c0 A' n' c' up now w xs (.inr ⟨h1, .inr ⟨h3, by omega⟩⟩) (if_neg fun q => he q.2.2)
  have hnN : n = N := by have := hf.n; rw [hp.n] at this; exact this
  subst hnN
  exact RNext_go c xs x A n c0 A' n' c' up b now w hc hl hr hp ((fits_iff hc hp.ok).1 (hFN.1 hf)) hN hb he hu h1 h3

theorem RZero_any (c : Cf) (xs : List Int) (w : World) (hr : Rd w w.heap.size c.ta (Kc.i64s xs)) (hl : xs.length = c.tn) : Calls Tryd.prog 11 #[.agg (cf c).toArray] w (ZeroSays w c xs) := by
  by_cases hc : ConfP c xs
  · have hN1 := hc.targets
    obtain ⟨N, hN⟩ : ∃ N : Nat, c.targets = (N : Int) := ⟨c.targets.toNat, by omega⟩
    refine (Zero_any c xs N w.heap.size w hr (Nat.le_refl _) hl hc hN).mono ?_
    rintro e w' ⟨A, k, rfl, hb, hown⟩
    have hgn : (gc c xs).n = N := by show c.targets.toNat = N; omega
    exact ⟨⟨zp N, A, N, k, none, 0, 0⟩, rfl, hb, ((Bxs.start w).callRow hb hown).newHead, New.nil _ _ _ _, ⟨zp_ok N, List.length_replicate .., rfl, Nat.le_refl _⟩, fun _ => by show zp N = _; unfold Gm.zero; rw [hgn]; rfl, fun q => absurd hc q⟩
  · refine (Zero_wrong c xs w.heap.size w hr (Nat.le_refl _) hl hc).mono ?_
    rintro e w' ⟨rfl, hb⟩
    exact ⟨noPt, rfl, hb, New.nil _ _ _ _, New.nil _ _ _ _, noPt_okm, fun q => absurd q hc, fun _ => rfl⟩
end Go.Proofs.YtpbogacodhjlfaaDoor
