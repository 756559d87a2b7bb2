/- The plain model of stage 13 at the config that its laws write out: what the live question asks, and the ramp. No program in it. -/
import Derived.Test.YtpbogacodhjlfaaDoorGh
namespace Go.Proofs.YtpbogacodhjlfaaDoor.Gm
open Go

def plain (w hit f s t : Int) : Gc := ⟨2, [1, 0], 10, 3, w, 3, hit, 1500, 700, 30, f, s, t⟩
theorem plain_ok {w hit f s t : Int} (hw : 1 ≤ w ∧ w ≤ 1048576) (hh : 0 ≤ hit ∧ hit ≤ 1000000) (hf : 1 ≤ f ∧ f ≤ 100) (hs : 1 ≤ s ∧ s ≤ 100) (ht : 1 ≤ t ∧ t ≤ 1048576) : (plain w hit f s t).Ok :=
  ⟨⟨by show 1 ≤ 2; decide, by show 2 ≤ 16; decide⟩, rfl, ⟨by show (1 : Int) ≤ 10; decide, by show (10 : Int) ≤ _; decide⟩, ⟨by show (1 : Int) ≤ 3; decide, by show (3 : Int) ≤ _; decide⟩, hw, ⟨by show 1 ≤ 3; decide, by show 3 ≤ 8; decide⟩, hh, ⟨by show (1 : Int) ≤ 1500; decide, by show (1500 : Int) ≤ _; decide⟩, ⟨by show (0 : Int) ≤ 700; decide, by show (700 : Int) < 1500; decide⟩, ⟨by show (1 : Int) ≤ 30; decide, by show (30 : Int) ≤ _; decide⟩, hf, hs, ht⟩
/-- without a fall, and with nothing held against anybody -/
theorem clean_pens {c : Gc} (hc : c.Ok) {p : Pl} (hp : Inv c p) (hz : Clean c p) {u : Nat} {t : Int} (ht : T t) (hle : p.st ≤ t) (hn : ∀ i, c.hit = 0 ∨ ¬ (p.up.toNat.testBit i = true ∧ u.testBit i = false)) : pens c p u t = List.replicate c.n 0 := by
  unfold pens
  apply List.ext_getElem?
  intro i
  rw [List.getElem?_map, List.getElem?_replicate]
  by_cases h : i < c.n
  · rw [List.getElem?_range h, if_pos h]
    show some (penAt c p u t i) = some 0
    rw [clean_pen hc hp hz ht hle (hn i)]
  · rw [List.getElem?_eq_none (by simpa using h), if_neg h]; rfl
theorem nofall {a b : Nat} (h : a &&& b = a) (c : Gc) : ∀ i, c.hit = 0 ∨ ¬ (a.testBit i = true ∧ b.testBit i = false) := fun i => .inr fun ⟨h1, h2⟩ => by
  have : (a &&& b).testBit i = a.testBit i := by rw [h]
  rw [Nat.testBit_and, h1, h2] at this
  cases this
/-- the next one, where it may change -/
theorem clean_may {c : Gc} (hc : c.Ok) {p : Pl} (hp : Inv c p) (hz : Clean c p) {u : Nat} (hu : u < 2 ^ c.n) {t : Int} (ht : T t) (hle : p.st ≤ t) (hn : ∀ i, c.hit = 0 ∨ ¬ (p.up.toNat.testBit i = true ∧ u.testBit i = false))
    (h0 : u ≠ 0) (hne : best c u ≠ p.t) (h1 : p.ch.length = 0 ∨ c.d ≤ t - p.ch.getD (p.ch.length - 1) 0) (h2 : p.ch.length < c.b ∨ c.w < t - p.ch.getD (p.ch.length - c.b) 0) (h3 : has u p.t = false ∨ c.dwell ≤ t - p.si) :
    next c p u t = some ⟨p.e + 1, best c u, p.t, spill c u (best c u), if has u p.t = true then c.first else 100, t, t, t, u, 0, List.replicate c.n 0, newCh c p t⟩ := by
  obtain ⟨hg, hs⟩ := clean_good hc hp hz hu ht hle hn
  have hto : to c p u t = best c u := by unfold to; rw [hg, if_pos h0]
  have hm : May c p u t := ⟨by rw [hto]; exact hne, h1, h2, by rw [hg]; exact h3⟩
  have e := nx_may hm
  rw [hto, hg, hs, clean_pens hc hp hz ht hle hn] at e
  unfold next
  rw [Nat.mod_eq_of_lt hu, clamp_at ht hle, e, if_neg]
  · rfl
  · intro h; exact hne h.1
/-- where it stays with its target -/
theorem clean_stay {c : Gc} (hc : c.Ok) {p : Pl} (hp : Inv c p) (hz : Clean c p) {u : Nat} (hu : u < 2 ^ c.n) {t : Int} (ht : T t) (hle : p.st ≤ t) (hn : ∀ i, c.hit = 0 ∨ ¬ (p.up.toNat.testBit i = true ∧ u.testBit i = false))
    (h0 : u ≠ 0) (he : best c u = p.t) (hup : p.up = u) (hsp : spill c u p.t = p.s) :
    (Grows c p t → next c p u t = some ⟨p.e + 1, p.t, p.p, p.s, min 100 (p.c + c.step), t, p.si, t, u, 0, List.replicate c.n 0, p.ch⟩) ∧ (¬ Grows c p t → next c p u t = none) := by
  obtain ⟨hg, hs⟩ := clean_good hc hp hz hu ht hle hn
  have hto : to c p u t = best c u := by unfold to; rw [hg, if_pos h0]
  have hm : ¬ May c p u t := fun h => h.1 (by rw [hto, he])
  refine ⟨fun hgr => ?_, fun hgr => ?_⟩
  · have e := nx_grow hm hgr
    rw [hg, hs, clean_pens hc hp hz ht hle hn, hsp] at e
    unfold next
    rw [Nat.mod_eq_of_lt hu, clamp_at ht hle, e, if_neg]
    · rfl
    · intro h
      have h5 : min 100 (p.c + c.step) = p.c := h.2.1
      have h6 := hc.step
      have h7 := hgr.1
      omega
  · have e := nx_stay hm hgr
    rw [hg, hs, clean_pens hc hp hz ht hle hn, hsp] at e
    unfold next
    rw [Nat.mod_eq_of_lt hu, clamp_at ht hle, e, if_pos]
    exact ⟨rfl, rfl, hup.symm, hz.su.symm, rfl⟩
theorem plain_best3 (w hit f s t : Int) : best (plain w hit f s t) 3 = 1 := by show bestTo [1, 0] 3 2 = 1; decide
theorem plain_best1 (w hit f s t : Int) : best (plain w hit f s t) 1 = 0 := by show bestTo [1, 0] 1 2 = 0; decide
theorem plain_spill3 (w hit f s t : Int) : spill (plain w hit f s t) 3 1 = 0 := by
  show bestTo [1, 0] (maskOf (fun j => Nat.testBit 3 j && decide ((j : Int) ≠ 1)) 2) 2 = 0; decide
theorem plain_spill1 (w hit f s t : Int) : spill (plain w hit f s t) 1 0 = -1 := by
  show bestTo [1, 0] (maskOf (fun j => Nat.testBit 1 j && decide ((j : Int) ≠ 0)) 2) 2 = -1; decide
theorem T_of {n : Int} (h1 : 0 ≤ n) (h2 : n ≤ 1099511627776) : T n := ⟨h1, h2⟩
theorem three_lt (w hit f s t : Int) : 3 < 2 ^ (plain w hit f s t).n := by show 3 < 2 ^ 2; decide
theorem one_lt (w hit f s t : Int) : 1 < 2 ^ (plain w hit f s t).n := by show 1 < 2 ^ 2; decide

/-- the live question: from the zero plan on -/
theorem plain_head {w hit f s t : Int} (hc : (plain w hit f s t).Ok) : next (plain w hit f s t) (zero (plain w hit f s t)) 3 5 = some ⟨1, 1, -1, 0, 100, 5, 5, 5, 3, 0, [0, 0], [5]⟩ := by
  have h := clean_may hc (zero_inv hc) (clean_zero _) (three_lt w hit f s t) (t := 5) (T_of (by decide) (by decide)) (by show (0 : Int) ≤ 5; decide) (nofall (a := 0) (b := 3) rfl _) (by decide) (by rw [plain_best3]; show (1 : Int) ≠ -1; decide) (.inl rfl) (.inl (by show 0 < 3; decide)) (.inl rfl)
  rw [plain_best3, plain_spill3] at h
  exact h
theorem plain_again {w hit f s t : Int} (hc : (plain w hit f s t).Ok) : next (plain w hit f s t) ⟨1, 1, -1, 0, 100, 5, 5, 5, 3, 0, [0, 0], [5]⟩ 3 5 = none := by
  have h1 := next_some (plain_head hc)
  have hi : Inv (plain w hit f s t) ⟨1, 1, -1, 0, 100, 5, 5, 5, 3, 0, [0, 0], [5]⟩ := step_inv hc (zero_inv hc) ⟨_, _, plain_head hc⟩
  have hz : Clean (plain w hit f s t) ⟨1, 1, -1, 0, 100, 5, 5, 5, 3, 0, [0, 0], [5]⟩ := ⟨fun i => by
    match i with
    | 0 => rfl
    | 1 => rfl
    | i + 2 => rfl, rfl⟩
  exact (clean_stay hc hi hz (three_lt w hit f s t) (t := 5) (T_of (by decide) (by decide)) (Int.le_refl _) (nofall (a := 3) (b := 3) rfl _) (by decide) (plain_best3 ..) rfl (plain_spill3 ..)).2 (fun h => by have := h.1; exact absurd this (by show ¬ (100 : Int) < 100; decide))

/-! the ramp -/
theorem ramp_one {w hit f s t : Int} (hc : (plain w hit f s t).Ok) : next (plain w hit f s t) (zero (plain w hit f s t)) 1 5 = some ⟨1, 0, -1, -1, 100, 5, 5, 5, 1, 0, [0, 0], [5]⟩ := by
  have h := clean_may hc (zero_inv hc) (clean_zero _) (one_lt w hit f s t) (t := 5) (T_of (by decide) (by decide)) (by show (0 : Int) ≤ 5; decide) (nofall (a := 0) (b := 1) rfl _) (by decide) (by rw [plain_best1]; show (0 : Int) ≠ -1; decide) (.inl rfl) (.inl (by show 0 < 3; decide)) (.inl rfl)
  rw [plain_best1, plain_spill1] at h
  exact h
theorem pen00 : ∀ i, ([0, 0] : List Int).getD i 0 = 0
  | 0 => rfl
  | 1 => rfl
  | _ + 2 => rfl
theorem ramp_two {w hit f s t : Int} (hc : (plain w hit f s t).Ok) : next (plain w hit f s t) ⟨1, 0, -1, -1, 100, 5, 5, 5, 1, 0, [0, 0], [5]⟩ 3 15 = some ⟨2, 1, 0, 0, f, 15, 15, 15, 3, 0, [0, 0], [5, 15]⟩ := by
  have hi : Inv (plain w hit f s t) ⟨1, 0, -1, -1, 100, 5, 5, 5, 1, 0, [0, 0], [5]⟩ := step_inv hc (zero_inv hc) ⟨_, _, ramp_one hc⟩
  have h := clean_may hc hi ⟨pen00, rfl⟩ (three_lt w hit f s t) (t := 15) (T_of (by decide) (by decide)) (by show (5 : Int) ≤ 15; decide) (nofall (a := 1) (b := 3) rfl _) (by decide) (by rw [plain_best3]; show (1 : Int) ≠ 0; decide) (.inr (by show (3 : Int) ≤ 15 - 5; decide)) (.inl (by show 1 < 3; decide)) (.inr (by show (10 : Int) ≤ 15 - 5; decide))
  rw [plain_best3, plain_spill3] at h
  exact h
/-- a plan of the ramp -/
def rp (e pc ra : Int) : Pl := ⟨e, 1, 0, 0, pc, ra, 15, ra, 3, 0, [0, 0], [5, 15]⟩
theorem rp_inv {w hit f s t : Int} (hc : (plain w hit f s t).Ok) {e pc ra : Int} (he : 0 ≤ e) (hp : 0 ≤ pc ∧ pc ≤ 100) (hr : 15 ≤ ra ∧ ra ≤ 1099511627776) : Inv (plain w hit f s t) (rp e pc ra) := by
  have hT : T ra := ⟨by omega, hr.2⟩
  have hi := step_inv hc (step_inv hc (zero_inv hc) ⟨_, _, ramp_one hc⟩) ⟨_, _, ramp_two hc⟩
  have hf := hi.fits
  refine ⟨⟨he, hf.t, hf.p, hf.s, hp, hT, hf.si, hT, hf.up, hf.su, hf.pen, hf.ch, hf.sd⟩, fun v hv => ?_, hr.1, Int.le_refl _, hi.su⟩
  have := hi.ch v hv
  exact Int.le_trans this hr.1
theorem ramp_grow {w hit f s t : Int} (hc : (plain w hit f s t).Ok) {e pc ra : Int} (he : 0 ≤ e) (hp : 0 ≤ pc ∧ pc < 100) (hr : 15 ≤ ra ∧ ra ≤ 1000000000) : next (plain w hit f s t) (rp e pc ra) 3 (ra + t) = some (rp (e + 1) (min 100 (pc + s)) (ra + t)) := by
  have ht : 1 ≤ t ∧ t ≤ 1048576 := hc.stt
  refine (clean_stay hc (rp_inv hc he ⟨hp.1, by omega⟩ ⟨hr.1, by omega⟩) ⟨pen00, rfl⟩ (three_lt w hit f s t) (t := ra + t) (T_of (by omega) (by omega)) (by show ra ≤ ra + t; omega) (nofall (a := 3) (b := 3) rfl _) (by decide) (plain_best3 ..) rfl (plain_spill3 ..)).1 ⟨hp.2, ?_⟩
  show t ≤ ra + t - ra
  omega
theorem ramp_early {w hit f s t : Int} (hc : (plain w hit f s t).Ok) {e pc ra : Int} (he : 0 ≤ e) (hp : 0 ≤ pc ∧ pc ≤ 100) (hr : 15 ≤ ra ∧ ra ≤ 1000000000) : next (plain w hit f s t) (rp e pc ra) 3 (ra + t - 1) = none := by
  have ht : 1 ≤ t ∧ t ≤ 1048576 := hc.stt
  refine (clean_stay hc (rp_inv hc he hp ⟨hr.1, by omega⟩) ⟨pen00, rfl⟩ (three_lt w hit f s t) (t := ra + t - 1) (T_of (by omega) (by omega)) (by show ra ≤ ra + t - 1; omega) (nofall (a := 3) (b := 3) rfl _) (by decide) (plain_best3 ..) rfl (plain_spill3 ..)).2 fun h => ?_
  have h2 : t ≤ ra + t - 1 - ra := h.2
  omega
end Go.Proofs.YtpbogacodhjlfaaDoor.Gm
