/- The plain model of stage 13: plans made of one another, and what the laws say of them. No program in it. -/
import Derived.Test.YtpbogacodhjlfaaDoorGm
namespace Go.Proofs.YtpbogacodhjlfaaDoor.Gm
open Go

/-- plans made of one another, from the zero plan on -/
def Chain (c : Gc) (w : List Pl) : Prop := w[0]? = some (zero c) ∧ ∀ (i : Nat) (a b : Pl), w[i]? = some a → w[i + 1]? = some b → Step c a b
theorem chain_start (c : Gc) : Chain c [zero c] := ⟨rfl, fun i a b _ h => by simp at h⟩
theorem chain_more {c : Gc} {w : List Pl} (h : Chain c w) {a b : Pl} (ha : w[w.length - 1]? = some a) (hs : Step c a b) : Chain c (w ++ [b]) := by
  have hl : 0 < w.length := by
    rcases Nat.eq_zero_or_pos w.length with q | q
    · rw [List.eq_nil_of_length_eq_zero q] at ha; cases ha
    · exact q
  refine ⟨by rw [List.getElem?_append_left hl]; exact h.1, fun i x y hx hy => ?_⟩
  have hlt : i + 1 < w.length + 1 := by
    have := (List.getElem?_eq_some_iff.1 hy).1
    rwa [List.length_append, List.length_singleton] at this
  rw [List.getElem?_append_left (by omega)] at hx
  rcases Nat.lt_or_ge (i + 1) w.length with h2 | h2
  · rw [List.getElem?_append_left h2] at hy
    exact h.2 i x y hx hy
  · rw [List.getElem?_append_right h2] at hy
    have e : i = w.length - 1 := by omega
    subst e
    rw [ha] at hx
    cases hx
    rw [show w.length - 1 + 1 - w.length = 0 by omega] at hy
    cases hy
    exact hs
theorem chain_inv {c : Gc} (hc : c.Ok) {w : List Pl} (h : Chain c w) : ∀ (i : Nat) (x : Pl), w[i]? = some x → Inv c x ∧ x.e = i
  | 0, x, hx => by rw [h.1] at hx; cases hx; exact ⟨zero_inv hc, rfl⟩
  | i + 1, x, hx => by
    have hlt := (List.getElem?_eq_some_iff.1 hx).1
    obtain ⟨a, ha⟩ : ∃ a, w[i]? = some a := ⟨w[i]'(by omega), List.getElem?_eq_getElem _⟩
    obtain ⟨h1, h2⟩ := chain_inv hc h i a ha
    have hs := h.2 i a x ha hx
    refine ⟨step_inv hc h1 hs, ?_⟩
    rw [(step_damp hc h1 hs).1, h2]; omega

/-! changes, and when they were -/
def hist : List Pl → List Int
  | a :: b :: l => (if a.t = b.t then [] else [b.st]) ++ hist (b :: l)
  | _ => []
theorem hist_snoc : ∀ (w : List Pl) (a b : Pl), hist (w ++ [a] ++ [b]) = hist (w ++ [a]) ++ (if a.t = b.t then [] else [b.st])
  | [], a, b => by
    show (if a.t = b.t then [] else [b.st]) ++ hist [b] = hist [a] ++ _
    simp [hist]
  | [x], a, b => by
    show (if x.t = a.t then [] else [a.st]) ++ ((if a.t = b.t then [] else [b.st]) ++ hist [b]) = ((if x.t = a.t then [] else [a.st]) ++ hist [a]) ++ _
    simp [hist]
  | x :: y :: w, a, b => by
    have ih := hist_snoc (y :: w) a b
    show (if x.t = y.t then [] else [y.st]) ++ hist (y :: w ++ [a] ++ [b]) = ((if x.t = y.t then [] else [y.st]) ++ hist (y :: w ++ [a])) ++ _
    rw [ih, List.append_assoc]
theorem take_two {w : List Pl} {i : Nat} {a b : Pl} (ha : w[i]? = some a) (hb : w[i + 1]? = some b) : w.take (i + 2) = w.take i ++ [a] ++ [b] ∧ w.take (i + 1) = w.take i ++ [a] := by
  have e1 : w.take (i + 1) = w.take i ++ [a] := by rw [List.take_add_one, ha]; rfl
  have e2 : w.take (i + 1 + 1) = w.take (i + 1) ++ [b] := by rw [List.take_add_one, hb]; rfl
  exact ⟨by rw [show i + 2 = i + 1 + 1 from rfl, e2, e1], e1⟩
theorem hist_take {w : List Pl} {i : Nat} {a b : Pl} (ha : w[i]? = some a) (hb : w[i + 1]? = some b) : hist (w.take (i + 2)) = hist (w.take (i + 1)) ++ (if a.t = b.t then [] else [b.st]) := by
  obtain ⟨e1, e2⟩ := take_two ha hb
  rw [e1, e2]; exact hist_snoc _ _ _
/-- the last ones -/
def lastN (n : Nat) (l : List Int) : List Int := l.drop (l.length - n)
theorem lastN_len (n : Nat) (l : List Int) : (lastN n l).length = min l.length n := by unfold lastN; rw [List.length_drop]; omega
theorem lastN_getD (n : Nat) (l : List Int) (k : Nat) : (lastN n l).getD k 0 = l.getD (l.length - n + k) 0 := by
  unfold lastN
  rw [List.getD_eq_getElem?_getD, List.getD_eq_getElem?_getD, List.getElem?_drop]
theorem chain_ch {c : Gc} (hc : c.Ok) {w : List Pl} (h : Chain c w) : ∀ (i : Nat) (x : Pl), w[i]? = some x → x.ch = lastN c.b (hist (w.take (i + 1)))
  | 0, x, hx => by
    rw [h.1] at hx
    cases hx
    have e : w.take (0 + 1) = [zero c] := by rw [List.take_add_one, h.1]; rfl
    rw [e]
    show [] = List.drop _ []
    rw [List.drop_nil]
  | i + 1, x, hx => by
    have hlt := (List.getElem?_eq_some_iff.1 hx).1
    obtain ⟨a, ha⟩ : ∃ a, w[i]? = some a := ⟨w[i]'(by omega), List.getElem?_eq_getElem _⟩
    have ih := chain_ch hc h i a ha
    obtain ⟨h1, -⟩ := chain_inv hc h i a ha
    have hd := step_damp hc h1 (h.2 i a x ha hx)
    rw [show i + 1 + 1 = i + 2 from rfl, hist_take ha hx]
    generalize hist (w.take (i + 1)) = l at *
    by_cases e : a.t = x.t
    · rw [if_pos e, List.append_nil, (hd.2.2.1 e).2.2, ih]
    · rw [if_neg e, (hd.2.2.2 e).2.2.1, newCh, ih]
      have hb := hc.b
      unfold lastN
      rw [List.length_append, List.length_singleton, List.length_drop, List.drop_drop, List.drop_append_of_le_length (by omega)]
      congr 2
      omega
/-- P13.2: of a change, with those ahead of it -/
theorem chain_damp {c : Gc} (hc : c.Ok) {w : List Pl} (h : Chain c w) {i : Nat} {a b : Pl} (ha : w[i]? = some a) (hb : w[i + 1]? = some b) (hne : a.t ≠ b.t) (l : List Int) (hl : hist (w.take (i + 1)) = l) :
    (0 < l.length → c.d ≤ b.st - l.getD (l.length - 1) 0) ∧ (c.b ≤ l.length → c.w < b.st - l.getD (l.length - c.b) 0) ∧ b.ch.length = min (l.length + 1) c.b ∧ b.ch.getD (b.ch.length - 1) 0 = b.st ∧ b.p = a.t ∧ b.si = b.st := by
  obtain ⟨h1, -⟩ := chain_inv hc h i a ha
  have hch := chain_ch hc h i a ha
  rw [hl] at hch
  obtain ⟨d1, d2, d3, d4, d5, -⟩ := (step_damp hc h1 (h.2 i a b ha hb)).2.2.2 hne
  have hbb := hc.b
  have hlen := lastN_len c.b l
  rw [hch] at d1 d2
  refine ⟨fun h0 => ?_, fun h0 => ?_, ?_, ?_, d4, d5⟩
  · rcases d1 with d1 | d1
    · omega
    · rw [lastN_getD] at d1
      rwa [show l.length - c.b + ((lastN c.b l).length - 1) = l.length - 1 by omega] at d1
  · rcases d2 with d2 | d2
    · omega
    · rw [lastN_getD] at d2
      rwa [show l.length - c.b + ((lastN c.b l).length - c.b) = l.length - c.b by omega] at d2
  · rw [d3, newCh_len hc h1.fits, hch, hlen]; omega
  · rw [d3]
    unfold newCh
    rw [List.getD_eq_getElem?_getD, List.getElem?_append_right (by rw [List.length_append, List.length_singleton]; omega), List.length_append, List.length_singleton]
    rw [show (List.drop (a.ch.length + 1 - c.b) a.ch).length + 1 - 1 - (List.drop (a.ch.length + 1 - c.b) a.ch).length = 0 by omega]
    rfl

/-! what is decided is not decided again -/
theorem low_same {p : Pl} {c : Gc} (h : Fits c p) : p.up.toNat % 2 ^ c.n = p.up.toNat := by
  refine Nat.mod_eq_of_lt ?_
  have h1 := h.up
  have h2 : (p.up.toNat : Int) < ((2 ^ c.n : Nat) : Int) := by rw [Int.toNat_of_nonneg h1.1]; exact_mod_cast h1.2
  exact_mod_cast h2
theorem low_more (p : Pl) (c : Gc) : (p.up.toNat ||| 2 ^ c.n) % 2 ^ c.n = p.up.toNat % 2 ^ c.n := by
  apply Nat.eq_of_testBit_eq
  intro b
  rw [Nat.testBit_mod_two_pow, Nat.testBit_mod_two_pow, Nat.testBit_or, Nat.testBit_two_pow]
  by_cases hb : b < c.n
  · rw [decide_eq_false (show ¬ c.n = b by omega), Bool.or_false]
  · rw [decide_eq_false hb]; rfl
theorem still_more {c : Gc} {p : Pl} (h : Fits c p) : next c p (p.up.toNat ||| 2 ^ c.n) (p.st - 5) = next c p p.up.toNat p.st := by
  have h1 := h.st
  have e : clamp (p.st - 5) p.st = clamp p.st p.st := by unfold T clamp at *; omega
  unfold next
  rw [low_more, e]
theorem still_one {c : Gc} {p q : Pl} (h : Fits c p) (hq : next c p p.up.toNat p.st = some q) : ¬ (q.t = p.t ∧ q.c = p.c ∧ q.s = p.s ∧ q.su = p.su) := by
  obtain ⟨h1, h2⟩ := next_some hq
  intro ⟨e1, e2, e3, e4⟩
  refine h2 ⟨e1, e2, ?_, e4, e3⟩
  rw [h1, nx_pen.2.1, low_same h, Int.toNat_of_nonneg h.up.1]

/-! where nothing is held against anybody -/
theorem left_zero {dt half : Int} (h : Dm.Ar 0 dt half) : Dm.left 0 dt half = 0 := by have := Dm.left_in h; omega
structure Clean (c : Gc) (p : Pl) : Prop where
  pen : ∀ i, p.pen.getD i 0 = 0
  su : p.su = 0
theorem clean_pen {c : Gc} (hc : c.Ok) {p : Pl} (hp : Inv c p) (hz : Clean c p) {u : Nat} {t : Int} (ht : T t) (hle : p.st ≤ t) {i : Nat} (hn : c.hit = 0 ∨ ¬ (p.up.toNat.testBit i = true ∧ u.testBit i = false)) : penAt c p u t i = 0 := by
  have ha := pen_ar hc hp.fits ht hle i
  rw [hz.pen i] at ha
  unfold penAt
  rw [hz.pen i, left_zero ha]
  split
  · rename_i h
    rcases hn with hn | hn
    · rw [hn]; rfl
    · exact absurd h hn
  · rfl
theorem clean_sup {c : Gc} (hc : c.Ok) {p : Pl} (hp : Inv c p) (hz : Clean c p) {u : Nat} {t : Int} (ht : T t) (hle : p.st ≤ t) {i : Nat} (hn : c.hit = 0 ∨ ¬ (p.up.toNat.testBit i = true ∧ u.testBit i = false)) : supAt c p u t i = false := by
  have h1 := hc.sup
  have h2 := hc.reu
  unfold supAt Dm.sup
  rw [clean_pen hc hp hz ht hle hn, if_neg (by omega), if_pos (by omega)]
theorem clean_good {c : Gc} (hc : c.Ok) {p : Pl} (hp : Inv c p) (hz : Clean c p) {u : Nat} (hu : u < 2 ^ c.n) {t : Int} (ht : T t) (hle : p.st ≤ t) (hn : ∀ i, c.hit = 0 ∨ ¬ (p.up.toNat.testBit i = true ∧ u.testBit i = false)) : good c p u t = u ∧ sups c p u t = 0 := by
  refine ⟨?_, ?_⟩
  · unfold good
    rw [maskOf_congr (g := fun b => u.testBit b) fun b _ => by rw [clean_sup hc hp hz ht hle (hn b)]; simp]
    exact maskOf_self hu
  · apply Nat.eq_of_testBit_eq
    intro b
    rw [sups, maskOf_bit, clean_sup hc hp hz ht hle (hn b), Bool.and_false, Nat.zero_testBit]
theorem clean_nx {c : Gc} (hc : c.Ok) {p : Pl} (hp : Inv c p) (hz : Clean c p) {u : Nat} (hu : u < 2 ^ c.n) {t : Int} (ht : T t) (hle : p.st ≤ t) (hn : ∀ i, c.hit = 0 ∨ ¬ (p.up.toNat.testBit i = true ∧ u.testBit i = false)) : Clean c (nx c p u t) := by
  obtain ⟨e1, -, -, e4⟩ := nx_pen (c := c) (p := p) (u := u) (t := t)
  refine ⟨fun i => ?_, by rw [e4, (clean_good hc hp hz hu ht hle hn).2]; rfl⟩
  rw [e1]
  rcases Nat.lt_or_ge i c.n with h | h
  · rw [pens_get c p u t h, clean_pen hc hp hz ht hle (hn i)]
  · unfold pens
    rw [List.getD_eq_getElem?_getD, List.getElem?_eq_none (by simpa using h)]; rfl
theorem clean_zero (c : Gc) : Clean c (zero c) := ⟨fun i => by
  show (List.replicate c.n (0 : Int)).getD i 0 = 0
  rw [List.getD_eq_getElem?_getD, List.getElem?_replicate]; split <;> rfl, rfl⟩
theorem chain_clean {c : Gc} (hc : c.Ok) (h0 : c.hit = 0) {w : List Pl} (h : Chain c w) : ∀ (i : Nat) (x : Pl), w[i]? = some x → Clean c x
  | 0, x, hx => by rw [h.1] at hx; cases hx; exact clean_zero c
  | i + 1, x, hx => by
    have hlt := (List.getElem?_eq_some_iff.1 hx).1
    obtain ⟨a, ha⟩ : ∃ a, w[i]? = some a := ⟨w[i]'(by omega), List.getElem?_eq_getElem _⟩
    obtain ⟨h1, -⟩ := chain_inv hc h i a ha
    have hcl := chain_clean hc h0 h i a ha
    obtain ⟨u, t, g1, g2, g3, rfl, -⟩ := step_nx h1 (h.2 i a x ha hx)
    exact clean_nx hc h1 hcl g1 g2 g3 (fun _ => .inl h0)
theorem bestTo_one (ti : List Int) (o : Nat) : ∀ k, bestTo ti (2 ^ o) k = if o < k then (o : Int) else -1
  | 0 => rfl
  | k + 1 => by
    unfold bestTo
    rw [bestTo_one ti o k, Nat.testBit_two_pow]
    by_cases e : o = k
    · subst e
      rw [decide_eq_true rfl, if_neg (Nat.lt_irrefl _), if_pos ⟨rfl, .inl (by decide)⟩, if_pos (Nat.lt_succ_self _)]
    · rw [decide_eq_false e, if_neg (by rintro ⟨h, -⟩; cases h)]
      by_cases h : o < k
      · rw [if_pos h, if_pos (by omega)]
      · rw [if_neg h, if_neg (by omega)]
/-- a target that is down is left -/
theorem leaves {c : Gc} (hc : c.Ok) (h0 : c.hit = 0) {p : Pl} (hp : Inv c p) (hz : Clean c p) (_ht0 : 0 ≤ p.t) {o : Nat} (ho : o < c.n) (hne : (o : Int) ≠ p.t) {t : Int} (ht : p.st + c.d + c.w + 1 ≤ t) (hT : t ≤ 1099511627776) :
    ∃ q, next c p (2 ^ o) t = some q ∧ q.t = o ∧ q.p = p.t ∧ q.c = 100 ∧ q.st = t := by
  have hd := hc.d
  have hw := hc.w
  have hb := hc.b
  have hst := hp.fits.st
  have hu : 2 ^ o < 2 ^ c.n := Nat.pow_lt_pow_right (by decide) ho
  have hTt : T t := by unfold T at *; omega
  have hle : p.st ≤ t := by omega
  obtain ⟨hg, -⟩ := clean_good hc hp hz hu hTt hle (fun _ => .inl h0)
  have hto : to c p (2 ^ o) t = o := by
    unfold to
    rw [hg, if_pos (Nat.ne_of_gt (Nat.two_pow_pos o))]
    show bestTo c.ti (2 ^ o) c.n = o
    rw [bestTo_one, if_pos ho]
  have hhas : has (good c p (2 ^ o) t) p.t = false := by
    rw [hg]
    unfold has
    rw [Nat.testBit_two_pow]
    by_cases h : 0 ≤ p.t
    · rw [decide_eq_false (show ¬ o = p.t.toNat by omega), Bool.and_false]
    · rw [decide_eq_false h]; rfl
  have hlast : ∀ k, k < p.ch.length → p.ch.getD k 0 ≤ p.st := fun k hk => by
    rw [List.getD_eq_getElem?_getD, List.getElem?_eq_getElem hk]
    exact hp.ch _ (List.getElem_mem hk)
  have hm : May c p (2 ^ o) t := by
    refine ⟨by rw [hto]; exact hne, ?_, ?_, .inl hhas⟩
    · rcases Nat.eq_zero_or_pos p.ch.length with h | h
      · exact .inl h
      · have := hlast (p.ch.length - 1) (by omega)
        exact .inr (by omega)
    · rcases Nat.lt_or_ge p.ch.length c.b with h | h
      · exact .inl h
      · have := hlast (p.ch.length - c.b) (by omega)
        exact .inr (by omega)
  refine ⟨nx c p (2 ^ o) t, ?_, ?_, ?_, ?_, ?_⟩
  · unfold next
    rw [Nat.mod_eq_of_lt hu, clamp_at hTt hle, if_neg]
    rw [nx_may hm]
    intro h
    exact hne (hto ▸ h.1)
  · rw [nx_may hm]; exact hto
  · rw [nx_may hm]
  · rw [nx_may hm]
    dsimp only
    rw [hhas, if_neg (by decide)]
  · rw [nx_may hm]
end Go.Proofs.YtpbogacodhjlfaaDoor.Gm
