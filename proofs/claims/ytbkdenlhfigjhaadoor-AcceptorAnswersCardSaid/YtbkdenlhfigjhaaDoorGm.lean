/- The plain model of stage 13: the next plan. No program in it. -/
import Derived.Test.YtbkdenlhfigjhaaDoorBPm
import Derived.Test.YtbkdenlhfigjhaaDoorDm
namespace Go.Proofs.YtbkdenlhfigjhaaDoor.Gm
open Go

/-- what the policy reads of a config -/
structure Gc where
  n : Nat
  ti : List Int
  dwell : Int
  d : Int
  w : Int
  b : Nat
  hit : Int
  sup : Int
  reu : Int
  half : Int
  first : Int
  step : Int
  stt : Int
structure Gc.Ok (c : Gc) : Prop where
  n : 1 ≤ c.n ∧ c.n ≤ 16
  ti : c.ti.length = c.n
  dwell : 1 ≤ c.dwell ∧ c.dwell ≤ 1048576
  d : 1 ≤ c.d ∧ c.d ≤ 1048576
  w : 1 ≤ c.w ∧ c.w ≤ 1048576
  b : 1 ≤ c.b ∧ c.b ≤ 8
  hit : 0 ≤ c.hit ∧ c.hit ≤ 1000000
  sup : 1 ≤ c.sup ∧ c.sup ≤ 1000000
  reu : 0 ≤ c.reu ∧ c.reu < c.sup
  half : 1 ≤ c.half ∧ c.half ≤ 1048576
  first : 1 ≤ c.first ∧ c.first ≤ 100
  step : 1 ≤ c.step ∧ c.step ≤ 100
  stt : 1 ≤ c.stt ∧ c.stt ≤ 1048576
abbrev Pl := Pm.Pl
def T (n : Int) : Prop := 0 ≤ n ∧ n ≤ 1099511627776
/-- does a plan fit? -/
structure Fits (c : Gc) (x : Pl) : Prop where
  e : 0 ≤ x.e
  t : -1 ≤ x.t ∧ x.t < c.n
  p : -1 ≤ x.p ∧ x.p < c.n
  s : -1 ≤ x.s ∧ x.s < c.n
  per : 0 ≤ x.c ∧ x.c ≤ 100
  st : T x.st
  si : T x.si
  ra : T x.ra
  up : 0 ≤ x.up ∧ x.up < 2 ^ c.n
  su : 0 ≤ x.su ∧ x.su < 2 ^ c.n
  pen : x.pen.length = c.n ∧ ∀ v ∈ x.pen, 0 ≤ v ∧ v ≤ 1000000
  ch : x.ch.length ≤ c.b ∧ ∀ v ∈ x.ch, T v
  sd : Pm.Sd x.ch

/-! masks -/
def has (m : Nat) (i : Int) : Bool := decide (0 ≤ i) && m.testBit i.toNat
def maskOf (f : Nat → Bool) : Nat → Nat
  | 0 => 0
  | k + 1 => if f k = true then maskOf f k ||| 2 ^ k else maskOf f k
theorem maskOf_bit (f : Nat → Bool) (k b : Nat) : (maskOf f k).testBit b = (decide (b < k) && f b) := by
  induction k with
  | zero => simp [maskOf]
  | succ k ih =>
    unfold maskOf
    by_cases h : f k = true
    · rw [if_pos h, Nat.testBit_or, ih, Nat.testBit_two_pow]
      by_cases e : k = b
      · subst e; simp [h]
      · rw [decide_eq_false e, Bool.or_false]
        by_cases h2 : b < k
        · rw [decide_eq_true h2, decide_eq_true (show b < k + 1 by omega)]
        · rw [decide_eq_false h2, decide_eq_false (show ¬ b < k + 1 by omega)]
    · rw [if_neg h, ih]
      by_cases e : k = b
      · subst e; simp [h]
      · by_cases h2 : b < k
        · rw [decide_eq_true h2, decide_eq_true (show b < k + 1 by omega)]
        · rw [decide_eq_false h2, decide_eq_false (show ¬ b < k + 1 by omega)]
theorem maskOf_lt (f : Nat → Bool) (k : Nat) : maskOf f k < 2 ^ k := by
  refine Nat.lt_pow_two_of_testBit _ fun b hb => ?_
  rw [maskOf_bit, decide_eq_false (by omega)]; rfl
theorem maskOf_congr {f g : Nat → Bool} {k : Nat} (h : ∀ b, b < k → f b = g b) : maskOf f k = maskOf g k := by
  apply Nat.eq_of_testBit_eq
  intro b
  rw [maskOf_bit, maskOf_bit]
  by_cases hb : b < k
  · rw [h b hb]
  · rw [decide_eq_false hb]; rfl
theorem maskOf_self {m k : Nat} (h : m < 2 ^ k) : maskOf (fun b => m.testBit b) k = m := by
  apply Nat.eq_of_testBit_eq
  intro b
  rw [maskOf_bit]
  by_cases hb : b < k
  · rw [decide_eq_true hb, Bool.true_and]
  · rw [decide_eq_false hb, Bool.false_and, Nat.testBit_lt_two_pow (Nat.lt_of_lt_of_le h (Nat.pow_le_pow_right (by decide) (by omega)))]
theorem bit_lt {m k b : Nat} (h : m < 2 ^ k) (hb : m.testBit b = true) : b < k := by
  rcases Nat.lt_or_ge b k with h2 | h2
  · exact h2
  · rw [Nat.testBit_lt_two_pow (Nat.lt_of_lt_of_le h (Nat.pow_le_pow_right (by decide) h2))] at hb; cases hb
theorem bit_some {m : Nat} (h : m ≠ 0) : ∃ b, m.testBit b = true := by
  apply Classical.byContradiction
  intro hn
  exact h (Nat.eq_of_testBit_eq fun b => by
    rw [Nat.zero_testBit]
    cases hb : m.testBit b with
    | false => rfl
    | true => exact absurd ⟨b, hb⟩ hn)

/-! the best of some -/
def bestTo (ti : List Int) (m : Nat) : Nat → Int
  | 0 => -1
  | k + 1 => if m.testBit k = true ∧ (bestTo ti m k < 0 ∨ ti.getD k 0 < ti.getD (bestTo ti m k).toNat 0) then (k : Int) else bestTo ti m k
def best (c : Gc) (m : Nat) : Int := bestTo c.ti m c.n
theorem bestTo_in (ti : List Int) (m k : Nat) : -1 ≤ bestTo ti m k ∧ bestTo ti m k < k ∧ (0 ≤ bestTo ti m k → m.testBit (bestTo ti m k).toNat = true) ∧ (bestTo ti m k < 0 → ∀ b, b < k → m.testBit b = false) := by
  induction k with
  | zero => exact ⟨Int.le_refl _, by show (-1 : Int) < ((0 : Nat) : Int); omega, fun h => absurd h (by show ¬ (0 : Int) ≤ -1; decide), fun _ b hb => absurd hb (Nat.not_lt_zero _)⟩
  | succ k ih =>
    obtain ⟨h1, h2, h3, h4⟩ := ih
    unfold bestTo
    by_cases h : m.testBit k = true ∧ (bestTo ti m k < 0 ∨ ti.getD k 0 < ti.getD (bestTo ti m k).toNat 0)
    · rw [if_pos h]
      exact ⟨by omega, by omega, fun _ => by rw [Int.toNat_natCast]; exact h.1, fun q => by omega⟩
    · rw [if_neg h]
      refine ⟨h1, by omega, h3, fun q b hb => ?_⟩
      rcases Nat.lt_or_ge b k with hl | hl
      · exact h4 q b hl
      · obtain rfl : b = k := by omega
        cases hm : m.testBit b with
        | false => rfl
        | true => exact absurd ⟨hm, .inl q⟩ h
theorem best_in (c : Gc) (m : Nat) : -1 ≤ best c m ∧ best c m < c.n := ⟨(bestTo_in _ _ _).1, (bestTo_in _ _ _).2.1⟩
theorem best_bit {c : Gc} {m : Nat} (h : 0 ≤ best c m) : m.testBit (best c m).toNat = true := (bestTo_in _ _ _).2.2.1 h
theorem best_some {c : Gc} {m : Nat} (hm : m < 2 ^ c.n) (h : m ≠ 0) : 0 ≤ best c m := by
  obtain ⟨b, hb⟩ := bit_some h
  rcases Int.lt_or_le (best c m) 0 with q | q
  · rw [(bestTo_in c.ti m c.n).2.2.2 q b (bit_lt hm hb)] at hb; cases hb
  · exact q

/-! the next plan -/
def clamp (now st : Int) : Int := max (min now 1099511627776) st
def penAt (c : Gc) (p : Pl) (u : Nat) (t : Int) (i : Nat) : Int :=
  if p.up.toNat.testBit i = true ∧ u.testBit i = false then Dm.hit (Dm.left (p.pen.getD i 0) (t - p.st) c.half) c.hit else Dm.left (p.pen.getD i 0) (t - p.st) c.half
def supAt (c : Gc) (p : Pl) (u : Nat) (t : Int) (i : Nat) : Bool := Dm.sup (p.su.toNat.testBit i) (penAt c p u t i) c.sup c.reu
def pens (c : Gc) (p : Pl) (u : Nat) (t : Int) : List Int := (List.range c.n).map (penAt c p u t)
def sups (c : Gc) (p : Pl) (u : Nat) (t : Int) : Nat := maskOf (supAt c p u t) c.n
def good (c : Gc) (p : Pl) (u : Nat) (t : Int) : Nat := maskOf (fun i => u.testBit i && !supAt c p u t i) c.n
def to (c : Gc) (p : Pl) (u : Nat) (t : Int) : Int := if good c p u t ≠ 0 then best c (good c p u t) else if u ≠ 0 then best c u else p.t
def May (c : Gc) (p : Pl) (u : Nat) (t : Int) : Prop :=
  to c p u t ≠ p.t ∧ (p.ch.length = 0 ∨ c.d ≤ t - p.ch.getD (p.ch.length - 1) 0) ∧ (p.ch.length < c.b ∨ c.w < t - p.ch.getD (p.ch.length - c.b) 0) ∧ (has (good c p u t) p.t = false ∨ c.dwell ≤ t - p.si)
instance (c : Gc) (p : Pl) (u : Nat) (t : Int) : Decidable (May c p u t) := by unfold May; infer_instance
def newCh (c : Gc) (p : Pl) (t : Int) : List Int := p.ch.drop (p.ch.length + 1 - c.b) ++ [t]
/-- good ones but one -/
def spill (c : Gc) (g : Nat) (i : Int) : Int := best c (maskOf (fun j => g.testBit j && decide ((j : Int) ≠ i)) c.n)
/-- percents grow -/
def Grows (c : Gc) (p : Pl) (t : Int) : Prop := p.c < 100 ∧ c.stt ≤ t - p.ra
instance (c : Gc) (p : Pl) (t : Int) : Decidable (Grows c p t) := by unfold Grows; infer_instance
def nx (c : Gc) (p : Pl) (u : Nat) (t : Int) : Pl :=
  if May c p u t then ⟨p.e + 1, to c p u t, p.t, spill c (good c p u t) (to c p u t), if has (good c p u t) p.t = true then c.first else 100, t, t, t, u, sups c p u t, pens c p u t, newCh c p t⟩
  else if Grows c p t then ⟨p.e + 1, p.t, p.p, spill c (good c p u t) p.t, min 100 (p.c + c.step), t, p.si, t, u, sups c p u t, pens c p u t, p.ch⟩
  else ⟨p.e + 1, p.t, p.p, spill c (good c p u t) p.t, p.c, t, p.si, p.ra, u, sups c p u t, pens c p u t, p.ch⟩
def Same (p q : Pl) : Prop := q.t = p.t ∧ q.c = p.c ∧ q.up = p.up ∧ q.su = p.su ∧ q.s = p.s
instance (p q : Pl) : Decidable (Same p q) := by unfold Same; infer_instance
def next (c : Gc) (p : Pl) (up : Nat) (now : Int) : Option Pl :=
  if Same p (nx c p (up % 2 ^ c.n) (clamp now p.st)) then none else some (nx c p (up % 2 ^ c.n) (clamp now p.st))
def zero (c : Gc) : Pl := ⟨0, -1, -1, -1, 0, 0, 0, 0, 0, 0, List.replicate c.n 0, []⟩
theorem nx_may {c : Gc} {p : Pl} {u : Nat} {t : Int} (h : May c p u t) : nx c p u t = ⟨p.e + 1, to c p u t, p.t, spill c (good c p u t) (to c p u t), if has (good c p u t) p.t = true then c.first else 100, t, t, t, u, sups c p u t, pens c p u t, newCh c p t⟩ := if_pos h
theorem nx_grow {c : Gc} {p : Pl} {u : Nat} {t : Int} (h : ¬ May c p u t) (h2 : Grows c p t) : nx c p u t = ⟨p.e + 1, p.t, p.p, spill c (good c p u t) p.t, min 100 (p.c + c.step), t, p.si, t, u, sups c p u t, pens c p u t, p.ch⟩ := (if_neg h).trans (if_pos h2)
theorem nx_stay {c : Gc} {p : Pl} {u : Nat} {t : Int} (h : ¬ May c p u t) (h2 : ¬ Grows c p t) : nx c p u t = ⟨p.e + 1, p.t, p.p, spill c (good c p u t) p.t, p.c, t, p.si, p.ra, u, sups c p u t, pens c p u t, p.ch⟩ := (if_neg h).trans (if_neg h2)
theorem next_some {c : Gc} {p q : Pl} {up : Nat} {now : Int} (h : next c p up now = some q) : q = nx c p (up % 2 ^ c.n) (clamp now p.st) ∧ ¬ Same p q := by
  unfold next at h
  split at h
  · cases h
  · cases h; exact ⟨rfl, by assumption⟩

/-! what holds of one step -/
theorem clamp_in {now st : Int} (h : T st) : T (clamp now st) ∧ st ≤ clamp now st := by unfold T clamp at *; omega
theorem clamp_at {t st : Int} (h : T t) (h2 : st ≤ t) : clamp t st = t := by unfold T clamp at *; omega
theorem low_lt (up n : Nat) : up % 2 ^ n < 2 ^ n := Nat.mod_lt _ (Nat.two_pow_pos n)
theorem getD_in {l : List Int} {P : Int → Prop} (h : ∀ v ∈ l, P v) (h0 : P 0) (i : Nat) : P (l.getD i 0) := by
  rw [List.getD_eq_getElem?_getD]
  cases hq : l[i]? with
  | none => exact h0
  | some v => exact h v (List.mem_of_getElem? hq)
theorem pen_ar {c : Gc} (hc : c.Ok) {p : Pl} (hp : Fits c p) {t : Int} (ht : T t) (hle : p.st ≤ t) (i : Nat) : Dm.Ar (p.pen.getD i 0) (t - p.st) c.half := by
  have h1 := getD_in (P := fun v => 0 ≤ v ∧ v ≤ 1000000) hp.pen.2 (by decide) i
  have h2 := hp.st
  have h3 := hc.half
  unfold T at *
  exact ⟨h1, ⟨by omega, by omega⟩, ⟨by omega, by omega⟩⟩
theorem penAt_in {c : Gc} (hc : c.Ok) {p : Pl} (hp : Fits c p) {t : Int} (ht : T t) (hle : p.st ≤ t) (u i : Nat) : 0 ≤ penAt c p u t i ∧ penAt c p u t i ≤ 1000000 := by
  have ha := pen_ar hc hp ht hle i
  have h1 := Dm.left_in ha
  have h2 := getD_in (P := fun v => 0 ≤ v ∧ v ≤ 1000000) hp.pen.2 (by decide) i
  unfold penAt
  split
  · exact Dm.hit_in _ _
  · omega
theorem penAt_no {c : Gc} (hc : c.Ok) {p : Pl} (hp : Fits c p) {t : Int} (ht : T t) (hle : p.st ≤ t) {u i : Nat} (h : ¬ (p.up.toNat.testBit i = true ∧ u.testBit i = false)) : penAt c p u t i ≤ p.pen.getD i 0 := by
  unfold penAt
  rw [if_neg h]
  exact (Dm.left_in (pen_ar hc hp ht hle i)).2
theorem pens_get (c : Gc) (p : Pl) (u : Nat) (t : Int) {i : Nat} (h : i < c.n) : (pens c p u t).getD i 0 = penAt c p u t i := by
  unfold pens
  rw [List.getD_eq_getElem?_getD, List.getElem?_map, List.getElem?_range h]; rfl
theorem good_bit (c : Gc) (p : Pl) (u : Nat) (t : Int) (i : Nat) : (good c p u t).testBit i = (decide (i < c.n) && (u.testBit i && !supAt c p u t i)) := maskOf_bit _ _ _
theorem good_lt (c : Gc) (p : Pl) (u : Nat) (t : Int) : good c p u t < 2 ^ c.n := maskOf_lt _ _
theorem good_up {c : Gc} {p : Pl} {u : Nat} {t : Int} {i : Nat} (h : (good c p u t).testBit i = true) : u.testBit i = true := by
  rw [good_bit, Bool.and_eq_true, Bool.and_eq_true] at h
  exact h.2.1
/-- the candidate is up, or the one that is -/
theorem to_in {c : Gc} {p : Pl} (hp : Fits c p) {u : Nat} (hu : u < 2 ^ c.n) (t : Int) : -1 ≤ to c p u t ∧ to c p u t < c.n ∧ (to c p u t ≠ p.t → 0 ≤ to c p u t ∧ u.testBit (to c p u t).toNat = true) := by
  unfold to
  split
  · rename_i h
    have h1 := best_in c (good c p u t)
    have h2 := best_some (good_lt c p u t) h
    exact ⟨h1.1, h1.2, fun _ => ⟨h2, good_up (best_bit h2)⟩⟩
  · split
    · rename_i h
      have h1 := best_in c u
      have h2 := best_some hu h
      exact ⟨h1.1, h1.2, fun _ => ⟨h2, best_bit h2⟩⟩
    · exact ⟨hp.t.1, hp.t.2, fun h => absurd rfl h⟩
theorem spill_in (c : Gc) (g : Nat) (i : Int) : -1 ≤ spill c g i ∧ spill c g i < c.n ∧ (0 ≤ spill c g i → g.testBit (spill c g i).toNat = true ∧ spill c g i ≠ i) := by
  have h := best_in c (maskOf (fun j => g.testBit j && decide ((j : Int) ≠ i)) c.n)
  refine ⟨h.1, h.2, fun h0 => ?_⟩
  have h1 := best_bit (c := c) (m := maskOf (fun j => g.testBit j && decide ((j : Int) ≠ i)) c.n) h0
  rw [maskOf_bit, Bool.and_eq_true, Bool.and_eq_true] at h1
  refine ⟨h1.2.1, ?_⟩
  have h2 := of_decide_eq_true h1.2.2
  intro e
  apply h2
  show (((spill c g i).toNat : Nat) : Int) = i
  rw [Int.toNat_of_nonneg h0]; exact e
/-- what holds of all plans that are made of one another, but for their fitting -/
structure Inv (c : Gc) (x : Pl) : Prop where
  fits : Fits c x
  ch : ∀ v ∈ x.ch, v ≤ x.st
  si : x.si ≤ x.st
  ra : x.ra ≤ x.st
  su : ∀ i, i < c.n → (x.su.toNat.testBit i = true → c.reu < x.pen.getD i 0) ∧ (x.su.toNat.testBit i = false → x.pen.getD i 0 < c.sup)
theorem zero_inv {c : Gc} (hc : c.Ok) : Inv c (zero c) := by
  have hn := hc.n
  refine ⟨⟨Int.le_refl _, ⟨Int.le_refl _, ?_⟩, ⟨Int.le_refl _, ?_⟩, ⟨Int.le_refl _, ?_⟩, ⟨Int.le_refl _, ?_⟩, ⟨Int.le_refl _, ?_⟩, ⟨Int.le_refl _, ?_⟩, ⟨Int.le_refl _, ?_⟩, ⟨Int.le_refl _, ?_⟩, ⟨Int.le_refl _, ?_⟩, ⟨List.length_replicate .., fun v hv => ?_⟩, ⟨Nat.zero_le _, fun v hv => by cases hv⟩, fun k hk => absurd hk (Nat.not_lt_zero _)⟩, fun v hv => (by cases hv), Int.le_refl _, Int.le_refl _, fun i hi => ⟨fun h => ?_, fun _ => ?_⟩⟩
  · show (-1 : Int) < _; omega
  · show (-1 : Int) < _; omega
  · show (-1 : Int) < _; omega
  · show (0 : Int) ≤ 100; decide
  · show (0 : Int) ≤ 1099511627776; decide
  · show (0 : Int) ≤ 1099511627776; decide
  · show (0 : Int) ≤ 1099511627776; decide
  · exact Int.pow_pos (by decide)
  · exact Int.pow_pos (by decide)
  · rw [(List.mem_replicate.1 hv).2]; exact ⟨Int.le_refl _, by decide⟩
  · have e : (zero c).su.toNat.testBit i = false := Nat.zero_testBit i
    rw [e] at h; cases h
  · have e : (zero c).pen.getD i 0 = 0 := by
      show (List.replicate c.n (0 : Int)).getD i 0 = 0
      rw [List.getD_eq_getElem?_getD, List.getElem?_replicate]; split <;> rfl
    rw [e]; have := hc.sup; omega
theorem sd_drop {l : List Int} (h : Pm.Sd l) (k : Nat) : Pm.Sd (l.drop k) := fun j hj => by
  rw [List.length_drop] at hj
  have := h (k + j) (by omega)
  simpa [List.getD_eq_getElem?_getD, List.getElem?_drop, Nat.add_assoc] using this
theorem sd_snoc {l : List Int} (h : Pm.Sd l) {t : Int} (ht : ∀ v ∈ l, v ≤ t) : Pm.Sd (l ++ [t]) := fun j hj => by
  rw [List.length_append, List.length_singleton] at hj
  rw [List.getD_eq_getElem?_getD, List.getD_eq_getElem?_getD]
  rcases Nat.lt_or_ge (j + 1) l.length with h1 | h1
  · rw [List.getElem?_append_left (by omega), List.getElem?_append_left h1]
    have := h j h1
    rwa [List.getD_eq_getElem?_getD, List.getD_eq_getElem?_getD] at this
  · have hj2 : l.length = j + 1 := by omega
    rw [List.getElem?_append_left (by omega), List.getElem?_append_right (by omega)]
    have e : (l[j]?).getD 0 = l[j]'(by omega) := by rw [List.getElem?_eq_getElem (by omega)]; rfl
    rw [e]
    have := ht _ (List.getElem_mem (show j < l.length by omega))
    have e2 : ([t][j + 1 - l.length]?).getD 0 = t := by rw [show j + 1 - l.length = 0 by omega]; rfl
    rw [e2]
    exact this
theorem newCh_len {c : Gc} (hc : c.Ok) {p : Pl} (hp : Fits c p) (t : Int) : (newCh c p t).length = min (p.ch.length + 1) c.b := by
  have h1 := hp.ch.1
  have h2 := hc.b
  unfold newCh
  rw [List.length_append, List.length_drop, List.length_singleton]
  omega
theorem nx_inv {c : Gc} (hc : c.Ok) {p : Pl} (hp : Inv c p) {u : Nat} (hu : u < 2 ^ c.n) {t : Int} (ht : T t) (hle : p.st ≤ t) : Inv c (nx c p u t) := by
  have hu2 : (0 : Int) ≤ (u : Int) ∧ (u : Int) < 2 ^ c.n := ⟨by omega, by exact_mod_cast hu⟩
  have hs2 : (0 : Int) ≤ (sups c p u t : Int) ∧ (sups c p u t : Int) < 2 ^ c.n := ⟨by omega, by exact_mod_cast maskOf_lt (supAt c p u t) c.n⟩
  have hpen : (pens c p u t).length = c.n ∧ ∀ v ∈ pens c p u t, 0 ≤ v ∧ v ≤ 1000000 := by
    refine ⟨by unfold pens; simp, fun v hv => ?_⟩
    obtain ⟨i, -, rfl⟩ := List.mem_map.1 hv
    exact penAt_in hc hp.fits ht hle u i
  have hsu : ∀ i, i < c.n → ((sups c p u t : Int).toNat.testBit i = true → c.reu < (pens c p u t).getD i 0) ∧ ((sups c p u t : Int).toNat.testBit i = false → (pens c p u t).getD i 0 < c.sup) := fun i hi => by
    rw [Int.toNat_natCast, pens_get c p u t hi, sups, maskOf_bit, decide_eq_true hi, Bool.true_and]
    unfold supAt Dm.sup
    have := hc.reu
    split
    · exact ⟨fun _ => by omega, fun h => by cases h⟩
    · split
      · exact ⟨fun h => (by cases h), fun _ => by omega⟩
      · exact ⟨fun _ => by omega, fun _ => by omega⟩
  have hsp := fun i => spill_in c (good c p u t) i
  have he : 0 ≤ p.e + 1 := by have := hp.fits.e; omega
  have ht2 := ht
  unfold T at ht2
  by_cases hm : May c p u t
  · rw [nx_may hm]
    have h1 := to_in hp.fits hu t
    have hcl := newCh_len hc hp.fits t
    refine ⟨⟨he, ⟨h1.1, h1.2.1⟩, hp.fits.t, ⟨(hsp _).1, (hsp _).2.1⟩, ?_, ht, ht, ht, hu2, hs2, hpen, ⟨?_, fun v hv => ?_⟩, ?_⟩, fun v hv => ?_, Int.le_refl _, Int.le_refl _, hsu⟩
    · dsimp only
      have := hc.first
      split <;> omega
    · dsimp only; rw [hcl]; omega
    · dsimp only [newCh] at hv
      rcases List.mem_append.1 hv with hv | hv
      · exact hp.fits.ch.2 v (List.mem_of_mem_drop hv)
      · rw [List.mem_singleton.1 hv]; exact ht
    · exact sd_snoc (sd_drop hp.fits.sd _) (fun v hv => Int.le_trans (hp.ch v (List.mem_of_mem_drop hv)) hle)
    · dsimp only [newCh] at hv ⊢
      rcases List.mem_append.1 hv with hv | hv
      · exact Int.le_trans (hp.ch v (List.mem_of_mem_drop hv)) hle
      · rw [List.mem_singleton.1 hv]; exact Int.le_refl _
  · by_cases hg : Grows c p t
    · rw [nx_grow hm hg]
      refine ⟨⟨he, hp.fits.t, hp.fits.p, ⟨(hsp _).1, (hsp _).2.1⟩, ?_, ht, hp.fits.si, ht, hu2, hs2, hpen, hp.fits.ch, hp.fits.sd⟩, fun v hv => Int.le_trans (hp.ch v hv) hle, Int.le_trans hp.si hle, Int.le_refl _, hsu⟩
      dsimp only
      have h1 := hc.step
      have h2 := hp.fits.per
      omega
    · rw [nx_stay hm hg]
      exact ⟨⟨he, hp.fits.t, hp.fits.p, ⟨(hsp _).1, (hsp _).2.1⟩, hp.fits.per, ht, hp.fits.si, hp.fits.ra, hu2, hs2, hpen, hp.fits.ch, hp.fits.sd⟩, fun v hv => Int.le_trans (hp.ch v hv) hle, Int.le_trans hp.si hle, Int.le_trans hp.ra hle, hsu⟩
/-- one plan is made of the other -/
def Step (c : Gc) (a b : Pl) : Prop := ∃ up now, next c a up now = some b
theorem step_nx {c : Gc} {a b : Pl} (ha : Inv c a) (h : Step c a b) : ∃ u t, u < 2 ^ c.n ∧ T t ∧ a.st ≤ t ∧ b = nx c a u t ∧ ¬ Same a b := by
  obtain ⟨up, now, h⟩ := h
  obtain ⟨h1, h2⟩ := next_some h
  have h3 := clamp_in (now := now) ha.fits.st
  exact ⟨_, _, low_lt up c.n, h3.1, h3.2, h1, h2⟩
theorem step_inv {c : Gc} (hc : c.Ok) {a b : Pl} (ha : Inv c a) (h : Step c a b) : Inv c b := by
  obtain ⟨u, t, h1, h2, h3, rfl, -⟩ := step_nx ha h
  exact nx_inv hc ha h1 h2 h3
/-- P13.2, of one step -/
theorem step_damp {c : Gc} (hc : c.Ok) {a b : Pl} (ha : Inv c a) (h : Step c a b) : b.e = a.e + 1 ∧ a.st ≤ b.st ∧
    (a.t = b.t → a.c ≤ b.c ∧ b.si = a.si ∧ b.ch = a.ch) ∧
    (a.t ≠ b.t → (a.ch.length = 0 ∨ c.d ≤ b.st - a.ch.getD (a.ch.length - 1) 0) ∧ (a.ch.length < c.b ∨ c.w < b.st - a.ch.getD (a.ch.length - c.b) 0) ∧ b.ch = newCh c a b.st ∧ b.p = a.t ∧ b.si = b.st ∧ 0 ≤ b.t ∧ b.up.toNat.testBit b.t.toNat = true) := by
  obtain ⟨u, t, h1, h2, h3, rfl, -⟩ := step_nx ha h
  have hst := hc.step
  have hper := ha.fits.per
  by_cases hm : May c a u t
  · rw [nx_may hm]
    have hto := (to_in ha.fits h1 t).2.2 hm.1
    refine ⟨rfl, h3, fun e => absurd e.symm hm.1, fun _ => ⟨hm.2.1, hm.2.2.1, rfl, rfl, rfl, hto.1, ?_⟩⟩
    dsimp only
    rw [Int.toNat_natCast]; exact hto.2
  · by_cases hg : Grows c a t
    · rw [nx_grow hm hg]
      exact ⟨rfl, h3, fun _ => ⟨by dsimp only; omega, rfl, rfl⟩, fun q => absurd rfl q⟩
    · rw [nx_stay hm hg]
      exact ⟨rfl, h3, fun _ => ⟨Int.le_refl _, rfl, rfl⟩, fun q => absurd rfl q⟩
/-- P13.3, P13.4, of one step -/
theorem step_good {c : Gc} {a b : Pl} (ha : Inv c a) (h : Step c a b) : 0 ≤ b.s → b.up.toNat.testBit b.s.toNat = true ∧ b.s ≠ b.t := by
  obtain ⟨u, t, h1, h2, h3, rfl, -⟩ := step_nx ha h
  by_cases hm : May c a u t
  · rw [nx_may hm]
    intro h0
    have := (spill_in c (good c a u t) (to c a u t)).2.2 h0
    exact ⟨by dsimp only; rw [Int.toNat_natCast]; exact good_up this.1, this.2⟩
  · by_cases hg : Grows c a t
    · rw [nx_grow hm hg]
      intro h0
      have := (spill_in c (good c a u t) a.t).2.2 h0
      exact ⟨by dsimp only; rw [Int.toNat_natCast]; exact good_up this.1, this.2⟩
    · rw [nx_stay hm hg]
      intro h0
      have := (spill_in c (good c a u t) a.t).2.2 h0
      exact ⟨by dsimp only; rw [Int.toNat_natCast]; exact good_up this.1, this.2⟩
theorem nx_pen {c : Gc} {p : Pl} {u : Nat} {t : Int} : (nx c p u t).pen = pens c p u t ∧ (nx c p u t).up = u ∧ (nx c p u t).st = t ∧ (nx c p u t).su = sups c p u t := by
  unfold nx
  split
  · exact ⟨rfl, rfl, rfl, rfl⟩
  · split <;> exact ⟨rfl, rfl, rfl, rfl⟩
/-- penalties grow only in a fall -/
theorem step_pen {c : Gc} (hc : c.Ok) {a b : Pl} (ha : Inv c a) (h : Step c a b) {i : Nat} (hi : i < c.n) (hn : ¬ (a.up.toNat.testBit i = true ∧ b.up.toNat.testBit i = false)) : b.pen.getD i 0 ≤ a.pen.getD i 0 := by
  obtain ⟨u, t, h1, h2, h3, rfl, -⟩ := step_nx ha h
  obtain ⟨e1, e2, -, -⟩ := nx_pen (c := c) (p := a) (u := u) (t := t)
  rw [e2, Int.toNat_natCast] at hn
  rw [e1, pens_get c a u t hi]
  exact penAt_no hc ha.fits h2 h3 hn
end Go.Proofs.YtbkdenlhfigjhaaDoor.Gm

/- The plain model of stage 13: plans made of one another, and what the laws say of them. No program in it. -/
namespace Go.Proofs.YtbkdenlhfigjhaaDoor.Gm
open Go

/-- plans made of one another, from the zero plan on -/
def Chain (c : Gc) (w : List Pl) : Prop := w[0]? = some (zero c) ∧ ∀ (i : Nat) (a b : Pl), w[i]? = some a → w[i + 1]? = some b → Step c a b
theorem chain_start (c : Gc) : Chain c [zero c] := ⟨rfl, fun i a b _ h => by simp at h⟩
theorem chain_more {c : Gc} {w : List Pl} (h : Chain c w) {a b : Pl} (ha : w[w.length - 1]? = some a) (hs : Step c a b) : Chain c (w ++ [b]) := by
  have hl : 0 < w.length := by
    rcases Nat.eq_zero_or_pos w.length with q | q
    · rw [List.eq_nil_of_length_eq_zero q] at ha; cases ha
    · exact q
  refine ⟨by rw [List.getElem?_append_left hl]; exact h.1, fun i x y hx hy => ?_⟩
  have hlt : i + 1 < w.length + 1 := by
    have := (List.getElem?_eq_some_iff.1 hy).1
    rwa [List.length_append, List.length_singleton] at this
  rw [List.getElem?_append_left (by omega)] at hx
  rcases Nat.lt_or_ge (i + 1) w.length with h2 | h2
  · rw [List.getElem?_append_left h2] at hy
    exact h.2 i x y hx hy
  · rw [List.getElem?_append_right h2] at hy
    have e : i = w.length - 1 := by omega
    subst e
    rw [ha] at hx
    cases hx
    rw [show w.length - 1 + 1 - w.length = 0 by omega] at hy
    cases hy
    exact hs
theorem chain_inv {c : Gc} (hc : c.Ok) {w : List Pl} (h : Chain c w) : ∀ (i : Nat) (x : Pl), w[i]? = some x → Inv c x ∧ x.e = i
  | 0, x, hx => by rw [h.1] at hx; cases hx; exact ⟨zero_inv hc, rfl⟩
  | i + 1, x, hx => by
    have hlt := (List.getElem?_eq_some_iff.1 hx).1
    obtain ⟨a, ha⟩ : ∃ a, w[i]? = some a := ⟨w[i]'(by omega), List.getElem?_eq_getElem _⟩
    obtain ⟨h1, h2⟩ := chain_inv hc h i a ha
    have hs := h.2 i a x ha hx
    refine ⟨step_inv hc h1 hs, ?_⟩
    rw [(step_damp hc h1 hs).1, h2]; omega

/-! changes, and when they were -/
def hist : List Pl → List Int
  | a :: b :: l => (if a.t = b.t then [] else [b.st]) ++ hist (b :: l)
  | _ => []
theorem hist_snoc : ∀ (w : List Pl) (a b : Pl), hist (w ++ [a] ++ [b]) = hist (w ++ [a]) ++ (if a.t = b.t then [] else [b.st])
  | [], a, b => by
    show (if a.t = b.t then [] else [b.st]) ++ hist [b] = hist [a] ++ _
    simp [hist]
  | [x], a, b => by
    show (if x.t = a.t then [] else [a.st]) ++ ((if a.t = b.t then [] else [b.st]) ++ hist [b]) = ((if x.t = a.t then [] else [a.st]) ++ hist [a]) ++ _
    simp [hist]
  | x :: y :: w, a, b => by
    have ih := hist_snoc (y :: w) a b
    show (if x.t = y.t then [] else [y.st]) ++ hist (y :: w ++ [a] ++ [b]) = ((if x.t = y.t then [] else [y.st]) ++ hist (y :: w ++ [a])) ++ _
    rw [ih, List.append_assoc]
theorem take_two {w : List Pl} {i : Nat} {a b : Pl} (ha : w[i]? = some a) (hb : w[i + 1]? = some b) : w.take (i + 2) = w.take i ++ [a] ++ [b] ∧ w.take (i + 1) = w.take i ++ [a] := by
  have e1 : w.take (i + 1) = w.take i ++ [a] := by rw [List.take_add_one, ha]; rfl
  have e2 : w.take (i + 1 + 1) = w.take (i + 1) ++ [b] := by rw [List.take_add_one, hb]; rfl
  exact ⟨by rw [show i + 2 = i + 1 + 1 from rfl, e2, e1], e1⟩
theorem hist_take {w : List Pl} {i : Nat} {a b : Pl} (ha : w[i]? = some a) (hb : w[i + 1]? = some b) : hist (w.take (i + 2)) = hist (w.take (i + 1)) ++ (if a.t = b.t then [] else [b.st]) := by
  obtain ⟨e1, e2⟩ := take_two ha hb
  rw [e1, e2]; exact hist_snoc _ _ _
/-- the last ones -/
def lastN (n : Nat) (l : List Int) : List Int := l.drop (l.length - n)
theorem lastN_len (n : Nat) (l : List Int) : (lastN n l).length = min l.length n := by unfold lastN; rw [List.length_drop]; omega
theorem lastN_getD (n : Nat) (l : List Int) (k : Nat) : (lastN n l).getD k 0 = l.getD (l.length - n + k) 0 := by
  unfold lastN
  rw [List.getD_eq_getElem?_getD, List.getD_eq_getElem?_getD, List.getElem?_drop]
theorem chain_ch {c : Gc} (hc : c.Ok) {w : List Pl} (h : Chain c w) : ∀ (i : Nat) (x : Pl), w[i]? = some x → x.ch = lastN c.b (hist (w.take (i + 1)))
  | 0, x, hx => by
    rw [h.1] at hx
    cases hx
    have e : w.take (0 + 1) = [zero c] := by rw [List.take_add_one, h.1]; rfl
    rw [e]
    show [] = List.drop _ []
    rw [List.drop_nil]
  | i + 1, x, hx => by
    have hlt := (List.getElem?_eq_some_iff.1 hx).1
    obtain ⟨a, ha⟩ : ∃ a, w[i]? = some a := ⟨w[i]'(by omega), List.getElem?_eq_getElem _⟩
    have ih := chain_ch hc h i a ha
    obtain ⟨h1, -⟩ := chain_inv hc h i a ha
    have hd := step_damp hc h1 (h.2 i a x ha hx)
    rw [show i + 1 + 1 = i + 2 from rfl, hist_take ha hx]
    generalize hist (w.take (i + 1)) = l at *
    by_cases e : a.t = x.t
    · rw [if_pos e, List.append_nil, (hd.2.2.1 e).2.2, ih]
    · rw [if_neg e, (hd.2.2.2 e).2.2.1, newCh, ih]
      have hb := hc.b
      unfold lastN
      rw [List.length_append, List.length_singleton, List.length_drop, List.drop_drop, List.drop_append_of_le_length (by omega)]
      congr 2
      omega
/-- P13.2: of a change, with those ahead of it -/
theorem chain_damp {c : Gc} (hc : c.Ok) {w : List Pl} (h : Chain c w) {i : Nat} {a b : Pl} (ha : w[i]? = some a) (hb : w[i + 1]? = some b) (hne : a.t ≠ b.t) (l : List Int) (hl : hist (w.take (i + 1)) = l) :
    (0 < l.length → c.d ≤ b.st - l.getD (l.length - 1) 0) ∧ (c.b ≤ l.length → c.w < b.st - l.getD (l.length - c.b) 0) ∧ b.ch.length = min (l.length + 1) c.b ∧ b.ch.getD (b.ch.length - 1) 0 = b.st ∧ b.p = a.t ∧ b.si = b.st := by
  obtain ⟨h1, -⟩ := chain_inv hc h i a ha
  have hch := chain_ch hc h i a ha
  rw [hl] at hch
  obtain ⟨d1, d2, d3, d4, d5, -⟩ := (step_damp hc h1 (h.2 i a b ha hb)).2.2.2 hne
  have hbb := hc.b
  have hlen := lastN_len c.b l
  rw [hch] at d1 d2
  refine ⟨fun h0 => ?_, fun h0 => ?_, ?_, ?_, d4, d5⟩
  · rcases d1 with d1 | d1
    · omega
    · rw [lastN_getD] at d1
      rwa [show l.length - c.b + ((lastN c.b l).length - 1) = l.length - 1 by omega] at d1
  · rcases d2 with d2 | d2
    · omega
    · rw [lastN_getD] at d2
      rwa [show l.length - c.b + ((lastN c.b l).length - c.b) = l.length - c.b by omega] at d2
  · rw [d3, newCh_len hc h1.fits, hch, hlen]; omega
  · rw [d3]
    unfold newCh
    rw [List.getD_eq_getElem?_getD, List.getElem?_append_right (by rw [List.length_append, List.length_singleton]; omega), List.length_append, List.length_singleton]
    rw [show (List.drop (a.ch.length + 1 - c.b) a.ch).length + 1 - 1 - (List.drop (a.ch.length + 1 - c.b) a.ch).length = 0 by omega]
    rfl

/-! what is decided is not decided again -/
theorem low_same {p : Pl} {c : Gc} (h : Fits c p) : p.up.toNat % 2 ^ c.n = p.up.toNat := by
  refine Nat.mod_eq_of_lt ?_
  have h1 := h.up
  have h2 : (p.up.toNat : Int) < ((2 ^ c.n : Nat) : Int) := by rw [Int.toNat_of_nonneg h1.1]; exact_mod_cast h1.2
  exact_mod_cast h2
theorem low_more (p : Pl) (c : Gc) : (p.up.toNat ||| 2 ^ c.n) % 2 ^ c.n = p.up.toNat % 2 ^ c.n := by
  apply Nat.eq_of_testBit_eq
  intro b
  rw [Nat.testBit_mod_two_pow, Nat.testBit_mod_two_pow, Nat.testBit_or, Nat.testBit_two_pow]
  by_cases hb : b < c.n
  · rw [decide_eq_false (show ¬ c.n = b by omega), Bool.or_false]
  · rw [decide_eq_false hb]; rfl
theorem still_more {c : Gc} {p : Pl} (h : Fits c p) : next c p (p.up.toNat ||| 2 ^ c.n) (p.st - 5) = next c p p.up.toNat p.st := by
  have h1 := h.st
  have e : clamp (p.st - 5) p.st = clamp p.st p.st := by unfold T clamp at *; omega
  unfold next
  rw [low_more, e]
theorem still_one {c : Gc} {p q : Pl} (h : Fits c p) (hq : next c p p.up.toNat p.st = some q) : ¬ (q.t = p.t ∧ q.c = p.c ∧ q.s = p.s ∧ q.su = p.su) := by
  obtain ⟨h1, h2⟩ := next_some hq
  intro ⟨e1, e2, e3, e4⟩
  refine h2 ⟨e1, e2, ?_, e4, e3⟩
  rw [h1, nx_pen.2.1, low_same h, Int.toNat_of_nonneg h.up.1]

/-! where nothing is held against anybody -/
theorem left_zero {dt half : Int} (h : Dm.Ar 0 dt half) : Dm.left 0 dt half = 0 := by have := Dm.left_in h; omega
structure Clean (c : Gc) (p : Pl) : Prop where
  pen : ∀ i, p.pen.getD i 0 = 0
  su : p.su = 0
theorem clean_pen {c : Gc} (hc : c.Ok) {p : Pl} (hp : Inv c p) (hz : Clean c p) {u : Nat} {t : Int} (ht : T t) (hle : p.st ≤ t) {i : Nat} (hn : c.hit = 0 ∨ ¬ (p.up.toNat.testBit i = true ∧ u.testBit i = false)) : penAt c p u t i = 0 := by
  have ha := pen_ar hc hp.fits ht hle i
  rw [hz.pen i] at ha
  unfold penAt
  rw [hz.pen i, left_zero ha]
  split
  · rename_i h
    rcases hn with hn | hn
    · rw [hn]; rfl
    · exact absurd h hn
  · rfl
theorem clean_sup {c : Gc} (hc : c.Ok) {p : Pl} (hp : Inv c p) (hz : Clean c p) {u : Nat} {t : Int} (ht : T t) (hle : p.st ≤ t) {i : Nat} (hn : c.hit = 0 ∨ ¬ (p.up.toNat.testBit i = true ∧ u.testBit i = false)) : supAt c p u t i = false := by
  have h1 := hc.sup
  have h2 := hc.reu
  unfold supAt Dm.sup
  rw [clean_pen hc hp hz ht hle hn, if_neg (by omega), if_pos (by omega)]
theorem clean_good {c : Gc} (hc : c.Ok) {p : Pl} (hp : Inv c p) (hz : Clean c p) {u : Nat} (hu : u < 2 ^ c.n) {t : Int} (ht : T t) (hle : p.st ≤ t) (hn : ∀ i, c.hit = 0 ∨ ¬ (p.up.toNat.testBit i = true ∧ u.testBit i = false)) : good c p u t = u ∧ sups c p u t = 0 := by
  refine ⟨?_, ?_⟩
  · unfold good
    rw [maskOf_congr (g := fun b => u.testBit b) fun b _ => by rw [clean_sup hc hp hz ht hle (hn b)]; simp]
    exact maskOf_self hu
  · apply Nat.eq_of_testBit_eq
    intro b
    rw [sups, maskOf_bit, clean_sup hc hp hz ht hle (hn b), Bool.and_false, Nat.zero_testBit]
theorem clean_nx {c : Gc} (hc : c.Ok) {p : Pl} (hp : Inv c p) (hz : Clean c p) {u : Nat} (hu : u < 2 ^ c.n) {t : Int} (ht : T t) (hle : p.st ≤ t) (hn : ∀ i, c.hit = 0 ∨ ¬ (p.up.toNat.testBit i = true ∧ u.testBit i = false)) : Clean c (nx c p u t) := by
  obtain ⟨e1, -, -, e4⟩ := nx_pen (c := c) (p := p) (u := u) (t := t)
  refine ⟨fun i => ?_, by rw [e4, (clean_good hc hp hz hu ht hle hn).2]; rfl⟩
  rw [e1]
  rcases Nat.lt_or_ge i c.n with h | h
  · rw [pens_get c p u t h, clean_pen hc hp hz ht hle (hn i)]
  · unfold pens
    rw [List.getD_eq_getElem?_getD, List.getElem?_eq_none (by simpa using h)]; rfl
theorem clean_zero (c : Gc) : Clean c (zero c) := ⟨fun i => by
  show (List.replicate c.n (0 : Int)).getD i 0 = 0
  rw [List.getD_eq_getElem?_getD, List.getElem?_replicate]; split <;> rfl, rfl⟩
theorem chain_clean {c : Gc} (hc : c.Ok) (h0 : c.hit = 0) {w : List Pl} (h : Chain c w) : ∀ (i : Nat) (x : Pl), w[i]? = some x → Clean c x
  | 0, x, hx => by rw [h.1] at hx; cases hx; exact clean_zero c
  | i + 1, x, hx => by
    have hlt := (List.getElem?_eq_some_iff.1 hx).1
    obtain ⟨a, ha⟩ : ∃ a, w[i]? = some a := ⟨w[i]'(by omega), List.getElem?_eq_getElem _⟩
    obtain ⟨h1, -⟩ := chain_inv hc h i a ha
    have hcl := chain_clean hc h0 h i a ha
    obtain ⟨u, t, g1, g2, g3, rfl, -⟩ := step_nx h1 (h.2 i a x ha hx)
    exact clean_nx hc h1 hcl g1 g2 g3 (fun _ => .inl h0)
theorem bestTo_one (ti : List Int) (o : Nat) : ∀ k, bestTo ti (2 ^ o) k = if o < k then (o : Int) else -1
  | 0 => rfl
  | k + 1 => by
    unfold bestTo
    rw [bestTo_one ti o k, Nat.testBit_two_pow]
    by_cases e : o = k
    · subst e
      rw [decide_eq_true rfl, if_neg (Nat.lt_irrefl _), if_pos ⟨rfl, .inl (by decide)⟩, if_pos (Nat.lt_succ_self _)]
    · rw [decide_eq_false e, if_neg (by rintro ⟨h, -⟩; cases h)]
      by_cases h : o < k
      · rw [if_pos h, if_pos (by omega)]
      · rw [if_neg h, if_neg (by omega)]
/-- a target that is down is left -/
theorem leaves {c : Gc} (hc : c.Ok) (h0 : c.hit = 0) {p : Pl} (hp : Inv c p) (hz : Clean c p) (_ht0 : 0 ≤ p.t) {o : Nat} (ho : o < c.n) (hne : (o : Int) ≠ p.t) {t : Int} (ht : p.st + c.d + c.w + 1 ≤ t) (hT : t ≤ 1099511627776) :
    ∃ q, next c p (2 ^ o) t = some q ∧ q.t = o ∧ q.p = p.t ∧ q.c = 100 ∧ q.st = t := by
  have hd := hc.d
  have hw := hc.w
  have hb := hc.b
  have hst := hp.fits.st
  have hu : 2 ^ o < 2 ^ c.n := Nat.pow_lt_pow_right (by decide) ho
  have hTt : T t := by unfold T at *; omega
  have hle : p.st ≤ t := by omega
  obtain ⟨hg, -⟩ := clean_good hc hp hz hu hTt hle (fun _ => .inl h0)
  have hto : to c p (2 ^ o) t = o := by
    unfold to
    rw [hg, if_pos (Nat.ne_of_gt (Nat.two_pow_pos o))]
    show bestTo c.ti (2 ^ o) c.n = o
    rw [bestTo_one, if_pos ho]
  have hhas : has (good c p (2 ^ o) t) p.t = false := by
    rw [hg]
    unfold has
    rw [Nat.testBit_two_pow]
    by_cases h : 0 ≤ p.t
    · rw [decide_eq_false (show ¬ o = p.t.toNat by omega), Bool.and_false]
    · rw [decide_eq_false h]; rfl
  have hlast : ∀ k, k < p.ch.length → p.ch.getD k 0 ≤ p.st := fun k hk => by
    rw [List.getD_eq_getElem?_getD, List.getElem?_eq_getElem hk]
    exact hp.ch _ (List.getElem_mem hk)
  have hm : May c p (2 ^ o) t := by
    refine ⟨by rw [hto]; exact hne, ?_, ?_, .inl hhas⟩
    · rcases Nat.eq_zero_or_pos p.ch.length with h | h
      · exact .inl h
      · have := hlast (p.ch.length - 1) (by omega)
        exact .inr (by omega)
    · rcases Nat.lt_or_ge p.ch.length c.b with h | h
      · exact .inl h
      · have := hlast (p.ch.length - c.b) (by omega)
        exact .inr (by omega)
  refine ⟨nx c p (2 ^ o) t, ?_, ?_, ?_, ?_, ?_⟩
  · unfold next
    rw [Nat.mod_eq_of_lt hu, clamp_at hTt hle, if_neg]
    rw [nx_may hm]
    intro h
    exact hne (hto ▸ h.1)
  · rw [nx_may hm]; exact hto
  · rw [nx_may hm]
  · rw [nx_may hm]
    dsimp only
    rw [hhas, if_neg (by decide)]
  · rw [nx_may hm]
end Go.Proofs.YtbkdenlhfigjhaaDoor.Gm

/- The plain model of stage 13 at the config that its laws write out: what the live question asks, and the ramp. No program in it. -/
namespace Go.Proofs.YtbkdenlhfigjhaaDoor.Gm
open Go

def plain (w hit f s t : Int) : Gc := ⟨2, [1, 0], 10, 3, w, 3, hit, 1500, 700, 30, f, s, t⟩
theorem plain_ok {w hit f s t : Int} (hw : 1 ≤ w ∧ w ≤ 1048576) (hh : 0 ≤ hit ∧ hit ≤ 1000000) (hf : 1 ≤ f ∧ f ≤ 100) (hs : 1 ≤ s ∧ s ≤ 100) (ht : 1 ≤ t ∧ t ≤ 1048576) : (plain w hit f s t).Ok :=
  ⟨⟨by show 1 ≤ 2; decide, by show 2 ≤ 16; decide⟩, rfl, ⟨by show (1 : Int) ≤ 10; decide, by show (10 : Int) ≤ _; decide⟩, ⟨by show (1 : Int) ≤ 3; decide, by show (3 : Int) ≤ _; decide⟩, hw, ⟨by show 1 ≤ 3; decide, by show 3 ≤ 8; decide⟩, hh, ⟨by show (1 : Int) ≤ 1500; decide, by show (1500 : Int) ≤ _; decide⟩, ⟨by show (0 : Int) ≤ 700; decide, by show (700 : Int) < 1500; decide⟩, ⟨by show (1 : Int) ≤ 30; decide, by show (30 : Int) ≤ _; decide⟩, hf, hs, ht⟩
/-- without a fall, and with nothing held against anybody -/
theorem clean_pens {c : Gc} (hc : c.Ok) {p : Pl} (hp : Inv c p) (hz : Clean c p) {u : Nat} {t : Int} (ht : T t) (hle : p.st ≤ t) (hn : ∀ i, c.hit = 0 ∨ ¬ (p.up.toNat.testBit i = true ∧ u.testBit i = false)) : pens c p u t = List.replicate c.n 0 := by
  unfold pens
  apply List.ext_getElem?
  intro i
  rw [List.getElem?_map, List.getElem?_replicate]
  by_cases h : i < c.n
  · rw [List.getElem?_range h, if_pos h]
    show some (penAt c p u t i) = some 0
    rw [clean_pen hc hp hz ht hle (hn i)]
  · rw [List.getElem?_eq_none (by simpa using h), if_neg h]; rfl
theorem nofall {a b : Nat} (h : a &&& b = a) (c : Gc) : ∀ i, c.hit = 0 ∨ ¬ (a.testBit i = true ∧ b.testBit i = false) := fun i => .inr fun ⟨h1, h2⟩ => by
  have : (a &&& b).testBit i = a.testBit i := by rw [h]
  rw [Nat.testBit_and, h1, h2] at this
  cases this
/-- the next one, where it may change -/
theorem clean_may {c : Gc} (hc : c.Ok) {p : Pl} (hp : Inv c p) (hz : Clean c p) {u : Nat} (hu : u < 2 ^ c.n) {t : Int} (ht : T t) (hle : p.st ≤ t) (hn : ∀ i, c.hit = 0 ∨ ¬ (p.up.toNat.testBit i = true ∧ u.testBit i = false))
    (h0 : u ≠ 0) (hne : best c u ≠ p.t) (h1 : p.ch.length = 0 ∨ c.d ≤ t - p.ch.getD (p.ch.length - 1) 0) (h2 : p.ch.length < c.b ∨ c.w < t - p.ch.getD (p.ch.length - c.b) 0) (h3 : has u p.t = false ∨ c.dwell ≤ t - p.si) :
    next c p u t = some ⟨p.e + 1, best c u, p.t, spill c u (best c u), if has u p.t = true then c.first else 100, t, t, t, u, 0, List.replicate c.n 0, newCh c p t⟩ := by
  obtain ⟨hg, hs⟩ := clean_good hc hp hz hu ht hle hn
  have hto : to c p u t = best c u := by unfold to; rw [hg, if_pos h0]
  have hm : May c p u t := ⟨by rw [hto]; exact hne, h1, h2, by rw [hg]; exact h3⟩
  have e := nx_may hm
  rw [hto, hg, hs, clean_pens hc hp hz ht hle hn] at e
  unfold next
  rw [Nat.mod_eq_of_lt hu, clamp_at ht hle, e, if_neg]
  · rfl
  · intro h; exact hne h.1
/-- where it stays with its target -/
theorem clean_stay {c : Gc} (hc : c.Ok) {p : Pl} (hp : Inv c p) (hz : Clean c p) {u : Nat} (hu : u < 2 ^ c.n) {t : Int} (ht : T t) (hle : p.st ≤ t) (hn : ∀ i, c.hit = 0 ∨ ¬ (p.up.toNat.testBit i = true ∧ u.testBit i = false))
    (h0 : u ≠ 0) (he : best c u = p.t) (hup : p.up = u) (hsp : spill c u p.t = p.s) :
    (Grows c p t → next c p u t = some ⟨p.e + 1, p.t, p.p, p.s, min 100 (p.c + c.step), t, p.si, t, u, 0, List.replicate c.n 0, p.ch⟩) ∧ (¬ Grows c p t → next c p u t = none) := by
  obtain ⟨hg, hs⟩ := clean_good hc hp hz hu ht hle hn
  have hto : to c p u t = best c u := by unfold to; rw [hg, if_pos h0]
  have hm : ¬ May c p u t := fun h => h.1 (by rw [hto, he])
  refine ⟨fun hgr => ?_, fun hgr => ?_⟩
  · have e := nx_grow hm hgr
    rw [hg, hs, clean_pens hc hp hz ht hle hn, hsp] at e
    unfold next
    rw [Nat.mod_eq_of_lt hu, clamp_at ht hle, e, if_neg]
    · rfl
    · intro h
      have h5 : min 100 (p.c + c.step) = p.c := h.2.1
      have h6 := hc.step
      have h7 := hgr.1
      omega
  · have e := nx_stay hm hgr
    rw [hg, hs, clean_pens hc hp hz ht hle hn, hsp] at e
    unfold next
    rw [Nat.mod_eq_of_lt hu, clamp_at ht hle, e, if_pos]
    exact ⟨rfl, rfl, hup.symm, hz.su.symm, rfl⟩
theorem plain_best3 (w hit f s t : Int) : best (plain w hit f s t) 3 = 1 := by show bestTo [1, 0] 3 2 = 1; decide
theorem plain_best1 (w hit f s t : Int) : best (plain w hit f s t) 1 = 0 := by show bestTo [1, 0] 1 2 = 0; decide
theorem plain_spill3 (w hit f s t : Int) : spill (plain w hit f s t) 3 1 = 0 := by
  show bestTo [1, 0] (maskOf (fun j => Nat.testBit 3 j && decide ((j : Int) ≠ 1)) 2) 2 = 0; decide
theorem plain_spill1 (w hit f s t : Int) : spill (plain w hit f s t) 1 0 = -1 := by
  show bestTo [1, 0] (maskOf (fun j => Nat.testBit 1 j && decide ((j : Int) ≠ 0)) 2) 2 = -1; decide
theorem T_of {n : Int} (h1 : 0 ≤ n) (h2 : n ≤ 1099511627776) : T n := ⟨h1, h2⟩
theorem three_lt (w hit f s t : Int) : 3 < 2 ^ (plain w hit f s t).n := by show 3 < 2 ^ 2; decide
theorem one_lt (w hit f s t : Int) : 1 < 2 ^ (plain w hit f s t).n := by show 1 < 2 ^ 2; decide

/-- the live question: from the zero plan on -/
theorem plain_head {w hit f s t : Int} (hc : (plain w hit f s t).Ok) : next (plain w hit f s t) (zero (plain w hit f s t)) 3 5 = some ⟨1, 1, -1, 0, 100, 5, 5, 5, 3, 0, [0, 0], [5]⟩ := by
  have h := clean_may hc (zero_inv hc) (clean_zero _) (three_lt w hit f s t) (t := 5) (T_of (by decide) (by decide)) (by show (0 : Int) ≤ 5; decide) (nofall (a := 0) (b := 3) rfl _) (by decide) (by rw [plain_best3]; show (1 : Int) ≠ -1; decide) (.inl rfl) (.inl (by show 0 < 3; decide)) (.inl rfl)
  rw [plain_best3, plain_spill3] at h
  exact h
theorem plain_again {w hit f s t : Int} (hc : (plain w hit f s t).Ok) : next (plain w hit f s t) ⟨1, 1, -1, 0, 100, 5, 5, 5, 3, 0, [0, 0], [5]⟩ 3 5 = none := by
  have h1 := next_some (plain_head hc)
  have hi : Inv (plain w hit f s t) ⟨1, 1, -1, 0, 100, 5, 5, 5, 3, 0, [0, 0], [5]⟩ := step_inv hc (zero_inv hc) ⟨_, _, plain_head hc⟩
  have hz : Clean (plain w hit f s t) ⟨1, 1, -1, 0, 100, 5, 5, 5, 3, 0, [0, 0], [5]⟩ := ⟨fun i => by
    match i with
    | 0 => rfl
    | 1 => rfl
    | i + 2 => rfl, rfl⟩
  exact (clean_stay hc hi hz (three_lt w hit f s t) (t := 5) (T_of (by decide) (by decide)) (Int.le_refl _) (nofall (a := 3) (b := 3) rfl _) (by decide) (plain_best3 ..) rfl (plain_spill3 ..)).2 (fun h => by have := h.1; exact absurd this (by show ¬ (100 : Int) < 100; decide))

/-! the ramp -/
theorem ramp_one {w hit f s t : Int} (hc : (plain w hit f s t).Ok) : next (plain w hit f s t) (zero (plain w hit f s t)) 1 5 = some ⟨1, 0, -1, -1, 100, 5, 5, 5, 1, 0, [0, 0], [5]⟩ := by
  have h := clean_may hc (zero_inv hc) (clean_zero _) (one_lt w hit f s t) (t := 5) (T_of (by decide) (by decide)) (by show (0 : Int) ≤ 5; decide) (nofall (a := 0) (b := 1) rfl _) (by decide) (by rw [plain_best1]; show (0 : Int) ≠ -1; decide) (.inl rfl) (.inl (by show 0 < 3; decide)) (.inl rfl)
  rw [plain_best1, plain_spill1] at h
  exact h
theorem pen00 : ∀ i, ([0, 0] : List Int).getD i 0 = 0
  | 0 => rfl
  | 1 => rfl
  | _ + 2 => rfl
theorem ramp_two {w hit f s t : Int} (hc : (plain w hit f s t).Ok) : next (plain w hit f s t) ⟨1, 0, -1, -1, 100, 5, 5, 5, 1, 0, [0, 0], [5]⟩ 3 15 = some ⟨2, 1, 0, 0, f, 15, 15, 15, 3, 0, [0, 0], [5, 15]⟩ := by
  have hi : Inv (plain w hit f s t) ⟨1, 0, -1, -1, 100, 5, 5, 5, 1, 0, [0, 0], [5]⟩ := step_inv hc (zero_inv hc) ⟨_, _, ramp_one hc⟩
  have h := clean_may hc hi ⟨pen00, rfl⟩ (three_lt w hit f s t) (t := 15) (T_of (by decide) (by decide)) (by show (5 : Int) ≤ 15; decide) (nofall (a := 1) (b := 3) rfl _) (by decide) (by rw [plain_best3]; show (1 : Int) ≠ 0; decide) (.inr (by show (3 : Int) ≤ 15 - 5; decide)) (.inl (by show 1 < 3; decide)) (.inr (by show (10 : Int) ≤ 15 - 5; decide))
  rw [plain_best3, plain_spill3] at h
  exact h
/-- a plan of the ramp -/
def rp (e pc ra : Int) : Pl := ⟨e, 1, 0, 0, pc, ra, 15, ra, 3, 0, [0, 0], [5, 15]⟩
theorem rp_inv {w hit f s t : Int} (hc : (plain w hit f s t).Ok) {e pc ra : Int} (he : 0 ≤ e) (hp : 0 ≤ pc ∧ pc ≤ 100) (hr : 15 ≤ ra ∧ ra ≤ 1099511627776) : Inv (plain w hit f s t) (rp e pc ra) := by
  have hT : T ra := ⟨by omega, hr.2⟩
  have hi := step_inv hc (step_inv hc (zero_inv hc) ⟨_, _, ramp_one hc⟩) ⟨_, _, ramp_two hc⟩
  have hf := hi.fits
  refine ⟨⟨he, hf.t, hf.p, hf.s, hp, hT, hf.si, hT, hf.up, hf.su, hf.pen, hf.ch, hf.sd⟩, fun v hv => ?_, hr.1, Int.le_refl _, hi.su⟩
  have := hi.ch v hv
  exact Int.le_trans this hr.1
theorem ramp_grow {w hit f s t : Int} (hc : (plain w hit f s t).Ok) {e pc ra : Int} (he : 0 ≤ e) (hp : 0 ≤ pc ∧ pc < 100) (hr : 15 ≤ ra ∧ ra ≤ 1000000000) : next (plain w hit f s t) (rp e pc ra) 3 (ra + t) = some (rp (e + 1) (min 100 (pc + s)) (ra + t)) := by
  have ht : 1 ≤ t ∧ t ≤ 1048576 := hc.stt
  refine (clean_stay hc (rp_inv hc he ⟨hp.1, by omega⟩ ⟨hr.1, by omega⟩) ⟨pen00, rfl⟩ (three_lt w hit f s t) (t := ra + t) (T_of (by omega) (by omega)) (by show ra ≤ ra + t; omega) (nofall (a := 3) (b := 3) rfl _) (by decide) (plain_best3 ..) rfl (plain_spill3 ..)).1 ⟨hp.2, ?_⟩
  show t ≤ ra + t - ra
  omega
theorem ramp_early {w hit f s t : Int} (hc : (plain w hit f s t).Ok) {e pc ra : Int} (he : 0 ≤ e) (hp : 0 ≤ pc ∧ pc ≤ 100) (hr : 15 ≤ ra ∧ ra ≤ 1000000000) : next (plain w hit f s t) (rp e pc ra) 3 (ra + t - 1) = none := by
  have ht : 1 ≤ t ∧ t ≤ 1048576 := hc.stt
  refine (clean_stay hc (rp_inv hc he hp ⟨hr.1, by omega⟩) ⟨pen00, rfl⟩ (three_lt w hit f s t) (t := ra + t - 1) (T_of (by omega) (by omega)) (by show ra ≤ ra + t - 1; omega) (nofall (a := 3) (b := 3) rfl _) (by decide) (plain_best3 ..) rfl (plain_spill3 ..)).2 fun h => ?_
  have h2 : t ≤ ra + t - 1 - ra := h.2
  omega
end Go.Proofs.YtbkdenlhfigjhaaDoor.Gm
