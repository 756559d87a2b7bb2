/- The plain model of stage 8: what clocks gain in steps, and whether they drift. No program in it. -/
import Derived.WalkKit
namespace Go.Proofs.Ytfdpogbhhocaeaa.Cl
open Go

/-- a step counts -/
def isS (p : Int × Int) : Prop := 0 ≤ p.1 ∧ 0 ≤ p.2 ∧ p.2 ≤ 1099511627776
instance (p : Int × Int) : Decidable (isS p) := by unfold isS; infer_instance
/-- what a step gives a node -/
def gives (p : Int × Int) (x : Int) : Int := if isS p ∧ p.1 = x then p.2 else 0
theorem gives_pos (p : Int × Int) (x : Int) : 0 ≤ gives p x ∧ gives p x ≤ 1099511627776 := by
  unfold gives
  split
  · rename_i h; exact ⟨h.1.2.1, h.1.2.2⟩
  · omega
theorem gives_no {p : Int × Int} (h : ¬ isS p) (x : Int) : gives p x = 0 := if_neg (fun q => h q.1)
theorem gives_neg (p : Int × Int) {x : Int} (h : x < 0) : gives p x = 0 := if_neg (fun q => by have := q.1.1; have := q.2; omega)
def gain : List (Int × Int) → Int → Int
  | [], _ => 0
  | p :: l, x => gives p x + gain l x
theorem gain_nil (x : Int) : gain [] x = 0 := rfl
theorem gain_cons (p : Int × Int) (l : List (Int × Int)) (x : Int) : gain (p :: l) x = gives p x + gain l x := rfl
theorem gain_app (a b : List (Int × Int)) (x : Int) : gain (a ++ b) x = gain a x + gain b x := by
  induction a with
  | nil => rw [List.nil_append, gain_nil]; omega
  | cons p a ih => rw [List.cons_append, gain_cons, gain_cons, ih]; omega
theorem gain_pos (l : List (Int × Int)) (x : Int) : 0 ≤ gain l x := by
  induction l with
  | nil => exact Int.le_refl 0
  | cons p l ih => rw [gain_cons]; have := (gives_pos p x).1; omega
theorem gain_most (l : List (Int × Int)) (x : Int) : gain l x ≤ 1099511627776 * (l.length : Int) := by
  induction l with
  | nil => exact Int.le_refl 0
  | cons p l ih => rw [gain_cons, List.length_cons]; have := (gives_pos p x).2; omega
theorem gain_neg (l : List (Int × Int)) {x : Int} (h : x < 0) : gain l x = 0 := by
  induction l with
  | nil => rfl
  | cons p l ih => rw [gain_cons, gives_neg p h, ih]; rfl

/-- the row of steps from i to k -/
def row (l : List (Int × Int)) (i k : Nat) : List (Int × Int) := (l.take k).drop i
/-- what was gained in the first k -/
def G (l : List (Int × Int)) (k : Nat) (x : Int) : Int := gain (l.take k) x
theorem gain_row (l : List (Int × Int)) {i k : Nat} (h : i ≤ k) (x : Int) : gain (row l i k) x = G l k x - G l i x := by
  have e : (l.take k).take i = l.take i := by rw [List.take_take, Nat.min_eq_left h]
  have := gain_app ((l.take k).take i) ((l.take k).drop i) x
  rw [List.take_append_drop, e] at this
  unfold G row
  omega
theorem G_all (l : List (Int × Int)) {k : Nat} (h : l.length ≤ k) (x : Int) : G l k x = gain l x := by unfold G; rw [List.take_of_length_le h]

/-- of one row, told by what its nodes gain -/
def Hd (f : Int → Int) (some : List Int) (much : Int) (others : List Int) (least : Int) : Prop := (∃ a ∈ some, much ≤ f a) → ∀ b ∈ others, least ≤ f b
def Dr (l : List (Int × Int)) (some : List Int) (much : Int) (others : List Int) (least : Int) : Prop := ∀ i k, i ≤ k → k ≤ l.length → Hd (fun x => G l k x - G l i x) some much others least
theorem dr_rows {l : List (Int × Int)} {some others : List Int} {much least : Int} : Dr l some much others least ↔ ∀ i k, i ≤ k → k ≤ l.length → Hd (gain (row l i k)) some much others least := by
  unfold Dr
  constructor
  · intro h i k hik hk
    have := h i k hik hk
    unfold Hd at this ⊢
    simp only [gain_row l hik]
    exact this
  · intro h i k hik hk
    have := h i k hik hk
    unfold Hd at this ⊢
    simp only [gain_row l hik] at this
    exact this

theorem Hd.few {f : Int → Int} {some some' others others' : List Int} {much least : Int} (h : Hd f some much others least) (hs : ∀ a ∈ some', a ∈ some) (ho : ∀ b ∈ others', b ∈ others) : Hd f some' much others' least :=
  fun ⟨a, ha, hm⟩ b hb => h ⟨a, hs a ha, hm⟩ b (ho b hb)
theorem Hd.easy {f : Int → Int} {some others : List Int} {much least much' least' : Int} (h : Hd f some much others least) (hm : much ≤ much') (hl : least' ≤ least) : Hd f some much' others least' :=
  fun ⟨a, ha, h1⟩ b hb => Int.le_trans hl (h ⟨a, ha, Int.le_trans hm h1⟩ b hb)
theorem Dr.few {l : List (Int × Int)} {some some' others others' : List Int} {much least : Int} (h : Dr l some much others least) (hs : ∀ a ∈ some', a ∈ some) (ho : ∀ b ∈ others', b ∈ others) : Dr l some' much others' least :=
  fun i k hi hk => (h i k hi hk).few hs ho
theorem Dr.easy {l : List (Int × Int)} {some others : List Int} {much least much' least' : Int} (h : Dr l some much others least) (hm : much ≤ much') (hl : least' ≤ least) : Dr l some much' others least' :=
  fun i k hi hk => (h i k hi hk).easy hm hl
theorem G_mono (l : List (Int × Int)) {i k : Nat} (h : i ≤ k) (x : Int) : G l i x ≤ G l k x := by
  have := gain_row l h x
  have := gain_pos (row l i k) x
  omega
theorem dr_zero (l : List (Int × Int)) (some : List Int) (much : Int) (others : List Int) {least : Int} (h : least ≤ 0) : Dr l some much others least :=
  fun i k hi _ _ b _ => by have := G_mono l hi b; show _ ≤ G l k b - G l i b; omega
theorem dr_noone (l : List (Int × Int)) (much : Int) (others : List Int) (least : Int) : Dr l [] much others least := fun _ _ _ _ ⟨_, h, _⟩ => absurd h List.not_mem_nil
theorem dr_others (l : List (Int × Int)) (some : List Int) (much least : Int) : Dr l some much [] least := fun _ _ _ _ _ _ h => absurd h List.not_mem_nil

/-- a row of it -/
theorem G_sub (l : List (Int × Int)) {a b j : Nat} (hb : a + j ≤ b) (x : Int) : G (row l a b) j x = G l (a + j) x - G l a x := by
  have h1 := gain_row l (show a ≤ a + j by omega) x
  have e : (row l a b).take j = row l a (a + j) := by
    unfold row
    rw [List.take_drop, List.take_take, Nat.min_eq_left hb]
  unfold G
  rw [e, h1]
  rfl
theorem Dr.row {l : List (Int × Int)} {some others : List Int} {much least : Int} (h : Dr l some much others least) {a b : Nat} (hb : b ≤ l.length) : Dr (Cl.row l a b) some much others least := by
  intro i k hi hk
  have hl : (Cl.row l a b).length = b - a := by unfold Cl.row; rw [List.length_drop, List.length_take, Nat.min_eq_left hb]
  rw [hl] at hk
  by_cases h0 : k = 0
  · subst h0
    obtain rfl : i = 0 := by omega
    have h00 := h 0 0 (Nat.le_refl _) (Nat.zero_le _)
    intro ha c hc
    have := h00 (ha.imp fun x hx => ⟨hx.1, by have := hx.2; dsimp only at this ⊢; omega⟩) c hc
    dsimp only at this ⊢
    omega
  · have h2 := h (a + i) (a + k) (by omega) (by omega)
    intro ha c hc
    have e : ∀ x, G (Cl.row l a b) k x - G (Cl.row l a b) i x = G l (a + k) x - G l (a + i) x := fun x => by
      rw [G_sub l (by omega), G_sub l (by omega)]; omega
    show least ≤ G (Cl.row l a b) k c - G (Cl.row l a b) i c
    rw [e]
    exact h2 (ha.imp fun x hx => ⟨hx.1, by have h3 : much ≤ G (Cl.row l a b) k x - G (Cl.row l a b) i x := hx.2; rw [e] at h3; exact h3⟩) c hc

/-- a step of nobody put in -/
theorem G_put (l : List (Int × Int)) (a : Nat) (ha : a ≤ l.length) {p : Int × Int} (hp : ¬ isS p) (k : Nat) (x : Int) : G (l.take a ++ (p :: l.drop a)) k x = if k ≤ a then G l k x else G l (k - 1) x := by
  have hla : (l.take a).length = a := by rw [List.length_take, Nat.min_eq_left ha]
  split
  · rename_i h
    unfold G
    rw [List.take_append_of_le_length (by omega), List.take_take, Nat.min_eq_left h]
  · rename_i h
    unfold G
    rw [List.take_append, hla, List.take_of_length_le (by omega), gain_app]
    obtain ⟨m, hm⟩ : ∃ m, k - a = m + 1 := ⟨k - a - 1, by omega⟩
    rw [hm, List.take_succ_cons, gain_cons, gives_no hp]
    have h2 := gain_app (l.take a) ((l.drop a).take m) x
    have e : l.take a ++ (l.drop a).take m = l.take (k - 1) := by
      rw [show k - 1 = a + m by omega, List.take_add]
    rw [e] at h2
    rw [h2]
    omega
theorem dr_put {l : List (Int × Int)} {a : Nat} (ha : a ≤ l.length) {p : Int × Int} (hp : ¬ isS p) {some others : List Int} {much least : Int} :
    Dr (l.take a ++ (p :: l.drop a)) some much others least ↔ Dr l some much others least := by
  have hlen : (l.take a ++ (p :: l.drop a)).length = l.length + 1 := by
    rw [List.length_append, List.length_take, List.length_cons, List.length_drop, Nat.min_eq_left ha]; omega
  constructor
  · intro h i k hi hk
    have h2 := h (if i ≤ a then i else i + 1) (if k ≤ a then k else k + 1) (by split <;> split <;> omega) (by rw [hlen]; split <;> omega)
    have e : ∀ j x, G (l.take a ++ (p :: l.drop a)) (if j ≤ a then j else j + 1) x = G l j x := fun j x => by
      rw [G_put l a ha hp]
      by_cases hj : j ≤ a
      · rw [if_pos hj, if_pos hj]
      · rw [if_neg hj, if_neg (by omega), Nat.add_sub_cancel]
    intro hs c hc
    have h3 := h2 (hs.imp fun x hx => ⟨hx.1, by have := hx.2; dsimp only at this ⊢; rw [e, e]; exact this⟩) c hc
    dsimp only at h3 ⊢
    rw [e, e] at h3
    exact h3
  · intro h i k hi hk
    rw [hlen] at hk
    have h2 := h (if i ≤ a then i else i - 1) (if k ≤ a then k else k - 1) (by split <;> split <;> omega) (by split <;> omega)
    have e : ∀ j x, G (l.take a ++ (p :: l.drop a)) j x = G l (if j ≤ a then j else j - 1) x := fun j x => by
      rw [G_put l a ha hp]
      split <;> rfl
    intro hs c hc
    have h3 := h2 (hs.imp fun x hx => ⟨hx.1, by have := hx.2; dsimp only at this ⊢; rw [e, e] at this; exact this⟩) c hc
    dsimp only at h3 ⊢
    rw [e, e]
    exact h3

/-- rounds: in each one all nodes below n go on by the same -/
def round (n : Nat) (b : Int) : List (Int × Int) := (List.range n).map fun (k : Nat) => ((k : Int), b)
def rounds (n : Nat) : List Int → List (Int × Int)
  | [] => []
  | b :: by_ => round n b ++ rounds n by_
def psum : List Int → Nat → Int
  | [], _ => 0
  | _, 0 => 0
  | b :: by_, r + 1 => b + psum by_ r
theorem round_len (n : Nat) (b : Int) : (round n b).length = n := by unfold round; rw [List.length_map, List.length_range]
theorem rounds_len (n : Nat) (bs : List Int) : (rounds n bs).length = bs.length * n := by
  induction bs with
  | nil => show 0 = 0 * n; omega
  | cons b bs ih => show (round n b ++ rounds n bs).length = _; rw [List.length_append, round_len, ih, List.length_cons, Nat.add_mul]; omega
/-- in a part of a round a node gains all of it, or nothing -/
theorem gain_part (n : Nat) {b : Int} (hb : 0 ≤ b ∧ b ≤ 1099511627776) : ∀ (c : Nat), c ≤ n → ∀ x : Nat, gain ((round n b).take c) (x : Int) = if x < c then b else 0 := by
  intro c
  induction c with
  | zero => intro _ x; rw [List.take_zero, if_neg (by omega)]; rfl
  | succ c ih =>
    intro hc x
    have e : (round n b).take (c + 1) = (round n b).take c ++ [((c : Int), b)] := by
      rw [List.take_add_one]
      congr 1
      unfold round
      rw [List.getElem?_map, List.getElem?_range (by omega)]
      rfl
    have g : gives ((c : Int), b) (x : Int) = if x = c then b else 0 := by
      unfold gives
      by_cases h : x = c
      · subst h
        rw [if_pos rfl, if_pos ⟨⟨by show (0 : Int) ≤ (x : Int); omega, hb.1, hb.2⟩, rfl⟩]
      · rw [if_neg h, if_neg]
        intro q
        have q2 : (c : Int) = (x : Int) := q.2
        omega
    rw [e, gain_app, ih (by omega), gain_cons, gain_nil, g]
    split <;> split <;> split <;> omega
theorem G_rounds {n : Nat} {most : Int} (hm : 0 ≤ most) (bs : List Int) : (∀ b ∈ bs, 0 ≤ b ∧ b ≤ 1099511627776 ∧ b ≤ most) → ∀ (k : Nat), ∃ p : Int, ∀ x : Nat, x < n → p ≤ G (rounds n bs) k (x : Int) ∧ G (rounds n bs) k (x : Int) ≤ p + most := by
  induction bs with
  | nil =>
    intro _ k
    refine ⟨0, fun x _ => ?_⟩
    have : G (rounds n []) k (x : Int) = 0 := by show gain (([] : List (Int × Int)).take k) _ = 0; rw [List.take_nil]; rfl
    rw [this]
    omega
  | cons b bs ih =>
    intro hb k
    have hb0 := hb b (List.mem_cons_self ..)
    have hr := round_len n b
    by_cases hk : k ≤ n
    · refine ⟨0, fun x hx => ?_⟩
      have e : G (rounds n (b :: bs)) k (x : Int) = if x < k then b else 0 := by
        show gain ((round n b ++ rounds n bs).take k) _ = _
        rw [List.take_append_of_le_length (by omega)]
        exact gain_part n ⟨hb0.1, hb0.2.1⟩ k hk x
      rw [e]
      split <;> omega
    · obtain ⟨p, hp⟩ := ih (fun c hc => hb c (List.mem_cons_of_mem _ hc)) (k - n)
      refine ⟨b + p, fun x hx => ?_⟩
      have e : G (rounds n (b :: bs)) k (x : Int) = b + G (rounds n bs) (k - n) (x : Int) := by
        show gain ((round n b ++ rounds n bs).take k) _ = _
        rw [List.take_append, hr, List.take_of_length_le (by omega), gain_app]
        have h1 := gain_part n ⟨hb0.1, hb0.2.1⟩ n (Nat.le_refl _) x
        rw [List.take_of_length_le (by omega), if_pos hx] at h1
        rw [h1]
        rfl
      rw [e]
      have := hp x hx
      omega
theorem dr_rounds {n : Nat} {most : Int} (hm : 0 ≤ most) {bs : List Int} (hb : ∀ b ∈ bs, 0 ≤ b ∧ b ≤ 1099511627776 ∧ b ≤ most) (all : List Int) (ha : ∀ a ∈ all, 0 ≤ a ∧ a < (n : Int)) (least : Int) : Dr (rounds n bs) all (least + 2 * most + 1) all least := by
  intro i k hi hk ⟨a, haa, h1⟩ c hc
  obtain ⟨p, hp⟩ := G_rounds (n := n) hm bs hb i
  obtain ⟨q, hq⟩ := G_rounds (n := n) hm bs hb k
  obtain ⟨a', rfl⟩ := Int.eq_ofNat_of_zero_le (ha a haa).1
  obtain ⟨c', rfl⟩ := Int.eq_ofNat_of_zero_le (ha c hc).1
  have h2 := (ha _ haa).2
  have h3 := (ha _ hc).2
  have a1 := hp a' (by omega)
  have a2 := hq a' (by omega)
  have c1 := hp c' (by omega)
  have c2 := hq c' (by omega)
  dsimp only at h1 ⊢
  omega
end Go.Proofs.Ytfdpogbhhocaeaa.Cl
