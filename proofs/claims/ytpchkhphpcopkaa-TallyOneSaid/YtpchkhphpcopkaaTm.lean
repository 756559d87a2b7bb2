/- The plain model of stage 11: votes put in, those that count, what most say. No program in it. -/
import Derived.WalkKit
namespace Go.Proofs.Ytpchkhphpcopkaa.Tm
open Go

/-- a vote: whose, what it says is up, when -/
structure Vt where
  o : Int
  u : Nat
  a : Int
  deriving DecidableEq

/-- one more, in the first one's place of the same observer, or else behind all -/
def put : List Vt → Vt → List Vt
  | [], v => [v]
  | w :: l, v => if w.o = v.o then v :: l else w :: put l v
theorem put_hit {w v : Vt} {l : List Vt} (h : w.o = v.o) : put (w :: l) v = v :: l := if_pos h
theorem put_miss {w v : Vt} {l : List Vt} (h : w.o ≠ v.o) : put (w :: l) v = w :: put l v := if_neg h
/-- how many stand ahead of the first one of an observer -/
def idx : List Vt → Int → Nat
  | [], _ => 0
  | w :: l, o => if w.o = o then 0 else idx l o + 1
theorem idx_le (l : List Vt) (o : Int) : idx l o ≤ l.length := by
  induction l with
  | nil => exact Nat.le_refl _
  | cons w l ih => unfold idx; rw [List.length_cons]; split <;> omega
theorem idx_lt {l : List Vt} {o : Int} {k : Nat} {w : Vt} (h : l[k]? = some w) (hk : k < idx l o) : w.o ≠ o := by
  induction l generalizing k with
  | nil => cases h
  | cons x l ih =>
    unfold idx at hk
    split at hk
    · omega
    · cases k with
      | zero => cases h; assumption
      | succ k => exact ih (by simpa using h) (by omega)
theorem idx_at {l : List Vt} {o : Int} (h : idx l o < l.length) : ∃ w, l[idx l o]? = some w ∧ w.o = o := by
  induction l with
  | nil => cases h
  | cons x l ih =>
    unfold idx at h ⊢
    split at h
    · rw [if_pos (by assumption)]; exact ⟨x, rfl, by assumption⟩
    · rw [if_neg (by assumption)]
      rw [List.length_cons] at h
      obtain ⟨w, h1, h2⟩ := ih (by omega)
      exact ⟨w, by simpa using h1, h2⟩
/-- the first one -/
theorem idx_is {l : List Vt} {o : Int} {k : Nat} {w : Vt} (h : l[k]? = some w) (hw : w.o = o) (hb : ∀ (j : Nat) (x : Vt), j < k → l[j]? = some x → x.o ≠ o) : idx l o = k := by
  rcases Nat.lt_trichotomy (idx l o) k with hl | hl | hl
  · have hlt : idx l o < l.length := by have := (List.getElem?_eq_some_iff.1 h).1; omega
    obtain ⟨x, h1, h2⟩ := idx_at hlt
    exact absurd h2 (hb _ _ hl h1)
  · exact hl
  · exact absurd hw (idx_lt h hl)
theorem idx_none {l : List Vt} {o : Int} (hb : ∀ (j : Nat) (x : Vt), l[j]? = some x → x.o ≠ o) : idx l o = l.length := by
  have := idx_le l o
  rcases Nat.lt_or_ge (idx l o) l.length with h | h
  · obtain ⟨w, h1, h2⟩ := idx_at h
    exact absurd h2 (hb _ _ h1)
  · omega
theorem put_set {l : List Vt} {v : Vt} (h : idx l v.o < l.length) : put l v = l.set (idx l v.o) v := by
  induction l with
  | nil => cases h
  | cons x l ih =>
    unfold idx at h ⊢
    unfold put
    split at h
    · rw [if_pos (by assumption), if_pos (by assumption)]; rfl
    · rw [if_neg (by assumption), if_neg (by assumption)]
      rw [List.length_cons] at h
      rw [ih (by omega)]; rfl
theorem put_app {l : List Vt} {v : Vt} (h : idx l v.o = l.length) : put l v = l ++ [v] := by
  induction l with
  | nil => rfl
  | cons x l ih =>
    unfold idx at h
    unfold put
    split at h
    · rw [List.length_cons] at h; omega
    · rw [if_neg (by assumption)]
      rw [List.length_cons] at h
      rw [ih (by omega)]; rfl
theorem put_len (l : List Vt) (v : Vt) : (put l v).length = if idx l v.o < l.length then l.length else l.length + 1 := by
  have := idx_le l v.o
  split
  · rename_i h; rw [put_set h, List.length_set]
  · rename_i h; rw [put_app (by omega), List.length_append]; rfl
theorem put_len_le (l : List Vt) (v : Vt) : l.length ≤ (put l v).length ∧ (put l v).length ≤ l.length + 1 ∧ 0 < (put l v).length := by
  have := put_len l v
  have h2 := idx_le l v.o
  split at this <;> omega
theorem put_mem {l : List Vt} {v w : Vt} (h : w ∈ put l v) : w = v ∨ w ∈ l := by
  induction l with
  | nil => exact .inl (List.mem_singleton.1 h)
  | cons x l ih =>
    unfold put at h
    split at h
    · rcases List.mem_cons.1 h with h | h
      · exact .inl h
      · exact .inr (List.mem_cons_of_mem _ h)
    · rcases List.mem_cons.1 h with h | h
      · exact .inr (h ▸ List.mem_cons_self ..)
      · exact (ih h).imp id (List.mem_cons_of_mem _)

/-! which count -/
def Tick (n : Int) : Prop := 0 ≤ n ∧ n ≤ 1099511627776
def Fresh (n now fr : Int) (v : Vt) : Prop := (Tick v.a ∧ Tick now ∧ Tick fr ∧ 0 ≤ v.o ∧ v.o < n) ∧ v.a ≤ now ∧ now - fr ≤ v.a
instance (n : Int) : Decidable (Tick n) := inferInstanceAs (Decidable (_ ∧ _))
instance (n now fr : Int) (v : Vt) : Decidable (Fresh n now fr v) := inferInstanceAs (Decidable ((_ ∧ _) ∧ _))
def fresh (n now fr : Int) (v : Vt) : Bool := decide (Fresh n now fr v)
/-- the first ones of each observer that S does not name -/
def firsts : List Int → List Vt → List Vt
  | _, [] => []
  | S, v :: l => if v.o ∈ S then firsts S l else v :: firsts (v.o :: S) l
theorem firsts_in {S : List Int} {v : Vt} {l : List Vt} (h : v.o ∈ S) : firsts S (v :: l) = firsts S l := if_pos h
theorem firsts_out {S : List Int} {v : Vt} {l : List Vt} (h : v.o ∉ S) : firsts S (v :: l) = v :: firsts (v.o :: S) l := if_neg h
theorem firsts_snoc (S : List Int) (l : List Vt) (v : Vt) : firsts S (l ++ [v]) = firsts S l ++ (if v.o ∈ S ∨ v.o ∈ l.map Vt.o then [] else [v]) := by
  induction l generalizing S with
  | nil =>
    rw [List.nil_append]
    unfold firsts firsts
    simp
  | cons w l ih =>
    rw [List.cons_append]
    unfold firsts
    by_cases hw : w.o ∈ S
    · rw [if_pos hw, if_pos hw, ih]
      have : (v.o ∈ S ∨ v.o ∈ l.map Vt.o) ↔ (v.o ∈ S ∨ v.o ∈ (w :: l).map Vt.o) := by
        rw [List.map_cons, List.mem_cons]
        constructor
        · exact fun h => h.imp id .inr
        · rintro (h | h | h)
          · exact .inl h
          · exact .inl (h ▸ hw)
          · exact .inr h
      simp only [this]
    · rw [if_neg hw, if_neg hw, ih, List.cons_append]
      have : (v.o ∈ w.o :: S ∨ v.o ∈ l.map Vt.o) ↔ (v.o ∈ S ∨ v.o ∈ (w :: l).map Vt.o) := by
        rw [List.map_cons, List.mem_cons, List.mem_cons]
        constructor
        · rintro ((h | h) | h)
          · exact .inr (.inl h)
          · exact .inl h
          · exact .inr (.inr h)
        · rintro (h | h | h)
          · exact .inl (.inr h)
          · exact .inl (.inl h)
          · exact .inr h
      simp only [this]
theorem firsts_sub {S : List Int} {l : List Vt} {v : Vt} (h : v ∈ firsts S l) : v ∈ l ∧ v.o ∉ S := by
  induction l generalizing S with
  | nil => cases h
  | cons w l ih =>
    unfold firsts at h
    split at h
    · exact ⟨List.mem_cons_of_mem _ (ih h).1, (ih h).2⟩
    · rcases List.mem_cons.1 h with rfl | h
      · exact ⟨List.mem_cons_self .., by assumption⟩
      · exact ⟨List.mem_cons_of_mem _ (ih h).1, fun q => (ih h).2 (List.mem_cons_of_mem _ q)⟩
theorem firsts_nodup (S : List Int) (l : List Vt) : ((firsts S l).map Vt.o).Nodup := by
  induction l generalizing S with
  | nil => exact List.nodup_nil
  | cons w l ih =>
    unfold firsts
    split
    · exact ih S
    · rw [List.map_cons, List.nodup_cons]
      refine ⟨fun hm => ?_, ih _⟩
      obtain ⟨x, hx, e⟩ := List.mem_map.1 hm
      exact (firsts_sub hx).2 (e ▸ List.mem_cons_self ..)
/-- put among the first ones -/
theorem firsts_put {S : List Int} {l : List Vt} {v : Vt} (h : v.o ∉ S) : firsts S (put l v) = put (firsts S l) v := by
  induction l generalizing S with
  | nil => exact firsts_out h
  | cons w l ih =>
    by_cases e : w.o = v.o
    · rw [put_hit e, firsts_out h, firsts_out (e ▸ h), put_hit e, e]
    · rw [put_miss e]
      by_cases hw : w.o ∈ S
      · rw [firsts_in hw, firsts_in hw, ih h]
      · rw [firsts_out hw, firsts_out hw, put_miss e, ih]
        intro q
        rcases List.mem_cons.1 q with q | q
        · exact e q.symm
        · exact h q

/-- how many of them say a bit -/
def cnt (l : List Vt) (n now fr : Int) (b : Nat) : Nat := (firsts [] l).countP (fun v => fresh n now fr v && v.u.testBit b)
theorem cnt_snoc (l : List Vt) (v : Vt) (n now fr : Int) (b : Nat) : cnt (l ++ [v]) n now fr b = cnt l n now fr b + (if v.o ∈ l.map Vt.o then 0 else if fresh n now fr v = true then (if v.u.testBit b = true then 1 else 0) else 0) := by
  unfold cnt
  rw [firsts_snoc, List.countP_append]
  congr 1
  by_cases h : v.o ∈ l.map Vt.o
  · rw [if_pos (.inr h), if_pos h]; rfl
  · rw [if_neg (by rintro (q | q); cases q; exact h q), if_neg h]
    by_cases h2 : fresh n now fr v = true <;> by_cases h3 : v.u.testBit b = true <;> simp [h2, h3]
theorem cnt_nil (n now fr : Int) (b : Nat) : cnt [] n now fr b = 0 := rfl
theorem cnt_le (l : List Vt) (n now fr : Int) (b : Nat) : cnt l n now fr b ≤ l.length := by
  have h : ∀ (S : List Int) (l : List Vt), (firsts S l).length ≤ l.length := by
    intro S l
    induction l generalizing S with
    | nil => exact Nat.le_refl _
    | cons w l ih =>
      unfold firsts
      split
      · have := ih S; rw [List.length_cons]; omega
      · have := ih (w.o :: S); rw [List.length_cons, List.length_cons]; omega
  exact Nat.le_trans List.countP_le_length (h _ _)

/-! bits -/
/-- the bits below k of which more than half say that they are -/
def mask (n : Int) (f : Nat → Nat) : Nat → Nat
  | 0 => 0
  | k + 1 => if n < 2 * (f k : Int) then mask n f k ||| 2 ^ k else mask n f k
theorem mask_bit (n : Int) (f : Nat → Nat) (k b : Nat) : (mask n f k).testBit b = (decide (b < k) && decide (n < 2 * (f b : Int))) := by
  induction k with
  | zero => simp [mask]
  | succ k ih =>
    unfold mask
    by_cases h : n < 2 * (f k : Int)
    · rw [if_pos h, Nat.testBit_or, ih, Nat.testBit_two_pow]
      by_cases e : k = b
      · subst e; simp [h]
      · have h1 : decide (k = b) = false := decide_eq_false e
        rw [h1, Bool.or_false]
        by_cases h2 : b < k
        · rw [decide_eq_true h2, decide_eq_true (show b < k + 1 by omega)]
        · rw [decide_eq_false h2, decide_eq_false (show ¬ b < k + 1 by omega)]
    · rw [if_neg h, ih]
      by_cases e : k = b
      · subst e; simp [h]
      · by_cases h2 : b < k
        · rw [decide_eq_true h2, decide_eq_true (show b < k + 1 by omega)]
        · rw [decide_eq_false h2, decide_eq_false (show ¬ b < k + 1 by omega)]
theorem mask_lt (n : Int) (f : Nat → Nat) (k : Nat) : mask n f k < 2 ^ k := by
  refine Nat.lt_pow_two_of_testBit _ fun b hb => ?_
  rw [mask_bit, decide_eq_false (by omega)]; rfl
theorem mask_congr {n : Int} {f g : Nat → Nat} {k : Nat} (h : ∀ b, b < k → f b = g b) : mask n f k = mask n g k := by
  induction k with
  | zero => rfl
  | succ k ih =>
    unfold mask
    rw [ih (fun b hb => h b (by omega)), h k (by omega)]
/-- what most say -/
def tally (l : List Vt) (n now fr : Int) : Nat := if 0 < n then mask n (cnt l n now fr) 64 else 0
theorem tally_bit {l : List Vt} {n now fr : Int} (hn : 0 < n) (b : Nat) : (tally l n now fr).testBit b = (decide (b < 64) && decide (n < 2 * (cnt l n now fr b : Int))) := by
  unfold tally; rw [if_pos hn, mask_bit]
theorem tally_lt (l : List Vt) (n now fr : Int) : tally l n now fr < 18446744073709551616 := by
  unfold tally; split
  · exact mask_lt _ _ 64
  · decide
theorem bits_ext {a b : Nat} (ha : a < 18446744073709551616) (hb : b < 18446744073709551616) (h : ∀ k, k < 64 → a.testBit k = b.testBit k) : a = b := by
  apply Nat.eq_of_testBit_eq
  intro k
  by_cases hk : k < 64
  · exact h k hk
  · have e : (18446744073709551616 : Nat) ≤ 2 ^ k := by
      rw [show (18446744073709551616 : Nat) = 2 ^ 64 from rfl]; exact Nat.pow_le_pow_right (by decide) (by omega)
    rw [Nat.testBit_lt_two_pow (Nat.lt_of_lt_of_le ha e), Nat.testBit_lt_two_pow (Nat.lt_of_lt_of_le hb e)]

/-! what the laws say -/
/-- no more numbers below n than n -/
theorem few {n : Nat} {l : List Int} (hn : l.Nodup) (h : ∀ x ∈ l, 0 ≤ x ∧ x < n) : l.length ≤ n := by
  induction n generalizing l with
  | zero =>
    cases l with
    | nil => exact Nat.le_refl _
    | cons x l => have := h x (List.mem_cons_self ..); omega
  | succ n ih =>
    have h1 : (l.filter (fun x => decide (x < (n : Int)))).length ≤ n := by
      refine ih (hn.filter _) fun x hx => ?_
      rw [List.mem_filter] at hx
      exact ⟨(h x hx.1).1, of_decide_eq_true hx.2⟩
    have h2 : ∀ l : List Int, l.Nodup → (∀ x ∈ l, 0 ≤ x ∧ x < ((n + 1 : Nat) : Int)) → l.length ≤ (l.filter (fun x => decide (x < (n : Int)))).length + 1 := by
      intro l
      induction l with
      | nil => intro _ _; exact Nat.zero_le _
      | cons x l ih2 =>
        intro hn h
        rw [List.nodup_cons] at hn
        by_cases hx : x < (n : Int)
        · rw [List.filter_cons_of_pos (by simpa using hx), List.length_cons, List.length_cons]
          have := ih2 hn.2 (fun y hy => h y (List.mem_cons_of_mem _ hy))
          omega
        · rw [List.filter_cons_of_neg (by simpa using hx), List.length_cons]
          have e : l.filter (fun y => decide (y < (n : Int))) = l := by
            rw [List.filter_eq_self]
            intro y hy
            have h3 := h x (List.mem_cons_self ..)
            have h4 := h y (List.mem_cons_of_mem _ hy)
            have h5 : y ≠ x := fun q => hn.1 (q ▸ hy)
            exact decide_eq_true (by omega)
          rw [e]; exact Nat.le_refl _
    have := h2 l hn h
    omega
theorem count_both {l : List Vt} (p q : Vt → Bool) (h : ∀ v ∈ l, ¬ (p v = true ∧ q v = true)) : l.countP p + l.countP q ≤ l.length := by
  induction l with
  | nil => exact Nat.le_refl _
  | cons v l ih =>
    have := ih (fun w hw => h w (List.mem_cons_of_mem _ hw))
    have h2 := h v (List.mem_cons_self ..)
    rw [List.countP_cons, List.countP_cons, List.length_cons]
    by_cases hp : p v = true
    · rw [if_pos hp, if_neg (fun hq => h2 ⟨hp, hq⟩)]; omega
    · rw [if_neg hp]; split <;> omega
theorem count_and (l : List Vt) (p q : Vt → Bool) : l.countP (fun v => p v && q v) = (l.filter p).countP q := by
  rw [List.countP_filter]
  congr 1; funext v; exact Bool.and_comm _ _
/-- P11.2: two bits that most say: one that is fresh says both -/
theorem most_both {l : List Vt} {n : Nat} {now fr : Int} {x y : Nat} (hx : (n : Int) < 2 * (cnt l n now fr x : Int)) (hy : (n : Int) < 2 * (cnt l n now fr y : Int)) : ∃ v ∈ l, fresh n now fr v = true ∧ v.u.testBit x = true ∧ v.u.testBit y = true := by
  unfold cnt at hx hy
  rw [count_and] at hx hy
  have hf : ∀ v ∈ (firsts [] l).filter (fresh n now fr), v ∈ l ∧ fresh n now fr v = true := fun v hv => by
    rw [List.mem_filter] at hv
    exact ⟨(firsts_sub hv.1).1, hv.2⟩
  have hlen : ((firsts [] l).filter (fresh n now fr)).length ≤ n := by
    have := few (n := n) (l := ((firsts [] l).filter (fresh n now fr)).map Vt.o) ((firsts_nodup [] l).sublist (List.Sublist.map _ List.filter_sublist)) fun o ho => by
      obtain ⟨v, hv, rfl⟩ := List.mem_map.1 ho
      have h1 : Fresh n now fr v := of_decide_eq_true (hf v hv).2
      exact ⟨h1.1.2.2.2.1, h1.1.2.2.2.2⟩
    rwa [List.length_map] at this
  apply Classical.byContradiction
  intro hno
  have := count_both (l := (firsts [] l).filter (fresh n now fr)) (fun v => v.u.testBit x) (fun v => v.u.testBit y) fun v hv hb => hno ⟨v, (hf v hv).1, (hf v hv).2, hb.1, hb.2⟩
  omega

theorem countP_put_ge (p : Vt → Bool) (l : List Vt) {v : Vt} (h : p v = true) : l.countP p ≤ (put l v).countP p := by
  induction l with
  | nil => exact Nat.zero_le _
  | cons w l ih =>
    by_cases e : w.o = v.o
    · rw [put_hit e, List.countP_cons, List.countP_cons, if_pos h]; split <;> omega
    · rw [put_miss e, List.countP_cons, List.countP_cons]; omega
theorem countP_put_le (p : Vt → Bool) (l : List Vt) {v : Vt} (h : p v = false) : (put l v).countP p ≤ l.countP p := by
  induction l with
  | nil => show [v].countP p ≤ 0; simp [h]
  | cons w l ih =>
    by_cases e : w.o = v.o
    · rw [put_hit e, List.countP_cons, List.countP_cons, h]; simp
    · rw [put_miss e, List.countP_cons, List.countP_cons]; omega
/-- P11.3: one that says all takes nothing away -/
theorem tally_all {l : List Vt} {n now fr : Int} (hn : 0 < n) {v : Vt} (hv : fresh n now fr v = true) (hu : ∀ b, b < 64 → v.u.testBit b = true) (b : Nat) (h : (tally l n now fr).testBit b = true) : (tally (put l v) n now fr).testBit b = true := by
  rw [tally_bit hn] at h ⊢
  rw [Bool.and_eq_true] at h ⊢
  refine ⟨h.1, decide_eq_true ?_⟩
  have h2 := of_decide_eq_true h.2
  have h3 : cnt l n now fr b ≤ cnt (put l v) n now fr b := by
    unfold cnt
    rw [firsts_put (by intro q; cases q)]
    exact countP_put_ge _ _ (by rw [hv, hu b (of_decide_eq_true h.1)]; rfl)
  omega
/-- one that says nothing adds nothing -/
theorem tally_none {l : List Vt} {n now fr : Int} (hn : 0 < n) {v : Vt} (hu : v.u = 0) (b : Nat) (h : (tally (put l v) n now fr).testBit b = true) : (tally l n now fr).testBit b = true := by
  rw [tally_bit hn] at h ⊢
  rw [Bool.and_eq_true] at h ⊢
  refine ⟨h.1, decide_eq_true ?_⟩
  have h2 := of_decide_eq_true h.2
  have h3 : cnt (put l v) n now fr b ≤ cnt l n now fr b := by
    unfold cnt
    rw [firsts_put (by intro q; cases q)]
    exact countP_put_le _ _ (by rw [hu]; simp)
  omega
/-- one that is not fresh, behind all others, changes nothing -/
theorem tally_stale {l : List Vt} {n now fr : Int} {v : Vt} (hv : fresh n now fr v = false) : tally (l ++ [v]) n now fr = tally l n now fr := by
  unfold tally
  split
  · refine mask_congr fun b _ => ?_
    rw [cnt_snoc, hv]; split <;> rfl
  · rfl
/-- the bits of one that are not another one's -/
theorem andNot_zero {a b : Nat} (h : ∀ k, a.testBit k = true → b.testBit k = true) (hb : b < 18446744073709551616) : a &&& (18446744073709551615 - b) = 0 := by
  apply Nat.eq_of_testBit_eq
  intro k
  rw [Nat.testBit_and, Nat.zero_testBit, show 18446744073709551615 - b = 2 ^ 64 - (b + 1) by omega, Nat.testBit_two_pow_sub_succ hb]
  cases ha : a.testBit k with
  | false => rfl
  | true => rw [h k ha]; simp

/-! votes put in, one behind the other -/
def puts (l : List Vt) : List Vt := l.foldl put []
theorem puts_snoc (l : List Vt) (v : Vt) : puts (l ++ [v]) = put (puts l) v := by unfold puts; rw [List.foldl_append]; rfl
theorem puts_len (l : List Vt) : (puts l).length ≤ l.length ∧ (0 < l.length → 0 < (puts l).length) := by
  suffices h : ∀ (l acc : List Vt), (l.foldl put acc).length ≤ acc.length + l.length ∧ acc.length ≤ (l.foldl put acc).length ∧ (0 < l.length → 0 < (l.foldl put acc).length) by
    have := h l []
    exact ⟨by simpa [puts] using this.1, this.2.2⟩
  intro l
  induction l with
  | nil => intro acc; exact ⟨Nat.le_refl _, Nat.le_refl _, fun h => absurd h (Nat.lt_irrefl _)⟩
  | cons v l ih =>
    intro acc
    obtain ⟨h1, h2, h3⟩ := ih (put acc v)
    obtain ⟨p1, p2, p3⟩ := put_len_le acc v
    rw [List.foldl_cons, List.length_cons]
    exact ⟨by omega, by omega, fun _ => by omega⟩
theorem puts_all {p : Vt → Prop} {l : List Vt} (h : ∀ v ∈ l, p v) : ∀ v ∈ puts l, p v := by
  suffices H : ∀ (l acc : List Vt), (∀ v ∈ l, p v) → (∀ v ∈ acc, p v) → ∀ v ∈ l.foldl put acc, p v by
    exact H l [] h (fun _ hv => by cases hv)
  intro l
  induction l with
  | nil => intro acc _ ha; exact ha
  | cons v l ih =>
    intro acc h ha
    refine ih _ (fun w hw => h w (List.mem_cons_of_mem _ hw)) fun w hw => ?_
    rcases put_mem hw with rfl | hw
    · exact h _ (List.mem_cons_self ..)
    · exact ha w hw
/-- the last one of an observer -/
def last (o : Int) (l : List Vt) : Vt := l.foldl (fun acc v => if v.o = o then v else acc) ⟨0, 0, 0⟩
theorem last_snoc (o : Int) (l : List Vt) (v : Vt) : last o (l ++ [v]) = if v.o = o then v else last o l := by unfold last; rw [List.foldl_append]; rfl
theorem put_nodup {l : List Vt} (h : (l.map Vt.o).Nodup) (v : Vt) : ((put l v).map Vt.o).Nodup ∧ ∀ w ∈ put l v, w = v ∨ (w ∈ l ∧ w.o ≠ v.o) := by
  induction l with
  | nil => exact ⟨List.nodup_cons.2 ⟨List.not_mem_nil, List.nodup_nil⟩, fun w hw => .inl (List.mem_singleton.1 hw)⟩
  | cons x l ih =>
    rw [List.map_cons, List.nodup_cons] at h
    by_cases e : x.o = v.o
    · rw [put_hit e]
      refine ⟨by rw [List.map_cons, List.nodup_cons, ← e]; exact h, fun w hw => ?_⟩
      rcases List.mem_cons.1 hw with rfl | hw
      · exact .inl rfl
      · refine .inr ⟨List.mem_cons_of_mem _ hw, fun q => h.1 ?_⟩
        rw [e, ← q]; exact List.mem_map_of_mem hw
    · rw [put_miss e]
      obtain ⟨h1, h2⟩ := ih h.2
      refine ⟨?_, fun w hw => ?_⟩
      · rw [List.map_cons, List.nodup_cons]
        refine ⟨fun hm => ?_, h1⟩
        obtain ⟨w, hw, q⟩ := List.mem_map.1 hm
        rcases h2 w hw with rfl | ⟨hw, -⟩
        · exact e q.symm
        · exact h.1 (q ▸ List.mem_map_of_mem hw)
      · rcases List.mem_cons.1 hw with rfl | hw
        · exact .inr ⟨List.mem_cons_self .., e⟩
        · rcases h2 w hw with q | ⟨q, q2⟩
          · exact .inl q
          · exact .inr ⟨List.mem_cons_of_mem _ q, q2⟩
theorem puts_snoc_ind {p : List Vt → Prop} (h0 : p []) (h1 : ∀ l v, p l → p (l ++ [v])) (l : List Vt) : p l := by
  suffices H : ∀ (n : Nat) (l : List Vt), l.length = n → p l from H _ l rfl
  intro n
  induction n with
  | zero => intro l hl; rw [List.eq_nil_of_length_eq_zero hl]; exact h0
  | succ n ih =>
    intro l hl
    have hne : l ≠ [] := fun e => by rw [e] at hl; cases hl
    rw [← List.dropLast_concat_getLast hne]
    exact h1 _ _ (ih _ (by rw [List.length_dropLast]; omega))
theorem puts_last (l : List Vt) : ((puts l).map Vt.o).Nodup ∧ ∀ w ∈ puts l, last w.o l = w := by
  refine puts_snoc_ind (p := fun l => ((puts l).map Vt.o).Nodup ∧ ∀ w ∈ puts l, last w.o l = w) ⟨List.nodup_nil, fun _ hw => by cases hw⟩ ?_ l
  intro l v ⟨h1, h2⟩
  obtain ⟨h3, h4⟩ := put_nodup h1 v
  rw [puts_snoc]
  refine ⟨h3, fun w hw => ?_⟩
  rw [last_snoc]
  rcases h4 w hw with rfl | ⟨hw, hne⟩
  · rw [if_pos rfl]
  · rw [if_neg (Ne.symm hne)]; exact h2 w hw
theorem nodup_ne {l : List Vt} (h : (l.map Vt.o).Nodup) {i k : Nat} (hk : k < i) {x y : Vt} (hx : l[k]? = some x) (hy : l[i]? = some y) : x.o ≠ y.o := by
  have := List.pairwise_iff_getElem.1 h k i (by rw [List.length_map]; exact (List.getElem?_eq_some_iff.1 hx).1) (by rw [List.length_map]; exact (List.getElem?_eq_some_iff.1 hy).1) hk
  obtain ⟨q1, rfl⟩ := List.getElem?_eq_some_iff.1 hx
  obtain ⟨q2, rfl⟩ := List.getElem?_eq_some_iff.1 hy
  simpa using this

/-! all alike -/
def alike (m : Nat) (at_ : Int) (n : Nat) : List Vt := (List.range n).map (fun (i : Nat) => (⟨(i : Int), m, at_⟩ : Vt))
theorem alike_len (m : Nat) (a : Int) (n : Nat) : (alike m a n).length = n := by unfold alike; simp
theorem alike_succ (m : Nat) (a : Int) (n : Nat) : put (alike m a n) ⟨n, m, a⟩ = alike m a (n + 1) := by
  rw [put_app, alike, alike, List.range_succ, List.map_append]; rfl
  refine idx_none fun j x hx => ?_
  unfold alike at hx
  rw [List.getElem?_map] at hx
  cases hj : (List.range n)[j]? with
  | none => rw [hj] at hx; cases hx
  | some i =>
    rw [hj] at hx
    cases hx
    have hi : i < n := List.mem_range.1 (List.mem_of_getElem? hj)
    show (i : Int) ≠ (n : Int)
    omega
theorem alike_cnt (m : Nat) (a : Int) (k : Nat) (n : Int) (now fr : Int) (b : Nat) (hk : (k : Int) ≤ n) : cnt (alike m a k) n now fr b = if fresh n now fr ⟨0, m, a⟩ = true then (if m.testBit b = true then k else 0) else 0 := by
  induction k with
  | zero => show cnt [] n now fr b = _; rw [cnt_nil]; split <;> (try split) <;> rfl
  | succ k ih =>
    have e : alike m a (k + 1) = alike m a k ++ [⟨k, m, a⟩] := by rw [alike, alike, List.range_succ, List.map_append]; rfl
    have hno : ((k : Int)) ∉ (alike m a k).map Vt.o := fun hm => by
      obtain ⟨v, hv, q⟩ := List.mem_map.1 hm
      unfold alike at hv
      obtain ⟨i, hi, rfl⟩ := List.mem_map.1 hv
      have : i < k := List.mem_range.1 hi
      have q2 : (i : Int) = (k : Int) := q
      omega
    have hf : fresh n now fr ⟨k, m, a⟩ = fresh n now fr ⟨0, m, a⟩ := by
      unfold fresh
      refine decide_eq_decide.2 ?_
      unfold Fresh
      dsimp only
      constructor <;> rintro ⟨⟨h1, h2, h3, h4, h5⟩, h6, h7⟩ <;> exact ⟨⟨h1, h2, h3, by omega, by omega⟩, h6, h7⟩
    rw [e, cnt_snoc, if_neg hno, ih (by omega)]
    dsimp only
    rw [hf]
    split
    · split <;> rfl
    · rfl
theorem alike_tally {m : Nat} (hm : m < 18446744073709551616) {a : Int} {n : Nat} (hn : 0 < n) {now fr : Int} : tally (alike m a n) n now fr = if fresh n now fr ⟨0, m, a⟩ = true then m else 0 := by
  refine bits_ext (tally_lt _ _ _ _) (by split; exact hm; decide) fun b hb => ?_
  rw [tally_bit (by omega), decide_eq_true hb, Bool.true_and, alike_cnt _ _ _ _ _ _ _ (Int.le_refl _)]
  split
  · cases hbit : m.testBit b with
    | true => rw [if_pos rfl]; exact decide_eq_true (by omega)
    | false => rw [if_neg (by decide)]; exact decide_eq_false (by omega)
  · rw [Nat.zero_testBit]; exact decide_eq_false (by omega)

/-! one, two -/
theorem one_fresh (n : Int) (o : Int) (u : Nat) {now : Int} (ho : 0 ≤ o ∧ o < n) (h : 0 ≤ now ∧ now ≤ 65535) : fresh n now 0 ⟨o, u, now⟩ = true :=
  decide_eq_true ⟨⟨⟨h.1, by show now ≤ _; omega⟩, ⟨h.1, by omega⟩, ⟨Int.le_refl _, by decide⟩, ho.1, ho.2⟩, Int.le_refl _, by show now - 0 ≤ now; omega⟩
theorem one_cnt (a : Nat) {n : Int} (hn : 1 ≤ n) {now : Int} (h : 0 ≤ now ∧ now ≤ 65535) (b : Nat) : cnt [⟨0, a, now⟩] n now 0 b = if a.testBit b = true then 1 else 0 := by
  have := cnt_snoc [] ⟨0, a, now⟩ n now 0 b
  rw [List.nil_append] at this
  rw [this, cnt_nil, if_neg (by intro q; cases q), if_pos (one_fresh n 0 a ⟨Int.le_refl _, by omega⟩ h), Nat.zero_add]
theorem two_cnt (a c : Nat) {n : Int} (hn : 2 ≤ n) {now : Int} (h : 0 ≤ now ∧ now ≤ 65535) (b : Nat) : cnt [⟨0, a, now⟩, ⟨1, c, now⟩] n now 0 b = (if a.testBit b = true then 1 else 0) + (if c.testBit b = true then 1 else 0) := by
  have := cnt_snoc [⟨0, a, now⟩] ⟨1, c, now⟩ n now 0 b
  rw [show [(⟨0, a, now⟩ : Vt)] ++ [⟨1, c, now⟩] = [⟨0, a, now⟩, ⟨1, c, now⟩] from rfl] at this
  have hno : ((⟨1, c, now⟩ : Vt)).o ∉ ([⟨0, a, now⟩] : List Vt).map Vt.o := by simp
  rw [this, one_cnt a (by omega) h, if_neg hno, if_pos (one_fresh n 1 c ⟨by decide, by omega⟩ h)]
theorem one_one {a : Nat} (ha : a < 18446744073709551616) {now : Int} (h : 0 ≤ now ∧ now ≤ 65535) : tally [⟨0, a, now⟩] 1 now 0 = a := by
  refine bits_ext (tally_lt _ _ _ _) ha fun b hb => ?_
  rw [tally_bit (by decide), decide_eq_true hb, Bool.true_and, one_cnt a (by decide) h]
  cases a.testBit b <;> decide
theorem one_two (a : Nat) {now : Int} (h : 0 ≤ now ∧ now ≤ 65535) : tally [⟨0, a, now⟩] 2 now 0 = 0 := by
  refine bits_ext (tally_lt _ _ _ _) (by decide) fun b hb => ?_
  rw [tally_bit (by decide), decide_eq_true hb, Bool.true_and, one_cnt a (by decide) h, Nat.zero_testBit]
  cases a.testBit b <;> decide
theorem two_two {a c : Nat} (ha : a < 18446744073709551616) {now : Int} (h : 0 ≤ now ∧ now ≤ 65535) {n : Int} (hn : n = 2 ∨ n = 3) : tally [⟨0, a, now⟩, ⟨1, c, now⟩] n now 0 = a &&& c := by
  refine bits_ext (tally_lt _ _ _ _) (Nat.lt_of_le_of_lt Nat.and_le_left ha) fun b hb => ?_
  rw [tally_bit (by omega), decide_eq_true hb, Bool.true_and, two_cnt a c (by omega) h, Nat.testBit_and]
  rcases hn with rfl | rfl <;> cases a.testBit b <;> cases c.testBit b <;> decide
theorem two_four (a c : Nat) {now : Int} (h : 0 ≤ now ∧ now ≤ 65535) : tally [⟨0, a, now⟩, ⟨1, c, now⟩] 4 now 0 = 0 := by
  refine bits_ext (tally_lt _ _ _ _) (by decide) fun b hb => ?_
  rw [tally_bit (by decide), decide_eq_true hb, Bool.true_and, two_cnt a c (by decide) h, Nat.zero_testBit]
  cases a.testBit b <;> cases c.testBit b <;> decide
end Go.Proofs.Ytpchkhphpcopkaa.Tm
