/- The plain model of stage 10: times and their sums, bounded; what becomes of a probe. No program in it. -/
import Derived.Test.YtijbdkeefaaeeaaHm
namespace Go.Proofs.Ytijbdkeefaaeeaa.Pm
open Go

def T : Int := 1099511627776
/-- a time, bounded -/
def bd (n : Int) : Int := if 1099511627776 < (if n < 0 then 0 else n) then 1099511627776 else (if n < 0 then 0 else n)
theorem bd_in (n : Int) : 0 ≤ bd n ∧ bd n ≤ 1099511627776 := by unfold bd; split <;> (try split) <;> omega
theorem bd_le (n : Int) (h : 0 ≤ n) : bd n ≤ n := by unfold bd; split <;> (try split) <;> omega
theorem bd_id {n : Int} (h : 0 ≤ n) (h2 : n ≤ 1099511627776) : bd n = n := by unfold bd; rw [if_neg (by omega : ¬ n < 0), if_neg (by omega)]
theorem bd_bd (n : Int) : bd (bd n) = bd n := bd_id (bd_in n).1 (bd_in n).2
theorem bd_mono {m n : Int} (h : m ≤ n) : bd m ≤ bd n := by unfold bd; split <;> (try split) <;> (try split) <;> (try split) <;> omega
/-- one time more -/
def add (s t : Int) : Int := if 1099511627776 < s + bd t then 1099511627776 else s + bd t
theorem add_in {s : Int} (h : 0 ≤ s) (t : Int) : 0 ≤ add s t ∧ add s t ≤ 1099511627776 := by have := bd_in t; unfold add; split <;> omega
theorem add_bd {s : Int} (h : 0 ≤ s) (t : Int) : add s t = bd (s + bd t) := by
  have := bd_in t
  unfold add
  generalize bd t = b at *
  unfold bd; rw [if_neg (by omega : ¬ s + b < 0)]
def sum (l : List Int) : Int := l.foldl add 0
theorem sum_in : ∀ l : List Int, 0 ≤ sum l ∧ sum l ≤ 1099511627776 := by
  have go : ∀ (l : List Int) (s : Int), 0 ≤ s → s ≤ 1099511627776 → 0 ≤ l.foldl add s ∧ l.foldl add s ≤ 1099511627776 := by
    intro l
    induction l with
    | nil => exact fun s h1 h2 => ⟨h1, h2⟩
    | cons t l ih => intro s h1 _; exact ih _ (add_in h1 t).1 (add_in h1 t).2
  exact fun l => go l 0 (by decide) (by decide)
theorem sum_nil : sum [] = 0 := rfl
theorem sum_snoc (l : List Int) (t : Int) : sum (l ++ [t]) = add (sum l) t := by unfold sum; rw [List.foldl_append]; rfl
theorem sum_one (a : Int) : sum [a] = bd a := by
  have := bd_in a
  show add 0 a = bd a
  rw [add_bd (by decide), Int.zero_add, bd_bd]
theorem sum_two (a b : Int) : sum [a, b] = bd (bd a + bd b) := by
  show add (add 0 a) b = _
  have h : add 0 a = bd a := sum_one a
  rw [h, add_bd (bd_in a).1]

structure Pr where
  next : Int
  open_ : Bool
  nonce : Int
  since : Int
  st : Hm.Hy
  deriving DecidableEq
/-- an answer, good or bad -/
def shut (p : Pr) (good : Bool) (rise fall : Int) : Pr := { p with open_ := false, st := Hm.next p.st good rise fall }
/-- given up? -/
def due (p : Pr) (wait now : Int) : Bool := p.open_ && decide (bd (bd p.since + bd wait) ≤ bd now)
def late (p : Pr) (wait rise fall now : Int) : Pr := if due p wait now = true then shut p false rise fall else p
/-- is one sent? -/
def goes (p : Pr) (now : Int) : Bool := !p.open_ && decide (bd p.next ≤ bd now)
def sent (p : Pr) (every now nonce : Int) : Pr := { p with next := bd (bd now + bd every), open_ := true, nonce := nonce, since := bd now }
def tick (p : Pr) (every wait rise fall now nonce : Int) : Pr × Bool :=
  if goes (late p wait rise fall now) now = true then (sent (late p wait rise fall now) every now nonce, true) else (late p wait rise fall now, false)
theorem tick_go {p q : Pr} {every wait rise fall now nonce : Int} (hq : late p wait rise fall now = q) (h : goes q now = true) : tick p every wait rise fall now nonce = (sent q every now nonce, true) := by
  subst hq; unfold tick; rw [if_pos h]
theorem tick_no {p q : Pr} {every wait rise fall now nonce : Int} (hq : late p wait rise fall now = q) (h : goes q now = false) : tick p every wait rise fall now nonce = (q, false) := by
  subst hq; unfold tick; rw [if_neg (by rw [h]; decide)]
theorem late_yes {p : Pr} {wait rise fall now : Int} (h : due p wait now = true) : late p wait rise fall now = shut p false rise fall := if_pos h
theorem late_no {p : Pr} {wait rise fall now : Int} (h : due p wait now = false) : late p wait rise fall now = p := if_neg (by rw [h]; decide)
def alive (p : Pr) (rise fall nonce : Int) : Pr := if (p.open_ && decide (nonce = p.nonce)) = true then shut p true rise fall else p
theorem alive_yes {p : Pr} {rise fall nonce : Int} (h1 : p.open_ = true) (h2 : nonce = p.nonce) : alive p rise fall nonce = shut p true rise fall := if_pos (by simp [h1, h2])
theorem alive_shut {p : Pr} {rise fall nonce : Int} (h1 : p.open_ = false) : alive p rise fall nonce = p := if_neg (by simp [h1])
theorem alive_other {p : Pr} {rise fall nonce : Int} (h2 : nonce ≠ p.nonce) : alive p rise fall nonce = p := if_neg (by simp [h2])
end Go.Proofs.Ytijbdkeefaaeeaa.Pm
