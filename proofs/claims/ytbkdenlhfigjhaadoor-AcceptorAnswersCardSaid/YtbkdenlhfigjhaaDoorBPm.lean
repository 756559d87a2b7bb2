/- The plain model of plans: what is right, its bytes, what is read of bytes. No program in it. -/
import Derived.Test.YtbkdenlhfigjhaaDoorBWm
namespace Go.Proofs.YtbkdenlhfigjhaaDoor.Pm
open Go.RowKit

/-- a plan: ten numbers and two lists -/
structure Pl where
  e : Int
  t : Int
  p : Int
  s : Int
  c : Int
  st : Int
  si : Int
  ra : Int
  up : Int
  su : Int
  pen : List Int
  ch : List Int
  deriving DecidableEq

def I (n : Int) : Prop := -9223372036854775808 ≤ n ∧ n ≤ 9223372036854775807
def U (n : Int) : Prop := 0 ≤ n ∧ n ≤ 18446744073709551615

/-- its numbers are what their types hold -/
structure Pl.Ok (x : Pl) : Prop where
  e : I x.e
  t : I x.t
  p : I x.p
  s : I x.s
  c : I x.c
  st : I x.st
  si : I x.si
  ra : I x.ra
  up : U x.up
  su : U x.su
  pen : Wm.Fits x.pen
  ch : Wm.Fits x.ch

/-- a number of 64 bits without a sign as one with -/
def sg (n : Int) : Int := if n ≤ 9223372036854775807 then n else n - 18446744073709551616
def us (n : Int) : Int := if 0 ≤ n then n else n + 18446744073709551616

theorem sg_wrap {n : Int} (h : U n) : IntKind.i64.wrap n = sg n := by
  unfold U at h
  unfold sg
  by_cases h1 : n ≤ 9223372036854775807
  · rw [if_pos h1]
    simp [IntKind.wrap, IntKind.signed, IntKind.bits]
    omega
  · rw [if_neg h1]
    simp [IntKind.wrap, IntKind.signed, IntKind.bits]
    omega
theorem us_wrap {n : Int} (h : I n) : IntKind.u64.wrap n = us n := by
  unfold I at h
  unfold us
  by_cases h1 : 0 ≤ n
  · rw [if_pos h1]
    simp [IntKind.wrap, IntKind.signed, IntKind.bits]
    omega
  · rw [if_neg h1]
    simp [IntKind.wrap, IntKind.signed, IntKind.bits]
    omega
theorem sg_fit {n : Int} (h : U n) : I (sg n) := by unfold U at h; unfold I sg; split <;> omega
theorem us_fit {n : Int} (h : I n) : U (us n) := by unfold I at h; unfold U us; split <;> omega
theorem us_sg {n : Int} (h : U n) : us (sg n) = n := by unfold U at h; unfold us sg; split <;> split <;> omega
theorem sg_us {n : Int} (h : I n) : sg (us n) = n := by unfold I at h; unfold us sg; split <;> split <;> omega
theorem sg_inj {a b : Int} (ha : U a) (hb : U b) (h : sg a = sg b) : a = b := by rw [← us_sg ha, h, us_sg hb]

def Pl.nums (x : Pl) : List Int := [x.e, x.t, x.p, x.s, x.c, x.st, x.si, x.ra, sg x.up, sg x.su]
theorem nums10 {x : Pl} : x.nums.length ≤ 64 := by show 10 ≤ 64; decide
theorem Pl.nums_fit {x : Pl} (h : x.Ok) : Wm.Fits x.nums := by
  intro n hn
  have h1 := sg_fit h.up
  have h2 := sg_fit h.su
  simp only [Pl.nums, List.mem_cons, List.not_mem_nil, or_false] at hn
  rcases hn with rfl | rfl | rfl | rfl | rfl | rfl | rfl | rfl | rfl | rfl
  · exact h.e
  · exact h.t
  · exact h.p
  · exact h.s
  · exact h.c
  · exact h.st
  · exact h.si
  · exact h.ra
  · exact h1
  · exact h2

def lows : List Int := [0, -1, -1, -1, 0, 0, 0, 0, 0, 0]
def tops : List Int := [9223372036854775807, 15, 15, 15, 100, 1099511627776, 1099511627776, 1099511627776, 65535, 65535]

/-- the number at k is one that may be there -/
def At (ns : List Int) (k : Nat) : Prop := lows.getD k 0 ≤ ns.getD k 0 ∧ ns.getD k 0 ≤ tops.getD k 0
def Bd (l : List Int) (size : Nat) (most : Int) : Prop := l.length ≤ size ∧ ∀ n ∈ l, 0 ≤ n ∧ n ≤ most
def Sd (l : List Int) : Prop := ∀ k, k + 1 < l.length → l.getD k 0 ≤ l.getD (k + 1) 0
def Rt (ns pen ch : List Int) : Prop := (∀ k, k < 10 → At ns k) ∧ Bd pen 16 1000000 ∧ Bd ch 8 1099511627776 ∧ Sd ch

/-- whether it is so -/
noncomputable def ask (q : Prop) : Bool := @decide q (Classical.propDecidable q)
theorem ask_yes {q : Prop} (h : q) : ask q = true := by unfold ask; exact @decide_eq_true _ (Classical.propDecidable q) h
theorem ask_no {q : Prop} (h : ¬ q) : ask q = false := by unfold ask; exact @decide_eq_false _ (Classical.propDecidable q) h

noncomputable def Pl.right (x : Pl) : Bool := ask (Rt x.nums x.pen x.ch)

/-- its bytes -/
def U3 (a b c : List Int) : List Int := Wm.pintsU a a.length ++ (Wm.pintsU b b.length ++ Wm.pintsU c c.length)
noncomputable def Pl.put (x : Pl) : List Int × Int := if x.right = true then (U3 x.nums x.pen x.ch, 0) else ([], 41)
theorem Pl.put_ok {x : Pl} (h : x.right = true) : x.put = (U3 x.nums x.pen x.ch, 0) := by unfold Pl.put; rw [if_pos h]
theorem Pl.put_no {x : Pl} (h : x.right = false) : x.put = ([], 41) := by unfold Pl.put; rw [if_neg (by rw [h]; decide)]

/-- three lists, one behind the other, and nothing else -/
def get3 (b : List Int) : Option (List Int × List Int × List Int) :=
  if (Wm.rints b 0).2.2 ≠ 0 then none
  else if (Wm.rints b (Wm.rints b 0).2.1).2.2 ≠ 0 then none
  else if (Wm.rints b (Wm.rints b (Wm.rints b 0).2.1).2.1).2.2 ≠ 0 then none
  else if (Wm.rints b (Wm.rints b (Wm.rints b 0).2.1).2.1).2.1 = b.length then
    some ((Wm.rints b 0).1, (Wm.rints b (Wm.rints b 0).2.1).1, (Wm.rints b (Wm.rints b (Wm.rints b 0).2.1).2.1).1)
  else none

def zero : Pl := ⟨0, 0, 0, 0, 0, 0, 0, 0, 0, 0, [], []⟩
/-- the plan of ten numbers and two lists -/
def plOf (ns pen ch : List Int) : Pl :=
  ⟨ns.getD 0 0, ns.getD 1 0, ns.getD 2 0, ns.getD 3 0, ns.getD 4 0, ns.getD 5 0, ns.getD 6 0, ns.getD 7 0, us (ns.getD 8 0), us (ns.getD 9 0), pen, ch⟩

noncomputable def get (b : List Int) : Pl × Int :=
  match get3 b with
  | none => (zero, 41)
  | some (ns, pen, ch) => if ns.length = 10 ∧ ask (Rt ns pen ch) = true then (plOf ns pen ch, 0) else (zero, 41)

theorem get_none {b : List Int} (h : get3 b = none) : get b = (zero, 41) := by unfold get; rw [h]
theorem get_no {b ns pen ch : List Int} (h : get3 b = some (ns, pen, ch)) (h2 : ¬ (ns.length = 10 ∧ ask (Rt ns pen ch) = true)) : get b = (zero, 41) := by
  unfold get; rw [h]; dsimp only; rw [if_neg h2]
theorem get_ok {b ns pen ch : List Int} (h : get3 b = some (ns, pen, ch)) (h1 : ns.length = 10) (h2 : ask (Rt ns pen ch) = true) : get b = (plOf ns pen ch, 0) := by
  unfold get; rw [h]; dsimp only; rw [if_pos ⟨h1, h2⟩]

theorem len10 {ns : List Int} (h : ns.length = 10) : ns = [ns.getD 0 0, ns.getD 1 0, ns.getD 2 0, ns.getD 3 0, ns.getD 4 0, ns.getD 5 0, ns.getD 6 0, ns.getD 7 0, ns.getD 8 0, ns.getD 9 0] := by
  match ns, h with
  | [_, _, _, _, _, _, _, _, _, _], _ => rfl
theorem fit_at {ns : List Int} (h : Wm.Fits ns) (k : Nat) : I (ns.getD k 0) := by
  rw [List.getD_eq_getElem?_getD]
  cases hk : ns[k]? with
  | none => exact ⟨by decide, by decide⟩
  | some x => exact h x (List.mem_of_getElem? hk)

theorem nums_plOf {ns pen ch : List Int} (h : ns.length = 10) (hf : Wm.Fits ns) : (plOf ns pen ch).nums = ns := by
  conv => rhs; rw [len10 h]
  unfold plOf Pl.nums
  dsimp only
  rw [sg_us (fit_at hf 8), sg_us (fit_at hf 9)]
theorem plOf_nums {x : Pl} (h : x.Ok) : plOf x.nums x.pen x.ch = x := by
  unfold plOf Pl.nums
  simp only [List.getD_cons_zero, List.getD_cons_succ, us_sg h.up, us_sg h.su]
theorem ok_plOf {ns pen ch : List Int} (hf : Wm.Fits ns) (hp : Wm.Fits pen) (hc : Wm.Fits ch) : (plOf ns pen ch).Ok :=
  ⟨fit_at hf 0, fit_at hf 1, fit_at hf 2, fit_at hf 3, fit_at hf 4, fit_at hf 5, fit_at hf 6, fit_at hf 7, us_fit (fit_at hf 8), us_fit (fit_at hf 9), hp, hc⟩
theorem ok_zero : zero.Ok := ⟨⟨by decide, by decide⟩, ⟨by decide, by decide⟩, ⟨by decide, by decide⟩, ⟨by decide, by decide⟩, ⟨by decide, by decide⟩, ⟨by decide, by decide⟩, ⟨by decide, by decide⟩, ⟨by decide, by decide⟩,
  ⟨by decide, by decide⟩, ⟨by decide, by decide⟩, (fun _ h => absurd h List.not_mem_nil), (fun _ h => absurd h List.not_mem_nil)⟩
theorem nums_inj {x y : Pl} (hx : x.Ok) (hy : y.Ok) (h : x.nums = y.nums) (h1 : x.pen = y.pen) (h2 : x.ch = y.ch) : x = y := by
  rw [← plOf_nums hx, ← plOf_nums hy, h, h1, h2]

/-! ### there and back -/
theorem rints_at {b l : List Int} {n to : Nat} (h : Wm.rints b (n : Int) = (l, (to : Int), 0)) (hb : ∀ c ∈ b, 0 ≤ c ∧ c ≤ 255) :
    ¬ 64 < l.length ∧ Wm.Fits l ∧ n ≤ to ∧ to ≤ b.length ∧ b.take n ++ Wm.pintsU l l.length = b.take to := by
  by_cases he : (Wm.rlen b (n : Int) 64).2.2 = 0
  · obtain ⟨k, m, hl, hrd, hk, _, m1, m2, e2⟩ := Wm.rlen_some he hb
    rw [Int.toNat_natCast] at e2
    have hl' : Wm.rlen b (n : Int) 64 = ((k : Int), ((n + m : Nat) : Int), 0) := by rw [hl]; congr 2
    rw [Wm.rints_ok hl'] at h
    obtain ⟨l', to', e3, h4, hf, hto, e4⟩ := Wm.seq_kept hb k (n + m) (by omega) (by rw [h])
    rw [h] at e3
    injection e3 with e5 e6
    injection e6 with e6 _
    subst e5
    obtain rfl : to = to' := by omega
    have hlen := congrArg List.length e4
    simp only [List.length_append, List.length_take] at hlen
    refine ⟨by omega, hf, by omega, hto, ?_⟩
    rw [← e4]
    unfold Wm.pintsU
    rw [List.take_of_length_le (Nat.le_refl _), h4, ← e2, ← List.append_assoc, Wm.take_piece]
  · rw [Wm.rints_err he] at h
    injection h with _ h
    injection h with _ h
    exact absurd h he

/-- what a reading that succeeds gives, in plain numbers -/
theorem rints_num {b : List Int} {n : Nat} (h : (Wm.rints b (n : Int)).2.2 = 0) (hb : ∀ c ∈ b, 0 ≤ c ∧ c ≤ 255) : ∃ (l : List Int) (to : Nat), Wm.rints b (n : Int) = (l, (to : Int), 0) := by
  by_cases he : (Wm.rlen b (n : Int) 64).2.2 = 0
  · obtain ⟨k, m, hl, hrd, hk, _, m1, m2, e2⟩ := Wm.rlen_some he hb
    have hl' : Wm.rlen b (n : Int) 64 = ((k : Int), ((n + m : Nat) : Int), 0) := by rw [hl]; congr 2
    rw [Wm.rints_ok hl'] at h ⊢
    obtain ⟨l', to', e3, h4, hf, hto, e4⟩ := Wm.seq_kept hb k (n + m) (by omega) h
    exact ⟨l', to', e3⟩
  · rw [Wm.rints_err he] at h
    exact absurd h he

theorem get3_err0 {b : List Int} (h : (Wm.rints b 0).2.2 ≠ 0) : get3 b = none := by unfold get3; rw [if_pos h]
theorem get3_err1 {b l : List Int} {n : Nat} (h : Wm.rints b 0 = (l, (n : Int), 0)) (h1 : (Wm.rints b (n : Int)).2.2 ≠ 0) : get3 b = none := by
  unfold get3; rw [h, if_neg (by simp), if_pos h1]
theorem get3_err2 {b l m : List Int} {n k : Nat} (h : Wm.rints b 0 = (l, (n : Int), 0)) (h1 : Wm.rints b (n : Int) = (m, (k : Int), 0)) (h2 : (Wm.rints b (k : Int)).2.2 ≠ 0) : get3 b = none := by
  unfold get3; rw [h]; dsimp only; rw [h1, if_neg (by simp), if_neg (by simp), if_pos h2]
theorem get3_more {b l m o : List Int} {n k j : Nat} (h : Wm.rints b 0 = (l, (n : Int), 0)) (h1 : Wm.rints b (n : Int) = (m, (k : Int), 0)) (h2 : Wm.rints b (k : Int) = (o, (j : Int), 0)) (hj : j ≠ b.length) : get3 b = none := by
  unfold get3; rw [h]; dsimp only; rw [h1]; dsimp only; rw [h2, if_neg (by simp), if_neg (by simp), if_neg (by simp), if_neg (by dsimp only; omega)]
theorem get3_ok {b l m o : List Int} {n k j : Nat} (h : Wm.rints b 0 = (l, (n : Int), 0)) (h1 : Wm.rints b (n : Int) = (m, (k : Int), 0)) (h2 : Wm.rints b (k : Int) = (o, (j : Int), 0)) (hj : j = b.length) : get3 b = some (l, m, o) := by
  unfold get3; rw [h]; dsimp only; rw [h1]; dsimp only; rw [h2, if_neg (by simp), if_neg (by simp), if_neg (by simp), if_pos (by dsimp only; omega)]

/-- which way it went -/
theorem get3_cases {b : List Int} (hb : ∀ c ∈ b, 0 ≤ c ∧ c ≤ 255) :
    ((Wm.rints b 0).2.2 ≠ 0 ∧ get3 b = none) ∨ ∃ (l : List Int) (n : Nat), Wm.rints b 0 = (l, (n : Int), 0) ∧ n ≤ b.length ∧ Wm.Fits l ∧ ¬ 64 < l.length ∧
      (((Wm.rints b (n : Int)).2.2 ≠ 0 ∧ get3 b = none) ∨ ∃ (m : List Int) (k : Nat), Wm.rints b (n : Int) = (m, (k : Int), 0) ∧ k ≤ b.length ∧ Wm.Fits m ∧ ¬ 64 < m.length ∧
        (((Wm.rints b (k : Int)).2.2 ≠ 0 ∧ get3 b = none) ∨ ∃ (o : List Int) (j : Nat), Wm.rints b (k : Int) = (o, (j : Int), 0) ∧ j ≤ b.length ∧ Wm.Fits o ∧ ¬ 64 < o.length ∧
          ((j ≠ b.length ∧ get3 b = none) ∨ (j = b.length ∧ get3 b = some (l, m, o) ∧ U3 l m o = b)))) := by
  by_cases h0 : (Wm.rints b 0).2.2 = 0
  · obtain ⟨l, n, e0⟩ := rints_num (n := 0) h0 hb
    have a0 := rints_at (n := 0) e0 hb
    refine .inr ⟨l, n, e0, a0.2.2.2.1, a0.2.1, a0.1, ?_⟩
    by_cases h1 : (Wm.rints b (n : Int)).2.2 = 0
    · obtain ⟨m, k, e1⟩ := rints_num h1 hb
      have a1 := rints_at e1 hb
      refine .inr ⟨m, k, e1, a1.2.2.2.1, a1.2.1, a1.1, ?_⟩
      by_cases h2 : (Wm.rints b (k : Int)).2.2 = 0
      · obtain ⟨o, j, e2⟩ := rints_num h2 hb
        have a2 := rints_at e2 hb
        refine .inr ⟨o, j, e2, a2.2.2.2.1, a2.2.1, a2.1, ?_⟩
        by_cases hj : j = b.length
        · refine .inr ⟨hj, get3_ok e0 e1 e2 hj, ?_⟩
          have q0 := a0.2.2.2.2
          have q1 := a1.2.2.2.2
          have q2 := a2.2.2.2.2
          rw [List.take_zero, List.nil_append] at q0
          unfold U3
          rw [← List.append_assoc, q0, q1, q2, hj, List.take_length]
        · exact .inl ⟨hj, get3_more e0 e1 e2 hj⟩
      · exact .inl ⟨h2, get3_err2 e0 e1 h2⟩
    · exact .inl ⟨h1, get3_err1 e0 h1⟩
  · exact .inl ⟨h0, get3_err0 h0⟩

/-- what is written is read, whatever stands behind -/
theorem three_back {a b c : List Int} (ha : a.length ≤ 64) (hb : b.length ≤ 64) (hc : c.length ≤ 64) (fa : Wm.Fits a) (fb : Wm.Fits b) (fc : Wm.Fits c) (r : List Int) :
    ∃ n k : Nat, Wm.rints (U3 a b c ++ r) 0 = (a, (n : Int), 0) ∧ Wm.rints (U3 a b c ++ r) (n : Int) = (b, (k : Int), 0) ∧ Wm.rints (U3 a b c ++ r) (k : Int) = (c, ((U3 a b c).length : Int), 0) := by
  refine ⟨(Wm.pintsU a a.length).length, (Wm.pintsU a a.length ++ Wm.pintsU b b.length).length, ?_, ?_, ?_⟩
  · have h := Wm.rints_back (a := []) (r := Wm.pintsU b b.length ++ Wm.pintsU c c.length ++ r) ha fa
    rw [List.nil_append, List.nil_append] at h
    rw [show U3 a b c ++ r = Wm.pintsU a a.length ++ (Wm.pintsU b b.length ++ Wm.pintsU c c.length ++ r) from by unfold U3; simp only [List.append_assoc]]
    exact h
  · have h := Wm.rints_back (a := Wm.pintsU a a.length) (r := Wm.pintsU c c.length ++ r) hb fb
    rw [show U3 a b c ++ r = Wm.pintsU a a.length ++ (Wm.pintsU b b.length ++ (Wm.pintsU c c.length ++ r)) from by unfold U3; simp only [List.append_assoc]]
    exact h
  · have h := Wm.rints_back (a := Wm.pintsU a a.length ++ Wm.pintsU b b.length) (r := r) hc fc
    rw [show U3 a b c ++ r = (Wm.pintsU a a.length ++ Wm.pintsU b b.length) ++ (Wm.pintsU c c.length ++ r) from by unfold U3; simp only [List.append_assoc]]
    rw [h, show U3 a b c = (Wm.pintsU a a.length ++ Wm.pintsU b b.length) ++ Wm.pintsU c c.length from by unfold U3; simp only [List.append_assoc]]

theorem get3_back {a b c : List Int} (ha : a.length ≤ 64) (hb : b.length ≤ 64) (hc : c.length ≤ 64) (fa : Wm.Fits a) (fb : Wm.Fits b) (fc : Wm.Fits c) : get3 (U3 a b c) = some (a, b, c) := by
  obtain ⟨n, k, e0, e1, e2⟩ := three_back ha hb hc fa fb fc []
  rw [List.append_nil] at e0 e1 e2
  exact get3_ok e0 e1 e2 rfl
theorem get3_long {a b c r : List Int} (ha : a.length ≤ 64) (hb : b.length ≤ 64) (hc : c.length ≤ 64) (fa : Wm.Fits a) (fb : Wm.Fits b) (fc : Wm.Fits c) (hr : r ≠ []) : get3 (U3 a b c ++ r) = none := by
  obtain ⟨n, k, e0, e1, e2⟩ := three_back ha hb hc fa fb fc r
  refine get3_more e0 e1 e2 ?_
  rw [List.length_append]
  have := List.length_pos_iff.2 hr
  omega

theorem U3_byte {a b c : List Int} (ha : a.length ≤ 64) (hb : b.length ≤ 64) (hc : c.length ≤ 64) (fa : Wm.Fits a) (fb : Wm.Fits b) (fc : Wm.Fits c) : ∀ x ∈ U3 a b c, 0 ≤ x ∧ x ≤ 255 := by
  intro x hx
  unfold U3 at hx
  rcases List.mem_append.1 hx with h | h
  · exact Wm.pintsU_byte ha fa x h
  · rcases List.mem_append.1 h with h | h
    · exact Wm.pintsU_byte hb fb x h
    · exact Wm.pintsU_byte hc fc x h
theorem U3_len (a b c : List Int) (ha : a.length ≤ 64) (hb : b.length ≤ 64) (hc : c.length ≤ 64) : 3 ≤ (U3 a b c).length ∧ (U3 a b c).length ≤ 2000 := by
  have h1 := Wm.pintsU_len a a.length
  have h2 := Wm.pintsU_len b b.length
  have h3 := Wm.pintsU_len c c.length
  have p1 : ∀ l : List Int, 1 ≤ (Wm.pintsU l l.length).length := fun l => by
    unfold Wm.pintsU
    have := (Wm.pint_len (l.length : Int)).1
    rw [List.length_append]
    omega
  have q1 := p1 a
  have q2 := p1 b
  have q3 := p1 c
  unfold U3
  simp only [List.length_append]
  omega

/-- cut anywhere, it is none -/
theorem get3_cut {a b c : List Int} (ha : a.length ≤ 64) (hb : b.length ≤ 64) (hc : c.length ≤ 64) (fa : Wm.Fits a) (fb : Wm.Fits b) (fc : Wm.Fits c) {k : Nat} (hk : k < (U3 a b c).length) : get3 ((U3 a b c).take k) = none := by
  have hby := U3_byte ha hb hc fa fb fc
  have hbt : ∀ x ∈ (U3 a b c).take k, 0 ≤ x ∧ x ≤ 255 := fun x hx => hby x (List.mem_of_mem_take hx)
  rcases get3_cases hbt with h | ⟨l, n, e0, n0, f0, s0, h⟩
  · exact h.2
  rcases h with h | ⟨m, i, e1, n1, f1, s1, h⟩
  · exact h.2
  rcases h with h | ⟨o, j, e2, n2, f2, s2, h⟩
  · exact h.2
  rcases h with h | ⟨hj, _, hU⟩
  · exact h.2
  exfalso
  obtain ⟨n', i', q0, q1, q2⟩ := three_back (a := l) (b := m) (c := o) (by omega) (by omega) (by omega) f0 f1 f2 ((U3 a b c).drop k)
  rw [hU, List.take_append_drop] at q0 q1 q2
  have h4 := get3_back ha hb hc fa fb fc
  have hlen : ((U3 a b c).take k).length ≠ (U3 a b c).length := by rw [List.length_take]; omega
  rw [get3_more q0 q1 q2 hlen] at h4
  cases h4

theorem Bd.len {l : List Int} {s : Nat} {m : Int} (h : Bd l s m) : l.length ≤ s := h.1
theorem right_len {x : Pl} (h : x.right = true) : x.pen.length ≤ 16 ∧ x.ch.length ≤ 8 ∧ Rt x.nums x.pen x.ch := by
  by_cases h1 : Rt x.nums x.pen x.ch
  · exact ⟨h1.2.1.1, h1.2.2.1.1, h1⟩
  · have := ask_no h1
    rw [Pl.right, this] at h
    cases h

theorem get_put {x : Pl} (hx : x.Ok) (h : x.right = true) : get x.put.1 = (x, 0) := by
  obtain ⟨h1, h2, _⟩ := right_len h
  rw [Pl.put_ok h]
  have := get_ok (get3_back (a := x.nums) nums10 (by omega) (by omega) (Pl.nums_fit hx) hx.pen hx.ch) rfl h
  rw [plOf_nums hx] at this
  exact this

theorem get_long {x : Pl} (hx : x.Ok) (h : x.right = true) {r : List Int} (hr : r ≠ []) : get (x.put.1 ++ r) = (zero, 41) := by
  obtain ⟨h1, h2, _⟩ := right_len h
  rw [Pl.put_ok h]
  exact get_none (get3_long (a := x.nums) nums10 (by omega) (by omega) (Pl.nums_fit hx) hx.pen hx.ch hr)
theorem get_cut {x : Pl} (hx : x.Ok) (h : x.right = true) {k : Nat} (hk : k < x.put.1.length) : get (x.put.1.take k) = (zero, 41) := by
  obtain ⟨h1, h2, _⟩ := right_len h
  rw [Pl.put_ok h] at hk ⊢
  exact get_none (get3_cut (a := x.nums) nums10 (by omega) (by omega) (Pl.nums_fit hx) hx.pen hx.ch hk)

theorem put_byte {x : Pl} (hx : x.Ok) : ∀ c ∈ x.put.1, 0 ≤ c ∧ c ≤ 255 := by
  cases h : x.right with
  | false => rw [Pl.put_no h]; exact fun _ h => absurd h List.not_mem_nil
  | true =>
    obtain ⟨h1, h2, _⟩ := right_len h
    rw [Pl.put_ok h]
    exact U3_byte (a := x.nums) nums10 (by omega) (by omega) (Pl.nums_fit hx) hx.pen hx.ch
theorem put_len {x : Pl} : x.put.1.length ≤ 2000 := by
  cases h : x.right with
  | false => rw [Pl.put_no h]; exact Nat.zero_le _
  | true =>
    obtain ⟨h1, h2, _⟩ := right_len h
    rw [Pl.put_ok h]
    exact (U3_len x.nums x.pen x.ch nums10 (by omega) (by omega)).2
theorem put_pos {x : Pl} (h : x.right = true) : 1 ≤ x.put.1.length := by
  obtain ⟨h1, h2, _⟩ := right_len h
  rw [Pl.put_ok h]
  have := (U3_len x.nums x.pen x.ch nums10 (by omega) (by omega)).1
  dsimp only
  omega

/-- two right plans have the same bytes just if they are alike -/
theorem put_inj {x y : Pl} (hx : x.Ok) (hy : y.Ok) (h : x.right = true) (h2 : y.right = true) (he : x.put.1 = y.put.1) : x = y := by
  have h3 := get_put hx h
  rw [he, get_put hy h2] at h3
  injection h3 with h3 _
  exact h3.symm

/-- what is read is right, and its bytes are those -/
theorem get_kept {b : List Int} (hb : ∀ c ∈ b, 0 ≤ c ∧ c ≤ 255) : ((get b).1.Ok) ∧ ((get b = (zero, 41)) ∨ ((get b).2 = 0 ∧ (get b).1.right = true ∧ (get b).1.put = (b, 0))) := by
  cases h : get3 b with
  | none => rw [get_none h]; exact ⟨ok_zero, .inl rfl⟩
  | some q =>
    obtain ⟨ns, pen, ch⟩ := q
    by_cases h2 : ns.length = 10 ∧ ask (Rt ns pen ch) = true
    · rw [get_ok h h2.1 h2.2]
      rcases get3_cases hb with h3 | ⟨l, n, e0, n0, f0, s0, h3⟩
      · rw [h3.2] at h; cases h
      rcases h3 with h3 | ⟨m, i, e1, n1, f1, s1, h3⟩
      · rw [h3.2] at h; cases h
      rcases h3 with h3 | ⟨o, j, e2, n2, f2, s2, h3⟩
      · rw [h3.2] at h; cases h
      rcases h3 with h3 | ⟨hj, h4, hU⟩
      · rw [h3.2] at h; cases h
      rw [h4] at h
      injection h with h
      injection h with h5 h
      injection h with h6 h7
      subst h5 h6 h7
      refine ⟨ok_plOf f0 f1 f2, .inr ⟨rfl, ?_, ?_⟩⟩
      · show ask _ = true
        rw [nums_plOf h2.1 f0]
        exact h2.2
      · rw [Pl.put_ok]
        · rw [nums_plOf h2.1 f0]
          show (U3 l m o, (0 : Int)) = (b, 0)
          rw [hU]
        · show ask _ = true
          rw [nums_plOf h2.1 f0]
          exact h2.2
    · rw [get_no h h2]; exact ⟨ok_zero, .inl rfl⟩

/-- what a plan names -/
noncomputable def Pl.names (x : Pl) (t : Int) : Bool := ask (0 ≤ t ∧ (t = x.t ∨ (t = x.p ∧ x.c < 100) ∨ t = x.s))
noncomputable def same (x y : Pl) : Bool := ask (x = y)
end Go.Proofs.YtbkdenlhfigjhaaDoor.Pm
