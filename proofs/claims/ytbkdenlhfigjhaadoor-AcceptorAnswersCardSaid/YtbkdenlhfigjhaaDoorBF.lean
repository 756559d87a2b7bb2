/- Frames as plain lists of numbers: a mark, a kind, a length, a body and a sum. No program in it. -/
import Derived.Test.YtbkdenlhfigjhaaDoorBC
import Derived.Test.YtbkdenlhfigjhaaDoorBK
import Derived.Lib.SliceRun
namespace Go.Proofs.YtbkdenlhfigjhaaDoor.Fm
open Go.RowKit

def By (l : List Int) : Prop := ∀ x ∈ l, 0 ≤ x ∧ x ≤ 255

theorem By.nil : By [] := fun _ h => by cases h
theorem By.take {l : List Int} (h : By l) (n : Nat) : By (l.take n) := fun x hx => h x (List.mem_of_mem_take hx)
theorem By.drop {l : List Int} (h : By l) (n : Nat) : By (l.drop n) := fun x hx => h x (List.mem_of_mem_drop hx)
theorem By.app {l m : List Int} (h : By l) (k : By m) : By (l ++ m) := fun x hx => by
  rcases List.mem_append.1 hx with a | a
  · exact h x a
  · exact k x a
theorem By.set {l : List Int} (h : By l) (i : Nat) {y : Int} (hy : 0 ≤ y ∧ y ≤ 255) : By (l.set i y) := fun x hx => by
  rcases List.mem_or_eq_of_mem_set hx with a | a
  · exact h x a
  · rw [a]; exact hy
theorem By.at {l : List Int} (h : By l) (i : Nat) : 0 ≤ l.getD i 0 ∧ l.getD i 0 ≤ 255 := by
  rw [List.getD_eq_getElem?_getD]
  cases e : l[i]? with
  | none => simp
  | some x => exact h x (List.mem_of_getElem? e)

/-! ### the sum's four bytes -/
def be4 (s : BitVec 32) : List Int := [Cm.V s / 16777216, Cm.V s / 65536 % 256, Cm.V s / 256 % 256, Cm.V s % 256]

theorem be4_by (s : BitVec 32) : By (be4 s) := fun x hx => by
  have h := Cm.V_fit s
  simp only [be4, List.mem_cons, List.not_mem_nil, or_false] at hx
  omega
theorem be4_len (s : BitVec 32) : (be4 s).length = 4 := rfl
theorem be4_eq {s : BitVec 32} {p q r t : Int} (_hp : 0 ≤ p ∧ p ≤ 255) (hq : 0 ≤ q ∧ q ≤ 255) (hr : 0 ≤ r ∧ r ≤ 255) (ht : 0 ≤ t ∧ t ≤ 255) :
    be4 s = [p, q, r, t] ↔ Cm.V s = p * 16777216 + q * 65536 + r * 256 + t := by
  have h := Cm.V_fit s
  simp only [be4, List.cons.injEq, and_true]
  generalize Cm.V s = n at *
  omega
theorem be4_inj {s t : BitVec 32} (h : be4 s = be4 t) : s = t := by
  apply Cm.V_inj
  have h1 := Cm.V_fit s
  have h2 := Cm.V_fit t
  simp only [be4, List.cons.injEq, and_true] at h
  generalize Cm.V s = n at *
  generalize Cm.V t = m at *
  omega

/-! ### a frame -/
def hd (k : Int) (n : Nat) : List Int := [247, k, (n : Int) / 256, (n : Int) % 256]
def pre (k : Int) (b : List Int) : List Int := hd k b.length ++ b
def sum (l : List Int) : List Int := be4 (Cm.crc 0#32 (l.drop 1))
def frm (k : Int) (b : List Int) : List Int := pre k b ++ sum (pre k b)
def put (k : Int) (b : List Int) : List Int × Int := if 8192 < b.length then ([], 2) else (frm k b, 0)

theorem pre_len (k : Int) (b : List Int) : (pre k b).length = b.length + 4 := by simp [pre, hd]
theorem frm_len (k : Int) (b : List Int) : (frm k b).length = b.length + 8 := by simp [frm, pre_len, sum, be4_len]
theorem pre_by {k : Int} {b : List Int} (hk : 0 ≤ k ∧ k ≤ 255) (hb : By b) (hl : b.length ≤ 8192) : By (pre k b) := by
  refine By.app (fun x hx => ?_) hb
  simp only [hd, List.mem_cons, List.not_mem_nil, or_false] at hx
  omega
theorem frm_by {k : Int} {b : List Int} (hk : 0 ≤ k ∧ k ≤ 255) (hb : By b) (hl : b.length ≤ 8192) : By (frm k b) := (pre_by hk hb hl).app (be4_by _)
theorem put_by {k : Int} {b : List Int} (hk : 0 ≤ k ∧ k ≤ 255) (hb : By b) : By (put k b).1 := by
  unfold put
  split
  · exact By.nil
  · exact frm_by hk hb (by omega)
theorem put_ok {k : Int} {b : List Int} (h : b.length ≤ 8192) : put k b = (frm k b, 0) := if_neg (by omega)
theorem put_many {k : Int} {b : List Int} (h : 8192 < b.length) : put k b = ([], 2) := if_pos h

/-! ### what a row of bytes begins with -/
def ln (l : List Int) : Nat := (l.getD 2 0 * 256 + l.getD 3 0).toNat
/-- the size of the frame, and the error -/
def meas (l : List Int) : Int × Int :=
  if l.length = 0 then (0, 31) else if l.getD 0 0 ≠ 247 then (0, 32) else if l.length < 8 then (0, 31) else if 8192 < ln l then (0, 2)
  else if l.length < ln l + 8 then (0, 31) else if sum (l.take (ln l + 4)) ≠ (l.drop (ln l + 4)).take 4 then (0, 33) else (((ln l + 8 : Nat) : Int), 0)
def get (b : List Int) (t : Int) : Int × List Int × Int × Int :=
  if t < 0 ∨ (b.length : Int) < t then (0, [], 0, 1)
  else if (meas (b.drop t.toNat)).2 ≠ 0 then (0, [], 0, (meas (b.drop t.toNat)).2)
  else ((b.drop t.toNat).getD 1 0, ((b.drop t.toNat).drop 4).take (ln (b.drop t.toNat)), t + ((ln (b.drop t.toNat) + 8 : Nat) : Int), 0)
def g1 (l : List Int) : Option (Int × List Int) := if (meas l).2 = 0 then some (l.getD 1 0, (l.drop 4).take (ln l)) else none

theorem meas_zero {l : List Int} (h : (meas l).2 = 0) : meas l = (((ln l + 8 : Nat) : Int), 0) ∧ l.getD 0 0 = 247 ∧ ln l ≤ 8192 ∧ ln l + 8 ≤ l.length ∧ sum (l.take (ln l + 4)) = (l.drop (ln l + 4)).take 4 := by
  revert h
  unfold meas
  repeat' split
  all_goals simp_all
  all_goals omega
theorem meas_0 {l : List Int} (h : l.length = 0) : meas l = (0, 31) := if_pos h
theorem meas_1 {l : List Int} (h : l.length ≠ 0) (h1 : l.getD 0 0 ≠ 247) : meas l = (0, 32) := by unfold meas; rw [if_neg h, if_pos h1]
theorem meas_2 {l : List Int} (h : l.length ≠ 0) (h1 : l.getD 0 0 = 247) (h2 : l.length < 8) : meas l = (0, 31) := by unfold meas; rw [if_neg h, if_neg (by rw [h1]; simp), if_pos h2]
theorem meas_3 {l : List Int} (h2 : 8 ≤ l.length) (h1 : l.getD 0 0 = 247) (h3 : 8192 < ln l) : meas l = (0, 2) := by
  unfold meas; rw [if_neg (by omega), if_neg (by rw [h1]; simp), if_neg (by omega), if_pos h3]
theorem meas_4 {l : List Int} (h2 : 8 ≤ l.length) (h1 : l.getD 0 0 = 247) (h3 : ln l ≤ 8192) (h4 : l.length < ln l + 8) : meas l = (0, 31) := by
  unfold meas; rw [if_neg (by omega), if_neg (by rw [h1]; simp), if_neg (by omega), if_neg (by omega), if_pos h4]
theorem meas_5 {l : List Int} (h1 : l.getD 0 0 = 247) (h3 : ln l ≤ 8192) (h4 : ln l + 8 ≤ l.length) (h5 : sum (l.take (ln l + 4)) ≠ (l.drop (ln l + 4)).take 4) : meas l = (0, 33) := by
  unfold meas; rw [if_neg (by omega), if_neg (by rw [h1]; simp), if_neg (by omega), if_neg (by omega), if_neg (by omega), if_pos h5]
theorem meas_6 {l : List Int} (h1 : l.getD 0 0 = 247) (h3 : ln l ≤ 8192) (h4 : ln l + 8 ≤ l.length) (h5 : sum (l.take (ln l + 4)) = (l.drop (ln l + 4)).take 4) : meas l = (((ln l + 8 : Nat) : Int), 0) := by
  unfold meas; rw [if_neg (by omega), if_neg (by rw [h1]; simp), if_neg (by omega), if_neg (by omega), if_neg (by omega), if_neg (by rw [h5]; simp)]
theorem meas_vals (l : List Int) : (meas l).2 = 0 ∨ (meas l).2 = 2 ∨ (meas l).2 = 31 ∨ (meas l).2 = 32 ∨ (meas l).2 = 33 := by
  unfold meas
  repeat' split
  all_goals simp

theorem ln_frm {k : Int} {b r : List Int} (hl : b.length ≤ 8192) : ln (frm k b ++ r) = b.length := by
  simp only [ln, frm, pre, hd, List.cons_append, List.getD_cons_succ, List.getD_cons_zero]
  omega

theorem meas_frm {k : Int} {b r : List Int} (hl : b.length ≤ 8192) : meas (frm k b ++ r) = (((b.length + 8 : Nat) : Int), 0) := by
  have h1 := ln_frm (k := k) (r := r) hl
  have h2 : (frm k b ++ r).length = b.length + 8 + r.length := by rw [List.length_append, frm_len]
  have h0 : (frm k b ++ r).getD 0 0 = 247 := by simp [frm, pre, hd]
  have e1 : (frm k b ++ r).take (b.length + 4) = pre k b := by
    rw [frm, List.append_assoc, ← pre_len k b, List.take_left]
  have e2 : ((frm k b ++ r).drop (b.length + 4)).take 4 = sum (pre k b) := by
    rw [frm, List.append_assoc, ← pre_len k b, List.drop_left]
    exact List.take_left' (be4_len _)
  unfold meas
  rw [h1, h2, h0, e1, e2]
  rw [if_neg (by omega), if_neg (by simp), if_neg (by omega), if_neg (by omega), if_neg (by omega), if_neg (by simp)]

theorem g1_frm {k : Int} {b r : List Int} (hl : b.length ≤ 8192) : g1 (frm k b ++ r) = some (k, b) := by
  unfold g1
  rw [meas_frm hl, ln_frm hl, if_pos rfl]
  have e1 : (frm k b ++ r).getD 1 0 = k := by simp [frm, pre, hd]
  have e2 : ((frm k b ++ r).drop 4).take b.length = b := by
    simp [frm, pre, hd]
  rw [e1, e2]

theorem head4 {l : List Int} (h : 4 ≤ l.length) : l = l.getD 0 0 :: l.getD 1 0 :: l.getD 2 0 :: l.getD 3 0 :: l.drop 4 := by
  match l, h with
  | a :: b :: c :: d :: r, _ => rfl
  | [], h => simp at h
  | [_], h => simp at h
  | [_, _], h => simp at h
  | [_, _, _], h => simp at h

/-- what is told is how the bytes begin -/
theorem g1_some {l : List Int} {k : Int} {b : List Int} (hb : By l) (h : g1 l = some (k, b)) : b.length ≤ 8192 ∧ (0 ≤ k ∧ k ≤ 255) ∧ By b ∧ b.length + 8 ≤ l.length ∧ ln l = b.length ∧ l = frm k b ++ l.drop (b.length + 8) := by
  unfold g1 at h
  split at h
  · rename_i h0
    obtain ⟨e1, e2, e3, e4, e5⟩ := meas_zero h0
    simp only [Option.some.injEq, Prod.mk.injEq] at h
    obtain ⟨rfl, rfl⟩ := h
    have hlen : ((l.drop 4).take (ln l)).length = ln l := by rw [List.length_take, List.length_drop]; omega
    rw [hlen]
    refine ⟨e3, hb.at 1, (hb.drop 4).take _, e4, rfl, ?_⟩
    have b2 := hb.at 2
    have b3 := hb.at 3
    have hp : pre (l.getD 1 0) ((l.drop 4).take (ln l)) = l.take (ln l + 4) := by
      unfold pre
      rw [hlen]
      obtain ⟨c, d, r, hl⟩ : ∃ c d r, c = l.getD 2 0 ∧ d = l.getD 3 0 ∧ r = l.drop 4 := ⟨_, _, _, rfl, rfl, rfl⟩
      have h4 := head4 (l := l) (by omega)
      obtain ⟨hc, hd', hr⟩ := hl
      have hln : ln l = (c * 256 + d).toNat := by unfold ln; rw [hc, hd']
      rw [← hc] at b2 h4
      rw [← hd'] at b3 h4
      rw [← hr] at h4 ⊢
      have e : l.take (ln l + 4) = l.getD 0 0 :: l.getD 1 0 :: c :: d :: r.take (ln l) := by
        generalize ln l = m
        exact congrArg (List.take (m + 4)) h4
      rw [e, e2, hln]
      show [247, l.getD 1 0, _, _] ++ _ = _
      have x1 : (((c * 256 + d).toNat : Nat) : Int) / 256 = c := by omega
      have x2 : (((c * 256 + d).toNat : Nat) : Int) % 256 = d := by omega
      rw [x1, x2]
      rfl
    unfold frm
    rw [hp, e5, List.append_assoc]
    have : (l.drop (ln l + 4)).take 4 ++ l.drop (ln l + 8) = l.drop (ln l + 4) := by
      conv => rhs; rw [← List.take_append_drop 4 (l.drop (ln l + 4))]
      rw [List.drop_drop]
    rw [this, List.take_append_drop]
  · cases h

theorem get_arg {b : List Int} {t : Int} (h : t < 0 ∨ (b.length : Int) < t) : get b t = (0, [], 0, 1) := if_pos h
theorem get_err {b : List Int} {n : Nat} (h : n ≤ b.length) (he : (meas (b.drop n)).2 ≠ 0) : get b (n : Int) = (0, [], 0, (meas (b.drop n)).2) := by
  unfold get
  rw [if_neg (by omega), Int.toNat_natCast, if_pos he]
theorem get_ok {b : List Int} {n : Nat} (h : n ≤ b.length) (he : (meas (b.drop n)).2 = 0) : get b (n : Int) = ((b.drop n).getD 1 0, ((b.drop n).drop 4).take (ln (b.drop n)), (n : Int) + ((ln (b.drop n) + 8 : Nat) : Int), 0) := by
  unfold get
  rw [if_neg (by omega), Int.toNat_natCast, if_neg (by rw [he]; simp)]
theorem get_some {b : List Int} {n : Nat} {k : Int} {x : List Int} (h : n ≤ b.length) (hb : By b) (hg : g1 (b.drop n) = some (k, x)) : get b (n : Int) = (k, x, ((n + (x.length + 8) : Nat) : Int), 0) := by
  have h5 := (g1_some (hb.drop n) hg).2.2.2.2.1
  unfold g1 at hg
  split at hg
  · rename_i h0
    rw [get_ok h h0, h5]
    simp only [Option.some.injEq, Prod.mk.injEq] at hg
    obtain ⟨rfl, rfl⟩ := hg
    have : ∀ m : Nat, ((n : Int) + ((m + 8 : Nat) : Int)) = ((n + (m + 8) : Nat) : Int) := fun m => by omega
    rw [this]
    rw [← h5]
  · cases hg
theorem get_none {b : List Int} {n : Nat} (h : n ≤ b.length) (hg : g1 (b.drop n) = none) : (get b (n : Int)).2.2.2 ≠ 0 := by
  unfold g1 at hg
  split at hg
  · cases hg
  · rename_i h0
    rw [get_err h h0]
    exact h0
theorem get_body (b : List Int) (t : Int) : (get b t).2.1.length ≤ 8192 := by
  unfold get
  split
  · simp
  · split
    · simp
    · rename_i h0
      obtain ⟨_, _, h3, _⟩ := meas_zero (by simpa using h0)
      simp only [List.length_take]
      omega

/-! ### all of them -/
def als : Nat → List Int → List (Int × List Int)
  | 0, _ => []
  | f + 1, l => match g1 l with
    | none => []
    | some x => x :: als f (l.drop (x.2.length + 8))
def al (l : List Int) : List (Int × List Int) := als (l.length + 1) l
def cat (fs : List (Int × List Int)) : List Int := fs.flatMap fun f => frm f.1 f.2
def Ok (fs : List (Int × List Int)) : Prop := ∀ f ∈ fs, f.2.length ≤ 8192 ∧ (0 ≤ f.1 ∧ f.1 ≤ 255) ∧ By f.2

theorem cat_nil : cat [] = [] := rfl
theorem cat_cons (f : Int × List Int) (fs : List (Int × List Int)) : cat (f :: fs) = frm f.1 f.2 ++ cat fs := rfl
theorem cat_app (fs gs : List (Int × List Int)) : cat (fs ++ gs) = cat fs ++ cat gs := List.flatMap_append

theorem als_more : ∀ (f g : Nat) (l : List Int), l.length < f → l.length < g → als f l = als g l
  | 0, _, _, h, _ => by omega
  | _, 0, _, _, h => by omega
  | f + 1, g + 1, l, hf, hg => by
    unfold als
    cases h : g1 l with
    | none => rfl
    | some x =>
      dsimp only
      by_cases hl : l.length = 0
      · exfalso
        unfold g1 meas at h
        rw [if_pos hl] at h
        simp at h
      · rw [als_more f g _ (by rw [List.length_drop]; omega) (by rw [List.length_drop]; omega)]

theorem al_none {l : List Int} (h : g1 l = none) : al l = [] := by
  unfold al als
  rw [h]
theorem al_some {l : List Int} {x : Int × List Int} (h : g1 l = some x) : al l = x :: al (l.drop (x.2.length + 8)) := by
  have hl : l.length ≠ 0 := fun e => by
    unfold g1 meas at h
    rw [if_pos e] at h
    simp at h
  conv => lhs; unfold al als
  rw [h]
  dsimp only
  rw [al, als_more l.length ((l.drop (x.2.length + 8)).length + 1) _ (by rw [List.length_drop]; omega) (by omega)]

theorem al_ok : ∀ (n : Nat) (l : List Int), l.length ≤ n → By l → Ok (al l) ∧ (cat (al l)).length ≤ l.length ∧ l = cat (al l) ++ l.drop (cat (al l)).length ∧ g1 (l.drop (cat (al l)).length) = none
  | n, l, hn, hb => by
    cases h : g1 l with
    | none =>
      rw [al_none h]
      exact ⟨(fun f hf => nomatch hf), Nat.zero_le _, rfl, h⟩
    | some x =>
      obtain ⟨k, b⟩ := x
      obtain ⟨h1, h2, h3, h4, _, h5⟩ := g1_some hb h
      cases n with
      | zero => omega
      | succ n =>
        rw [al_some h]
        dsimp only at *
        obtain ⟨i1, i2, i3, i4⟩ := al_ok n (l.drop (b.length + 8)) (by rw [List.length_drop]; omega) (hb.drop _)
        rw [List.length_drop] at i2
        refine ⟨fun f hf => ?_, ?_, ?_, ?_⟩
        · rcases List.mem_cons.1 hf with rfl | hf
          · exact ⟨h1, h2, h3⟩
          · exact i1 f hf
        · rw [cat_cons, List.length_append, frm_len]; dsimp only; omega
        · rw [cat_cons, List.length_append, frm_len]
          dsimp only
          rw [List.append_assoc, ← List.drop_drop (j := b.length + 8), ← i3]
          exact h5
        · rw [cat_cons, List.length_append, frm_len]
          dsimp only
          rw [← List.drop_drop (j := b.length + 8)]
          exact i4

theorem al_cat : ∀ (fs : List (Int × List Int)) (r : List Int), (∀ f ∈ fs, f.2.length ≤ 8192) → al (cat fs ++ r) = fs ++ al r
  | [], r, _ => rfl
  | f :: fs, r, h => by
    have hf := h f (by simp)
    rw [cat_cons, List.append_assoc, al_some (g1_frm hf)]
    dsimp only
    rw [List.drop_left' (frm_len _ _), al_cat fs r (fun g hg => h g (by simp [hg]))]
    rfl

/-! ### cut short -/
theorem meas_cut {k : Int} {b : List Int} (hl : b.length ≤ 8192) {j : Nat} (hj : j < b.length + 8) : (meas ((frm k b).take j)).2 = 31 := by
  have hn : ((frm k b).take j).length = j := by rw [List.length_take, frm_len]; omega
  unfold meas
  rw [hn]
  by_cases h0 : j = 0
  · rw [if_pos h0]
  rw [if_neg h0]
  have e0 : ((frm k b).take j).getD 0 0 = 247 := by
    obtain ⟨i, rfl⟩ : ∃ i, j = i + 1 := ⟨j - 1, by omega⟩
    simp [frm, pre, hd]
  rw [e0, if_neg (by simp)]
  by_cases h8 : j < 8
  · rw [if_pos h8]
  rw [if_neg h8]
  have e1 : ln ((frm k b).take j) = b.length := by
    obtain ⟨i, rfl⟩ : ∃ i, j = i + 4 := ⟨j - 4, by omega⟩
    simp only [ln, frm, pre, hd, List.cons_append, List.take_succ_cons, List.getD_cons_succ, List.getD_cons_zero]
    omega
  rw [e1, if_neg (by omega), if_pos hj]
theorem g1_cut {k : Int} {b : List Int} (hl : b.length ≤ 8192) {j : Nat} (hj : j < b.length + 8) : g1 ((frm k b).take j) = none := by
  unfold g1
  rw [meas_cut hl hj, if_neg (by decide)]

/-- of frames, one behind the other, that are cut at t: as many as end up to there -/
theorem al_cut : ∀ (fs : List (Int × List Int)) (t : Nat), (∀ f ∈ fs, f.2.length ≤ 8192) →
    ∃ n, n ≤ fs.length ∧ al ((cat fs).take t) = fs.take n ∧ (∀ m, m ≤ fs.length → ((cat (fs.take m)).length ≤ t ↔ m ≤ n)) ∧ (n < fs.length → t < (cat (fs.take (n + 1))).length)
  | [], t, _ => ⟨0, by simp, by simp [cat_nil]; exact al_none (by decide), by intro m hm; simp at hm; subst hm; simp [cat_nil], by simp⟩
  | f :: fs, t, h => by
    have hf := h f (by simp)
    by_cases ht : t < f.2.length + 8
    · refine ⟨0, by simp, ?_, ?_, ?_⟩
      · rw [cat_cons, List.take_append_of_le_length (by rw [frm_len]; omega), al_none (g1_cut hf ht)]
        rfl
      · intro m hm
        cases m with
        | zero => simp [cat_nil]
        | succ m =>
          rw [List.take_succ_cons, cat_cons, List.length_append, frm_len]
          omega
      · intro _
        rw [List.take_succ_cons, cat_cons, List.length_append, frm_len]
        omega
    · obtain ⟨n, h1, h2, h3, h4⟩ := al_cut fs (t - (f.2.length + 8)) (fun g hg => h g (by simp [hg]))
      refine ⟨n + 1, by simpa using h1, ?_, ?_, ?_⟩
      · rw [cat_cons, List.take_append, frm_len, List.take_of_length_le (by rw [frm_len]; omega), al_some (g1_frm hf)]
        dsimp only
        rw [List.drop_left' (frm_len _ _), h2]
        rfl
      · intro m hm
        cases m with
        | zero => simp [cat_nil]
        | succ m =>
          rw [List.take_succ_cons, cat_cons, List.length_append, frm_len]
          have := h3 m (by simpa using hm)
          omega
      · intro hn
        have := h4 (by simpa using hn)
        rw [List.take_succ_cons, cat_cons, List.length_append, frm_len]
        omega

/-! ### one byte changed -/
theorem xor_ne {x y : Int} (hx : 0 ≤ x ∧ x ≤ 255) (hy : 0 ≤ y ∧ y ≤ 255) (h0 : y ≠ 0) : bits .xor .u8 x y ≠ x := by
  obtain ⟨a, rfl⟩ := Int.eq_ofNat_of_zero_le hx.1
  obtain ⟨b, rfl⟩ := Int.eq_ofNat_of_zero_le hy.1
  rw [u8_xor_nat a b (by omega) (by omega)]
  intro e
  have e' : a ^^^ b = a := by omega
  have : b = 0 := by
    have := congrArg (a ^^^ ·) e'
    simpa [← Nat.xor_assoc] using this
  omega

/-- the kind, or a byte behind the length -/
theorem meas_spoilt {k : Int} {b : List Int} (hk : 0 ≤ k ∧ k ≤ 255) (hb : By b) (hl : b.length ≤ 8192) {i : Nat} (hi : i < b.length + 8) (h4 : i = 1 ∨ 4 ≤ i) {y : Int} (hy : 0 ≤ y ∧ y ≤ 255) (h0 : y ≠ 0) :
    meas ((frm k b).set i (bits .xor .u8 ((frm k b).getD i 0) y)) = (0, 33) := by
  have hfb := frm_by hk hb hl
  have hx := hfb.at i
  obtain ⟨x, hxd⟩ : ∃ x, x = (frm k b).getD i 0 := ⟨_, rfl⟩
  rw [← hxd] at hx ⊢
  have hget : (frm k b)[i]? = some x := by
    rw [hxd, List.getD_eq_getElem?_getD, List.getElem?_eq_getElem (by rw [frm_len]; exact hi)]
    rfl
  obtain ⟨z, hz⟩ : ∃ z, z = bits .xor .u8 x y := ⟨_, rfl⟩
  rw [← hz]
  have hlen : ((frm k b).set i z).length = b.length + 8 := by rw [List.length_set, frm_len]
  have hne : ∀ j, j ≠ i → ((frm k b).set i z).getD j 0 = (frm k b).getD j 0 := fun j hj => by
    rw [List.getD_eq_getElem?_getD, List.getD_eq_getElem?_getD, List.getElem?_set_ne (Ne.symm hj)]
  have e0 : ((frm k b).set i z).getD 0 0 = 247 := by
    rw [hne 0 (by omega)]
    simp [frm, pre, hd]
  have e1 : ln ((frm k b).set i z) = b.length := by
    have := ln_frm (k := k) (r := []) hl
    rw [List.append_nil] at this
    unfold ln at this ⊢
    rw [hne 2 (by omega), hne 3 (by omega)]
    exact this
  have s1 : (frm k b).take (b.length + 4) = pre k b := by rw [frm, ← pre_len k b, List.take_left]
  have s2 : ((frm k b).drop (b.length + 4)).take 4 = sum (pre k b) := by rw [frm, ← pre_len k b, List.drop_left, List.take_of_length_le (by simp [sum, be4_len])]
  unfold meas
  rw [hlen, e0, e1, if_neg (by omega), if_neg (by simp), if_neg (by omega), if_neg (by omega), if_neg (by omega), if_pos]
  intro he
  by_cases hin : i < b.length + 4
  · rw [List.take_set, List.drop_set_of_lt (by omega), s1, s2] at he
    unfold sum at he
    have he2 := be4_inj he
    obtain ⟨i', rfl⟩ : ∃ i', i = i' + 1 := ⟨i - 1, by omega⟩
    have hd1 : ((pre k b).set (i' + 1) z).drop 1 = ((pre k b).drop 1).set i' z := by
      rw [List.drop_set]
      simp
    have hp : ((pre k b).drop 1)[i']? = some x := by
      rw [List.getElem?_drop, Nat.add_comm, ← s1, List.getElem?_take_of_lt hin]
      exact hget
    rw [hd1, hz] at he2
    exact Cm.crc_byte hp hx hy h0 0#32 he2
  · rw [List.take_set_of_le (by omega), s1, List.drop_set, if_neg (by omega), List.take_set, s2] at he
    have hl4 : i - (b.length + 4) < 4 := by omega
    have hxs : (sum (pre k b))[i - (b.length + 4)]? = some x := by
      rw [← s2, List.getElem?_take_of_lt hl4, List.getElem?_drop, show b.length + 4 + (i - (b.length + 4)) = i by omega]
      exact hget
    have := congrArg (fun m : List Int => m[i - (b.length + 4)]?) he
    rw [hxs, List.getElem?_set_self (by simp [sum, be4_len]; exact hl4)] at this
    simp only [Option.some.injEq] at this
    exact xor_ne hx hy h0 (by rw [← hz, ← this])

theorem xor_back {x y : Int} (hx : 0 ≤ x ∧ x ≤ 255) (hy : 0 ≤ y ∧ y ≤ 255) : bits .xor .u8 (bits .xor .u8 x y) y = x := by
  obtain ⟨a, rfl⟩ := Int.eq_ofNat_of_zero_le hx.1
  obtain ⟨b, rfl⟩ := Int.eq_ofNat_of_zero_le hy.1
  have hlt : a ^^^ b < 2 ^ 8 := Nat.xor_lt_two_pow (by omega) (by omega)
  rw [u8_xor_nat a b (by omega) (by omega), u8_xor_nat (a ^^^ b) b (by omega) (by omega), Nat.xor_assoc, Nat.xor_self, Nat.xor_zero]

/-- two frames are alike just if their kinds and bodies are -/
theorem frm_inj {k m : Int} {b c : List Int} (hb : b.length ≤ 8192) (hc : c.length ≤ 8192) (h : frm k b = frm m c) : k = m ∧ b = c := by
  have h1 := g1_frm (k := k) (b := b) (r := []) hb
  rw [h, g1_frm hc] at h1
  simp only [Option.some.injEq, Prod.mk.injEq] at h1
  exact ⟨h1.1.symm, h1.2.symm⟩
end Go.Proofs.YtbkdenlhfigjhaaDoor.Fm

/- The sum's bytes; what is alike; a copy; a frame written: the program's and the document's. -/
namespace Go.Proofs.YtbkdenlhfigjhaaDoor
open Go.RowKit Go.Shelf

set_option maxRecDepth 100000 in
set_option maxHeartbeats 1000000 in
theorem sumOf_any (A : Option Addr) (n cap B : Nat) (xs : List Int) (w : World) (hx : Rd w B A (u8s xs)) (hn : xs.length = n) (h1 : 1 ≤ n) (hnc : n ≤ cap) (hcap : cap ≤ maxLen) (hb : Fm.By xs) (ht : HTab w) :
    Calls Tryd.prog 80 #[.slice A n cap] w fun e w' => e = .returned (.slice (some ⟨w.heap.size, 0, none⟩) 4 4) ∧ w' = w.alloc (.cells (u8s (Fm.sum xs)).toArray 5) := by
  obtain ⟨i0, hi, hz0, hz1, hz2⟩ := info_parts info_u8
  have hsl : ∀ W, (Instr.slice 37 (.slice A n cap) (some (.int .i64 1)) none none).run Tryd.prog W = .ok (.slice (cutA A 1 cap) (n - 1) (cap - 1)) W := fun W => run_cut_l (P := Tryd.prog) Tryd.underlying37 (size_of_info hi hz1) A n cap 1 h1 W
  have hr := hx.dropU (k := 1) (cap := cap) (by omega)
  generalize cutA A 1 cap = A' at hsl hr
  have HC := Lib.hid (Sum_any A' (n - 1) (cap - 1) B (xs.drop 1) w hr (by rw [List.length_drop, hn]) (by omega) (hb.drop 1) ht)
  have HS : Hid (Fm.sum xs = Fm.be4 (Cm.crc 0#32 (xs.drop 1))) := rfl
  generalize Cm.crc 0#32 (xs.drop 1) = s at HC HS
  have hsf := Cm.V_fit s
  clear hx hr hb ht hi hz0 hz1 hz2
  go_enter Tryd.func80, Tryd.ntmps80
  go_wp2_with (go_at_call 85; refine HC.out.mono ?_; rintro e w' ⟨rfl, rfl⟩)
  go_ret
  rw [HS.out]
  exact ⟨rfl, rfl⟩

/-- the first four bytes, just laid -/
theorem own_hd (w : World) (k : Int) (n : Nat) : (w.alloc (.cells #[.int .u8 247, .int .u8 k, .int .u8 ((n : Int) / 256), .int .u8 ((n : Int) % 256)] 5)).ownsRow w.heap.size 5 1 (.slice (some ⟨w.heap.size, 0, none⟩) 4 4) 4 (u8s (Fm.hd k n)) := by
  exact own_new w w.heap.size 5 (u8s (Fm.hd k n)) 4 rfl (Nat.le_refl _) (by unfold maxLen; omega)

set_option maxRecDepth 100000 in
set_option maxHeartbeats 2000000 in
theorem FPut_any (k : Int) (A : Option Addr) (n cap B : Nat) (xs : List Int) (w : World) (hk : 0 ≤ k ∧ k ≤ 255) (hx : Rd w B A (u8s xs)) (hn : xs.length = n) (_hnc : n ≤ cap) (_hcap : cap ≤ maxLen) (hB : B ≤ w.heap.size) (hb : Fm.By xs) (ht : HTab w) :
    Calls Tryd.prog 70 #[.int .u8 k, .slice A n cap] w fun e w' => ∃ v, e = .returned (.tuple #[v, .int .i64 (Fm.put k xs).2]) ∧
      w'.ownsRow w.heap.size 5 1 v (Fm.put k xs).1.length (u8s (Fm.put k xs).1) ∧ Below w.heap.size w w' := by
  by_cases hm : n ≤ 8192
  · have HP : Hid (Fm.put k xs = (Fm.pre k xs ++ Fm.sum (Fm.pre k xs), 0)) := Fm.put_ok (by omega)
    have HPB := Lib.hid (Fm.pre_by hk hb (by omega))
    have HPL := Lib.hid (Fm.pre_len k xs)
    have HX := Lib.hid hx
    have HN := Lib.hid hn
    obtain ⟨i0, hi, hz0, hz1, hz2⟩ := info_parts info_u8
    have hown := own_hd w k n
    have HE : Hid (Fm.hd k n ++ xs = Fm.pre k xs) := by show _ = _; rw [← hn]; rfl
    clear hx hb hn
    go_enter Tryd.func70, Tryd.ntmps70
    go_wp2_with (first
      | (at_builtin; refine wpList_app rfl _ _ 37 rfl w.heap.size 5 i0 (.int .u8 0) 1 Tryd.underlying37 hi hz0 hz1 hz2 rfl _ _ _ rfl hown B A n cap (u8s xs) rfl (by rw [List.length_map]; exact HN.out) (HX.out.alloc hB _) (oneCell_ints _ _) (by unfold maxLen; omega) (by omega) (by simp) ?_; intro v2 w2 hown2 hgrow2 _; have hb2 := below_app ((Below.refl w.heap.size w).alloc (Nat.le_refl _) _) hown hgrow2 (by simp); rw [← List.map_append, HE.out] at hown2; obtain ⟨A2, c2, rfl, hcp2, hcm2, hrd2⟩ := own_view hown2)
      | (go_at_call 80; refine (sumOf_any A2 (4 + n) c2 w2.heap.size (Fm.pre k xs) w2 hrd2 (by rw [HPL.out, HN.out]; omega) (by omega) hcp2 hcm2 HPB.out (ht.below hb2 (Nat.le_refl _))).mono ?_; rintro e w' ⟨rfl, rfl⟩)
      | (at_builtin; refine wpList_app rfl _ _ 37 rfl w.heap.size 5 i0 (.int .u8 0) 1 Tryd.underlying37 hi hz0 hz1 hz2 rfl _ _ _ rfl (own_below hown2 ((Below.refl _ w2).alloc (Nat.le_refl _) _) (Nat.le_refl _)) (w2.heap.size + 1) (some ⟨w2.heap.size, 0, none⟩) 4 4 (u8s (Fm.sum (Fm.pre k xs))) rfl rfl (by exact Rd.new w2 (w2.heap.size + 1) (u8s (Fm.sum (Fm.pre k xs))) 5 (0, 0) (by omega)) (oneCell_ints _ _) (by unfold maxLen; omega) (by omega) (by have := hb2.size; simp; omega) ?_; intro v3 w3 hown3 hgrow3 _; have hb3 := below_app (hb2.alloc hb2.size _) (own_below hown2 ((Below.refl _ w2).alloc (Nat.le_refl _) _) (Nat.le_refl _)) hgrow3 (by have := hb2.size; simp; omega); rw [← List.map_append] at hown3))
    go_ret2
    rw [HP.out]
    refine ⟨_, rfl, ?_, hb3⟩
    have hl : (Fm.pre k xs ++ Fm.sum (Fm.pre k xs)).length = 4 + n + 4 := by rw [List.length_append, HPL.out, HN.out]; show n + 4 + 4 = _; omega
    rw [hl]
    exact hown3
  · have HP := Lib.hid (Fm.put_many (k := k) (b := xs) (by omega))
    clear hx hb
    go_enter Tryd.func70, Tryd.ntmps70
    go_wp2
    go_ret2
    rw [HP.out]
    exact ⟨_, rfl, own_none, Below.refl _ _⟩

end Go.Proofs.YtbkdenlhfigjhaaDoor

/- The size of the frame that bytes begin with: the program's. -/
namespace Go.Proofs.YtbkdenlhfigjhaaDoor
open Go.RowKit Go.Shelf

theorem getD_of {xs : List Int} {i : Nat} {x : Int} (h : xs[i]? = some x) : xs.getD i 0 = x := by rw [List.getD_eq_getElem?_getD, h]; rfl
theorem or_len {x y : Int} (hx : 0 ≤ x ∧ x ≤ 255) (hy : 0 ≤ y ∧ y ≤ 255) : bits .or .i64 (x * 256) y = (((x * 256 + y).toNat : Nat) : Int) := by
  obtain ⟨a, rfl⟩ := Int.eq_ofNat_of_zero_le hx.1
  obtain ⟨b, rfl⟩ := Int.eq_ofNat_of_zero_le hy.1
  have e : ((a : Int) * 256) = ((a * 256 : Nat) : Int) := by omega
  rw [e]
  show IntKind.i64.wrap ((BitVec.ofInt 64 ((a * 256 : Nat) : Int) ||| BitVec.ofInt 64 (b : Int)).toNat : Int) = _
  have hj : (a * 256) ||| b = a * 256 + b := nat_join 8 (a * 256) b (by omega) (by omega)
  rw [BitVec.toNat_or, ofInt_u64 _ (by omega), ofInt_u64 _ (by omega), hj, IntKind.wrap_i64]
  omega

end Go.Proofs.YtbkdenlhfigjhaaDoor

/- The frame at any place of any bytes: the program's. -/
namespace Go.Proofs.YtbkdenlhfigjhaaDoor
open Go.RowKit Go.Shelf

end Go.Proofs.YtbkdenlhfigjhaaDoor

/- The frame at any place of any bytes: the document's. -/
namespace Go.Proofs.YtbkdenlhfigjhaaDoor
open Go.RowKit Go.Shelf

theorem or32 (i : Nat) {a b : Int} (h0 : 0 ≤ a) (h1 : a.toNat % 2 ^ i = 0) (h2 : 0 ≤ b) (h3 : b.toNat < 2 ^ i) (h4 : a < 4294967296) (h5 : b < 4294967296) : bits .or .u32 a b = a + b := by
  rw [u32_or a b h0 h4 h2 h5, nat_join i _ _ h1 h3]
  omega

theorem or_word {p q r s : Int} (hp : 0 ≤ p ∧ p ≤ 255) (hq : 0 ≤ q ∧ q ≤ 255) (hr : 0 ≤ r ∧ r ≤ 255) (hs : 0 ≤ s ∧ s ≤ 255) :
    bits .or .u32 (p * 16777216) (q * 65536) = p * 16777216 + q * 65536 ∧ bits .or .u32 (p * 16777216 + q * 65536) (r * 256) = p * 16777216 + q * 65536 + r * 256 ∧
      bits .or .u32 (p * 16777216 + q * 65536 + r * 256) s = p * 16777216 + q * 65536 + r * 256 + s :=
  ⟨or32 24 (by omega) (by omega) (by omega) (by omega) (by omega) (by omega), or32 16 (by omega) (by omega) (by omega) (by omega) (by omega) (by omega), or32 8 (by omega) (by omega) (by omega) (by omega) (by omega) (by omega)⟩

theorem four_of {l : List Int} {j : Nat} {p q r s : Int} (hp : l[j]? = some p) (hq : l[j + 1]? = some q) (hr : l[j + 2]? = some r) (hs : l[j + 3]? = some s) : (l.drop j).take 4 = [p, q, r, s] := by
  have e : ∀ (k : Nat) (x : Int), l[k]? = some x → l.drop k = x :: l.drop (k + 1) := fun k x h => by
    obtain ⟨hlt, rfl⟩ := List.getElem?_eq_some_iff.1 h
    exact List.drop_eq_getElem_cons hlt
  rw [e _ _ hp, e _ _ hq, e _ _ hr, e _ _ hs]
  rfl

end Go.Proofs.YtbkdenlhfigjhaaDoor
