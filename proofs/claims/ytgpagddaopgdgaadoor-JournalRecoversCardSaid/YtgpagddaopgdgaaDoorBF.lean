import Derived.Test.YtgpagddaopgdgaaDoorBC
import Derived.Test.YtgpagddaopgdgaaDoorBK
import Derived.Lib.SliceRun

/- Frames as plain lists of numbers: a mark, a kind, a length, a body and a sum. No program in it. -/
namespace Go.Proofs.YtgpagddaopgdgaaDoor.Fm
open Go.RowKit

def By (l : List Int) : Prop := ∀ x ∈ l, 0 ≤ x ∧ x ≤ 255

theorem By.nil : By [] := fun _ h => by cases h
theorem By.take {l : List Int} (h : By l) (n : Nat) : By (l.take n) := fun x hx => h x (List.mem_of_mem_take hx)
theorem By.drop {l : List Int} (h : By l) (n : Nat) : By (l.drop n) := fun x hx => h x (List.mem_of_mem_drop hx)
theorem By.app {l m : List Int} (h : By l) (k : By m) : By (l ++ m) := fun x hx => by
  rcases List.mem_append.1 hx with a | a
  · exact h x a
  · exact k x a
theorem By.set {l : List Int} (h : By l) (i : Nat) {y : Int} (hy : 0 ≤ y ∧ y ≤ 255) : By (l.set i y) := fun x hx => by
  rcases List.mem_or_eq_of_mem_set hx with a | a
  · exact h x a
  · rw [a]; exact hy
theorem By.at {l : List Int} (h : By l) (i : Nat) : 0 ≤ l.getD i 0 ∧ l.getD i 0 ≤ 255 := by
  rw [List.getD_eq_getElem?_getD]
  cases e : l[i]? with
  | none => simp
  | some x => exact h x (List.mem_of_getElem? e)

/-! ### the sum's four bytes -/
def be4 (s : BitVec 32) : List Int := [Cm.V s / 16777216, Cm.V s / 65536 % 256, Cm.V s / 256 % 256, Cm.V s % 256]

theorem be4_by (s : BitVec 32) : By (be4 s) := fun x hx => by
  have h := Cm.V_fit s
  simp only [be4, List.mem_cons, List.not_mem_nil, or_false] at hx
  omega
theorem be4_len (s : BitVec 32) : (be4 s).length = 4 := rfl
theorem be4_eq {s : BitVec 32} {p q r t : Int} (_hp : 0 ≤ p ∧ p ≤ 255) (hq : 0 ≤ q ∧ q ≤ 255) (hr : 0 ≤ r ∧ r ≤ 255) (ht : 0 ≤ t ∧ t ≤ 255) :
    be4 s = [p, q, r, t] ↔ Cm.V s = p * 16777216 + q * 65536 + r * 256 + t := by
  have h := Cm.V_fit s
  simp only [be4, List.cons.injEq, and_true]
  generalize Cm.V s = n at *
  omega
theorem be4_inj {s t : BitVec 32} (h : be4 s = be4 t) : s = t := by
  apply Cm.V_inj
  have h1 := Cm.V_fit s
  have h2 := Cm.V_fit t
  simp only [be4, List.cons.injEq, and_true] at h
  generalize Cm.V s = n at *
  generalize Cm.V t = m at *
  omega

/-! ### a frame -/
def hd (k : Int) (n : Nat) : List Int := [247, k, (n : Int) / 256, (n : Int) % 256]
def pre (k : Int) (b : List Int) : List Int := hd k b.length ++ b
def sum (l : List Int) : List Int := be4 (Cm.crc 0#32 (l.drop 1))
def frm (k : Int) (b : List Int) : List Int := pre k b ++ sum (pre k b)
def put (k : Int) (b : List Int) : List Int × Int := if 8192 < b.length then ([], 2) else (frm k b, 0)

theorem pre_len (k : Int) (b : List Int) : (pre k b).length = b.length + 4 := by simp [pre, hd]
theorem frm_len (k : Int) (b : List Int) : (frm k b).length = b.length + 8 := by simp [frm, pre_len, sum, be4_len]
theorem pre_by {k : Int} {b : List Int} (hk : 0 ≤ k ∧ k ≤ 255) (hb : By b) (hl : b.length ≤ 8192) : By (pre k b) := by
  refine By.app (fun x hx => ?_) hb
  simp only [hd, List.mem_cons, List.not_mem_nil, or_false] at hx
  omega
theorem frm_by {k : Int} {b : List Int} (hk : 0 ≤ k ∧ k ≤ 255) (hb : By b) (hl : b.length ≤ 8192) : By (frm k b) := (pre_by hk hb hl).app (be4_by _)
theorem put_by {k : Int} {b : List Int} (hk : 0 ≤ k ∧ k ≤ 255) (hb : By b) : By (put k b).1 := by
  unfold put
  split
  · exact By.nil
  · exact frm_by hk hb (by omega)
theorem put_ok {k : Int} {b : List Int} (h : b.length ≤ 8192) : put k b = (frm k b, 0) := if_neg (by omega)
theorem put_many {k : Int} {b : List Int} (h : 8192 < b.length) : put k b = ([], 2) := if_pos h

/-! ### what a row of bytes begins with -/
def ln (l : List Int) : Nat := (l.getD 2 0 * 256 + l.getD 3 0).toNat
/-- the size of the frame, and the error -/
def meas (l : List Int) : Int × Int :=
  if l.length = 0 then (0, 31) else if l.getD 0 0 ≠ 247 then (0, 32) else if l.length < 8 then (0, 31) else if 8192 < ln l then (0, 2)
  else if l.length < ln l + 8 then (0, 31) else if sum (l.take (ln l + 4)) ≠ (l.drop (ln l + 4)).take 4 then (0, 33) else (((ln l + 8 : Nat) : Int), 0)
def get (b : List Int) (t : Int) : Int × List Int × Int × Int :=
  if t < 0 ∨ (b.length : Int) < t then (0, [], 0, 1)
  else if (meas (b.drop t.toNat)).2 ≠ 0 then (0, [], 0, (meas (b.drop t.toNat)).2)
  else ((b.drop t.toNat).getD 1 0, ((b.drop t.toNat).drop 4).take (ln (b.drop t.toNat)), t + ((ln (b.drop t.toNat) + 8 : Nat) : Int), 0)
def g1 (l : List Int) : Option (Int × List Int) := if (meas l).2 = 0 then some (l.getD 1 0, (l.drop 4).take (ln l)) else none

theorem meas_zero {l : List Int} (h : (meas l).2 = 0) : meas l = (((ln l + 8 : Nat) : Int), 0) ∧ l.getD 0 0 = 247 ∧ ln l ≤ 8192 ∧ ln l + 8 ≤ l.length ∧ sum (l.take (ln l + 4)) = (l.drop (ln l + 4)).take 4 := by
  revert h
  unfold meas
  repeat' split
  all_goals simp_all
  all_goals omega
theorem meas_0 {l : List Int} (h : l.length = 0) : meas l = (0, 31) := if_pos h
theorem meas_1 {l : List Int} (h : l.length ≠ 0) (h1 : l.getD 0 0 ≠ 247) : meas l = (0, 32) := by unfold meas; rw [if_neg h, if_pos h1]
theorem meas_2 {l : List Int} (h : l.length ≠ 0) (h1 : l.getD 0 0 = 247) (h2 : l.length < 8) : meas l = (0, 31) := by unfold meas; rw [if_neg h, if_neg (by rw [h1]; simp), if_pos h2]
theorem meas_3 {l : List Int} (h2 : 8 ≤ l.length) (h1 : l.getD 0 0 = 247) (h3 : 8192 < ln l) : meas l = (0, 2) := by
  unfold meas; rw [if_neg (by omega), if_neg (by rw [h1]; simp), if_neg (by omega), if_pos h3]
theorem meas_4 {l : List Int} (h2 : 8 ≤ l.length) (h1 : l.getD 0 0 = 247) (h3 : ln l ≤ 8192) (h4 : l.length < ln l + 8) : meas l = (0, 31) := by
  unfold meas; rw [if_neg (by omega), if_neg (by rw [h1]; simp), if_neg (by omega), if_neg (by omega), if_pos h4]
theorem meas_5 {l : List Int} (h1 : l.getD 0 0 = 247) (h3 : ln l ≤ 8192) (h4 : ln l + 8 ≤ l.length) (h5 : sum (l.take (ln l + 4)) ≠ (l.drop (ln l + 4)).take 4) : meas l = (0, 33) := by
  unfold meas; rw [if_neg (by omega), if_neg (by rw [h1]; simp), if_neg (by omega), if_neg (by omega), if_neg (by omega), if_pos h5]
theorem meas_6 {l : List Int} (h1 : l.getD 0 0 = 247) (h3 : ln l ≤ 8192) (h4 : ln l + 8 ≤ l.length) (h5 : sum (l.take (ln l + 4)) = (l.drop (ln l + 4)).take 4) : meas l = (((ln l + 8 : Nat) : Int), 0) := by
  unfold meas; rw [if_neg (by omega), if_neg (by rw [h1]; simp), if_neg (by omega), if_neg (by omega), if_neg (by omega), if_neg (by rw [h5]; simp)]
theorem meas_vals (l : List Int) : (meas l).2 = 0 ∨ (meas l).2 = 2 ∨ (meas l).2 = 31 ∨ (meas l).2 = 32 ∨ (meas l).2 = 33 := by
  unfold meas
  repeat' split
  all_goals simp

theorem ln_frm {k : Int} {b r : List Int} (hl : b.length ≤ 8192) : ln (frm k b ++ r) = b.length := by
  simp only [ln, frm, pre, hd, List.cons_append, List.getD_cons_succ, List.getD_cons_zero]
  omega

theorem meas_frm {k : Int} {b r : List Int} (hl : b.length ≤ 8192) : meas (frm k b ++ r) = (((b.length + 8 : Nat) : Int), 0) := by
  have h1 := ln_frm (k := k) (r := r) hl
  have h2 : (frm k b ++ r).length = b.length + 8 + r.length := by rw [List.length_append, frm_len]
  have h0 : (frm k b ++ r).getD 0 0 = 247 := by simp [frm, pre, hd]
  have e1 : (frm k b ++ r).take (b.length + 4) = pre k b := by
    rw [frm, List.append_assoc, ← pre_len k b, List.take_left]
  have e2 : ((frm k b ++ r).drop (b.length + 4)).take 4 = sum (pre k b) := by
    rw [frm, List.append_assoc, ← pre_len k b, List.drop_left]
    exact List.take_left' (be4_len _)
  unfold meas
  rw [h1, h2, h0, e1, e2]
  rw [if_neg (by omega), if_neg (by simp), if_neg (by omega), if_neg (by omega), if_neg (by omega), if_neg (by simp)]

theorem g1_frm {k : Int} {b r : List Int} (hl : b.length ≤ 8192) : g1 (frm k b ++ r) = some (k, b) := by
  unfold g1
  rw [meas_frm hl, ln_frm hl, if_pos rfl]
  have e1 : (frm k b ++ r).getD 1 0 = k := by simp [frm, pre, hd]
  have e2 : ((frm k b ++ r).drop 4).take b.length = b := by
    simp [frm, pre, hd]
  rw [e1, e2]

theorem head4 {l : List Int} (h : 4 ≤ l.length) : l = l.getD 0 0 :: l.getD 1 0 :: l.getD 2 0 :: l.getD 3 0 :: l.drop 4 := by
  match l, h with
  | a :: b :: c :: d :: r, _ => rfl
  | [], h => simp at h
  | [_], h => simp at h
  | [_, _], h => simp at h
  | [_, _, _], h => simp at h

/-- what is told is how the bytes begin -/
theorem g1_some {l : List Int} {k : Int} {b : List Int} (hb : By l) (h : g1 l = some (k, b)) : b.length ≤ 8192 ∧ (0 ≤ k ∧ k ≤ 255) ∧ By b ∧ b.length + 8 ≤ l.length ∧ ln l = b.length ∧ l = frm k b ++ l.drop (b.length + 8) := by
  unfold g1 at h
  split at h
  · rename_i h0
    obtain ⟨e1, e2, e3, e4, e5⟩ := meas_zero h0
    simp only [Option.some.injEq, Prod.mk.injEq] at h
    obtain ⟨rfl, rfl⟩ := h
    have hlen : ((l.drop 4).take (ln l)).length = ln l := by rw [List.length_take, List.length_drop]; omega
    rw [hlen]
    refine ⟨e3, hb.at 1, (hb.drop 4).take _, e4, rfl, ?_⟩
    have b2 := hb.at 2
    have b3 := hb.at 3
    have hp : pre (l.getD 1 0) ((l.drop 4).take (ln l)) = l.take (ln l + 4) := by
      unfold pre
      rw [hlen]
      obtain ⟨c, d, r, hl⟩ : ∃ c d r, c = l.getD 2 0 ∧ d = l.getD 3 0 ∧ r = l.drop 4 := ⟨_, _, _, rfl, rfl, rfl⟩
      have h4 := head4 (l := l) (by omega)
      obtain ⟨hc, hd', hr⟩ := hl
      have hln : ln l = (c * 256 + d).toNat := by unfold ln; rw [hc, hd']
      rw [← hc] at b2 h4
      rw [← hd'] at b3 h4
      rw [← hr] at h4 ⊢
      have e : l.take (ln l + 4) = l.getD 0 0 :: l.getD 1 0 :: c :: d :: r.take (ln l) := by
        generalize ln l = m
        exact congrArg (List.take (m + 4)) h4
      rw [e, e2, hln]
      show [247, l.getD 1 0, _, _] ++ _ = _
      have x1 : (((c * 256 + d).toNat : Nat) : Int) / 256 = c := by omega
      have x2 : (((c * 256 + d).toNat : Nat) : Int) % 256 = d := by omega
      rw [x1, x2]
      rfl
    unfold frm
    rw [hp, e5, List.append_assoc]
    have : (l.drop (ln l + 4)).take 4 ++ l.drop (ln l + 8) = l.drop (ln l + 4) := by
      conv => rhs; rw [← List.take_append_drop 4 (l.drop (ln l + 4))]
      rw [List.drop_drop]
    rw [this, List.take_append_drop]
  · cases h

theorem get_arg {b : List Int} {t : Int} (h : t < 0 ∨ (b.length : Int) < t) : get b t = (0, [], 0, 1) := if_pos h
theorem get_err {b : List Int} {n : Nat} (h : n ≤ b.length) (he : (meas (b.drop n)).2 ≠ 0) : get b (n : Int) = (0, [], 0, (meas (b.drop n)).2) := by
  unfold get
  rw [if_neg (by omega), Int.toNat_natCast, if_pos he]
theorem get_ok {b : List Int} {n : Nat} (h : n ≤ b.length) (he : (meas (b.drop n)).2 = 0) : get b (n : Int) = ((b.drop n).getD 1 0, ((b.drop n).drop 4).take (ln (b.drop n)), (n : Int) + ((ln (b.drop n) + 8 : Nat) : Int), 0) := by
  unfold get
  rw [if_neg (by omega), Int.toNat_natCast, if_neg (by rw [he]; simp)]
theorem get_some {b : List Int} {n : Nat} {k : Int} {x : List Int} (h : n ≤ b.length) (hb : By b) (hg : g1 (b.drop n) = some (k, x)) : get b (n : Int) = (k, x, ((n + (x.length + 8) : Nat) : Int), 0) := by
  have h5 := (g1_some (hb.drop n) hg).2.2.2.2.1
  unfold g1 at hg
  split at hg
  · rename_i h0
    rw [get_ok h h0, h5]
    simp only [Option.some.injEq, Prod.mk.injEq] at hg
    obtain ⟨rfl, rfl⟩ := hg
    have : ∀ m : Nat, ((n : Int) + ((m + 8 : Nat) : Int)) = ((n + (m + 8) : Nat) : Int) := fun m => by omega
    rw [this]
    rw [← h5]
  · cases hg
theorem get_none {b : List Int} {n : Nat} (h : n ≤ b.length) (hg : g1 (b.drop n) = none) : (get b (n : Int)).2.2.2 ≠ 0 := by
  unfold g1 at hg
  split at hg
  · cases hg
  · rename_i h0
    rw [get_err h h0]
    exact h0
theorem get_body (b : List Int) (t : Int) : (get b t).2.1.length ≤ 8192 := by
  unfold get
  split
  · simp
  · split
    · simp
    · rename_i h0
      obtain ⟨_, _, h3, _⟩ := meas_zero (by simpa using h0)
      simp only [List.length_take]
      omega

/-! ### all of them -/
def als : Nat → List Int → List (Int × List Int)
  | 0, _ => []
  | f + 1, l => match g1 l with
    | none => []
    | some x => x :: als f (l.drop (x.2.length + 8))
def al (l : List Int) : List (Int × List Int) := als (l.length + 1) l
def cat (fs : List (Int × List Int)) : List Int := fs.flatMap fun f => frm f.1 f.2
def Ok (fs : List (Int × List Int)) : Prop := ∀ f ∈ fs, f.2.length ≤ 8192 ∧ (0 ≤ f.1 ∧ f.1 ≤ 255) ∧ By f.2

theorem cat_nil : cat [] = [] := rfl
theorem cat_cons (f : Int × List Int) (fs : List (Int × List Int)) : cat (f :: fs) = frm f.1 f.2 ++ cat fs := rfl
theorem cat_app (fs gs : List (Int × List Int)) : cat (fs ++ gs) = cat fs ++ cat gs := List.flatMap_append

theorem als_more : ∀ (f g : Nat) (l : List Int), l.length < f → l.length < g → als f l = als g l
  | 0, _, _, h, _ => by omega
  | _, 0, _, _, h => by omega
  | f + 1, g + 1, l, hf, hg => by
    unfold als
    cases h : g1 l with
    | none => rfl
    | some x =>
      dsimp only
      by_cases hl : l.length = 0
      · exfalso
        unfold g1 meas at h
        rw [if_pos hl] at h
        simp at h
      · rw [als_more f g _ (by rw [List.length_drop]; omega) (by rw [List.length_drop]; omega)]

theorem al_none {l : List Int} (h : g1 l = none) : al l = [] := by
  unfold al als
  rw [h]
theorem al_some {l : List Int} {x : Int × List Int} (h : g1 l = some x) : al l = x :: al (l.drop (x.2.length + 8)) := by
  have hl : l.length ≠ 0 := fun e => by
    unfold g1 meas at h
    rw [if_pos e] at h
    simp at h
  conv => lhs; unfold al als
  rw [h]
  dsimp only
  rw [al, als_more l.length ((l.drop (x.2.length + 8)).length + 1) _ (by rw [List.length_drop]; omega) (by omega)]

theorem al_ok : ∀ (n : Nat) (l : List Int), l.length ≤ n → By l → Ok (al l) ∧ (cat (al l)).length ≤ l.length ∧ l = cat (al l) ++ l.drop (cat (al l)).length ∧ g1 (l.drop (cat (al l)).length) = none
  | n, l, hn, hb => by
    cases h : g1 l with
    | none =>
      rw [al_none h]
      exact ⟨(fun f hf => nomatch hf), Nat.zero_le _, rfl, h⟩
    | some x =>
      obtain ⟨k, b⟩ := x
      obtain ⟨h1, h2, h3, h4, _, h5⟩ := g1_some hb h
      cases n with
      | zero => omega
      | succ n =>
        rw [al_some h]
        dsimp only at *
        obtain ⟨i1, i2, i3, i4⟩ := al_ok n (l.drop (b.length + 8)) (by rw [List.length_drop]; omega) (hb.drop _)
        rw [List.length_drop] at i2
        refine ⟨fun f hf => ?_, ?_, ?_, ?_⟩
        · rcases List.mem_cons.1 hf with rfl | hf
          · exact ⟨h1, h2, h3⟩
          · exact i1 f hf
        · rw [cat_cons, List.length_append, frm_len]; dsimp only; omega
        · rw [cat_cons, List.length_append, frm_len]
          dsimp only
          rw [List.append_assoc, ← List.drop_drop (j := b.length + 8), ← i3]
          exact h5
        · rw [cat_cons, List.length_append, frm_len]
          dsimp only
          rw [← List.drop_drop (j := b.length + 8)]
          exact i4

theorem al_cat : ∀ (fs : List (Int × List Int)) (r : List Int), (∀ f ∈ fs, f.2.length ≤ 8192) → al (cat fs ++ r) = fs ++ al r
  | [], r, _ => rfl
  | f :: fs, r, h => by
    have hf := h f (by simp)
    rw [cat_cons, List.append_assoc, al_some (g1_frm hf)]
    dsimp only
    rw [List.drop_left' (frm_len _ _), al_cat fs r (fun g hg => h g (by simp [hg]))]
    rfl

/-! ### cut short -/
theorem meas_cut {k : Int} {b : List Int} (hl : b.length ≤ 8192) {j : Nat} (hj : j < b.length + 8) : (meas ((frm k b).take j)).2 = 31 := by
  have hn : ((frm k b).take j).length = j := by rw [List.length_take, frm_len]; omega
  unfold meas
  rw [hn]
  by_cases h0 : j = 0
  · rw [if_pos h0]
  rw [if_neg h0]
  have e0 : ((frm k b).take j).getD 0 0 = 247 := by
    obtain ⟨i, rfl⟩ : ∃ i, j = i + 1 := ⟨j - 1, by omega⟩
    simp [frm, pre, hd]
  rw [e0, if_neg (by simp)]
  by_cases h8 : j < 8
  · rw [if_pos h8]
  rw [if_neg h8]
  have e1 : ln ((frm k b).take j) = b.length := by
    obtain ⟨i, rfl⟩ : ∃ i, j = i + 4 := ⟨j - 4, by omega⟩
    simp only [ln, frm, pre, hd, List.cons_append, List.take_succ_cons, List.getD_cons_succ, List.getD_cons_zero]
    omega
  rw [e1, if_neg (by omega), if_pos hj]
theorem g1_cut {k : Int} {b : List Int} (hl : b.length ≤ 8192) {j : Nat} (hj : j < b.length + 8) : g1 ((frm k b).take j) = none := by
  unfold g1
  rw [meas_cut hl hj, if_neg (by decide)]

/-- of frames, one behind the other, that are cut at t: as many as end up to there -/
theorem al_cut : ∀ (fs : List (Int × List Int)) (t : Nat), (∀ f ∈ fs, f.2.length ≤ 8192) →
    ∃ n, n ≤ fs.length ∧ al ((cat fs).take t) = fs.take n ∧ (∀ m, m ≤ fs.length → ((cat (fs.take m)).length ≤ t ↔ m ≤ n)) ∧ (n < fs.length → t < (cat (fs.take (n + 1))).length)
  | [], t, _ => ⟨0, by simp, by simp [cat_nil]; exact al_none (by decide), by intro m hm; simp at hm; subst hm; simp [cat_nil], by simp⟩
  | f :: fs, t, h => by
    have hf := h f (by simp)
    by_cases ht : t < f.2.length + 8
    · refine ⟨0, by simp, ?_, ?_, ?_⟩
      · rw [cat_cons, List.take_append_of_le_length (by rw [frm_len]; omega), al_none (g1_cut hf ht)]
        rfl
      · intro m hm
        cases m with
        | zero => simp [cat_nil]
        | succ m =>
          rw [List.take_succ_cons, cat_cons, List.length_append, frm_len]
          omega
      · intro _
        rw [List.take_succ_cons, cat_cons, List.length_append, frm_len]
        omega
    · obtain ⟨n, h1, h2, h3, h4⟩ := al_cut fs (t - (f.2.length + 8)) (fun g hg => h g (by simp [hg]))
      refine ⟨n + 1, by simpa using h1, ?_, ?_, ?_⟩
      · rw [cat_cons, List.take_append, frm_len, List.take_of_length_le (by rw [frm_len]; omega), al_some (g1_frm hf)]
        dsimp only
        rw [List.drop_left' (frm_len _ _), h2]
        rfl
      · intro m hm
        cases m with
        | zero => simp [cat_nil]
        | succ m =>
          rw [List.take_succ_cons, cat_cons, List.length_append, frm_len]
          have := h3 m (by simpa using hm)
          omega
      · intro hn
        have := h4 (by simpa using hn)
        rw [List.take_succ_cons, cat_cons, List.length_append, frm_len]
        omega

/-! ### one byte changed -/
theorem xor_ne {x y : Int} (hx : 0 ≤ x ∧ x ≤ 255) (hy : 0 ≤ y ∧ y ≤ 255) (h0 : y ≠ 0) : bits .xor .u8 x y ≠ x := by
  obtain ⟨a, rfl⟩ := Int.eq_ofNat_of_zero_le hx.1
  obtain ⟨b, rfl⟩ := Int.eq_ofNat_of_zero_le hy.1
  rw [u8_xor_nat a b (by omega) (by omega)]
  intro e
  have e' : a ^^^ b = a := by omega
  have : b = 0 := by
    have := congrArg (a ^^^ ·) e'
    simpa [← Nat.xor_assoc] using this
  omega

/-- the kind, or a byte behind the length -/
theorem meas_spoilt {k : Int} {b : List Int} (hk : 0 ≤ k ∧ k ≤ 255) (hb : By b) (hl : b.length ≤ 8192) {i : Nat} (hi : i < b.length + 8) (h4 : i = 1 ∨ 4 ≤ i) {y : Int} (hy : 0 ≤ y ∧ y ≤ 255) (h0 : y ≠ 0) :
    meas ((frm k b).set i (bits .xor .u8 ((frm k b).getD i 0) y)) = (0, 33) := by
  have hfb := frm_by hk hb hl
  have hx := hfb.at i
  obtain ⟨x, hxd⟩ : ∃ x, x = (frm k b).getD i 0 := ⟨_, rfl⟩
  rw [← hxd] at hx ⊢
  have hget : (frm k b)[i]? = some x := by
    rw [hxd, List.getD_eq_getElem?_getD, List.getElem?_eq_getElem (by rw [frm_len]; exact hi)]
    rfl
  obtain ⟨z, hz⟩ : ∃ z, z = bits .xor .u8 x y := ⟨_, rfl⟩
  rw [← hz]
  have hlen : ((frm k b).set i z).length = b.length + 8 := by rw [List.length_set, frm_len]
  have hne : ∀ j, j ≠ i → ((frm k b).set i z).getD j 0 = (frm k b).getD j 0 := fun j hj => by
    rw [List.getD_eq_getElem?_getD, List.getD_eq_getElem?_getD, List.getElem?_set_ne (Ne.symm hj)]
  have e0 : ((frm k b).set i z).getD 0 0 = 247 := by
    rw [hne 0 (by omega)]
    simp [frm, pre, hd]
  have e1 : ln ((frm k b).set i z) = b.length := by
    have := ln_frm (k := k) (r := []) hl
    rw [List.append_nil] at this
    unfold ln at this ⊢
    rw [hne 2 (by omega), hne 3 (by omega)]
    exact this
  have s1 : (frm k b).take (b.length + 4) = pre k b := by rw [frm, ← pre_len k b, List.take_left]
  have s2 : ((frm k b).drop (b.length + 4)).take 4 = sum (pre k b) := by rw [frm, ← pre_len k b, List.drop_left, List.take_of_length_le (by simp [sum, be4_len])]
  unfold meas
  rw [hlen, e0, e1, if_neg (by omega), if_neg (by simp), if_neg (by omega), if_neg (by omega), if_neg (by omega), if_pos]
  intro he
  by_cases hin : i < b.length + 4
  · rw [List.take_set, List.drop_set_of_lt (by omega), s1, s2] at he
    unfold sum at he
    have he2 := be4_inj he
    obtain ⟨i', rfl⟩ : ∃ i', i = i' + 1 := ⟨i - 1, by omega⟩
    have hd1 : ((pre k b).set (i' + 1) z).drop 1 = ((pre k b).drop 1).set i' z := by
      rw [List.drop_set]
      simp
    have hp : ((pre k b).drop 1)[i']? = some x := by
      rw [List.getElem?_drop, Nat.add_comm, ← s1, List.getElem?_take_of_lt hin]
      exact hget
    rw [hd1, hz] at he2
    exact Cm.crc_byte hp hx hy h0 0#32 he2
  · rw [List.take_set_of_le (by omega), s1, List.drop_set, if_neg (by omega), List.take_set, s2] at he
    have hl4 : i - (b.length + 4) < 4 := by omega
    have hxs : (sum (pre k b))[i - (b.length + 4)]? = some x := by
      rw [← s2, List.getElem?_take_of_lt hl4, List.getElem?_drop, show b.length + 4 + (i - (b.length + 4)) = i by omega]
      exact hget
    have := congrArg (fun m : List Int => m[i - (b.length + 4)]?) he
    rw [hxs, List.getElem?_set_self (by simp [sum, be4_len]; exact hl4)] at this
    simp only [Option.some.injEq] at this
    exact xor_ne hx hy h0 (by rw [← hz, ← this])

theorem xor_back {x y : Int} (hx : 0 ≤ x ∧ x ≤ 255) (hy : 0 ≤ y ∧ y ≤ 255) : bits .xor .u8 (bits .xor .u8 x y) y = x := by
  obtain ⟨a, rfl⟩ := Int.eq_ofNat_of_zero_le hx.1
  obtain ⟨b, rfl⟩ := Int.eq_ofNat_of_zero_le hy.1
  have hlt : a ^^^ b < 2 ^ 8 := Nat.xor_lt_two_pow (by omega) (by omega)
  rw [u8_xor_nat a b (by omega) (by omega), u8_xor_nat (a ^^^ b) b (by omega) (by omega), Nat.xor_assoc, Nat.xor_self, Nat.xor_zero]

/-- two frames are alike just if their kinds and bodies are -/
theorem frm_inj {k m : Int} {b c : List Int} (hb : b.length ≤ 8192) (hc : c.length ≤ 8192) (h : frm k b = frm m c) : k = m ∧ b = c := by
  have h1 := g1_frm (k := k) (b := b) (r := []) hb
  rw [h, g1_frm hc] at h1
  simp only [Option.some.injEq, Prod.mk.injEq] at h1
  exact ⟨h1.1.symm, h1.2.symm⟩
end Go.Proofs.YtgpagddaopgdgaaDoor.Fm

/- The sum's bytes; what is alike; a copy; a frame written: the program's and the document's. -/
namespace Go.Proofs.YtgpagddaopgdgaaDoor
open Go.RowKit Go.Shelf

set_option maxRecDepth 100000 in
set_option maxHeartbeats 1000000 in
theorem sumOf_any (A : Option Addr) (n cap B : Nat) (xs : List Int) (w : World) (hx : Rd w B A (u8s xs)) (hn : xs.length = n) (h1 : 1 ≤ n) (hnc : n ≤ cap) (hcap : cap ≤ maxLen) (hb : Fm.By xs) (ht : HTab w) :
    Calls Tryd.prog 41 #[.slice A n cap] w fun e w' => e = .returned (.slice (some ⟨w.heap.size, 0, none⟩) 4 4) ∧ w' = w.alloc (.cells (u8s (Fm.sum xs)).toArray 5) := by
  obtain ⟨i0, hi, hz0, hz1, hz2⟩ := info_parts info_u8
  have hsl : ∀ W, (Instr.slice 29 (.slice A n cap) (some (.int .i64 1)) none none).run Tryd.prog W = .ok (.slice (cutA A 1 cap) (n - 1) (cap - 1)) W := fun W => run_cut_l (P := Tryd.prog) Tryd.underlying29 (size_of_info hi hz1) A n cap 1 h1 W
  have hr := hx.dropU (k := 1) (cap := cap) (by omega)
  generalize cutA A 1 cap = A' at hsl hr
  have HC := Lib.hid (Sum_any A' (n - 1) (cap - 1) B (xs.drop 1) w hr (by rw [List.length_drop, hn]) (by omega) (hb.drop 1) ht)
  have HS : Hid (Fm.sum xs = Fm.be4 (Cm.crc 0#32 (xs.drop 1))) := rfl
  generalize Cm.crc 0#32 (xs.drop 1) = s at HC HS
  have hsf := Cm.V_fit s
  clear hx hr hb ht hi hz0 hz1 hz2
  go_enter Tryd.func41, Tryd.ntmps41
  go_wp2_with (go_at_call 45; refine HC.out.mono ?_; rintro e w' ⟨rfl, rfl⟩)
  go_ret
  rw [HS.out]
  exact ⟨rfl, rfl⟩

theorem Equal_any (A : Option Addr) (n cap B : Nat) (xs : List Int) (A' : Option Addr) (n' cap' B' : Nat) (ys : List Int) (w : World) (hx : Rd w B A (u8s xs)) (hn : xs.length = n) (hy : Rd w B' A' (u8s ys)) (hn' : ys.length = n') (hb : Fm.By xs) (hb' : Fm.By ys) :
    Calls Tryd.prog 51 #[.slice A n cap, .slice A' n' cap'] w fun e w' => e = .returned (.bool (decide (xs = ys))) ∧ w' = w := by
  have c1 := str_of (cap := cap) hx hn
  have c2 := str_of (cap := cap') hy hn'
  have HE := Lib.hid (str_beq hb hb')
  clear hx hy
  go_enter Tryd.func51, Tryd.ntmps51
  go_wp2
  go_ret
  exact ⟨ret_bool HE.out, rfl⟩

set_option maxRecDepth 100000 in
set_option maxHeartbeats 1000000 in
theorem Clone_any (ad : Addr) (n cap B : Nat) (xs : List Int) (w : World) (hx : Rd w B (some ad) (u8s xs)) (hn : xs.length = n) (hB : B ≤ w.heap.size) (hle : n ≤ 140737488355328) :
    Calls Tryd.prog 39 #[.slice (some ad) n cap] w fun e w' => ∃ v, e = .returned v ∧ w'.ownsRow w.heap.size 5 1 v xs.length (u8s xs) ∧ Below w.heap.size w w' := by
  obtain ⟨i0, hi, hz0, hz1, hz2⟩ := info_parts info_u8
  have hnl := fun W => Lib.run_eql_slice_nil (P := Tryd.prog) W 29 5 (some ad) n cap 0 0 Tryd.underlying29
  have HN := Lib.hid hn
  have hown := World.ownsRow_made (base := w.heap.size) (e := 5) (size := 1) w #[] 0 (Nat.le_refl _) (by unfold maxLen; omega) (by simp)
  clear hn
  go_enter Tryd.func39, Tryd.ntmps39
  go_wp2_with (at_builtin; refine wpList_app rfl _ _ 29 rfl w.heap.size 5 i0 (.int .u8 0) 1 Tryd.underlying29 hi hz0 hz1 hz2 rfl _ _ _ rfl hown B (some ad) n cap (u8s xs) rfl (by rw [List.length_map]; exact HN.out) (hx.alloc hB _) (oneCell_ints _ _) (by unfold maxLen; omega) (by omega) (by simp) ?_; intro v' w2 hown' hgrow _)
  go_ret
  refine ⟨v', rfl, ?_, below_app ((Below.refl _ w).alloc (Nat.le_refl _) _) hown hgrow (by simp)⟩
  rw [HN.out]
  simpa [u8s] using hown'

/-- the first four bytes, just laid -/
theorem own_hd (w : World) (k : Int) (n : Nat) : (w.alloc (.cells #[.int .u8 247, .int .u8 k, .int .u8 ((n : Int) / 256), .int .u8 ((n : Int) % 256)] 5)).ownsRow w.heap.size 5 1 (.slice (some ⟨w.heap.size, 0, none⟩) 4 4) 4 (u8s (Fm.hd k n)) := by
  exact own_new w w.heap.size 5 (u8s (Fm.hd k n)) 4 rfl (Nat.le_refl _) (by unfold maxLen; omega)

set_option maxRecDepth 100000 in
set_option maxHeartbeats 2000000 in
theorem FPut_any (k : Int) (A : Option Addr) (n cap B : Nat) (xs : List Int) (w : World) (hk : 0 ≤ k ∧ k ≤ 255) (hx : Rd w B A (u8s xs)) (hn : xs.length = n) (_hnc : n ≤ cap) (_hcap : cap ≤ maxLen) (hB : B ≤ w.heap.size) (hb : Fm.By xs) (ht : HTab w) :
    Calls Tryd.prog 29 #[.int .u8 k, .slice A n cap] w fun e w' => ∃ v, e = .returned (.tuple #[v, .int .i64 (Fm.put k xs).2]) ∧
      w'.ownsRow w.heap.size 5 1 v (Fm.put k xs).1.length (u8s (Fm.put k xs).1) ∧ Below w.heap.size w w' := by
  by_cases hm : n ≤ 8192
  · have HP : Hid (Fm.put k xs = (Fm.pre k xs ++ Fm.sum (Fm.pre k xs), 0)) := Fm.put_ok (by omega)
    have HPB := Lib.hid (Fm.pre_by hk hb (by omega))
    have HPL := Lib.hid (Fm.pre_len k xs)
    have HX := Lib.hid hx
    have HN := Lib.hid hn
    obtain ⟨i0, hi, hz0, hz1, hz2⟩ := info_parts info_u8
    have hown := own_hd w k n
    have HE : Hid (Fm.hd k n ++ xs = Fm.pre k xs) := by show _ = _; rw [← hn]; rfl
    clear hx hb hn
    go_enter Tryd.func29, Tryd.ntmps29
    go_wp2_with (first
      | (at_builtin; refine wpList_app rfl _ _ 29 rfl w.heap.size 5 i0 (.int .u8 0) 1 Tryd.underlying29 hi hz0 hz1 hz2 rfl _ _ _ rfl hown B A n cap (u8s xs) rfl (by rw [List.length_map]; exact HN.out) (HX.out.alloc hB _) (oneCell_ints _ _) (by unfold maxLen; omega) (by omega) (by simp) ?_; intro v2 w2 hown2 hgrow2 _; have hb2 := below_app ((Below.refl w.heap.size w).alloc (Nat.le_refl _) _) hown hgrow2 (by simp); rw [← List.map_append, HE.out] at hown2; obtain ⟨A2, c2, rfl, hcp2, hcm2, hrd2⟩ := own_view hown2)
      | (go_at_call 41; refine (sumOf_any A2 (4 + n) c2 w2.heap.size (Fm.pre k xs) w2 hrd2 (by rw [HPL.out, HN.out]; omega) (by omega) hcp2 hcm2 HPB.out (ht.below hb2 (Nat.le_refl _))).mono ?_; rintro e w' ⟨rfl, rfl⟩)
      | (at_builtin; refine wpList_app rfl _ _ 29 rfl w.heap.size 5 i0 (.int .u8 0) 1 Tryd.underlying29 hi hz0 hz1 hz2 rfl _ _ _ rfl (own_below hown2 ((Below.refl _ w2).alloc (Nat.le_refl _) _) (Nat.le_refl _)) (w2.heap.size + 1) (some ⟨w2.heap.size, 0, none⟩) 4 4 (u8s (Fm.sum (Fm.pre k xs))) rfl rfl (by exact Rd.new w2 (w2.heap.size + 1) (u8s (Fm.sum (Fm.pre k xs))) 5 (0, 0) (by omega)) (oneCell_ints _ _) (by unfold maxLen; omega) (by omega) (by have := hb2.size; simp; omega) ?_; intro v3 w3 hown3 hgrow3 _; have hb3 := below_app (hb2.alloc hb2.size _) (own_below hown2 ((Below.refl _ w2).alloc (Nat.le_refl _) _) (Nat.le_refl _)) hgrow3 (by have := hb2.size; simp; omega); rw [← List.map_append] at hown3))
    go_ret2
    rw [HP.out]
    refine ⟨_, rfl, ?_, hb3⟩
    have hl : (Fm.pre k xs ++ Fm.sum (Fm.pre k xs)).length = 4 + n + 4 := by rw [List.length_append, HPL.out, HN.out]; show n + 4 + 4 = _; omega
    rw [hl]
    exact hown3
  · have HP := Lib.hid (Fm.put_many (k := k) (b := xs) (by omega))
    clear hx hb
    go_enter Tryd.func29, Tryd.ntmps29
    go_wp2
    go_ret2
    rw [HP.out]
    exact ⟨_, rfl, own_none, Below.refl _ _⟩

set_option maxRecDepth 100000 in
set_option maxHeartbeats 2000000 in
theorem FRPut_any (k : Int) (A : Option Addr) (n cap B : Nat) (xs : List Int) (w : World) (hk : 0 ≤ k ∧ k ≤ 255) (hx : Rd w B A (u8s xs)) (hn : xs.length = n) (_hnc : n ≤ cap) (_hcap : cap ≤ maxLen) (hB : B ≤ w.heap.size) (hb : Fm.By xs) :
    Calls Tryd.prog 28 #[.int .u8 k, .slice A n cap] w fun e w' => ∃ v, e = .returned (.tuple #[v, .int .i64 (Fm.put k xs).2]) ∧
      w'.ownsRow w.heap.size 5 1 v (Fm.put k xs).1.length (u8s (Fm.put k xs).1) ∧ Below w.heap.size w w' := by
  by_cases hm : n ≤ 8192
  · have HP : Hid (Fm.put k xs = (Fm.pre k xs ++ Fm.be4 (Cm.crc 0#32 ((Fm.pre k xs).drop 1)), 0)) := Fm.put_ok (by omega)
    have HPB := Lib.hid (Fm.pre_by hk hb (by omega))
    have HPL := Lib.hid (Fm.pre_len k xs)
    have HX := Lib.hid hx
    have HN := Lib.hid hn
    obtain ⟨i0, hi, hz0, hz1, hz2⟩ := info_parts info_u8
    have hown := own_hd w k n
    have HE : Hid (Fm.hd k n ++ xs = Fm.pre k xs) := by show _ = _; rw [← hn]; rfl
    obtain ⟨s, hs⟩ : ∃ s, s = Cm.crc 0#32 ((Fm.pre k xs).drop 1) := ⟨_, rfl⟩
    have HS := Lib.hid hs
    rw [← hs] at HP
    have hsf := Cm.V_fit s
    clear hx hb hn hs
    go_enter Tryd.func28, Tryd.ntmps28
    go_wp2_with (first
      | (at_builtin; refine wpList_app rfl _ _ 29 rfl w.heap.size 5 i0 (.int .u8 0) 1 Tryd.underlying29 hi hz0 hz1 hz2 rfl _ _ _ rfl hown B A n cap (u8s xs) rfl (by rw [List.length_map]; exact HN.out) (HX.out.alloc hB _) (oneCell_ints _ _) (by unfold maxLen; omega) (by omega) (by simp) ?_; intro v2 w2 hown2 hgrow2 _; have hb2 := below_app ((Below.refl w.heap.size w).alloc (Nat.le_refl _) _) hown hgrow2 (by simp); rw [← List.map_append, HE.out] at hown2; obtain ⟨A2, c2, rfl, hcp2, hcm2, hrd2⟩ := own_view hown2; have hsl : ∀ W, (Instr.slice 29 (.slice A2 (4 + n) c2) (some (.int .i64 1)) none none).run Tryd.prog W = .ok (.slice (cutA A2 1 c2) (4 + n - 1) (c2 - 1)) W := (fun W => run_cut_l (P := Tryd.prog) Tryd.underlying29 (size_of_info hi hz1) A2 (4 + n) c2 1 (by omega) W); have hrd3 := hrd2.dropU (k := 1) (cap := c2) (by rw [HPL.out, HN.out]; omega); generalize cutA A2 1 c2 = A3 at hsl hrd3)
      | (go_at_call 40; refine (RSum_any _ _ _ w2.heap.size ((Fm.pre k xs).drop 1) w2 hrd3 (by rw [List.length_drop, HPL.out, HN.out]; omega) (by omega) (HPB.out.drop 1)).mono ?_; rw [← HS.out]; rintro e w' ⟨rfl, rfl⟩)
      | (at_builtin; refine wpList_app rfl _ _ 29 rfl w.heap.size 5 i0 (.int .u8 0) 1 Tryd.underlying29 hi hz0 hz1 hz2 rfl _ _ _ rfl (own_below hown2 ((Below.refl _ w2).alloc (Nat.le_refl _) _) (Nat.le_refl _)) (w2.heap.size + 1) (some ⟨w2.heap.size, 0, none⟩) 4 4 (u8s (Fm.be4 s)) rfl rfl (by exact Rd.new w2 (w2.heap.size + 1) (u8s (Fm.be4 s)) 5 (0, 0) (by omega)) (oneCell_ints _ _) (by unfold maxLen; omega) (by omega) (by have := hb2.size; simp; omega) ?_; intro v3 w3 hown3 hgrow3 _; have hb3 := below_app (hb2.alloc hb2.size _) (own_below hown2 ((Below.refl _ w2).alloc (Nat.le_refl _) _) (Nat.le_refl _)) hgrow3 (by have := hb2.size; simp; omega); rw [← List.map_append] at hown3))
    go_ret2
    rw [HP.out]
    refine ⟨_, rfl, ?_, hb3⟩
    have hl : (Fm.pre k xs ++ Fm.be4 s).length = 4 + n + 4 := by rw [List.length_append, HPL.out, HN.out]; show n + 4 + 4 = _; omega
    rw [hl]
    exact hown3
  · have HP := Lib.hid (Fm.put_many (k := k) (b := xs) (by omega))
    clear hx hb
    go_enter Tryd.func28, Tryd.ntmps28
    go_wp2
    go_ret2
    rw [HP.out]
    exact ⟨_, rfl, own_none, Below.refl _ _⟩
end Go.Proofs.YtgpagddaopgdgaaDoor

/- The size of the frame that bytes begin with: the program's. -/
namespace Go.Proofs.YtgpagddaopgdgaaDoor
open Go.RowKit Go.Shelf

theorem getD_of {xs : List Int} {i : Nat} {x : Int} (h : xs[i]? = some x) : xs.getD i 0 = x := by rw [List.getD_eq_getElem?_getD, h]; rfl
theorem or_len {x y : Int} (hx : 0 ≤ x ∧ x ≤ 255) (hy : 0 ≤ y ∧ y ≤ 255) : bits .or .i64 (x * 256) y = (((x * 256 + y).toNat : Nat) : Int) := by
  obtain ⟨a, rfl⟩ := Int.eq_ofNat_of_zero_le hx.1
  obtain ⟨b, rfl⟩ := Int.eq_ofNat_of_zero_le hy.1
  have e : ((a : Int) * 256) = ((a * 256 : Nat) : Int) := by omega
  rw [e]
  show IntKind.i64.wrap ((BitVec.ofInt 64 ((a * 256 : Nat) : Int) ||| BitVec.ofInt 64 (b : Int)).toNat : Int) = _
  have hj : (a * 256) ||| b = a * 256 + b := nat_join 8 (a * 256) b (by omega) (by omega)
  rw [BitVec.toNat_or, ofInt_u64 _ (by omega), ofInt_u64 _ (by omega), hj, IntKind.wrap_i64]
  omega

set_option maxRecDepth 100000 in
set_option maxHeartbeats 4000000 in
theorem measure_any (A : Option Addr) (n cap B : Nat) (xs : List Int) (w : World) (hx : Rd w B A (u8s xs)) (hn : xs.length = n) (hnc : n ≤ cap) (hcap : cap ≤ maxLen) (hB : B ≤ w.heap.size) (hb : Fm.By xs) (ht : HTab w) :
    Calls Tryd.prog 49 #[.slice A n cap] w fun e w' => e = .returned (.tuple #[.int .i64 (Fm.meas xs).1, .int .i64 (Fm.meas xs).2]) ∧ Below w.heap.size w w' := by
  by_cases h0 : n = 0
  · have HM := Lib.hid (Fm.meas_0 (l := xs) (by omega))
    have k0 : ((n : Int) == 0) = true := by rw [beq_iff_eq]; omega
    clear hx hb ht
    go_enter Tryd.func49, Tryd.ntmps49
    go_wp2
    go_ret2
    rw [HM.out]
    exact ⟨rfl, Below.refl _ _⟩
  have k0 : ((n : Int) == 0) = false := by rw [beq_eq_false_iff_ne]; omega
  obtain ⟨x0, hx0⟩ : ∃ x, xs[0]? = some x := ⟨xs[0], List.getElem?_eq_getElem (by omega)⟩
  obtain ⟨ad, rfl, _, hc0⟩ := hx.getU hx0
  rw [show ad.add 0 = ad from rfl] at hc0
  have hd0 := getD_of hx0
  have hcap' := hcap
  unfold maxLen at hcap'
  by_cases h1 : x0 = 247
  case neg =>
    have HM := Lib.hid (Fm.meas_1 (l := xs) (by omega) (by rw [hd0]; exact h1))
    have k1 : (x0 != 247) = true := by rw [bne_iff_ne]; exact h1
    clear hx hb ht hx0 hd0
    go_enter Tryd.func49, Tryd.ntmps49
    go_wp2
    go_ret2
    rw [HM.out]
    exact ⟨rfl, Below.refl _ _⟩
  subst h1
  by_cases h2 : n < 8
  · have HM := Lib.hid (Fm.meas_2 (l := xs) (by omega) hd0 (by omega))
    clear hx hb ht hx0 hd0
    go_enter Tryd.func49, Tryd.ntmps49
    go_wp2
    go_ret2
    rw [HM.out]
    exact ⟨rfl, Below.refl _ _⟩
  obtain ⟨x2, hx2⟩ : ∃ x, xs[2]? = some x := ⟨xs[2], List.getElem?_eq_getElem (by omega)⟩
  obtain ⟨x3, hx3⟩ : ∃ x, xs[3]? = some x := ⟨xs[3], List.getElem?_eq_getElem (by omega)⟩
  obtain ⟨_, e2, _, hc2⟩ := hx.getU hx2
  cases e2
  obtain ⟨_, e3, _, hc3⟩ := hx.getU hx3
  cases e3
  have b2 := hb _ (List.mem_of_getElem? hx2)
  have b3 := hb _ (List.mem_of_getElem? hx3)
  have hor := or_len b2 b3
  have hln : Fm.ln xs = (x2 * 256 + x3).toNat := by unfold Fm.ln; rw [getD_of hx2, getD_of hx3]
  have hlb : Fm.ln xs ≤ 65535 := by omega
  rw [← hln] at hor
  obtain ⟨m, hm⟩ : ∃ m, m = Fm.ln xs := ⟨_, rfl⟩
  rw [← hm] at hor hlb
  have i2 : (2 : Int) < (n : Int) := by omega
  have i3 : (3 : Int) < (n : Int) := by omega
  have k2 : decide ((n : Int) < 8) = false := by simp; omega
  rw [show ad.add 2 = ⟨ad.block, ad.off + 2, none⟩ from rfl] at hc2
  rw [show ad.add 3 = ⟨ad.block, ad.off + 3, none⟩ from rfl] at hc3
  clear hln hx0 hx2 hx3
  by_cases h3 : 8192 < m
  · have HM := Lib.hid (Fm.meas_3 (l := xs) (by omega) hd0 (by omega))
    clear hx hb ht hd0 hm
    go_enter Tryd.func49, Tryd.ntmps49
    go_wp2
    go_quiet (fail)
    go_wp2
    go_ret2
    rw [HM.out]
    exact ⟨rfl, below_drawn (Below.refl _ _) nq⟩
  by_cases h4 : n < m + 8
  · have HM := Lib.hid (Fm.meas_4 (l := xs) (by omega) hd0 (by omega) (by omega))
    clear hx hb ht hd0 hm
    go_enter Tryd.func49, Tryd.ntmps49
    go_wp2
    go_quiet (fail)
    go_wp2
    go_ret2
    rw [HM.out]
    exact ⟨rfl, below_drawn (Below.refl _ _) nq⟩
  have HM := Lib.hid hm
  have hw4 : IntKind.i64.wrap (4 + (m : Int)) = 4 + (m : Int) := IntWalk.i64_in _ (by omega)
  have hw8 : IntKind.i64.wrap (4 + (m : Int) + 4) = 4 + (m : Int) + 4 := IntWalk.i64_in _ (by omega)
  obtain ⟨i0, hi, hz0, hz1, hz2⟩ := info_parts info_u8
  have hsA : ∀ W, (Instr.slice 29 (.slice (some ad) n cap) none (some (.int .i64 (4 + (m : Int)))) none).run Tryd.prog W = .ok (.slice (cutA (some ad) 0 cap) (m + 4) cap) W := fun W => by
    have h := run_cut_h (P := Tryd.prog) Tryd.underlying29 (size_of_info hi hz1) (some ad) n cap (m + 4) (by omega) W
    rwa [show (((m + 4 : Nat)) : Int) = 4 + (m : Int) by omega] at h
  have hsB : ∀ W, (Instr.slice 29 (.slice (some ad) n cap) (some (.int .i64 (4 + (m : Int)))) (some (.int .i64 (4 + (m : Int) + 4))) none).run Tryd.prog W = .ok (.slice (cutA (some ad) (m + 4) cap) 4 (cap - (m + 4))) W := fun W => by
    have h := run_cut_lh (P := Tryd.prog) Tryd.underlying29 (size_of_info hi hz1) (some ad) n cap (m + 4) (m + 8) (by omega) (by omega) W
    rwa [show (((m + 4 : Nat)) : Int) = 4 + (m : Int) by omega, show (((m + 8 : Nat)) : Int) = 4 + (m : Int) + 4 by omega, show m + 8 - (m + 4) = 4 by omega] at h
  have k3 : decide (8192 < (m : Int)) = false := by simp; omega
  have k4 : decide ((n : Int) < 4 + (m : Int) + 4) = false := by simp; omega
  have HRA := Lib.hid (rd_cut0 (n := m + 4) hx (cap := cap) (by omega))
  have HRB := Lib.hid ((hx.dropU (k := m + 4) (cap := cap) (by omega)).takeU 4)
  have HT := Lib.hid ht
  have HB := Lib.hid hb
  have HD := Lib.hid hd0
  clear hm hi hz0 hz1 hz2 hx ht hb hd0
  go_enter Tryd.func49, Tryd.ntmps49
  go_wp2
  go_quiet (fail)
  go_wp2
  refine region_C (fun w' => Below w.heap.size w w') (by kernel_rfl) ?_
  obtain ⟨w1, hw1⟩ : ∃ w1, w1 = (w.drewN nq).drew := ⟨_, rfl⟩
  have hC : Below w.heap.size w w1 := by rw [hw1]; exact below_drawn (below_drawn (Below.refl w.heap.size w) nq) 1
  rw [← hw1]
  clear hw1
  refine anyC_take (i := 0) (v := ?v0_1) (a' := ?a0_1) rfl (by kernel_rfl) (by kernel_rfl) (by kernel_rfl) (fun _ _ _ h => h) hC ?w0_1 ?y0_1 ?f0_1 ?r0_1
  case w0_1 => kernel_rfl
  case y0_1 => (intro w hC; go_simp; try with_reducible rfl)
  case f0_1 => (go_simp; try with_reducible rfl)
  refine anyC_take (i := 1) (v := ?v1_2) (a' := ?a1_2) rfl (by kernel_rfl) (by kernel_rfl) (by kernel_rfl) (fun _ _ _ h => h) hC ?w1_2 ?y1_2 ?f1_2 ?r1_2
  case w1_2 => kernel_rfl
  case y1_2 => (intro w hC; go_simp; try with_reducible rfl)
  case f1_2 => (go_simp; try with_reducible rfl)
  refine anyC_take (i := 2) (v := ?v2_3) (a' := ?a2_3) rfl (by kernel_rfl) (by kernel_rfl) (by kernel_rfl) (fun _ _ _ h => h) hC ?w2_3 ?y2_3 ?f2_3 ?r2_3
  case w2_3 => kernel_rfl
  case y2_3 => (intro w hC; go_simp; try with_reducible rfl)
  case f2_3 => (go_simp; try with_reducible rfl)
  refine anyC_take (i := 3) (v := ?v3_4) (a' := ?a3_4) rfl (by kernel_rfl) (by kernel_rfl) (by kernel_rfl) (fun _ _ _ h => h) hC ?w3_4 ?y3_4 ?f3_4 ?r3_4
  case w3_4 => kernel_rfl
  case y3_4 => (intro w hC; go_simp; try with_reducible rfl)
  case f3_4 => (go_simp; try with_reducible rfl)
  refine anyC_take (i := 5) (v := ?v5_5) (a' := ?a5_5) rfl (by kernel_rfl) (by kernel_rfl) (by kernel_rfl) (fun _ _ _ h => h) hC ?w5_5 ?y5_5 ?f5_5 ?r5_5
  case w5_5 => kernel_rfl
  case y5_5 => (intro w hC; go_simp; try with_reducible rfl)
  case f5_5 => (go_simp; try with_reducible rfl)
  refine anyC_take (i := 6) (v := ?v6_6) (a' := ?a6_6) rfl (by kernel_rfl) (by kernel_rfl) (by kernel_rfl) (fun _ _ _ h => h) hC ?w6_6 ?y6_6 ?f6_6 ?r6_6
  case w6_6 => kernel_rfl
  case y6_6 => (intro w hC; go_simp; try with_reducible rfl)
  case f6_6 => (go_simp; try with_reducible rfl)
  refine anyC_take (i := 7) (v := ?v7_7) (a' := ?a7_7) rfl (by kernel_rfl) (by kernel_rfl) (by kernel_rfl) (fun _ _ _ h => h) hC ?w7_7 ?y7_7 ?f7_7 ?r7_7
  case w7_7 => kernel_rfl
  case y7_7 => (intro w hC; go_simp; try with_reducible rfl)
  case f7_7 => (go_simp; try with_reducible rfl)
  refine anyC_take (i := 8) (v := ?v8_8) (a' := ?a8_8) rfl (by kernel_rfl) (by kernel_rfl) (by kernel_rfl) (fun _ _ _ h => h) hC ?w8_8 ?y8_8 ?f8_8 ?r8_8
  case w8_8 => kernel_rfl
  case y8_8 => (intro w hC; go_simp; try with_reducible rfl)
  case f8_8 => (go_simp; try with_reducible rfl)
  refine anyC_take (i := 9) (v := ?v9_9) (a' := ?a9_9) rfl (by kernel_rfl) (by kernel_rfl) (by kernel_rfl) (fun _ _ _ h => h) hC ?w9_9 ?y9_9 ?f9_9 ?r9_9
  case w9_9 => kernel_rfl
  case y9_9 => (intro w hC; go_simp; try with_reducible rfl)
  case f9_9 => (go_simp; try with_reducible rfl)
  refine anyC_one (i := 4) rfl (by kernel_rfl) (by kernel_rfl) (fun K hK => ?_)
  go_simp
  refine (sumOf_any _ (m + 4) cap B (xs.take (m + 4)) _ (by exact HRA.out.below (hC.mono hB)) (by rw [List.length_take]; omega) (by omega) (by omega) hcap (HB.out.take _) (HT.out.below hC (Nat.le_refl _))).mono ?_
  rintro e w' ⟨rfl, rfl⟩
  go_wp2_with fail
  have hC2 := hC.alloc hC.size (.cells (u8s (Fm.sum (xs.take (m + 4)))).toArray 5)
  have hE := Equal_any (some ⟨w1.heap.size, 0, none⟩) 4 4 (w1.heap.size + 1) (Fm.sum (xs.take (m + 4))) (cutA (some ad) (m + 4) cap) 4 (cap - (m + 4)) B ((xs.drop (m + 4)).take 4) (w1.alloc (.cells (u8s (Fm.sum (xs.take (m + 4)))).toArray 5))
    (by exact Rd.new w1 (w1.heap.size + 1) (u8s (Fm.sum (xs.take (m + 4)))) 5 (0, 0) (by omega)) rfl (HRB.out.below (hC2.mono hB)) (by rw [List.length_take, List.length_drop]; omega) (Fm.be4_by _) ((HB.out.drop _).take _)
  clear hC
  refine ⟨hC2, ?_⟩
  generalize w1.alloc (.cells (u8s (Fm.sum (xs.take (m + 4)))).toArray 5) = w2 at hC2 hE ⊢
  refine anyC_one (i := 10) rfl (by kernel_rfl) (by kernel_rfl) (fun K hK => ?_)
  go_simp
  go_wp2_with (go_at_call 51; fail)
  refine hE.mono ?_
  rintro e w' ⟨rfl, rfl⟩
  go_wp2_with fail
  refine ⟨hC2, ?_⟩
  refine anyC_take (i := 11) (v := ?v11_10) (a' := ?a11_10) rfl (by kernel_rfl) (by kernel_rfl) (by kernel_rfl) (fun _ _ _ h => h) hC2 ?w11_10 ?y11_10 ?f11_10 ?r11_10
  case w11_10 => kernel_rfl
  case y11_10 => (intro w hC; go_simp; try with_reducible rfl)
  case f11_10 => (go_simp; try with_reducible rfl)
  refine anyC_take (i := 12) (v := ?v12_11) (a' := ?a12_11) rfl (by kernel_rfl) (by kernel_rfl) (by kernel_rfl) (fun _ _ _ h => h) hC2 ?w12_11 ?y12_11 ?f12_11 ?r12_11
  case w12_11 => kernel_rfl
  case y12_11 => (intro w hC; go_simp; try with_reducible rfl)
  case f12_11 => (go_simp; try with_reducible rfl)
  refine anyC_done (by kernel_rfl) ?_
  clear hE
  by_cases h5 : Fm.sum (xs.take (m + 4)) = (xs.drop (m + 4)).take 4
  · have HF : Hid (Fm.meas xs = (4 + (m : Int) + 4, 0)) := by
      show _ = _
      rw [HM.out] at h5
      rw [Fm.meas_6 HD.out (by rw [← HM.out]; omega) (by rw [← HM.out]; omega) h5, ← HM.out]
      congr 1
      omega
    have hd : decide (Fm.sum (xs.take (m + 4)) = (xs.drop (m + 4)).take 4) = true := by simpa using h5
    rw [hd]
    clear hd h5
    go_wp2
    go_ret2
    rw [HF.out]
    exact ⟨rfl, hC2⟩
  · have HF : Hid (Fm.meas xs = (0, 33)) := by
      show _ = _
      rw [HM.out] at h5
      exact Fm.meas_5 HD.out (by rw [← HM.out]; omega) (by rw [← HM.out]; omega) h5
    have hd : decide (Fm.sum (xs.take (m + 4)) = (xs.drop (m + 4)).take 4) = false := by simpa using h5
    rw [hd]
    clear hd h5
    go_wp2
    go_ret2
    rw [HF.out]
    exact ⟨rfl, hC2⟩
end Go.Proofs.YtgpagddaopgdgaaDoor

/- The frame at any place of any bytes: the program's. -/
namespace Go.Proofs.YtgpagddaopgdgaaDoor
open Go.RowKit Go.Shelf

set_option maxRecDepth 100000 in
set_option maxHeartbeats 4000000 in
theorem FGet_any (A : Option Addr) (n cap B : Nat) (xs : List Int) (t : Int) (w : World) (hx : Rd w B A (u8s xs)) (hn : xs.length = n) (hnc : n ≤ cap) (hcap : cap ≤ maxLen) (hB : B ≤ w.heap.size) (hb : Fm.By xs) (ht : HTab w)
    (t0 : -9223372036854775808 ≤ t) (t1 : t ≤ 9223372036854775807) :
    Calls Tryd.prog 47 #[.slice A n cap, .int .i64 t] w fun e w' => ∃ v, e = .returned (.tuple #[.int .u8 (Fm.get xs t).1, v, .int .i64 (Fm.get xs t).2.2.1, .int .i64 (Fm.get xs t).2.2.2]) ∧
      w'.ownsRow w.heap.size 5 1 v (Fm.get xs t).2.1.length (u8s (Fm.get xs t).2.1) ∧ Below w.heap.size w w' := by
  have hcap' := hcap
  unfold maxLen at hcap'
  by_cases h1 : t < 0
  · have HE := Lib.hid (Fm.get_arg (b := xs) (t := t) (.inl h1))
    have hd : decide (t < 0) = true := by simpa using h1
    clear hx hb ht
    go_enter Tryd.func47, Tryd.ntmps47
    go_wp2
    (try simp only [Exit.inBlock, Exit.then]); refine bodyPost_ret (results_tmp4 rfl _ _ _) rfl ?_
    rw [HE.out]
    exact ⟨_, rfl, own_none, Below.refl _ _⟩
  by_cases h2 : (n : Int) < t
  · have HE := Lib.hid (Fm.get_arg (b := xs) (t := t) (.inr (by omega)))
    have hd : decide (t < 0) = false := by simpa using h1
    clear hx hb ht
    go_enter Tryd.func47, Tryd.ntmps47
    go_wp2
    (try simp only [Exit.inBlock, Exit.then]); refine bodyPost_ret (results_tmp4 rfl _ _ _) rfl ?_
    rw [HE.out]
    exact ⟨_, rfl, own_none, Below.refl _ _⟩
  obtain ⟨m, rfl⟩ := Int.eq_ofNat_of_zero_le (show 0 ≤ t by omega)
  obtain ⟨i0, hi, hz0, hz1, hz2⟩ := info_parts info_u8
  have hsl := fun W => run_cut_l (P := Tryd.prog) Tryd.underlying29 (size_of_info hi hz1) A n cap m (by omega) W
  have hd1 : decide ((m : Int) < 0) = false := by simp
  have hd2 : decide ((n : Int) < (m : Int)) = false := by simp; omega
  have HC := Lib.hid (measure_any (cutA A m cap) (n - m) (cap - m) B (xs.drop m) w (hx.dropU (k := m) (cap := cap) (by omega)) (by rw [List.length_drop, hn]) (by omega) (by omega) hB (hb.drop m) ht)
  by_cases he : (Fm.meas (xs.drop m)).2 = 0
  case neg =>
    have HE := Lib.hid (Fm.get_err (n := m) (by omega) he)
    generalize Fm.meas (xs.drop m) = q at HC HE he
    obtain ⟨q1, q2⟩ := q
    dsimp only at HC HE he
    have hq : (q2 != 0) = true := by rw [bne_iff_ne]; exact he
    clear hx hb ht he hi hz0 hz1 hz2
    go_enter Tryd.func47, Tryd.ntmps47
    go_wp2_with (go_at_call 49; refine HC.out.mono ?_; rintro e w' ⟨rfl, hb1⟩)
    (try simp only [Exit.inBlock, Exit.then]); refine bodyPost_ret (results_tmp4 rfl _ _ _) rfl ?_
    rw [HE.out]
    exact ⟨_, rfl, own_none, hb1⟩
  obtain ⟨e1, -, h5, h6, -⟩ := Fm.meas_zero he
  have HE := Lib.hid (Fm.get_ok (n := m) (by omega) he)
  obtain ⟨k, hk⟩ : ∃ k, k = Fm.ln (xs.drop m) := ⟨_, rfl⟩
  rw [← hk] at e1 h5 h6 HE
  have e2 : Fm.meas (xs.drop m) = ((k : Int) + 8, 0) := by rw [e1]; congr 1
  rw [e2] at HC
  rw [List.length_drop, hn] at h6
  obtain ⟨x1, hx1⟩ : ∃ x, xs[m + 1]? = some x := ⟨xs[m + 1], List.getElem?_eq_getElem (by omega)⟩
  obtain ⟨ad, rfl, hab, hc1⟩ := hx.getU hx1
  have hg1 : (xs.drop m).getD 1 0 = x1 := getD_of (by rw [List.getElem?_drop]; exact hx1)
  rw [hg1] at HE
  have hsB : ∀ W, (Instr.slice 29 (.slice (some ad) n cap) (some (.int .i64 ((m : Int) + 4))) (some (.int .i64 ((m : Int) + ((k : Int) + 8) - 4))) none).run Tryd.prog W = .ok (.slice (cutA (some ad) (m + 4) cap) k (cap - (m + 4))) W := fun W => by
    have h := run_cut_lh (P := Tryd.prog) Tryd.underlying29 (size_of_info hi hz1) (some ad) n cap (m + 4) (m + 4 + k) (by omega) (by omega) W
    rwa [show (((m + 4 : Nat)) : Int) = (m : Int) + 4 by omega, show (((m + 4 + k : Nat)) : Int) = (m : Int) + ((k : Int) + 8) - 4 by omega, show m + 4 + k - (m + 4) = k by omega] at h
  have hrB := (hx.dropU (k := m + 4) (cap := cap) (by omega)).takeU k
  obtain ⟨ad2, had2⟩ := cutA_some ad (m + 4) cap
  rw [had2] at hsB hrB
  have HRB := Lib.hid hrB
  have HL : Hid (((xs.drop (m + 4)).take k).length = k) := by
    show _ = _
    rw [List.length_take, List.length_drop]; omega
  have HD : Hid ((xs.drop m).drop 4 = xs.drop (m + 4)) := by
    show _ = _
    rw [List.drop_drop]
  have HX1 : Hid (∀ w', Below w.heap.size w w' → w'.cell? ⟨ad.block, ad.off + (m + 1), none⟩ = some (.int .u8 x1)) := fun w' h => (h.cell (by dsimp only; omega)).trans hc1
  have i1 : (m : Int) + 1 < (n : Int) := by omega
  have j1 : (0 : Int) ≤ (m : Int) + 1 := by omega
  clear hx hb ht he hi hz0 hz1 hz2 e1 e2 hk hx1 hg1 hrB had2 hc1
  go_enter Tryd.func47, Tryd.ntmps47
  go_wp2_with (go_at_call 49; refine HC.out.mono ?_; rintro e w' ⟨rfl, hb1⟩)
  refine region_C (fun w' => Below w.heap.size w w') (by kernel_rfl) ?_
  obtain ⟨w1, hw1⟩ : ∃ w1, w1 = w'.drew := ⟨_, rfl⟩
  have hC : Below w.heap.size w w1 := by rw [hw1]; exact below_drawn hb1 1
  rw [← hw1]
  clear hw1 hb1
  have hq1 : IntKind.i64.wrap ((m : Int) + 1) = (m : Int) + 1 := IntWalk.i64_in _ (by omega)
  have hq4 : IntKind.i64.wrap ((m : Int) + 4) = (m : Int) + 4 := IntWalk.i64_in _ (by omega)
  have hq5 : IntKind.i64.wrap ((m : Int) + ((k : Int) + 8) - 4) = (m : Int) + ((k : Int) + 8) - 4 := IntWalk.i64_in _ (by omega)
  refine anyC_take (i := 0) (v := ?v0_12) (a' := ?a0_12) rfl (by kernel_rfl) (by kernel_rfl) (by kernel_rfl) (fun _ _ _ h => h) hC ?w0_12 ?y0_12 ?f0_12 ?r0_12
  case w0_12 => kernel_rfl
  case y0_12 => (intro w hC; go_simp; try with_reducible rfl)
  case f0_12 => (go_simp; try with_reducible rfl)
  refine anyC_take (i := 1) (v := ?v1_13) (a' := ?a1_13) rfl (by kernel_rfl) (by kernel_rfl) (by kernel_rfl) (fun _ _ _ h => h) hC ?w1_13 ?y1_13 ?f1_13 ?r1_13
  case w1_13 => kernel_rfl
  case y1_13 => (intro w hC; go_simp; try with_reducible rfl)
  case f1_13 => (go_simp; try with_reducible rfl)
  refine anyC_take (i := 2) (v := ?v2_14) (a' := ?a2_14) rfl (by kernel_rfl) (by kernel_rfl) (by kernel_rfl) (fun _ _ _ h => h) hC ?w2_14 ?y2_14 ?f2_14 ?r2_14
  case w2_14 => kernel_rfl
  case y2_14 => (intro w hC; go_simp; try with_reducible rfl)
  case f2_14 => (go_simp; try with_reducible rfl)
  refine anyC_take (i := 3) (v := ?v3_15) (a' := ?a3_15) rfl (by kernel_rfl) (by kernel_rfl) (by kernel_rfl) (fun _ _ _ h => h) hC ?w3_15 ?y3_15 ?f3_15 ?r3_15
  case w3_15 => kernel_rfl
  case y3_15 => (intro w hC; go_simp; try with_reducible rfl)
  case f3_15 => (go_simp; try with_reducible rfl)
  refine anyC_take (i := 4) (v := ?v4_16) (a' := ?a4_16) rfl (by kernel_rfl) (by kernel_rfl) (by kernel_rfl) (fun _ _ _ h => h) hC ?w4_16 ?y4_16 ?f4_16 ?r4_16
  case w4_16 => kernel_rfl
  case y4_16 => (intro w hC; have h4 := HX1.out w hC; go_simp; try with_reducible rfl)
  case f4_16 => (go_simp; try with_reducible rfl)
  refine anyC_take (i := 5) (v := ?v5_17) (a' := ?a5_17) rfl (by kernel_rfl) (by kernel_rfl) (by kernel_rfl) (fun _ _ _ h => h) hC ?w5_17 ?y5_17 ?f5_17 ?r5_17
  case w5_17 => kernel_rfl
  case y5_17 => (intro w hC; go_simp; try with_reducible rfl)
  case f5_17 => (go_simp; try with_reducible rfl)
  refine anyC_take (i := 6) (v := ?v6_18) (a' := ?a6_18) rfl (by kernel_rfl) (by kernel_rfl) (by kernel_rfl) (fun _ _ _ h => h) hC ?w6_18 ?y6_18 ?f6_18 ?r6_18
  case w6_18 => kernel_rfl
  case y6_18 => (intro w hC; go_simp; try with_reducible rfl)
  case f6_18 => (go_simp; try with_reducible rfl)
  refine anyC_take (i := 7) (v := ?v7_19) (a' := ?a7_19) rfl (by kernel_rfl) (by kernel_rfl) (by kernel_rfl) (fun _ _ _ h => h) hC ?w7_19 ?y7_19 ?f7_19 ?r7_19
  case w7_19 => kernel_rfl
  case y7_19 => (intro w hC; go_simp; try with_reducible rfl)
  case f7_19 => (go_simp; try with_reducible rfl)
  refine anyC_take (i := 8) (v := ?v8_20) (a' := ?a8_20) rfl (by kernel_rfl) (by kernel_rfl) (by kernel_rfl) (fun _ _ _ h => h) hC ?w8_20 ?y8_20 ?f8_20 ?r8_20
  case w8_20 => kernel_rfl
  case y8_20 => (intro w hC; go_simp; try with_reducible rfl)
  case f8_20 => (go_simp; try with_reducible rfl)
  refine anyC_take (i := 9) (v := ?v9_21) (a' := ?a9_21) rfl (by kernel_rfl) (by kernel_rfl) (by kernel_rfl) (fun _ _ _ h => h) hC ?w9_21 ?y9_21 ?f9_21 ?r9_21
  case w9_21 => kernel_rfl
  case y9_21 => (intro w hC; go_simp; try with_reducible rfl)
  case f9_21 => (go_simp; try with_reducible rfl)
  refine anyC_take (i := 10) (v := ?v10_22) (a' := ?a10_22) rfl (by kernel_rfl) (by kernel_rfl) (by kernel_rfl) (fun _ _ _ h => h) hC ?w10_22 ?y10_22 ?f10_22 ?r10_22
  case w10_22 => kernel_rfl
  case y10_22 => (intro w hC; go_simp; try with_reducible rfl)
  case f10_22 => (go_simp; try with_reducible rfl)
  refine anyC_take (i := 12) (v := ?v12_23) (a' := ?a12_23) rfl (by kernel_rfl) (by kernel_rfl) (by kernel_rfl) (fun _ _ _ h => h) hC ?w12_23 ?y12_23 ?f12_23 ?r12_23
  case w12_23 => kernel_rfl
  case y12_23 => (intro w hC; go_simp; try with_reducible rfl)
  case f12_23 => (go_simp; try with_reducible rfl)
  refine anyC_one (i := 11) rfl (by kernel_rfl) (by kernel_rfl) (fun K hK => ?_)
  go_simp
  go_wp2_with (go_at_call 39; fail)
  refine (Clone_any ad2 k (cap - (m + 4)) B ((xs.drop (m + 4)).take k) w1 (HRB.out.below (hC.mono hB)) HL.out (Nat.le_trans hB hC.size) (by omega)).mono ?_
  rintro e w2 ⟨v, rfl, hown, hb2⟩
  go_wp2_with fail
  have hC2 := hC.trans (hb2.mono hC.size)
  refine ⟨hC2, ?_⟩
  refine anyC_take (i := 13) (v := ?v13_24) (a' := ?a13_24) rfl (by kernel_rfl) (by kernel_rfl) (by kernel_rfl) (fun _ _ _ h => h) hC2 ?w13_24 ?y13_24 ?f13_24 ?r13_24
  case w13_24 => kernel_rfl
  case y13_24 => (intro w hC; go_simp; try with_reducible rfl)
  case f13_24 => (go_simp; try with_reducible rfl)
  refine anyC_take (i := 14) (v := ?v14_25) (a' := ?a14_25) rfl (by kernel_rfl) (by kernel_rfl) (by kernel_rfl) (fun _ _ _ h => h) hC2 ?w14_25 ?y14_25 ?f14_25 ?r14_25
  case w14_25 => kernel_rfl
  case y14_25 => (intro w hC; go_simp; try with_reducible rfl)
  case f14_25 => (go_simp; try with_reducible rfl)
  refine anyC_take (i := 15) (v := ?v15_26) (a' := ?a15_26) rfl (by kernel_rfl) (by kernel_rfl) (by kernel_rfl) (fun _ _ _ h => h) hC2 ?w15_26 ?y15_26 ?f15_26 ?r15_26
  case w15_26 => kernel_rfl
  case y15_26 => (intro w hC; go_simp; try with_reducible rfl)
  case f15_26 => (go_simp; try with_reducible rfl)
  refine anyC_take (i := 16) (v := ?v16_27) (a' := ?a16_27) rfl (by kernel_rfl) (by kernel_rfl) (by kernel_rfl) (fun _ _ _ h => h) hC2 ?w16_27 ?y16_27 ?f16_27 ?r16_27
  case w16_27 => kernel_rfl
  case y16_27 => (intro w hC; go_simp; try with_reducible rfl)
  case f16_27 => (go_simp; try with_reducible rfl)
  refine anyC_done (by kernel_rfl) ?_
  go_wp2
  (try simp only [Exit.inBlock, Exit.then]); refine bodyPost_ret (results_tmp4 rfl _ _ _) rfl ?_
  rw [HE.out, HD.out]
  refine ⟨v, ?_, own_mono hown hC.size, hC2⟩
  rfl
end Go.Proofs.YtgpagddaopgdgaaDoor

/- The frame at any place of any bytes: the document's. -/
namespace Go.Proofs.YtgpagddaopgdgaaDoor
open Go.RowKit Go.Shelf

theorem or32 (i : Nat) {a b : Int} (h0 : 0 ≤ a) (h1 : a.toNat % 2 ^ i = 0) (h2 : 0 ≤ b) (h3 : b.toNat < 2 ^ i) (h4 : a < 4294967296) (h5 : b < 4294967296) : bits .or .u32 a b = a + b := by
  rw [u32_or a b h0 h4 h2 h5, nat_join i _ _ h1 h3]
  omega

theorem or_word {p q r s : Int} (hp : 0 ≤ p ∧ p ≤ 255) (hq : 0 ≤ q ∧ q ≤ 255) (hr : 0 ≤ r ∧ r ≤ 255) (hs : 0 ≤ s ∧ s ≤ 255) :
    bits .or .u32 (p * 16777216) (q * 65536) = p * 16777216 + q * 65536 ∧ bits .or .u32 (p * 16777216 + q * 65536) (r * 256) = p * 16777216 + q * 65536 + r * 256 ∧
      bits .or .u32 (p * 16777216 + q * 65536 + r * 256) s = p * 16777216 + q * 65536 + r * 256 + s :=
  ⟨or32 24 (by omega) (by omega) (by omega) (by omega) (by omega) (by omega), or32 16 (by omega) (by omega) (by omega) (by omega) (by omega) (by omega), or32 8 (by omega) (by omega) (by omega) (by omega) (by omega) (by omega)⟩

theorem four_of {l : List Int} {j : Nat} {p q r s : Int} (hp : l[j]? = some p) (hq : l[j + 1]? = some q) (hr : l[j + 2]? = some r) (hs : l[j + 3]? = some s) : (l.drop j).take 4 = [p, q, r, s] := by
  have e : ∀ (k : Nat) (x : Int), l[k]? = some x → l.drop k = x :: l.drop (k + 1) := fun k x h => by
    obtain ⟨hlt, rfl⟩ := List.getElem?_eq_some_iff.1 h
    exact List.drop_eq_getElem_cons hlt
  rw [e _ _ hp, e _ _ hq, e _ _ hr, e _ _ hs]
  rfl

set_option maxRecDepth 100000 in
set_option maxHeartbeats 8000000 in
theorem FRGet_any (A : Option Addr) (n cap B : Nat) (xs : List Int) (t : Int) (w : World) (hx : Rd w B A (u8s xs)) (hn : xs.length = n) (hnc : n ≤ cap) (hcap : cap ≤ maxLen) (hB : B ≤ w.heap.size) (hb : Fm.By xs)
    (t0 : -9223372036854775808 ≤ t) (t1 : t ≤ 9223372036854775807) :
    Calls Tryd.prog 43 #[.slice A n cap, .int .i64 t] w fun e w' => ∃ v, e = .returned (.tuple #[.int .u8 (Fm.get xs t).1, v, .int .i64 (Fm.get xs t).2.2.1, .int .i64 (Fm.get xs t).2.2.2]) ∧
      w'.ownsRow w.heap.size 5 1 v (Fm.get xs t).2.1.length (u8s (Fm.get xs t).2.1) ∧ Below w.heap.size w w' := by
  have hcap' := hcap
  unfold maxLen at hcap'
  by_cases h1 : t < 0
  · have HE := Lib.hid (Fm.get_arg (b := xs) (t := t) (.inl h1))
    have hd : decide (t < 0) = true := by simpa using h1
    clear hx hb
    go_enter Tryd.func43, Tryd.ntmps43
    go_wp2
    (try simp only [Exit.inBlock, Exit.then]); refine bodyPost_ret (results_tmp4 rfl _ _ _) rfl ?_
    rw [HE.out]
    exact ⟨_, rfl, own_none, Below.refl _ _⟩
  by_cases h2 : (n : Int) < t
  · have HE := Lib.hid (Fm.get_arg (b := xs) (t := t) (.inr (by omega)))
    have hd : decide (t < 0) = false := by simpa using h1
    clear hx hb
    go_enter Tryd.func43, Tryd.ntmps43
    go_wp2
    (try simp only [Exit.inBlock, Exit.then]); refine bodyPost_ret (results_tmp4 rfl _ _ _) rfl ?_
    rw [HE.out]
    exact ⟨_, rfl, own_none, Below.refl _ _⟩
  obtain ⟨m, rfl⟩ := Int.eq_ofNat_of_zero_le (show 0 ≤ t by omega)
  obtain ⟨i0, hi, hz0, hz1, hz2⟩ := info_parts info_u8
  have hsl := fun W => run_cut_l (P := Tryd.prog) Tryd.underlying29 (size_of_info hi hz1) A n cap m (by omega) W
  have hd1 : decide ((m : Int) < 0) = false := by simp
  have hd2 : decide ((n : Int) < (m : Int)) = false := by simp; omega
  have hr := hx.dropU (k := m) (cap := cap) (by omega)
  have hyb := hb.drop m
  have hyl : (xs.drop m).length = n - m := by rw [List.length_drop, hn]
  have HER : Hid (∀ c, (Fm.meas (xs.drop m)).2 = c → c ≠ 0 → Fm.get xs (m : Int) = (0, [], 0, c)) := fun c h1 h2 => by
    rw [Fm.get_err (by omega) (by rw [h1]; exact h2), h1]
  have HOK : Hid ((Fm.meas (xs.drop m)).2 = 0 → Fm.get xs (m : Int) = ((xs.drop m).getD 1 0, ((xs.drop m).drop 4).take (Fm.ln (xs.drop m)), (m : Int) + ((Fm.ln (xs.drop m) + 8 : Nat) : Int), 0)) := fun h => Fm.get_ok (by omega) h
  generalize xs.drop m = ys at *
  obtain ⟨n', hn'⟩ : ∃ n', n' = n - m := ⟨_, rfl⟩
  obtain ⟨cap1, hcap1⟩ : ∃ c, c = cap - m := ⟨_, rfl⟩
  obtain ⟨A1, hA1⟩ : ∃ A1, A1 = cutA A m cap := ⟨_, rfl⟩
  rw [← hn'] at hsl hyl
  rw [← hcap1, ← hA1] at hsl
  rw [← hA1] at hr
  have hle : n' ≤ cap1 := by omega
  have hmn : m ≤ n := by omega
  have hmn' : (m : Int) + (n' : Int) ≤ 9223372036854775807 := by omega
  have HN' := Lib.hid hn'
  have HCAP := Lib.hid hcap1
  have hcn : cap1 ≤ 9223372036854775807 := by omega
  clear hA1 hx hb hcap hn h1 h2 hn' hcap1 hnc hcap'
  by_cases h0 : n' = 0
  · have HM := Lib.hid (HER.out 31 (by rw [Fm.meas_0 (by omega)]) (by omega))
    have k0 : ((n' : Int) == 0) = true := by rw [beq_iff_eq]; omega
    clear hr hyb
    go_enter Tryd.func43, Tryd.ntmps43
    go_wp2
    (try simp only [Exit.inBlock, Exit.then]); refine bodyPost_ret (results_tmp4 rfl _ _ _) rfl ?_
    rw [HM.out]
    exact ⟨_, rfl, own_none, Below.refl _ _⟩
  have k0 : ((n' : Int) == 0) = false := by rw [beq_eq_false_iff_ne]; omega
  obtain ⟨x0, hx0⟩ : ∃ x, ys[0]? = some x := ⟨ys[0], List.getElem?_eq_getElem (by omega)⟩
  obtain ⟨ad, rfl, hab, hc0⟩ := hr.getU hx0
  rw [show ad.add 0 = ad from rfl] at hc0
  have hd0 := getD_of hx0
  by_cases h1 : x0 = 247
  case neg =>
    have HM := Lib.hid (HER.out 32 (by rw [Fm.meas_1 (by omega) (by rw [hd0]; exact h1)]) (by omega))
    have k1 : (x0 != 247) = true := by rw [bne_iff_ne]; exact h1
    clear hr hyb hx0 hd0
    go_enter Tryd.func43, Tryd.ntmps43
    go_wp2
    (try simp only [Exit.inBlock, Exit.then]); refine bodyPost_ret (results_tmp4 rfl _ _ _) rfl ?_
    rw [HM.out]
    exact ⟨_, rfl, own_none, Below.refl _ _⟩
  subst h1
  by_cases h2 : n' < 8
  · have HM := Lib.hid (HER.out 31 (by rw [Fm.meas_2 (by omega) hd0 (by omega)]) (by omega))
    clear hr hyb hx0 hd0
    go_enter Tryd.func43, Tryd.ntmps43
    go_wp2
    (try simp only [Exit.inBlock, Exit.then]); refine bodyPost_ret (results_tmp4 rfl _ _ _) rfl ?_
    rw [HM.out]
    exact ⟨_, rfl, own_none, Below.refl _ _⟩
  obtain ⟨x1, hx1⟩ : ∃ x, ys[1]? = some x := ⟨ys[1], List.getElem?_eq_getElem (by omega)⟩
  obtain ⟨x2, hx2⟩ : ∃ x, ys[2]? = some x := ⟨ys[2], List.getElem?_eq_getElem (by omega)⟩
  obtain ⟨x3, hx3⟩ : ∃ x, ys[3]? = some x := ⟨ys[3], List.getElem?_eq_getElem (by omega)⟩
  obtain ⟨_, e1, _, hc1⟩ := hr.getU hx1
  cases e1
  obtain ⟨_, e2, _, hc2⟩ := hr.getU hx2
  cases e2
  obtain ⟨_, e3, _, hc3⟩ := hr.getU hx3
  cases e3
  have b2 := hyb _ (List.mem_of_getElem? hx2)
  have b3 := hyb _ (List.mem_of_getElem? hx3)
  have hor := or_len b2 b3
  have hln : Fm.ln ys = (x2 * 256 + x3).toNat := by unfold Fm.ln; rw [getD_of hx2, getD_of hx3]
  have hlb : Fm.ln ys ≤ 65535 := by omega
  rw [← hln] at hor
  obtain ⟨k, hk⟩ : ∃ k, k = Fm.ln ys := ⟨_, rfl⟩
  rw [← hk] at hor hlb
  have i1 : (1 : Int) < (n' : Int) := by omega
  have i2 : (2 : Int) < (n' : Int) := by omega
  have i3 : (3 : Int) < (n' : Int) := by omega
  have k2 : decide ((n' : Int) < 8) = false := by simp; omega
  have hg1 := getD_of hx1
  rw [show ad.add 1 = ⟨ad.block, ad.off + 1, none⟩ from rfl] at hc1
  rw [show ad.add 2 = ⟨ad.block, ad.off + 2, none⟩ from rfl] at hc2
  rw [show ad.add 3 = ⟨ad.block, ad.off + 3, none⟩ from rfl] at hc3
  clear hln hx0 hx1 hx2 hx3
  have HK := Lib.hid hk
  clear hk
  by_cases h3 : 8192 < k
  · have HM := Lib.hid (HER.out 2 (by rw [Fm.meas_3 (by omega) hd0 (by rw [← HK.out]; omega)]) (by omega))
    clear hr hyb hd0
    go_enter Tryd.func43, Tryd.ntmps43
    go_wp2
    go_quiet (fail)
    go_wp2
    (try simp only [Exit.inBlock, Exit.then]); refine bodyPost_ret (results_tmp4 rfl _ _ _) rfl ?_
    rw [HM.out]
    exact ⟨_, rfl, own_none, below_drawn (Below.refl _ _) nq⟩
  by_cases h4 : n' < k + 8
  · have HM := Lib.hid (HER.out 31 (by rw [Fm.meas_4 (by omega) hd0 (by rw [← HK.out]; omega) (by rw [← HK.out]; omega)]) (by omega))
    clear hr hyb hd0
    go_enter Tryd.func43, Tryd.ntmps43
    go_wp2
    go_quiet (fail)
    go_wp2
    (try simp only [Exit.inBlock, Exit.then]); refine bodyPost_ret (results_tmp4 rfl _ _ _) rfl ?_
    rw [HM.out]
    exact ⟨_, rfl, own_none, below_drawn (Below.refl _ _) nq⟩
  obtain ⟨p, hp⟩ : ∃ x, ys[k + 4]? = some x := ⟨ys[k + 4], List.getElem?_eq_getElem (by omega)⟩
  obtain ⟨q, hq⟩ : ∃ x, ys[k + 5]? = some x := ⟨ys[k + 5], List.getElem?_eq_getElem (by omega)⟩
  obtain ⟨r, hr6⟩ : ∃ x, ys[k + 6]? = some x := ⟨ys[k + 6], List.getElem?_eq_getElem (by omega)⟩
  obtain ⟨s, hs⟩ : ∃ x, ys[k + 7]? = some x := ⟨ys[k + 7], List.getElem?_eq_getElem (by omega)⟩
  obtain ⟨_, e1, _, cp⟩ := hr.getU hp
  cases e1
  obtain ⟨_, e1, _, cq⟩ := hr.getU hq
  cases e1
  obtain ⟨_, e1, _, cr⟩ := hr.getU hr6
  cases e1
  obtain ⟨_, e1, _, cs⟩ := hr.getU hs
  cases e1
  rw [show ad.add (k + 4) = ⟨ad.block, ad.off + (k + 4), none⟩ from rfl] at cp
  rw [show ad.add (k + 5) = ⟨ad.block, ad.off + (k + 5), none⟩ from rfl] at cq
  rw [show ad.add (k + 6) = ⟨ad.block, ad.off + (k + 6), none⟩ from rfl] at cr
  rw [show ad.add (k + 7) = ⟨ad.block, ad.off + (k + 7), none⟩ from rfl] at cs
  have bp := hyb _ (List.mem_of_getElem? hp)
  have bq := hyb _ (List.mem_of_getElem? hq)
  have br := hyb _ (List.mem_of_getElem? hr6)
  have bs := hyb _ (List.mem_of_getElem? hs)
  obtain ⟨o1, o2, o3⟩ := or_word bp bq br bs
  have HF := Lib.hid (four_of hp hq hr6 hs)
  have j4 : (k : Int) + 4 < (n' : Int) := by omega
  have j5 : (k : Int) + 5 < (n' : Int) := by omega
  have j6 : (k : Int) + 6 < (n' : Int) := by omega
  have j7 : (k : Int) + 7 < (n' : Int) := by omega
  have l4 : (0 : Int) ≤ (k : Int) + 4 := by omega
  have l5 : (0 : Int) ≤ (k : Int) + 5 := by omega
  have l6 : (0 : Int) ≤ (k : Int) + 6 := by omega
  have l7 : (0 : Int) ≤ (k : Int) + 7 := by omega
  have q4 : IntKind.i64.wrap ((k : Int) + 4) = (k : Int) + 4 := IntWalk.i64_in _ (by omega)
  have q8 : IntKind.i64.wrap ((m : Int) + (k : Int)) = (m : Int) + (k : Int) := IntWalk.i64_in _ (by omega)
  have q9 : IntKind.i64.wrap ((m : Int) + (k : Int) + 8) = (m : Int) + (k : Int) + 8 := IntWalk.i64_in _ (by omega)
  have k3 : decide (8192 < (k : Int)) = false := by simp; omega
  have k4 : decide ((n' : Int) < (k : Int) + 8) = false := by simp; omega
  have hsA : ∀ W, (Instr.slice 29 (.slice (some ad) n' cap1) (some (.int .i64 1)) (some (.int .i64 ((k : Int) + 4))) none).run Tryd.prog W = .ok (.slice (cutA (some ad) 1 cap1) (k + 3) (cap1 - 1)) W := fun W => by
    have h := run_cut_lh (P := Tryd.prog) Tryd.underlying29 (size_of_info hi hz1) (some ad) n' cap1 1 (k + 4) (by omega) (by omega) W
    rwa [show (((k + 4 : Nat)) : Int) = (k : Int) + 4 by omega, show k + 4 - 1 = k + 3 by omega] at h
  have hsB : ∀ W, (Instr.slice 29 (.slice (some ad) n' cap1) (some (.int .i64 4)) (some (.int .i64 ((k : Int) + 4))) none).run Tryd.prog W = .ok (.slice (cutA (some ad) 4 cap1) k (cap1 - 4)) W := fun W => by
    have h := run_cut_lh (P := Tryd.prog) Tryd.underlying29 (size_of_info hi hz1) (some ad) n' cap1 4 (k + 4) (by omega) (by omega) W
    rwa [show (((k + 4 : Nat)) : Int) = (k : Int) + 4 by omega, show k + 4 - 4 = k by omega] at h
  have HRA := Lib.hid ((hr.dropU (k := 1) (cap := cap1) (by omega)).takeU (k + 3))
  have HRB := Lib.hid ((hr.dropU (k := 4) (cap := cap1) (by omega)).takeU k)
  have HTD : Hid (((ys.take (k + 4)).drop 1) = (ys.drop 1).take (k + 3)) := by
    show _ = _
    rw [List.drop_take]; congr 1
  have HB1 := Lib.hid ((hyb.drop 1).take (k + 3))
  have HC1 : Hid (∀ w', Below w.heap.size w w' → w'.cell? ⟨ad.block, ad.off + 1, none⟩ = some (.int .u8 x1)) := fun w' h => (h.cell (by dsimp only; omega)).trans hc1
  have HS : Hid (Fm.sum (ys.take (k + 4)) = Fm.be4 (Cm.crc 0#32 ((ys.drop 1).take (k + 3)))) := by
    show _ = _
    rw [Fm.sum, HTD.out]
  obtain ⟨W4, hW4⟩ : ∃ W4, W4 = p * 16777216 + q * 65536 + r * 256 + s := ⟨_, rfl⟩
  rw [← hW4] at o3
  have HBE := Lib.hid (Fm.be4_eq (s := Cm.crc 0#32 ((ys.drop 1).take (k + 3))) bp bq br bs)
  rw [← hW4] at HBE
  have HCS := fun w' (h : Below w.heap.size w w') => RSum_any (cutA (some ad) 1 cap1) (k + 3) (cap1 - 1) B ((ys.drop 1).take (k + 3)) w' (HRA.out.below (h.mono hB)) (by rw [List.length_take, List.length_drop]; omega) (by unfold maxLen; omega) HB1.out
  obtain ⟨u, hu⟩ : ∃ u, u = Cm.V (Cm.crc 0#32 ((ys.drop 1).take (k + 3))) := ⟨_, rfl⟩
  rw [← hu] at HBE HCS
  have HD0 := Lib.hid hd0
  have HCS2 := Lib.hid HCS
  have HL : Hid (((ys.drop 4).take k).length = k) := by
    show _ = _
    rw [List.length_take, List.length_drop]; omega
  clear hW4 hp hq hr6 hs hr hyb hd0 HRA HTD HCS hu
  by_cases h5 : u = W4
  case neg =>
    have HM : Hid (Fm.get xs (m : Int) = (0, [], 0, 33)) := HER.out 33 (by
      rw [Fm.meas_5 HD0.out (by rw [← HK.out]; omega) (by rw [← HK.out]; omega) (by rw [← HK.out, HS.out, HF.out]; exact fun e => h5 (HBE.out.1 e))]) (by omega)
    have hne : (u != W4) = true := by rw [bne_iff_ne]; exact h5
    clear h5
    go_enter Tryd.func43, Tryd.ntmps43
    go_wp2
    go_quiet (fail)
    obtain ⟨n1, en⟩ : ∃ n1, n1 = nq := ⟨_, rfl⟩
    subst en
    go_wp2
    go_quiet (fail)
    have hC := below_drawn (below_drawn (Below.refl w.heap.size w) n1) nq
    generalize (w.drewN n1).drewN nq = w1 at hC ⊢
    clear hc0 hc1 hc2 hc3 cp cq cr cs o1 o2 o3 hor
    go_wp2_with (go_at_call 40; refine (HCS2.out _ hC).mono ?_; rintro e w' ⟨rfl, rfl⟩)
    (try simp only [Exit.inBlock, Exit.then]); refine bodyPost_ret (results_tmp4 rfl _ _ _) rfl ?_
    rw [HM.out]
    exact ⟨_, rfl, own_none, hC⟩
  subst h5
  have HM : Hid (Fm.get xs (m : Int) = (x1, (ys.drop 4).take k, (m : Int) + (k : Int) + 8, 0)) := by
    show _ = _
    rw [HOK.out (by rw [Fm.meas_6 HD0.out (by rw [← HK.out]; omega) (by rw [← HK.out]; omega) (by rw [← HK.out, HS.out, HF.out]; exact HBE.out.2 rfl)]), hg1, ← HK.out]
    congr 3
  have hne : (u != u) = false := by simp
  go_enter Tryd.func43, Tryd.ntmps43
  go_wp2
  go_quiet (fail)
  obtain ⟨n1, en⟩ : ∃ n1, n1 = nq := ⟨_, rfl⟩
  subst en
  go_wp2
  go_quiet (fail)
  have hC0 := below_drawn (below_drawn (Below.refl w.heap.size w) n1) nq
  generalize (w.drewN n1).drewN nq = w1 at hC0 ⊢
  clear hc0 hc1 hc2 hc3 cp cq cr cs o1 o2 o3 hor
  go_wp2_with (go_at_call 40; refine (HCS2.out _ hC0).mono ?_; rintro e w' ⟨rfl, rfl⟩)
  refine region_C (fun w' => Below w.heap.size w w') (by kernel_rfl) ?_
  obtain ⟨w2, hw2⟩ : ∃ w2, w2 = w1.drew := ⟨_, rfl⟩
  have hC : Below w.heap.size w w2 := by rw [hw2]; exact below_drawn hC0 1
  rw [← hw2]
  clear hw2 hC0
  refine anyC_take (i := 0) (v := ?v0_28) (a' := ?a0_28) rfl (by kernel_rfl) (by kernel_rfl) (by kernel_rfl) (fun _ _ _ h => h) hC ?w0_28 ?y0_28 ?f0_28 ?r0_28
  case w0_28 => kernel_rfl
  case y0_28 => (intro w hC; go_simp; try with_reducible rfl)
  case f0_28 => (go_simp; try with_reducible rfl)
  refine anyC_take (i := 1) (v := ?v1_29) (a' := ?a1_29) rfl (by kernel_rfl) (by kernel_rfl) (by kernel_rfl) (fun _ _ _ h => h) hC ?w1_29 ?y1_29 ?f1_29 ?r1_29
  case w1_29 => kernel_rfl
  case y1_29 => (intro w hC; go_simp; try with_reducible rfl)
  case f1_29 => (go_simp; try with_reducible rfl)
  refine anyC_take (i := 2) (v := ?v2_30) (a' := ?a2_30) rfl (by kernel_rfl) (by kernel_rfl) (by kernel_rfl) (fun _ _ _ h => h) hC ?w2_30 ?y2_30 ?f2_30 ?r2_30
  case w2_30 => kernel_rfl
  case y2_30 => (intro w hC; have h4 := HC1.out w hC; go_simp; try with_reducible rfl)
  case f2_30 => (go_simp; try with_reducible rfl)
  refine anyC_take (i := 4) (v := ?v4_31) (a' := ?a4_31) rfl (by kernel_rfl) (by kernel_rfl) (by kernel_rfl) (fun _ _ _ h => h) hC ?w4_31 ?y4_31 ?f4_31 ?r4_31
  case w4_31 => kernel_rfl
  case y4_31 => (intro w hC; go_simp; try with_reducible rfl)
  case f4_31 => (go_simp; try with_reducible rfl)
  refine anyC_take (i := 5) (v := ?v5_32) (a' := ?a5_32) rfl (by kernel_rfl) (by kernel_rfl) (by kernel_rfl) (fun _ _ _ h => h) hC ?w5_32 ?y5_32 ?f5_32 ?r5_32
  case w5_32 => kernel_rfl
  case y5_32 => (intro w hC; go_simp; try with_reducible rfl)
  case f5_32 => (go_simp; try with_reducible rfl)
  refine anyC_take (i := 6) (v := ?v6_33) (a' := ?a6_33) rfl (by kernel_rfl) (by kernel_rfl) (by kernel_rfl) (fun _ _ _ h => h) hC ?w6_33 ?y6_33 ?f6_33 ?r6_33
  case w6_33 => kernel_rfl
  case y6_33 => (intro w hC; go_simp; try with_reducible rfl)
  case f6_33 => (go_simp; try with_reducible rfl)
  refine anyC_take (i := 7) (v := ?v7_34) (a' := ?a7_34) rfl (by kernel_rfl) (by kernel_rfl) (by kernel_rfl) (fun _ _ _ h => h) hC ?w7_34 ?y7_34 ?f7_34 ?r7_34
  case w7_34 => kernel_rfl
  case y7_34 => (intro w hC; go_simp; try with_reducible rfl)
  case f7_34 => (go_simp; try with_reducible rfl)
  refine anyC_take (i := 9) (v := ?v9_35) (a' := ?a9_35) rfl (by kernel_rfl) (by kernel_rfl) (by kernel_rfl) (fun _ _ _ h => h) hC ?w9_35 ?y9_35 ?f9_35 ?r9_35
  case w9_35 => kernel_rfl
  case y9_35 => (intro w hC; go_simp; try with_reducible rfl)
  case f9_35 => (go_simp; try with_reducible rfl)
  refine anyC_take (i := 10) (v := ?v10_36) (a' := ?a10_36) rfl (by kernel_rfl) (by kernel_rfl) (by kernel_rfl) (fun _ _ _ h => h) hC ?w10_36 ?y10_36 ?f10_36 ?r10_36
  case w10_36 => kernel_rfl
  case y10_36 => (intro w hC; go_simp; try with_reducible rfl)
  case f10_36 => (go_simp; try with_reducible rfl)
  refine anyC_take (i := 11) (v := ?v11_37) (a' := ?a11_37) rfl (by kernel_rfl) (by kernel_rfl) (by kernel_rfl) (fun _ _ _ h => h) hC ?w11_37 ?y11_37 ?f11_37 ?r11_37
  case w11_37 => kernel_rfl
  case y11_37 => (intro w hC; go_simp; try with_reducible rfl)
  case f11_37 => (go_simp; try with_reducible rfl)
  refine anyC_take (i := 12) (v := ?v12_38) (a' := ?a12_38) rfl (by kernel_rfl) (by kernel_rfl) (by kernel_rfl) (fun _ _ _ h => h) hC ?w12_38 ?y12_38 ?f12_38 ?r12_38
  case w12_38 => kernel_rfl
  case y12_38 => (intro w hC; go_simp; try with_reducible rfl)
  case f12_38 => (go_simp; try with_reducible rfl)
  refine anyC_one (i := 3) rfl (by kernel_rfl) (by kernel_rfl) (fun K hK => ?_)
  go_simp
  have hmade := World.ownsRow_made (base := w2.heap.size) (e := 5) (size := 1) w2 #[] 0 (Nat.le_refl _) (by unfold maxLen; omega) (by simp)
  have hC3 := hC.alloc hC.size (.cells #[] 5)
  refine hK _ _ ⟨hC3, ?_⟩
  refine anyC_one (i := 8) rfl (by kernel_rfl) (by kernel_rfl) (fun K hK => ?_)
  refine op_app _ _ 29 rfl w2.heap.size 5 i0 (.int .u8 0) 1 Tryd.underlying29 hi hz0 hz1 hz2 rfl _ _ _ rfl hmade B (cutA (some ad) 4 cap1) k (cap1 - 4) (u8s ((ys.drop 4).take k)) rfl (by rw [List.length_map]; exact HL.out) (HRB.out.below (hC3.mono hB)) (oneCell_ints _ _) (by unfold maxLen; omega) (by omega) (by simp) ?_
  intro v w3 hown hgrow
  have hC4 := below_app hC3 (own_mono hmade hC.size) hgrow hC3.size
  refine hK _ _ ⟨hC4, ?_⟩
  refine anyC_take (i := 13) (v := ?v13_39) (a' := ?a13_39) rfl (by kernel_rfl) (by kernel_rfl) (by kernel_rfl) (fun _ _ _ h => h) hC4 ?w13_39 ?y13_39 ?f13_39 ?r13_39
  case w13_39 => kernel_rfl
  case y13_39 => (intro w hC; go_simp; try with_reducible rfl)
  case f13_39 => (go_simp; try with_reducible rfl)
  refine anyC_take (i := 14) (v := ?v14_40) (a' := ?a14_40) rfl (by kernel_rfl) (by kernel_rfl) (by kernel_rfl) (fun _ _ _ h => h) hC4 ?w14_40 ?y14_40 ?f14_40 ?r14_40
  case w14_40 => kernel_rfl
  case y14_40 => (intro w hC; go_simp; try with_reducible rfl)
  case f14_40 => (go_simp; try with_reducible rfl)
  refine anyC_take (i := 15) (v := ?v15_41) (a' := ?a15_41) rfl (by kernel_rfl) (by kernel_rfl) (by kernel_rfl) (fun _ _ _ h => h) hC4 ?w15_41 ?y15_41 ?f15_41 ?r15_41
  case w15_41 => kernel_rfl
  case y15_41 => (intro w hC; go_simp; try with_reducible rfl)
  case f15_41 => (go_simp; try with_reducible rfl)
  refine anyC_take (i := 16) (v := ?v16_42) (a' := ?a16_42) rfl (by kernel_rfl) (by kernel_rfl) (by kernel_rfl) (fun _ _ _ h => h) hC4 ?w16_42 ?y16_42 ?f16_42 ?r16_42
  case w16_42 => kernel_rfl
  case y16_42 => (intro w hC; go_simp; try with_reducible rfl)
  case f16_42 => (go_simp; try with_reducible rfl)
  refine anyC_done (by kernel_rfl) ?_
  go_wp2
  (try simp only [Exit.inBlock, Exit.then]); refine bodyPost_ret (results_tmp4 rfl _ _ _) rfl ?_
  rw [HM.out]
  refine ⟨v, rfl, ?_, hC4⟩
  rw [Nat.zero_add, List.nil_append] at hown
  dsimp only
  rw [HL.out]
  exact own_mono hown hC.size
end Go.Proofs.YtgpagddaopgdgaaDoor
