/- The plain model of stage 12: penalties. No program in it. -/
import Derived.WalkKit
namespace Go.Proofs.YtbkdenlhfigjhaaDoor.Dm
open Go

def tab : List Int := [65536, 62757, 60097, 57549, 55109, 52773, 50535, 48393, 46341, 44376, 42495, 40693, 38968, 37316, 35734, 34219]
def Ar (pen dt half : Int) : Prop := (0 ≤ pen ∧ pen ≤ 1000000) ∧ (0 ≤ dt ∧ dt ≤ 1099511627776) ∧ (1 ≤ half ∧ half ≤ 1099511627776)
instance (a b c : Int) : Decidable (Ar a b c) := by unfold Ar; infer_instance
/-- halved k times -/
def halved (pen : Int) : Nat → Int
  | 0 => pen
  | k + 1 => halved (pen / 2) k
/-- the sixteenth of a half-life -/
def part (dt half : Int) : Int := 16 * (dt - dt / half * half) / half
def left (pen dt half : Int) : Int := if 20 < dt / half then 0 else halved pen (dt / half).toNat * tab.getD (part dt half).toNat 0 / 65536
def decay (pen dt half : Int) : Int × Int := if Ar pen dt half then (left pen dt half, 0) else (0, 1)
theorem decay_ok {pen dt half : Int} (h : Ar pen dt half) : decay pen dt half = (left pen dt half, 0) := if_pos h
theorem decay_no {pen dt half : Int} (h : ¬ Ar pen dt half) : decay pen dt half = (0, 1) := if_neg h
def bound (n : Int) : Int := if n < 0 then 0 else if 1000000 < n then 1000000 else n
def hit (pen more : Int) : Int := bound (bound pen + bound more)
def sup (was : Bool) (pen suppress reuse : Int) : Bool := if suppress ≤ pen then true else if pen ≤ reuse then false else was

theorem bound_in (n : Int) : 0 ≤ bound n ∧ bound n ≤ 1000000 := by unfold bound; split <;> (try split) <;> omega
theorem hit_in (pen more : Int) : 0 ≤ hit pen more ∧ hit pen more ≤ 1000000 := bound_in _
theorem hit_comm (pen more : Int) : hit pen more = hit more pen := by unfold hit; rw [Int.add_comm]
theorem hit_ge {pen more : Int} (h : 0 ≤ pen) (h2 : pen ≤ 1000000) : pen ≤ hit pen more := by
  have h3 := bound_in more
  have h4 : bound pen = pen := by unfold bound; rw [if_neg (by omega), if_neg (by omega)]
  unfold hit
  rw [h4]
  unfold bound at h3 ⊢
  split <;> (try split) <;> omega

theorem halved_pos : ∀ (k : Nat) {p : Int}, 0 ≤ p → 0 ≤ halved p k ∧ halved p k ≤ p
  | 0, _, h => ⟨h, Int.le_refl _⟩
  | k + 1, p, h => by
    have := halved_pos k (p := p / 2) (by omega)
    unfold halved
    omega
theorem halved_mono : ∀ (k : Nat) {p q : Int}, 0 ≤ p → p ≤ q → halved p k ≤ halved q k
  | 0, _, _, _, h => h
  | k + 1, p, q, h0, h => halved_mono k (p := p / 2) (q := q / 2) (by omega) (by omega)
theorem halved_add : ∀ (j k : Nat) (p : Int), halved p (j + k) = halved (halved p j) k
  | 0, k, p => by rw [Nat.zero_add]; rfl
  | j + 1, k, p => by
    rw [show j + 1 + k = (j + k) + 1 by omega]
    show halved (p / 2) (j + k) = _
    rw [halved_add j k]
    rfl
theorem halved_succ (k : Nat) (p : Int) : halved p (k + 1) = halved p k / 2 := by rw [halved_add k 1]; rfl
theorem halved_less {j k : Nat} (h : j ≤ k) {p : Int} (h0 : 0 ≤ p) : halved p k ≤ halved p j := by
  obtain ⟨m, rfl⟩ : ∃ m, k = j + m := ⟨k - j, by omega⟩
  rw [halved_add]
  exact (halved_pos m (halved_pos j h0).1).2
theorem tab_in {n : Nat} (h : n < 16) : 34219 ≤ tab.getD n 0 ∧ tab.getD n 0 ≤ 65536 := by
  match n, h with
  | 0, _ => exact ⟨by decide, by decide⟩
  | 1, _ => exact ⟨by decide, by decide⟩
  | 2, _ => exact ⟨by decide, by decide⟩
  | 3, _ => exact ⟨by decide, by decide⟩
  | 4, _ => exact ⟨by decide, by decide⟩
  | 5, _ => exact ⟨by decide, by decide⟩
  | 6, _ => exact ⟨by decide, by decide⟩
  | 7, _ => exact ⟨by decide, by decide⟩
  | 8, _ => exact ⟨by decide, by decide⟩
  | 9, _ => exact ⟨by decide, by decide⟩
  | 10, _ => exact ⟨by decide, by decide⟩
  | 11, _ => exact ⟨by decide, by decide⟩
  | 12, _ => exact ⟨by decide, by decide⟩
  | 13, _ => exact ⟨by decide, by decide⟩
  | 14, _ => exact ⟨by decide, by decide⟩
  | 15, _ => exact ⟨by decide, by decide⟩
  | n + 16, h => exact absurd h (by omega)
theorem tab_step {n : Nat} (h : n + 1 < 16) : tab.getD (n + 1) 0 ≤ tab.getD n 0 := by
  match n, h with
  | 0, _ => decide
  | 1, _ => decide
  | 2, _ => decide
  | 3, _ => decide
  | 4, _ => decide
  | 5, _ => decide
  | 6, _ => decide
  | 7, _ => decide
  | 8, _ => decide
  | 9, _ => decide
  | 10, _ => decide
  | 11, _ => decide
  | 12, _ => decide
  | 13, _ => decide
  | 14, _ => decide
  | n + 15, h => exact absurd h (by omega)
theorem tab_mono {n m : Nat} (h : n ≤ m) (hm : m < 16) : tab.getD m 0 ≤ tab.getD n 0 := by
  obtain ⟨d, rfl⟩ : ∃ d, m = n + d := ⟨m - n, by omega⟩
  clear h
  induction d with
  | zero => exact Int.le_refl _
  | succ d ih =>
    have h1 := ih (by omega)
    have h2 := tab_step (n := n + d) (by omega)
    rw [show n + (d + 1) = n + d + 1 by omega]
    omega
theorem rest_in {dt half : Int} (h : 1 ≤ half) : 0 ≤ dt - dt / half * half ∧ dt - dt / half * half < half := by
  have h1 := Int.emod_nonneg dt (show half ≠ 0 by omega)
  have h2 := Int.emod_lt_of_pos dt (show 0 < half by omega)
  have h3 := Int.mul_ediv_add_emod dt half
  have h4 : dt / half * half = half * (dt / half) := Int.mul_comm _ _
  omega
theorem part_in {dt half : Int} (h : 1 ≤ half) : 0 ≤ part dt half ∧ part dt half < 16 := by
  obtain ⟨h1, h2⟩ := rest_in (dt := dt) h
  unfold part
  refine ⟨Int.ediv_nonneg (by omega) (by omega), ?_⟩
  exact Int.ediv_lt_of_lt_mul (by omega) (by omega)
theorem left_in {pen dt half : Int} (h : Ar pen dt half) : 0 ≤ left pen dt half ∧ left pen dt half ≤ pen := by
  obtain ⟨hp, hd, hh⟩ := h
  unfold left
  split
  · omega
  · obtain ⟨h1, h2⟩ := part_in (dt := dt) hh.1
    have h3 := tab_in (n := (part dt half).toNat) (by omega)
    have h4 := halved_pos (dt / half).toNat hp.1
    generalize tab.getD (part dt half).toNat 0 = t at *
    generalize halved pen (dt / half).toNat = x at *
    have h5 : 0 ≤ x * t := Int.mul_nonneg h4.1 (by omega)
    have h6 : x * t ≤ x * 65536 := Int.mul_le_mul_of_nonneg_left h3.2 h4.1
    omega
theorem mul_mono {x y s t : Int} (hx : 0 ≤ x) (hxy : x ≤ y) (hs : 0 ≤ s) (hst : s ≤ t) : x * s ≤ y * t :=
  Int.le_trans (Int.mul_le_mul_of_nonneg_right hxy hs) (Int.mul_le_mul_of_nonneg_left hst (by omega))
/-- of a greater penalty no less is left -/
theorem left_pen {pen pen' dt half : Int} (h : Ar pen dt half) (hle : pen ≤ pen') : left pen dt half ≤ left pen' dt half := by
  obtain ⟨hp, hd, hh⟩ := h
  unfold left
  split
  · exact Int.le_refl _
  · obtain ⟨h1, h2⟩ := part_in (dt := dt) hh.1
    have h3 := tab_in (n := (part dt half).toNat) (by omega)
    have h4 := halved_pos (dt / half).toNat hp.1
    have h5 := halved_mono (dt / half).toNat hp.1 hle
    have h6 := mul_mono h4.1 h5 (by omega) (Int.le_refl (tab.getD (part dt half).toNat 0))
    exact Int.ediv_le_ediv (by decide) h6
/-- of a longer time no more is left -/
theorem left_time {pen dt dt' half : Int} (h : Ar pen dt half) (hle : dt ≤ dt') : left pen dt' half ≤ left pen dt half := by
  obtain ⟨hp, hd, hh⟩ := h
  have hq : dt / half ≤ dt' / half := Int.ediv_le_ediv (by omega) hle
  have hq0 : 0 ≤ dt / half := Int.ediv_nonneg hd.1 (by omega)
  obtain ⟨h1, h2⟩ := part_in (dt := dt) hh.1
  obtain ⟨g1, g2⟩ := part_in (dt := dt') hh.1
  have t1 := tab_in (n := (part dt half).toNat) (by omega)
  have t2 := tab_in (n := (part dt' half).toNat) (by omega)
  have p1 := halved_pos (dt / half).toNat hp.1
  have p2 := halved_pos (dt' / half).toNat hp.1
  unfold left
  split
  · split
    · exact Int.le_refl _
    · exact Int.ediv_nonneg (Int.mul_nonneg p1.1 (by omega)) (by decide)
  · rw [if_neg (by omega)]
    by_cases he : dt / half = dt' / half
    · have hpt : (part dt half).toNat ≤ (part dt' half).toNat := by
        have : part dt half ≤ part dt' half := by
          unfold part
          rw [← he]
          exact Int.ediv_le_ediv (by omega) (by omega)
        omega
      rw [← he]
      exact Int.ediv_le_ediv (by decide) (mul_mono p1.1 (Int.le_refl _) (by omega) (tab_mono hpt (by omega)))
    · have hlt : (dt / half).toNat + 1 ≤ (dt' / half).toNat := by omega
      have h5 := halved_less hlt hp.1
      rw [halved_succ] at h5
      generalize halved pen (dt / half).toNat = x at *
      generalize halved pen (dt' / half).toNat = y at *
      generalize tab.getD (part dt half).toNat 0 = s at *
      generalize tab.getD (part dt' half).toNat 0 = t at *
      have e1 : y * t ≤ y * 65536 := Int.mul_le_mul_of_nonneg_left t2.2 p2.1
      have e2 : x * 34219 ≤ x * s := Int.mul_le_mul_of_nonneg_left t1.1 p1.1
      omega
theorem part_zero {k : Nat} {half : Int} (h : 1 ≤ half) : part (half * (k : Int)) half = 0 ∧ half * (k : Int) / half = k := by
  have e : half * (k : Int) / half = k := Int.mul_ediv_cancel_left _ (by omega)
  refine ⟨?_, e⟩
  unfold part
  rw [e, Int.mul_comm half, Int.sub_self]
  show 16 * 0 / half = 0
  rw [Int.mul_zero, Int.zero_ediv]
/-- behind so many half-lives -/
theorem left_halves {pen half : Int} {k : Nat} (h : 1 ≤ half) : left pen (half * (k : Int)) half = if 20 < k then 0 else halved pen k := by
  obtain ⟨e1, e2⟩ := part_zero (k := k) h
  unfold left
  rw [e1, e2]
  by_cases hk : 20 < k
  · rw [if_pos (by omega), if_pos hk]
  · rw [if_neg (by omega), if_neg hk]
    show halved pen (k : Int).toNat * 65536 / 65536 = _
    rw [Int.toNat_natCast, Int.mul_ediv_cancel _ (by decide)]
end Go.Proofs.YtbkdenlhfigjhaaDoor.Dm
