/- Penalties: the program's. -/
import Derived.Test.YtpbogacodhjlfaaDoorDa
import Derived.BigQuiet
namespace Go.Proofs.YtpbogacodhjlfaaDoor
open Go.RowKit Go.Shelf Km Kx

/-- the table's variable holds the sixteen numbers -/
def DTab (w : World) : Prop := ∀ k, k < 16 → w.cell? ⟨1, k, none⟩ = some (.int .i64 (Dm.tab.getD k 0))
theorem DTab.below {B : Nat} {w w' : World} (h : DTab w) (hb : Below B w w') (hB : w.heap.size ≤ B) : DTab w' := fun k hk => by
  have h1 := h k hk
  have h2 : (⟨1, k, none⟩ : Addr).block < w.heap.size := World.block_lt_of_cell? w _ h1
  rw [hb.cell (by omega), h1]

namespace Dm
theorem halved_pow : ∀ (k : Nat) (p : Int), halved p k = p / 2 ^ k
  | 0, p => by rw [Int.pow_zero, Int.ediv_one]; rfl
  | k + 1, p => by
    rw [halved_succ, halved_pow k, Int.pow_succ]
    exact Int.ediv_ediv_of_nonneg (Int.pow_nonneg (by decide))
def inb (n a b : Int) : Bool := decide (a ≤ n) && decide (n ≤ b)
theorem inb_yes {n a b : Int} (h : a ≤ n ∧ n ≤ b) : inb n a b = true := by
  unfold inb; rw [decide_eq_true h.1, decide_eq_true h.2]; rfl
theorem inb_no {n a b : Int} (h : ¬ (a ≤ n ∧ n ≤ b)) : inb n a b = false := by
  unfold inb
  by_cases h1 : a ≤ n
  · rw [decide_eq_false (fun h2 => h ⟨h1, h2⟩), Bool.and_false]
  · rw [decide_eq_false h1]; rfl
end Dm

set_option maxRecDepth 100000 in
theorem within_any (n a b : Int) (w : World) : Calls Tryd.prog 61 #[.int .i64 n, .int .i64 a, .int .i64 b] w fun e w' => e = .returned (.bool (Dm.inb n a b)) ∧ w = w' := by
  unfold Dm.inb
  by_cases h1 : a ≤ n
  · have d1 : decide (a ≤ n) = true := decide_eq_true h1
    rw [d1]
    go_enter Tryd.func61, Tryd.ntmps61
    go_wp2_with fail
    go_ret
    exact ⟨rfl, rfl⟩
  · have d1 : decide (a ≤ n) = false := decide_eq_false h1
    rw [d1]
    go_enter Tryd.func61, Tryd.ntmps61
    go_wp2_with fail
    go_ret
    exact ⟨rfl, rfl⟩

theorem bounded_any (n : Int) (w : World) : Calls Tryd.prog 62 #[.int .i64 n] w fun e w' => e = .returned (.int .i64 (Dm.bound n)) ∧ w = w' := by
  unfold Dm.bound
  by_cases h1 : n < 0
  · rw [if_pos h1]
    go_enter Tryd.func62, Tryd.ntmps62
    go_wp2
    all_goals go_ret
    all_goals exact ⟨rfl, rfl⟩
  · rw [if_neg h1]
    by_cases h2 : 1000000 < n
    · rw [if_pos h2]
      go_enter Tryd.func62, Tryd.ntmps62
      go_wp2
      all_goals go_ret
      all_goals exact ⟨rfl, rfl⟩
    · rw [if_neg h2]
      go_enter Tryd.func62, Tryd.ntmps62
      go_wp2
      all_goals go_ret
      all_goals exact ⟨rfl, rfl⟩
theorem Hit_any (pen more : Int) (w : World) : Calls Tryd.prog 52 #[.int .i64 pen, .int .i64 more] w fun e w' => e = .returned (.int .i64 (Dm.hit pen more)) ∧ w = w' := by
  have h1 := Dm.bound_in pen
  have h2 := Dm.bound_in more
  have hr : Dm.hit pen more = Dm.bound (Dm.bound pen + Dm.bound more) := rfl
  rw [hr]
  clear hr
  have H1 := Lib.hid (bounded_any pen)
  have H2 := Lib.hid (bounded_any more)
  generalize Dm.bound pen = a at *
  generalize Dm.bound more = b at *
  have hw : IntKind.i64.wrap (a + b) = a + b := by rw [IntKind.wrap_i64]; omega
  have hw' : wrap64 (a + b) = a + b := IntWalk.wrap64_in _ (by omega)
  go_enter Tryd.func52, Tryd.ntmps52
  go_wp2_with (go_at_call 62; fail)
  refine (H1.out _).mono ?_
  rintro e w1 ⟨rfl, rfl⟩
  go_wp2_with (go_at_call 62; fail)
  refine (H2.out _).mono ?_
  rintro e w1 ⟨rfl, rfl⟩
  go_wp2_with (go_at_call 62; fail)
  refine (bounded_any _ _).mono ?_
  rintro e w1 ⟨rfl, rfl⟩
  go_wp2
  go_ret
  exact ⟨rfl, rfl⟩

set_option maxRecDepth 100000 in
theorem Sup_any (b : Bool) (pen s r : Int) (w : World) : Calls Tryd.prog 53 #[.bool b, .int .i64 pen, .int .i64 s, .int .i64 r] w fun e w' => e = .returned (.bool (Dm.sup b pen s r)) ∧ w = w' := by
  unfold Dm.sup
  by_cases h1 : s ≤ pen
  · have d1 : decide (s ≤ pen) = true := decide_eq_true h1
    rw [if_pos h1]
    go_enter Tryd.func53, Tryd.ntmps53
    go_wp2_with fail
    go_ret
    exact ⟨rfl, rfl⟩
  · have d1 : decide (s ≤ pen) = false := decide_eq_false h1
    rw [if_neg h1]
    by_cases h2 : pen ≤ r
    · have d2 : decide (pen ≤ r) = true := decide_eq_true h2
      rw [if_pos h2]
      go_enter Tryd.func53, Tryd.ntmps53
      go_wp2_with fail
      go_ret
      exact ⟨rfl, rfl⟩
    · have d2 : decide (pen ≤ r) = false := decide_eq_false h2
      rw [if_neg h2]
      go_enter Tryd.func53, Tryd.ntmps53
      go_wp2_with fail
      go_ret
      exact ⟨rfl, rfl⟩

set_option maxRecDepth 100000 in
theorem Decay_no (pen dt half : Int) (w : World) (h : Dm.inb pen 0 1000000 = false ∨ (Dm.inb pen 0 1000000 = true ∧ Dm.inb dt 0 1099511627776 = false) ∨ (Dm.inb pen 0 1000000 = true ∧ Dm.inb dt 0 1099511627776 = true ∧ Dm.inb half 1 1099511627776 = false)) :
    Calls Tryd.prog 51 #[.int .i64 pen, .int .i64 dt, .int .i64 half] w fun e w' => e = .returned (.tuple #[.int .i64 0, .int .i64 1]) ∧ w = w' := by
  rcases h with h0 | ⟨h0, h1⟩ | ⟨h0, h1, h2⟩
  · go_enter Tryd.func51, Tryd.ntmps51
    go_wp2_with (go_at_call 61; refine (within_any _ _ _ _).mono ?_; rintro e w' ⟨rfl, rfl⟩)
    go_ret2
    exact ⟨rfl, rfl⟩
  · go_enter Tryd.func51, Tryd.ntmps51
    go_wp2_with (go_at_call 61; refine (within_any _ _ _ _).mono ?_; rintro e w' ⟨rfl, rfl⟩)
    go_ret2
    exact ⟨rfl, rfl⟩
  · go_enter Tryd.func51, Tryd.ntmps51
    go_wp2_with (go_at_call 61; refine (within_any _ _ _ _).mono ?_; rintro e w' ⟨rfl, rfl⟩)
    go_ret2
    exact ⟨rfl, rfl⟩

theorem more20 {q : Nat} (h : 20 < q) : decide ((20 : Int) < (q : Int)) = true ∧ (20 : Int) < (q : Int) := ⟨by simp; omega, by omega⟩
theorem less20 {q : Nat} (h : ¬ 20 < q) : decide ((20 : Int) < (q : Int)) = false ∧ ¬ (20 : Int) < (q : Int) ∧ min q 64 = q := ⟨by simp; omega, by omega, by omega⟩
set_option maxRecDepth 100000 in
set_option maxHeartbeats 1000000 in
theorem Decay_ok (pen dt half : Int) (w : World) (ht : DTab w) (h : Dm.Ar pen dt half) : Calls Tryd.prog 51 #[.int .i64 pen, .int .i64 dt, .int .i64 half] w fun e w' => e = .returned (.tuple #[.int .i64 (Dm.left pen dt half), .int .i64 0]) ∧ Below w.heap.size w w' := by
  obtain ⟨⟨p1, p2⟩, ⟨t1, t2⟩, h1, h2⟩ := h
  have d0 : Dm.inb pen 0 1000000 = true := Dm.inb_yes ⟨p1, p2⟩
  have d1 : Dm.inb dt 0 1099511627776 = true := Dm.inb_yes ⟨t1, t2⟩
  have d2 : Dm.inb half 1 1099511627776 = true := Dm.inb_yes ⟨h1, h2⟩
  have h0 : ¬ (half = 0) := by omega
  have h0' : (half == 0) = false := by simp; omega
  have hq0 : 0 ≤ dt / half := Int.ediv_nonneg t1 (by omega)
  obtain ⟨r1, r2⟩ := Dm.rest_in (dt := dt) h1
  obtain ⟨g1, g2⟩ := Dm.part_in (dt := dt) h1
  have hL : Dm.left pen dt half = if 20 < dt / half then 0 else Dm.halved pen (dt / half).toNat * Dm.tab.getD (Dm.part dt half).toNat 0 / 65536 := rfl
  have hpt : Dm.part dt half = 16 * (dt - dt / half * half) / half := rfl
  have hqd : dt / half ≤ dt := Int.ediv_le_self _ t1
  have hmod : dt.tmod half = dt - dt / half * half := by
    rw [Int.tmod_eq_emod_of_nonneg t1, Int.emod_def, Int.mul_comm]
  have hqt : dt.tdiv half = dt / half := Int.tdiv_eq_ediv_of_nonneg t1
  obtain ⟨j, hj⟩ : ∃ j : Nat, Dm.part dt half = (j : Int) := ⟨(Dm.part dt half).toNat, by omega⟩
  rw [hj] at hL hpt g1 g2
  obtain ⟨q, hq⟩ : ∃ q : Nat, dt / half = (q : Int) := ⟨(dt / half).toNat, by omega⟩
  rw [hq] at hL hpt r1 r2 hq0 hqd hmod hqt
  generalize dt - (q : Int) * half = r at *
  obtain ⟨s, hs⟩ : ∃ s : Int, 16 * r = s := ⟨_, rfl⟩
  rw [hs] at hpt
  have hws : wrap64 (16 * r) = s := by rw [hs]; exact IntWalk.wrap64_in _ (by omega)
  have hst : s.tdiv half = (j : Int) := by rw [Int.tdiv_eq_ediv_of_nonneg (by omega)]; exact hpt.symm
  have hwq0 : wrap64 (q : Int) = (q : Int) := IntWalk.wrap64_in _ (by omega)
  have hwj0 : wrap64 (j : Int) = (j : Int) := IntWalk.wrap64_in _ (by omega)
  have HL := Lib.hid hL
  have HT := Lib.hid ht
  clear hL hpt hj hq t1 t2 hq0 hqd r1 r2 ht hs
  by_cases h20 : 20 < q
  · obtain ⟨d6, d7⟩ := more20 h20
    rw [HL.out, if_pos d7]
    clear h20 d7
    go_enter Tryd.func51, Tryd.ntmps51
    go_wp2_with (go_at_call 61; refine (within_any _ _ _ _).mono ?_; rintro e w' ⟨rfl, rfl⟩)
    go_quiet (fail)
    go_wp2_with fail
    go_ret2
    exact ⟨rfl, below_drawn (Below.refl _ _) nq⟩
  · obtain ⟨d6, d7, hmin⟩ := less20 h20
    rw [HL.out, if_neg d7, Int.toNat_natCast, Int.toNat_natCast]
    clear d7
    have j2 : j < 16 := Int.ofNat_lt.1 g2
    have hcl := HT.out j j2
    have u := Dm.tab_in j2
    have hx := Dm.halved_pos q p1
    have hp := Dm.halved_pow q pen
    generalize Dm.halved pen q = x at *
    generalize Dm.tab.getD j 0 = y at *
    obtain ⟨u1, u2⟩ := u
    obtain ⟨x1, x2⟩ := hx
    have HH := Lib.hid (⟨hmod, hqt, hws, hst⟩ : _ ∧ _ ∧ _ ∧ _)
    clear hmod hqt hws hst
    have m0 : 0 ≤ x * y := Int.mul_nonneg x1 (by omega)
    have m1 : x * y ≤ 1000000 * 65536 := Dm.mul_mono x1 (by omega) (by omega) u2
    obtain ⟨z, hz⟩ : ∃ z : Int, x * y = z := ⟨_, rfl⟩
    have m2 : wrap64 z = z := IntWalk.wrap64_in _ (by omega)
    obtain ⟨v, hv⟩ : ∃ v : Int, z / 65536 = v := ⟨_, rfl⟩
    have m3 : z.tdiv 65536 = v := by rw [Int.tdiv_eq_ediv_of_nonneg (by omega)]; exact hv
    have m4 : wrap64 v = v := IntWalk.wrap64_in _ (by omega)
    have hsh : pen / 2 ^ q = x := hp.symm
    have HE : Hid (x * y / 65536 = v) := by show _ = _; rw [hz]; exact hv
    have m5 : wrap64 (x * y) = z := by rw [hz]; exact m2
    rw [HE.out]
    obtain ⟨hmod, hqt, hws, hst⟩ := HH.out
    clear HH
    clear hp hv p1 p2 x1 x2 u1 u2 m0 m1 h20 g1 hz HL HT m2 HE j2
    go_enter Tryd.func51, Tryd.ntmps51
    go_wp2_with (go_at_call 61; refine (within_any _ _ _ _).mono ?_; rintro e w' ⟨rfl, rfl⟩)
    go_quiet (fail)
    go_wp2_with fail
    go_ret2
    refine ⟨?_, below_drawn (Below.refl _ _) nq⟩
    show Ending.returned (Value.tuple #[Value.int .i64 (wrap64 v), Value.int .i64 0]) = _
    rw [m4]
theorem same_below {w : World} {Q : Ending → Prop} : ∀ e w', Q e ∧ w = w' → Q e ∧ Below w.heap.size w w' := fun _ _ h => ⟨h.1, h.2 ▸ Below.refl _ _⟩
theorem Decay_any (pen dt half : Int) (w : World) (ht : DTab w) : Calls Tryd.prog 51 #[.int .i64 pen, .int .i64 dt, .int .i64 half] w fun e w' => e = .returned (.tuple #[.int .i64 (Dm.decay pen dt half).1, .int .i64 (Dm.decay pen dt half).2]) ∧ Below w.heap.size w w' := by
  by_cases h : Dm.Ar pen dt half
  · rw [Dm.decay_ok h]; exact Decay_ok pen dt half w ht h
  · rw [Dm.decay_no h]
    by_cases h0 : 0 ≤ pen ∧ pen ≤ 1000000
    · by_cases h1 : 0 ≤ dt ∧ dt ≤ 1099511627776
      · exact (Decay_no pen dt half w (.inr (.inr ⟨Dm.inb_yes h0, Dm.inb_yes h1, Dm.inb_no (fun h2 => h ⟨h0, h1, h2⟩)⟩))).mono same_below
      · exact (Decay_no pen dt half w (.inr (.inl ⟨Dm.inb_yes h0, Dm.inb_no h1⟩))).mono same_below
    · exact (Decay_no pen dt half w (.inl (Dm.inb_no h0))).mono same_below
theorem Hit_b (pen more : Int) (w : World) : Calls Tryd.prog 52 #[.int .i64 pen, .int .i64 more] w fun e w' => e = .returned (.int .i64 (Dm.hit pen more)) ∧ Below w.heap.size w w' := (Hit_any pen more w).mono same_below
theorem Sup_b (b : Bool) (pen s r : Int) (w : World) : Calls Tryd.prog 53 #[.bool b, .int .i64 pen, .int .i64 s, .int .i64 r] w fun e w' => e = .returned (.bool (Dm.sup b pen s r)) ∧ Below w.heap.size w w' := (Sup_any b pen s r w).mono same_below
theorem RHit_b (pen more : Int) (w : World) : Calls Tryd.prog 46 #[.int .i64 pen, .int .i64 more] w fun e w' => e = .returned (.int .i64 (Dm.hit pen more)) ∧ Below w.heap.size w w' := (RHit_any pen more w).mono same_below
theorem RSup_b (b : Bool) (pen s r : Int) (w : World) : Calls Tryd.prog 47 #[.bool b, .int .i64 pen, .int .i64 s, .int .i64 r] w fun e w' => e = .returned (.bool (Dm.sup b pen s r)) ∧ Below w.heap.size w w' := (RSup_any b pen s r w).mono same_below

end Go.Proofs.YtpbogacodhjlfaaDoor
