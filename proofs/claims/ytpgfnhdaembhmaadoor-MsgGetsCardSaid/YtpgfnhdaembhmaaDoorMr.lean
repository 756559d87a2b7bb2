/- The plain model of the document's reading of a message: where it stops. No program in it. -/
import Derived.Test.YtpgfnhdaembhmaaDoorMq
namespace Go.Proofs.YtpgfnhdaembhmaaDoor.Mm
open Go.RowKit

theorem bad5 {k : Int} {b : List Int} (h : (s5 b).2.2 ≠ 0) : of k b = (zero, 51) := of_no fun g => h g.1
theorem bad4 {k : Int} {b : List Int} (h : (s4 b).2.2 ≠ 0) : of k b = (zero, 51) := bad5 fun g => h (thenR_zero g)
theorem bad3 {k : Int} {b : List Int} (h : (s3 b).2.2 ≠ 0) : of k b = (zero, 51) := bad4 fun g => h (thenR_zero g)
theorem bad2 {k : Int} {b : List Int} (h : (s2 b).2.2 ≠ 0) : of k b = (zero, 51) := bad3 fun g => h (thenR_zero g)
theorem bad1 {k : Int} {b : List Int} (h : (rN b 0).2.2 ≠ 0) : of k b = (zero, 51) := bad2 (by
  unfold s2
  split
  · exact fun g => h (thenR_zero g)
  · exact h)
theorem badE {k : Int} {b : List Int} (h : (Wm.rints b 0).2.2 ≠ 0) : of k b = (zero, 51) := bad1 (by rw [rN_err h]; exact h)
theorem badL {k : Int} {b : List Int} (h : (s5 b).2.1 ≠ (b.length : Int)) : of k b = (zero, 51) := of_no fun g => h g.2.1
theorem badR {k : Int} {b : List Int} (h : (got k b).right = false) : of k b = (zero, 51) := of_no fun g => by rw [g.2.2.2] at h; cases h

theorem sg_low {n : Int} (h : 0 ≤ n) (h2 : n ≤ 65535) : Pm.sg n = n := by unfold Pm.sg; split <;> omega
theorem badP {k : Int} {b : List Int} (h : (Wm.rints b 0).2.2 = 0) (hf : Wm.Fits (Wm.rints b 0).1) (hp : ¬ Pn (Wm.rints b 0).1) : of k b = (zero, 51) := by
  by_cases hl : (Wm.rints b 0).1.length = 10
  · refine of_no fun g => hp ?_
    obtain ⟨-, -, hn, hr⟩ := g
    have eN := rN_ok h hl
    have e0 : (rN b 0).1 = (Wm.rints b 0).1 := by rw [eN]
    obtain ⟨-, -, q1, q2, q3, q4, q5, -⟩ := right_iff.1 hr
    have hn7 : Pm.sg (got k b).up = (rN b 0).1.getD 7 0 := by rw [← hn]; rfl
    have hn9 : one (got k b).has = (rN b 0).1.getD 9 0 := by rw [← hn]; rfl
    have hf0 : (got k b).f = (rN b 0).1.getD 0 0 := rfl
    have ht0 : (got k b).t = (rN b 0).1.getD 1 0 := rfl
    have hc0 : (got k b).co = (rN b 0).1.getD 8 0 := rfl
    have hu : Pm.U (got k b).up := by
      show Pm.U (Pm.us ((rN b 0).1.getD 7 0))
      rw [e0]
      exact Pm.us_fit (Pm.fit_at hf 7)
    rw [sg_low hu.1 q3] at hn7
    rw [hf0, e0] at q1
    rw [ht0, e0] at q2
    rw [hc0, e0] at q4 q5
    rw [e0] at hn7 hn9
    have hu1 := hu.1
    refine ⟨hl, q1, q2, by omega, by omega, q4, q5, ?_⟩
    rw [← hn9]
    cases (got k b).has
    · exact .inl rfl
    · exact .inr rfl
  · exact bad1 (by rw [rN_few h hl]; decide)

theorem nums_got {k : Int} {b : List Int} (h : (Wm.rints b 0).2.2 = 0) (hf : Wm.Fits (Wm.rints b 0).1) (hp : Pn (Wm.rints b 0).1) : (got k b).nums = (rN b 0).1 := by
  have eN := rN_ok h hp.1
  have e0 : (rN b 0).1 = (Wm.rints b 0).1 := by rw [eN]
  show [(rN b 0).1.getD 0 0, (rN b 0).1.getD 1 0, (rN b 0).1.getD 2 0, (rN b 0).1.getD 3 0, (rN b 0).1.getD 4 0, (rN b 0).1.getD 5 0, (rN b 0).1.getD 6 0, Pm.sg (Pm.us ((rN b 0).1.getD 7 0)), (rN b 0).1.getD 8 0, one (decide ((rN b 0).1.getD 9 0 = 1))] = (rN b 0).1
  rw [e0]
  have h9 : one (decide ((Wm.rints b 0).1.getD 9 0 = 1)) = (Wm.rints b 0).1.getD 9 0 := by
    rcases hp.2.2.2.2.2.2.2 with h | h <;> rw [h] <;> rfl
  rw [Pm.sg_us (Pm.fit_at hf 7), h9]
  exact (Pm.len10 hp.1).symm

theorem of_end {k : Int} {b : List Int} (h : (Wm.rints b 0).2.2 = 0) (hf : Wm.Fits (Wm.rints b 0).1) (hp : Pn (Wm.rints b 0).1) (h5 : (s5 b).2.2 = 0) (hl : (s5 b).2.1 = (b.length : Int)) (hr : (got k b).right = true) : of k b = (got k b, 0) :=
  of_ok ⟨h5, hl, nums_got h hf hp, hr⟩
theorem s2_yes {b : List Int} (h : (Wm.rints b 0).2.2 = 0) (hp : Pn (Wm.rints b 0).1) (h9 : (Wm.rints b 0).1.getD 9 0 = 1) : s2 b = rP b (Wm.rints b 0).2.1 := by
  unfold s2
  rw [rN_ok h hp.1, if_pos h9, thenR_ok h]
theorem s2_not {b : List Int} (h : (Wm.rints b 0).2.2 = 0) (hp : Pn (Wm.rints b 0).1) (h9 : (Wm.rints b 0).1.getD 9 0 ≠ 1) : s2 b = (Pm.zero, (Wm.rints b 0).2.1, 0) := by
  unfold s2
  rw [rN_ok h hp.1, if_neg h9]
  exact congrArg (fun x => (Pm.zero, (Wm.rints b 0).2.1, x)) h

/-! ### what is read, whatever comes of it -/
theorem rseq_nil {b : List Int} : ∀ (k : Nat) (nx : Int), (Wm.rseq b k nx).2.2 ≠ 0 → (Wm.rseq b k nx).1 = []
  | 0, _, h => absurd rfl h
  | k + 1, nx, h => by
    unfold Wm.rseq at h ⊢
    split
    · rfl
    · rename_i h0
      rw [if_neg h0] at h
      unfold Wm.consR at h ⊢
      split
      · rfl
      · rename_i h1
        rw [if_neg h1] at h
        exact absurd rfl h
theorem rints_nil {b : List Int} {t : Int} (h : (Wm.rints b t).2.2 ≠ 0) : (Wm.rints b t).1 = [] := by
  unfold Wm.rints at h ⊢
  split
  · rfl
  · rename_i h0
    rw [if_neg h0] at h
    exact rseq_nil _ _ h
theorem rtext_nil {b : List Int} {t : Int} (h : (Wm.rtext b t).2.2 ≠ 0) : (Wm.rtext b t).1 = [] := by
  unfold Wm.rtext at h ⊢
  split
  · rfl
  · split
    · rfl
    · rename_i h1 h2
      rw [if_neg h1, if_neg h2] at h
      exact absurd rfl h
theorem fits_nil : Wm.Fits [] := fun _ h => absurd h List.not_mem_nil
theorem rints_fits {b : List Int} {n : Nat} (hb : Fm.By b) : Wm.Fits (Wm.rints b (n : Int)).1 := by
  by_cases h : (Wm.rints b (n : Int)).2.2 = 0
  · obtain ⟨l, to, e⟩ := Pm.rints_num h hb
    rw [e]
    exact (Pm.rints_at e hb).2.1
  · rw [rints_nil h]; exact fits_nil
theorem rtext_by {b : List Int} {n : Nat} (hb : Fm.By b) : Fm.By (Wm.rtext b (n : Int)).1 := by
  by_cases h : (Wm.rtext b (n : Int)).2.2 = 0
  · obtain ⟨l, to, e⟩ := rtext_num h hb
    rw [e]
    exact (rtext_at e hb).2.1
  · rw [rtext_nil h]; exact Fm.By.nil
/-- a place of the bytes, where there was no error -/
def Pl1 (b : List Int) (s : Int × Int) : Prop := s.2 = 0 → ∃ n : Nat, s.1 = (n : Int) ∧ n ≤ b.length
theorem pl_ints {b : List Int} {s : Int × Int} (hb : Fm.By b) (h : Pl1 b s) : Pl1 b (thenR [] s (Wm.rints b)).2 := fun e => by
  have e0 := thenR_zero e
  obtain ⟨n, hn, -⟩ := h e0
  rw [thenR_ok e0, hn] at e ⊢
  obtain ⟨l, to, e2⟩ := Pm.rints_num e hb
  rw [e2]
  exact ⟨to, rfl, (Pm.rints_at e2 hb).2.2.2.1⟩
theorem pl_text {b : List Int} {s : Int × Int} (hb : Fm.By b) (h : Pl1 b s) : Pl1 b (thenR [] s (Wm.rtext b)).2 := fun e => by
  have e0 := thenR_zero e
  obtain ⟨n, hn, -⟩ := h e0
  rw [thenR_ok e0, hn] at e ⊢
  obtain ⟨l, to, e2⟩ := rtext_num e hb
  rw [e2]
  exact ⟨to, rfl, (rtext_at e2 hb).2.2.2.1⟩
theorem fits_ints {b : List Int} {s : Int × Int} (hb : Fm.By b) (h : Pl1 b s) : Wm.Fits (thenR [] s (Wm.rints b)).1 := by
  by_cases e0 : s.2 = 0
  · obtain ⟨n, hn, -⟩ := h e0
    rw [thenR_ok e0, hn]
    exact rints_fits hb
  · rw [thenR_no e0]; exact fits_nil
theorem by_text {b : List Int} {s : Int × Int} (hb : Fm.By b) (h : Pl1 b s) : Fm.By (thenR [] s (Wm.rtext b)).1 := by
  by_cases e0 : s.2 = 0
  · obtain ⟨n, hn, -⟩ := h e0
    rw [thenR_ok e0, hn]
    exact rtext_by hb
  · rw [thenR_no e0]; exact Fm.By.nil
theorem pl_N {b : List Int} (hb : Fm.By b) : Pl1 b (rN b 0).2 := fun e => by
  by_cases h : (Wm.rints b 0).2.2 = 0
  · by_cases h1 : (Wm.rints b 0).1.length = 10
    · rw [rN_ok h h1]
      obtain ⟨l, to, e2⟩ := Pm.rints_num (n := 0) h hb
      have e3 : Wm.rints b 0 = (l, (to : Int), 0) := e2
      rw [e3]
      exact ⟨to, rfl, (Pm.rints_at (n := 0) e2 hb).2.2.2.1⟩
    · rw [rN_few h h1] at e; cases e
  · rw [rN_err h] at e; exact absurd e h
theorem fits_N {b : List Int} (hb : Fm.By b) : Wm.Fits (rN b 0).1 := by
  have hz : Wm.Fits zeros := fun n hn => by
    have : n = 0 := by
      unfold zeros at hn
      simpa using hn
    subst this
    exact ⟨by decide, by decide⟩
  by_cases h : (Wm.rints b 0).2.2 = 0
  · by_cases h1 : (Wm.rints b 0).1.length = 10
    · rw [rN_ok h h1]; exact rints_fits (n := 0) hb
    · rw [rN_few h h1]; exact hz
  · rw [rN_err h]; exact hz
theorem pl_P {b : List Int} {s : Int × Int} (hb : Fm.By b) (h : Pl1 b s) : Pl1 b (thenR Pm.zero s (rP b)).2 := fun e => by
  have e0 := thenR_zero e
  obtain ⟨n, hn, -⟩ := h e0
  rw [thenR_ok e0, hn] at e ⊢
  by_cases h1 : (Wm.rtext b (n : Int)).2.2 = 0
  · by_cases h2 : (Pm.get (Wm.rtext b (n : Int)).1).2 = 0
    · rw [rP_ok h1 h2]
      obtain ⟨l, to, e2⟩ := rtext_num h1 hb
      rw [e2]
      exact ⟨to, rfl, (rtext_at e2 hb).2.2.2.1⟩
    · rw [rP_no h1 h2] at e; exact absurd e h2
  · rw [rP_err h1] at e; exact absurd e h1
theorem pl_s2 {b : List Int} (hb : Fm.By b) : Pl1 b (s2 b).2 := by
  unfold s2
  split
  · exact pl_P hb (pl_N hb)
  · exact pl_N hb
theorem pl_s3 {b : List Int} (hb : Fm.By b) : Pl1 b (s3 b).2 := pl_ints hb (pl_s2 hb)
theorem pl_s4 {b : List Int} (hb : Fm.By b) : Pl1 b (s4 b).2 := pl_text hb (pl_s3 hb)
theorem pl_s5 {b : List Int} (hb : Fm.By b) : Pl1 b (s5 b).2 := pl_text hb (pl_s4 hb)
theorem ok_msOf {k : Int} {ns : List Int} (hk : Pm.I k) (hf : Wm.Fits ns) : (msOf k ns).Ok :=
  ⟨hk, Pm.fit_at hf 0, Pm.fit_at hf 1, Pm.fit_at hf 2, Pm.fit_at hf 3, Pm.fit_at hf 4, Pm.fit_at hf 5, Pm.fit_at hf 6, Pm.us_fit (Pm.fit_at hf 7), Pm.fit_at hf 8, Pm.ok_zero, fits_nil, Fm.By.nil, Fm.By.nil⟩
theorem k_fit {k : Int} (hk : 0 ≤ k ∧ k ≤ 255) : Pm.I k := ⟨by omega, by omega⟩
end Go.Proofs.YtpgfnhdaembhmaaDoor.Mm
