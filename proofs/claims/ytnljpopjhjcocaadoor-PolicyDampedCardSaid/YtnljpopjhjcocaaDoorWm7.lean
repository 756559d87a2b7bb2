/- Plain facts: what is read is written as it stood. No program in it. -/
import Derived.Test.YtnljpopjhjcocaaDoorWm6
namespace Go.Proofs.YtnljpopjhjcocaaDoor.Wm
open Go.RowKit

theorem take_piece {α : Type _} (b : List α) (p m : Nat) : b.take p ++ (b.drop p).take m = b.take (p + m) := by
  rw [List.take_add]

theorem int_kept {b : List Int} {n k : Int} (h : rd b 0 = (n, k, 0)) (hb : ∀ c ∈ b, 0 ≤ c ∧ c ≤ 255) :
    ∃ m : Nat, k = m ∧ 1 ≤ m ∧ m ≤ b.length ∧ m ≤ 10 ∧ pint n = b.take m ∧ -9223372036854775808 ≤ n ∧ n ≤ 9223372036854775807 := by
  obtain ⟨m, _, e1, m1, m2, m3, e2, n0, n1⟩ := rd_some h hb
  rw [show (0 : Int).toNat = 0 from rfl, List.drop_zero] at e2
  exact ⟨m, by omega, m1, by omega, m3, e2.symm, n0, n1⟩

theorem text_kept {b : List Int} (h : (rtext b 0).2.2 = 0) (hb : ∀ c ∈ b, 0 ≤ c ∧ c ≤ 255) :
    ∃ (s : List Int) (to : Nat), rtext b 0 = (s, (to : Int), 0) ∧ ¬ 4096 < s.length ∧ to ≤ b.length ∧ ptext s = b.take to ∧ ∀ c ∈ s, 0 ≤ c ∧ c ≤ 255 := by
  by_cases he : (rlen b 0 4096).2.2 = 0
  · obtain ⟨n, m, hl, hrd, hn, _, m1, m2, e2⟩ := rlen_some he hb
    rw [show (0 : Int).toNat = 0 from rfl, List.drop_zero] at e2
    have hl' : rlen b 0 4096 = ((n : Int), ((m : Nat) : Int), 0) := by rw [hl]; congr 2; omega
    by_cases h2 : b.length < m + n
    · rw [rtext_end hl' h2] at h; simp at h
    · refine ⟨(b.drop m).take n, m + n, by rw [rtext_ok hl' h2]; congr 2, ?_, by omega, ?_, ?_⟩
      · rw [List.length_take, List.length_drop]; omega
      · unfold ptext
        rw [List.length_take, List.length_drop, Nat.min_eq_left (by omega), ← e2, take_piece]
      · intro c hc; exact hb c (List.mem_of_mem_drop (List.mem_of_mem_take hc))
  · rw [rtext_err he] at h; exact absurd h he

theorem seq_kept {b : List Int} (hb : ∀ c ∈ b, 0 ≤ c ∧ c ≤ 255) : ∀ (k p : Nat), p ≤ b.length → (rseq b k (p : Int)).2.2 = 0 →
    ∃ (l : List Int) (to : Nat), rseq b k (p : Int) = (l, (to : Int), 0) ∧ l.length = k ∧ Fits l ∧ to ≤ b.length ∧ b.take p ++ flat l = b.take to := by
  intro k
  induction k with
  | zero => intro p hp _; exact ⟨[], p, rfl, rfl, (fun _ h => absurd h List.not_mem_nil), hp, by rw [flat_nil, List.append_nil]⟩
  | succ k ih =>
    intro p hp h
    by_cases h1 : (rd b (p : Int)).2.2 = 0
    · obtain ⟨m, _, e1, m1, m2, _, e2, n0, n1⟩ := rd_some (n := (rd b (p : Int)).1) (k := (rd b (p : Int)).2.1) (by rw [← h1]) hb
      rw [Int.toNat_natCast] at e2
      have e1' : (rd b (p : Int)).2.1 = ((p + m : Nat) : Int) := by rw [e1]; omega
      have hs : rseq b (k + 1) (p : Int) = consR [(rd b (p : Int)).1] (rseq b k ((p + m : Nat) : Int)) := by
        rw [rseq, if_neg (by simpa using h1), e1']
      rw [hs] at h ⊢
      by_cases h3 : (rseq b k ((p + m : Nat) : Int)).2.2 = 0
      · obtain ⟨l, to, e3, hl, hf, hto, e4⟩ := ih (p + m) (by omega) h3
        refine ⟨(rd b (p : Int)).1 :: l, to, ?_, by rw [List.length_cons, hl], ?_, hto, ?_⟩
        · rw [consR_ok h3, e3]; rfl
        · intro z hz
          rcases List.mem_cons.1 hz with rfl | hz
          · exact ⟨n0, n1⟩
          · exact hf z hz
        · have e : flat ((rd b (p : Int)).1 :: l) = pint (rd b (p : Int)).1 ++ flat l := by unfold flat; rw [List.flatMap_cons]
          rw [e, ← e2, ← List.append_assoc, take_piece, e4]
      · rw [consR_err h3] at h; exact absurd h h3
    · rw [rseq, if_pos h1] at h; exact absurd h h1

theorem ints_kept {b : List Int} (h : (rints b 0).2.2 = 0) (hb : ∀ c ∈ b, 0 ≤ c ∧ c ≤ 255) :
    ∃ (l : List Int) (to : Nat), rints b 0 = (l, (to : Int), 0) ∧ ¬ 64 < l.length ∧ Fits l ∧ to ≤ b.length ∧ pintsU l l.length = b.take to := by
  by_cases he : (rlen b 0 64).2.2 = 0
  · obtain ⟨n, m, hl, hrd, hn, _, m1, m2, e2⟩ := rlen_some he hb
    rw [show (0 : Int).toNat = 0 from rfl, List.drop_zero] at e2
    have hl' : rlen b 0 64 = ((n : Int), ((m : Nat) : Int), 0) := by rw [hl]; congr 2; omega
    rw [rints_ok hl'] at h ⊢
    obtain ⟨l, to, e3, h4, hf, hto, e4⟩ := seq_kept hb n m (by omega) h
    refine ⟨l, to, e3, by omega, hf, hto, ?_⟩
    unfold pintsU
    rw [List.take_of_length_le (Nat.le_refl _), h4, ← e2, e4]
  · rw [rints_err he] at h; exact absurd h he

end Go.Proofs.YtnljpopjhjcocaaDoor.Wm
