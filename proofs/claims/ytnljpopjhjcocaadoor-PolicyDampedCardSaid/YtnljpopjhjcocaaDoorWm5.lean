/- Plain facts on reading a list of numbers. No program in it. -/
import Derived.Test.YtnljpopjhjcocaaDoorWm4
namespace Go.Proofs.YtnljpopjhjcocaaDoor.Wm
open Go.RowKit

/-- what was read so far, ahead of what the rest gives -/
def consR (acc : List Int) (r : List Int × Int × Int) : List Int × Int × Int := if r.2.2 ≠ 0 then ([], 0, r.2.2) else (acc ++ r.1, r.2.1, 0)

def rseq (b : List Int) : Nat → Int → List Int × Int × Int
  | 0, nx => ([], nx, 0)
  | k + 1, nx => if (rd b nx).2.2 ≠ 0 then ([], 0, (rd b nx).2.2) else consR [(rd b nx).1] (rseq b k (rd b nx).2.1)

theorem consR_err {acc : List Int} {r : List Int × Int × Int} (h : r.2.2 ≠ 0) : consR acc r = ([], 0, r.2.2) := by unfold consR; rw [if_pos h]
theorem consR_ok {acc : List Int} {r : List Int × Int × Int} (h : r.2.2 = 0) : consR acc r = (acc ++ r.1, r.2.1, 0) := by unfold consR; rw [if_neg (by simpa using h)]

theorem consR_consR (acc acc2 : List Int) (r : List Int × Int × Int) : consR acc (consR acc2 r) = consR (acc ++ acc2) r := by
  by_cases h : r.2.2 = 0
  · rw [consR_ok h, consR_ok (r := (acc2 ++ r.1, r.2.1, 0)) rfl, consR_ok h, List.append_assoc]
  · rw [consR_err h, consR_err h, consR_err (r := ([], 0, r.2.2)) h]

theorem consR_nil (b : List Int) (k : Nat) (nx : Int) : consR [] (rseq b k nx) = rseq b k nx := by
  cases k with
  | zero => rfl
  | succ k =>
    unfold rseq
    split
    · rename_i h; exact consR_err (r := ([], 0, (rd b nx).2.2)) h
    · rw [consR_consR]; rfl

theorem rseq_err {b : List Int} {k : Nat} {nx : Int} {acc : List Int} (h : (rd b nx).2.2 ≠ 0) : consR acc (rseq b (k + 1) nx) = ([], 0, (rd b nx).2.2) := by
  rw [rseq, if_pos h]; unfold consR; rw [if_pos h]
theorem rseq_ok {b : List Int} {k : Nat} {nx : Int} {acc : List Int} (h : (rd b nx).2.2 = 0) : consR acc (rseq b (k + 1) nx) = consR (acc ++ [(rd b nx).1]) (rseq b k (rd b nx).2.1) := by
  rw [rseq, if_neg (by simpa using h), consR_consR]
theorem rseq_done {b : List Int} {nx : Int} {acc : List Int} : consR acc (rseq b 0 nx) = (acc, nx, 0) := by
  unfold rseq consR; rw [if_neg (by simp), List.append_nil]

/-- the list at an offset, the offset behind it, the error -/
def rints (b : List Int) (t : Int) : List Int × Int × Int :=
  if (rlen b t 64).2.2 ≠ 0 then ([], 0, (rlen b t 64).2.2) else rseq b (rlen b t 64).1.toNat (rlen b t 64).2.1
theorem rints_err {b : List Int} {t : Int} (h : (rlen b t 64).2.2 ≠ 0) : rints b t = ([], 0, (rlen b t 64).2.2) := by unfold rints; rw [if_pos h]
theorem rints_ok {b : List Int} {t : Int} {n f : Nat} (h : rlen b t 64 = ((n : Int), (f : Int), 0)) : rints b t = rseq b n (f : Int) := by
  unfold rints; rw [h, if_neg (by simp)]; rfl

theorem set_acc (acc : List Int) (k : Nat) (x : Int) : (acc ++ List.replicate (k + 1) 0).set acc.length x = (acc ++ [x]) ++ List.replicate k 0 := by
  rw [List.set_append_right _ _ (Nat.le_refl _), Nat.sub_self, List.replicate_succ, List.set_cons_zero, List.append_assoc]
  rfl
theorem get_acc (acc : List Int) (k : Nat) : (acc ++ List.replicate (k + 1) (0 : Int))[acc.length]? = some 0 := by
  rw [List.getElem?_append_right (Nat.le_refl _), Nat.sub_self]; rfl

end Go.Proofs.YtnljpopjhjcocaaDoor.Wm
