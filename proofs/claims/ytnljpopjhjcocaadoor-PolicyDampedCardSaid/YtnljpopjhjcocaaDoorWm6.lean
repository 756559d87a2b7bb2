/- Plain facts: numbers, texts and lists, written one behind the other, are read as they were. No program in it. -/
import Derived.Test.YtnljpopjhjcocaaDoorWm5
namespace Go.Proofs.YtnljpopjhjcocaaDoor.Wm
open Go.RowKit

theorem rlen_of_rd {b : List Int} {t n k most : Int} (h : rd b t = (n, k, 0)) (h0 : 0 ≤ n) (h1 : n ≤ most) : rlen b t most = (n, k, 0) := by
  rw [rlen_ok (by rw [h]) (by rw [h]; dsimp only; omega), h]

theorem rtext_back {a s r : List Int} (hs : s.length ≤ 4096) : rtext (a ++ (ptext s ++ r)) (a.length : Int) = (s, ((a ++ ptext s).length : Int), 0) := by
  have hrd : rd (a ++ (ptext s ++ r)) (a.length : Int) = ((s.length : Int), (((a ++ pint (s.length : Int)).length : Nat) : Int), 0) := by
    have h := rd_pint (n := (s.length : Int)) (by omega) (by omega) a (s ++ r)
    unfold ptext
    rw [List.append_assoc, h, List.length_append]
    congr 2
  have hl := rlen_of_rd (most := 4096) hrd (by omega) (by omega)
  have hlen : ¬ (a ++ (ptext s ++ r)).length < (a ++ pint (s.length : Int)).length + s.length := by
    unfold ptext
    simp only [List.length_append]
    omega
  rw [rtext_ok hl hlen]
  have e : a ++ (ptext s ++ r) = (a ++ pint (s.length : Int)) ++ (s ++ r) := by unfold ptext; simp only [List.append_assoc]
  rw [e, List.drop_left, List.take_left]
  have e9 : (((a ++ pint (s.length : Int)).length : Nat) : Int) + (s.length : Int) = ((a ++ ptext s).length : Int) := by
    unfold ptext
    simp only [List.length_append]
    omega
  rw [e9]

theorem rseq_back : ∀ (m a r : List Int), Fits m → rseq (a ++ (flat m ++ r)) m.length (a.length : Int) = (m, ((a ++ flat m).length : Int), 0) := by
  intro m
  induction m with
  | nil => intro a r _; show ([], (a.length : Int), 0) = _; rw [flat_nil, List.append_nil]
  | cons x m ih =>
    intro a r hf
    have hx := hf x (List.mem_cons_self ..)
    have e : flat (x :: m) = pint x ++ flat m := by unfold flat; rw [List.flatMap_cons]
    have e2 : a ++ (flat (x :: m) ++ r) = a ++ (pint x ++ (flat m ++ r)) := by rw [e, List.append_assoc]
    have hrd := rd_pint hx.1 hx.2 a (flat m ++ r)
    have h3 := ih (a ++ pint x) r (fun z hz => hf z (List.mem_cons_of_mem _ hz))
    rw [e2, List.length_cons, rseq, hrd, if_neg (by simp)]
    dsimp only
    rw [show (a.length : Int) + (pint x).length = ((a ++ pint x).length : Int) from by rw [List.length_append]; omega]
    rw [show a ++ (pint x ++ (flat m ++ r)) = (a ++ pint x) ++ (flat m ++ r) from by rw [List.append_assoc], h3]
    rw [consR_ok (r := (m, _, 0)) rfl, e, List.append_assoc]
    rfl

theorem rints_back {a l r : List Int} (hl : l.length ≤ 64) (hf : Fits l) : rints (a ++ (pintsU l l.length ++ r)) (a.length : Int) = (l, ((a ++ pintsU l l.length).length : Int), 0) := by
  have eU : pintsU l l.length = pint (l.length : Int) ++ flat l := by unfold pintsU; rw [List.take_of_length_le (Nat.le_refl _)]
  have hrd : rd (a ++ (pintsU l l.length ++ r)) (a.length : Int) = ((l.length : Int), (((a ++ pint (l.length : Int)).length : Nat) : Int), 0) := by
    have h := rd_pint (n := (l.length : Int)) (by omega) (by omega) a (flat l ++ r)
    rw [eU, List.append_assoc, h, List.length_append]
    congr 2
  have hrl := rlen_of_rd (most := 64) hrd (by omega) (by omega)
  rw [rints_ok hrl]
  have e : a ++ (pintsU l l.length ++ r) = (a ++ pint (l.length : Int)) ++ (flat l ++ r) := by rw [eU]; simp only [List.append_assoc]
  rw [e, rseq_back l _ r hf, eU, List.append_assoc]

theorem pintsU_byte {l : List Int} (hl : l.length ≤ 64) (hf : Fits l) : ∀ c ∈ pintsU l l.length, 0 ≤ c ∧ c ≤ 255 := by
  intro c hc
  unfold pintsU at hc
  rw [List.take_of_length_le (Nat.le_refl _)] at hc
  rcases List.mem_append.1 hc with h | h
  · exact pint_byte (by omega) (by omega) c h
  · exact flatByte hf c h
theorem ptext_byte {s : List Int} (hl : s.length ≤ 4096) (hf : ∀ c ∈ s, 0 ≤ c ∧ c ≤ 255) : ∀ c ∈ ptext s, 0 ≤ c ∧ c ≤ 255 := by
  intro c hc
  unfold ptext at hc
  rcases List.mem_append.1 hc with h | h
  · exact pint_byte (by omega) (by omega) c h
  · exact hf c h
theorem ptext_len (s : List Int) : (ptext s).length ≤ 10 + s.length := by
  unfold ptext
  have := pint_len (s.length : Int)
  rw [List.length_append]; omega

end Go.Proofs.YtnljpopjhjcocaaDoor.Wm
