/- Four bytes, one behind the other, changed by a word: no program in it. -/
import Derived.Test.YtmddekhflmacpaaDoorCm
namespace Go.Proofs.YtmddekhflmacpaaDoor.Cm
open Go.RowKit

/-- the word's byte number k -/
def byteAt (x : BitVec 32) (k : Nat) : Int := ((x.toNat / 2 ^ (8 * k) % 256 : Nat) : Int)
theorem byteAt_fit (x : BitVec 32) (k : Nat) : 0 ≤ byteAt x k ∧ byteAt x k ≤ 255 := by
  unfold byteAt
  have := Nat.mod_lt (x.toNat / 2 ^ (8 * k)) (show 0 < 256 by omega)
  omega

theorem byteAt0 (x : BitVec 32) : byteAt x 0 = V x % 256 := by unfold byteAt V; simp
theorem byteAt1 (x : BitVec 32) : byteAt x 1 = V x / 256 % 256 := by unfold byteAt V; simp
theorem byteAt2 (x : BitVec 32) : byteAt x 2 = V x / 65536 % 256 := by unfold byteAt V; simp
theorem byteAt3 (x : BitVec 32) : byteAt x 3 = V x / 16777216 := by
  have h := x.isLt
  unfold byteAt V
  rw [show 2 ^ (8 * 3) = 16777216 from rfl, show x.toNat / 16777216 % 256 = x.toNat / 16777216 by omega]
  simp

/-- the first k of the four are changed -/
def bur (xs : List Int) (i : Nat) (x : BitVec 32) : Nat → List Int
  | 0 => xs
  | k + 1 => (bur xs i x k).set (i + k) (bits .xor .u8 ((bur xs i x k).getD (i + k) 0) (byteAt x k))

theorem bur_length (xs : List Int) (i : Nat) (x : BitVec 32) : ∀ k, (bur xs i x k).length = xs.length
  | 0 => rfl
  | k + 1 => by simp [bur, bur_length xs i x k]
theorem bur_fit {xs : List Int} (i : Nat) (x : BitVec 32) (h : ∀ u ∈ xs, 0 ≤ u ∧ u ≤ 255) : ∀ k, ∀ u ∈ bur xs i x k, 0 ≤ u ∧ u ≤ 255
  | 0 => h
  | k + 1 => fun u hu => by
    have ih := bur_fit i x h k
    rcases List.mem_or_eq_of_mem_set hu with h2 | h2
    · exact ih u h2
    · rw [h2]
      refine (b8_xor ?_ (byteAt_fit x k)).2
      by_cases hl : i + k < (bur xs i x k).length
      · simp only [List.getD, List.getElem?_eq_getElem hl]
        exact ih _ (List.getElem_mem hl)
      · simp only [List.getD, List.getElem?_eq_none (Nat.le_of_not_lt hl)]
        decide

theorem bur4 (pre post : List Int) (a b c d : Int) (x : BitVec 32) :
    bur (pre ++ a :: b :: c :: d :: post) pre.length x 4 = pre ++ ([bits .xor .u8 a (byteAt x 0), bits .xor .u8 b (byteAt x 1), bits .xor .u8 c (byteAt x 2), bits .xor .u8 d (byteAt x 3)] ++ post) := by
  simp [bur, List.getD]

theorem crc_burst {xs : List Int} {i : Nat} {x : BitVec 32} (hi : i + 3 < xs.length) (hb : ∀ u ∈ xs, 0 ≤ u ∧ u ≤ 255) (hx : x ≠ 0#32) (s : BitVec 32) : crc s (bur xs i x 4) ≠ crc s xs := by
  obtain ⟨pre, a, b, c, d, post, rfl, rfl⟩ : ∃ pre a b c d post, xs = pre ++ a :: b :: c :: d :: post ∧ i = pre.length := by
    refine ⟨xs.take i, xs[i], xs[i + 1], xs[i + 2], xs[i + 3], xs.drop (i + 4), ?_, by rw [List.length_take]; omega⟩
    rw [List.getElem_cons_drop, List.getElem_cons_drop, List.getElem_cons_drop, List.getElem_cons_drop, List.take_append_drop]
  rw [bur4]
  intro he
  have he' := BitVec.not_inj.1 he
  rw [show pre ++ a :: b :: c :: d :: post = pre ++ ([a, b, c, d] ++ post) from rfl, run_app, run_app, run_app, run_app] at he'
  generalize run (~~~s) pre = r at he'
  refine run_inj post ?_ he'
  have ha := hb a (by simp)
  have hb' := hb b (by simp)
  have hc := hb c (by simp)
  have hd := hb d (by simp)
  have hx1 := run_xor [a, b, c, d] [byteAt x 0, byteAt x 1, byteAt x 2, byteAt x 3] r 0#32 rfl
    (fun u hu => by simp only [List.mem_cons, List.not_mem_nil, or_false] at hu; rcases hu with rfl | rfl | rfl | rfl <;> assumption)
    (fun u hu => by simp only [List.mem_cons, List.not_mem_nil, or_false] at hu; rcases hu with rfl | rfl | rfl | rfl <;> exact byteAt_fit _ _)
  rw [show xors [a, b, c, d] [byteAt x 0, byteAt x 1, byteAt x 2, byteAt x 3] = [bits .xor .u8 a (byteAt x 0), bits .xor .u8 b (byteAt x 1), bits .xor .u8 c (byteAt x 2), bits .xor .u8 d (byteAt x 3)] from rfl] at hx1
  have hw : run 0#32 [byteAt x 0, byteAt x 1, byteAt x 2, byteAt x 3] = s8 (s8 (s8 (s8 (0#32 ^^^ x)))) := by
    rw [← word4]
    simp [run, byteAt]
  intro e
  rw [show r ^^^ 0#32 = r by simp] at hx1
  rw [hx1, hw] at e
  have e2 : s8 (s8 (s8 (s8 (0#32 ^^^ x)))) = 0#32 := by
    have := congrArg (run r [a, b, c, d] ^^^ ·) e
    simpa [← BitVec.xor_assoc] using this
  have e3 := s8_zero (s8_zero (s8_zero (s8_zero e2)))
  exact hx (by simpa using e3)
end Go.Proofs.YtmddekhflmacpaaDoor.Cm
