/- Plain arithmetic of a checksum of 32 bits, bit by bit and four bits at once: no program in it. -/
import Derived.WalkKit
import Derived.Test.YtbkdenlhfigjhaaDoorBK
import Derived.Lib.LaidTab
namespace Go.Proofs.YtbkdenlhfigjhaaDoor.Cm
open Go.RowKit

/-- one shift -/
def s1 (r : BitVec 32) : BitVec 32 := (r >>> 1) ^^^ (bif r.getLsbD 0 then 3988292384#32 else 0#32)
def s4 (r : BitVec 32) : BitVec 32 := s1 (s1 (s1 (s1 r)))
def s8 (r : BitVec 32) : BitVec 32 := s4 (s4 r)

theorem s1_xor (x y : BitVec 32) : s1 (x ^^^ y) = s1 x ^^^ s1 y := by
  unfold s1
  rw [BitVec.ushiftRight_xor_distrib, BitVec.getLsbD_xor]
  cases x.getLsbD 0 <;> cases y.getLsbD 0 <;> simp
  · ac_rfl
  · ac_rfl
  · rw [show (x >>> 1 ^^^ 3988292384#32 ^^^ (y >>> 1 ^^^ 3988292384#32)) = (x >>> 1 ^^^ y >>> 1) ^^^ (3988292384#32 ^^^ 3988292384#32) from by ac_rfl]
    simp
theorem s4_xor (x y : BitVec 32) : s4 (x ^^^ y) = s4 x ^^^ s4 y := by simp only [s4, s1_xor]
theorem s8_xor (x y : BitVec 32) : s8 (x ^^^ y) = s8 x ^^^ s8 y := by simp only [s8, s4_xor]

theorem s1_zero {x : BitVec 32} (h : s1 x = 0#32) : x = 0#32 := by
  have h31 : (s1 x).getLsbD 31 = x.getLsbD 0 := by
    unfold s1
    cases hb : x.getLsbD 0 <;> simp
  rw [h] at h31
  have h0 : x.getLsbD 0 = false := by rw [← h31]; simp
  unfold s1 at h
  rw [h0] at h
  simp at h
  apply BitVec.eq_of_getLsbD_eq
  intro i hi
  cases i with
  | zero => simpa using h0
  | succ i =>
    have := congrArg (fun b => b.getLsbD i) h
    simpa [Nat.add_comm] using this
theorem s4_zero {x : BitVec 32} (h : s4 x = 0#32) : x = 0#32 := s1_zero (s1_zero (s1_zero (s1_zero h)))
theorem s8_zero {x : BitVec 32} (h : s8 x = 0#32) : x = 0#32 := s4_zero (s4_zero h)

/-- a register whose lowest bit is not set is just shifted -/
theorem s1_even {x : BitVec 32} (h : x.getLsbD 0 = false) : s1 x = x >>> 1 := by unfold s1; rw [h]; simp

theorem s4_even (x : BitVec 32) (h : ∀ i, i < 4 → x.getLsbD i = false) : s4 x = x >>> 4 := by
  unfold s4
  rw [s1_even (h 0 (by omega)), s1_even (x := x >>> 1) (by simpa using h 1 (by omega)), s1_even (x := x >>> 1 >>> 1) (by simpa using h 2 (by omega)),
    s1_even (x := x >>> 1 >>> 1 >>> 1) (by simpa using h 3 (by omega))]
  simp [← BitVec.shiftRight_add]

theorem s8_even (x : BitVec 32) (h : ∀ i, i < 8 → x.getLsbD i = false) : s8 x = x >>> 8 := by
  unfold s8
  rw [s4_even x (fun i hi => h i (by omega)), s4_even (x >>> 4) (fun i hi => by simpa [Nat.add_comm] using h (4 + i) (by omega))]
  simp [← BitVec.shiftRight_add]

/-- so many shifts -/
def s1n : Nat → BitVec 32 → BitVec 32
  | 0, r => r
  | n + 1, r => s1n n (s1 r)

/-- the table of four shifts -/
def tab : List Int := [0, 498536548, 997073096, 651767980, 1994146192, 1802195444, 1303535960, 1342533948, 3988292384, 4027552580, 3604390888, 3412177804, 2607071920, 2262029012, 2685067896, 3183342108]

theorem tab_all : ∀ k : Fin 16, s4 (BitVec.ofNat 32 k.val) = BitVec.ofInt 32 (tab.getD k.val 0) := by decide
theorem tab_fit : ∀ k : Fin 16, 0 ≤ tab.getD k.val 0 ∧ tab.getD k.val 0 < 4294967296 := by decide

theorem split4 (x : BitVec 32) : x = ((x >>> 4) <<< 4) ^^^ (x &&& 15#32) := by
  apply BitVec.eq_of_getLsbD_eq
  intro i hi
  have h15 : (15#32).getLsbD i = decide (i < 4) := by
    have : ∀ j : Fin 32, (15#32).getLsbD j.val = decide (j.val < 4) := by decide
    exact this ⟨i, hi⟩
  simp only [BitVec.getLsbD_xor, BitVec.getLsbD_shiftLeft, BitVec.getLsbD_ushiftRight, BitVec.getLsbD_and, h15, hi]
  by_cases h4 : i < 4
  · simp [h4]
  · simp [h4, show 4 + (i - 4) = i by omega]

theorem s4_tab (x : BitVec 32) : s4 x = (x >>> 4) ^^^ BitVec.ofInt 32 (tab.getD (x.toNat % 16) 0) := by
  have h1 := tab_all ⟨x.toNat % 16, Nat.mod_lt _ (by omega)⟩
  have h2 : BitVec.ofNat 32 (x.toNat % 16) = x &&& 15#32 := by
    apply BitVec.eq_of_toNat_eq
    rw [BitVec.toNat_and, BitVec.toNat_ofNat]
    have : x.toNat &&& (15#32).toNat = x.toNat % 16 := Nat.and_two_pow_sub_one_eq_mod x.toNat 4
    rw [this]
    omega
  dsimp only at h1
  rw [h2] at h1
  rw [← h1]
  conv => lhs; rw [split4 x]
  rw [s4_xor, s4_even ((x >>> 4) <<< 4) (fun i hi => by simp [hi])]
  congr 1
  apply BitVec.eq_of_getLsbD_eq
  intro i hi
  simp only [BitVec.getLsbD_shiftLeft, BitVec.getLsbD_ushiftRight]
  by_cases h : 4 + i < 32
  · simp [h, show ¬ 4 + i < 4 by omega, show 4 + i - 4 = i by omega]
  · simp [h]
    apply BitVec.getLsbD_of_ge
    omega

/-! ### rows of bytes -/
def stp (r : BitVec 32) (c : Int) : BitVec 32 := s8 (r ^^^ BitVec.ofInt 32 c)
def run (r : BitVec 32) (xs : List Int) : BitVec 32 := xs.foldl stp r
def crc (s : BitVec 32) (xs : List Int) : BitVec 32 := ~~~(run (~~~s) xs)

theorem run_nil (r : BitVec 32) : run r [] = r := rfl
theorem run_cons (r : BitVec 32) (x : Int) (xs : List Int) : run r (x :: xs) = run (stp r x) xs := rfl
theorem run_app (r : BitVec 32) (xs ys : List Int) : run r (xs ++ ys) = run (run r xs) ys := List.foldl_append
theorem run_take {xs : List Int} {k : Nat} {c : Int} (h : xs[k]? = some c) (r : BitVec 32) : run r (xs.take (k + 1)) = stp (run r (xs.take k)) c := by
  rw [List.take_add_one, h, run_app]
  rfl
theorem crc_nil (s : BitVec 32) : crc s [] = s := by simp [crc, run_nil]
theorem crc_app (s : BitVec 32) (xs ys : List Int) : crc s (xs ++ ys) = crc (crc s xs) ys := by simp [crc, run_app]

/-! ### the words that the walk spells -/
theorem u32v (x : BitVec 32) : (x.toNat : Int) < 4294967296 := by have := x.isLt; omega
theorem ofInt_toNat (x : BitVec 32) : BitVec.ofInt 32 (x.toNat : Int) = x := by
  apply BitVec.eq_of_toNat_eq
  rw [ofInt_u32 x.toNat x.isLt]
theorem ofInt_eq {c : Int} (h0 : 0 ≤ c) (h1 : c < 4294967296) : ((BitVec.ofInt 32 c).toNat : Int) = c := by
  obtain ⟨n, rfl⟩ := Int.eq_ofNat_of_zero_le h0
  rw [ofInt_u32 n (by omega)]
theorem w_xor (x : BitVec 32) {c : Int} (h0 : 0 ≤ c) (h1 : c < 4294967296) : bits .xor .u32 (x.toNat : Int) c = ((x ^^^ BitVec.ofInt 32 c).toNat : Int) := by
  obtain ⟨n, rfl⟩ := Int.eq_ofNat_of_zero_le h0
  rw [u32_xor_nat x.toNat n x.isLt (by omega), BitVec.toNat_xor, ofInt_u32 n (by omega)]
theorem w_xor2 (x y : BitVec 32) : bits .xor .u32 (x.toNat : Int) (y.toNat : Int) = ((x ^^^ y).toNat : Int) := by
  rw [w_xor x (by omega) (u32v y), ofInt_toNat]
theorem w_not (x : BitVec 32) : bits .xor .u32 IntKind.u32.max (x.toNat : Int) = ((~~~x).toNat : Int) := by
  have e : IntKind.u32.max = (((-1 : BitVec 32).toNat : Nat) : Int) := by rfl
  rw [e, w_xor2]
  congr 2
theorem w_and15 (x : BitVec 32) : bits .and .u32 (x.toNat : Int) 15 = ((x.toNat % 16 : Nat) : Int) := by
  rw [show (15 : Int) = ((15 : Nat) : Int) from rfl, u32_and_nat x.toNat 15 x.isLt (by omega)]
  congr 1
  exact Nat.and_two_pow_sub_one_eq_mod x.toNat 4
theorem w_and1 (x : BitVec 32) : bits .and .u32 (x.toNat : Int) 1 = ((x.toNat % 2 : Nat) : Int) := by
  rw [show (1 : Int) = ((1 : Nat) : Int) from rfl, u32_and_nat x.toNat 1 x.isLt (by omega)]
  congr 1
  exact Nat.and_two_pow_sub_one_eq_mod x.toNat 1
theorem w_shr (x : BitVec 32) (k : Nat) : ((x.toNat : Int) / ((2 ^ k : Nat) : Int)) = ((x >>> k).toNat : Int) := by
  rw [BitVec.toNat_ushiftRight, Nat.shiftRight_eq_div_pow]
  exact (Int.natCast_ediv _ _).symm
theorem low_odd {x : BitVec 32} (h : x.toNat % 2 = 1) : x.getLsbD 0 = true := by
  simp [BitVec.getLsbD, Nat.testBit_zero, h]
theorem low_even {x : BitVec 32} (h : x.toNat % 2 = 0) : x.getLsbD 0 = false := by
  simp [BitVec.getLsbD, Nat.testBit_zero, h]
theorem s1_odd' {x : BitVec 32} (h : x.toNat % 2 = 1) : (x >>> 1) ^^^ BitVec.ofInt 32 3988292384 = s1 x := by
  unfold s1
  rw [low_odd h]
  rfl
theorem s1_even' {x : BitVec 32} (h : x.toNat % 2 = 0) : (x >>> 1) = s1 x := (s1_even (low_even h)).symm

/-! ### the same, behind a name that the walk does not open -/
def V (x : BitVec 32) : Int := (x.toNat : Int)
theorem V_fit (x : BitVec 32) : 0 ≤ V x ∧ V x ≤ 4294967295 := by have := x.isLt; unfold V; omega
theorem V_inj {x y : BitVec 32} (h : V x = V y) : x = y := BitVec.eq_of_toNat_eq (by unfold V at h; omega)
theorem V_of {n : Int} (h0 : 0 ≤ n) (h1 : n ≤ 4294967295) : ∃ x, n = V x ∧ x = BitVec.ofInt 32 n := ⟨BitVec.ofInt 32 n, (ofInt_eq h0 (by omega)).symm, rfl⟩
theorem V_zero : (0 : Int) = V 0#32 := rfl
theorem v_xor (x : BitVec 32) {c : Int} (h0 : 0 ≤ c) (h1 : c ≤ 4294967295) : bits .xor .u32 (V x) c = V (x ^^^ BitVec.ofInt 32 c) := w_xor x h0 (by omega)
theorem v_xor2 (x y : BitVec 32) : bits .xor .u32 (V x) (V y) = V (x ^^^ y) := w_xor2 x y
theorem v_not (x : BitVec 32) : bits .xor .u32 IntKind.u32.max (V x) = V (~~~x) := w_not x
theorem v_and15 (x : BitVec 32) : bits .and .u32 (V x) 15 = ((x.toNat % 16 : Nat) : Int) := w_and15 x
theorem v_and1 (x : BitVec 32) : bits .and .u32 (V x) 1 = ((x.toNat % 2 : Nat) : Int) := w_and1 x
theorem v_shr4 (x : BitVec 32) : V x / (16 : Int) = V (x >>> 4) := w_shr x 4
theorem v_shr1 (x : BitVec 32) : V x / (2 : Int) = V (x >>> 1) := w_shr x 1

/-! ### what is unlike -/
def xors (xs ys : List Int) : List Int := List.zipWith (bits .xor .u8) xs ys

theorem b8_xor {x y : Int} (hx : 0 ≤ x ∧ x ≤ 255) (hy : 0 ≤ y ∧ y ≤ 255) : BitVec.ofInt 32 (bits .xor .u8 x y) = BitVec.ofInt 32 x ^^^ BitVec.ofInt 32 y ∧ 0 ≤ bits .xor .u8 x y ∧ bits .xor .u8 x y ≤ 255 := by
  obtain ⟨a, rfl⟩ := Int.eq_ofNat_of_zero_le hx.1
  obtain ⟨b, rfl⟩ := Int.eq_ofNat_of_zero_le hy.1
  rw [u8_xor_nat a b (by omega) (by omega)]
  have hlt : a ^^^ b < 2 ^ 8 := Nat.xor_lt_two_pow (by omega) (by omega)
  refine ⟨?_, by omega, by omega⟩
  apply BitVec.eq_of_toNat_eq
  rw [BitVec.toNat_xor, ofInt_u32 _ (by omega), ofInt_u32 _ (by omega), ofInt_u32 _ (by omega)]

theorem stp_xor (r q : BitVec 32) {x y : Int} (hx : 0 ≤ x ∧ x ≤ 255) (hy : 0 ≤ y ∧ y ≤ 255) : stp (r ^^^ q) (bits .xor .u8 x y) = stp r x ^^^ stp q y := by
  unfold stp
  rw [(b8_xor hx hy).1, ← s8_xor]
  congr 1
  ac_rfl

theorem run_xor : ∀ (xs ys : List Int) (r q : BitVec 32), xs.length = ys.length → (∀ x ∈ xs, 0 ≤ x ∧ x ≤ 255) → (∀ y ∈ ys, 0 ≤ y ∧ y ≤ 255) →
    run (r ^^^ q) (xors xs ys) = run r xs ^^^ run q ys
  | [], [], _, _, _, _, _ => rfl
  | x :: xs, y :: ys, r, q, hl, hx, hy => by
    show run (stp (r ^^^ q) (bits .xor .u8 x y)) (xors xs ys) = run (stp r x) xs ^^^ run (stp q y) ys
    rw [stp_xor r q (hx x (by simp)) (hy y (by simp))]
    exact run_xor xs ys _ _ (by simpa using hl) (fun z hz => hx z (by simp [hz])) (fun z hz => hy z (by simp [hz]))

theorem run_inj : ∀ (xs : List Int) {r q : BitVec 32}, r ≠ q → run r xs ≠ run q xs
  | [], _, _, h => h
  | x :: xs, r, q, h => by
    refine run_inj xs (fun e => h ?_)
    unfold stp at e
    have h2 : s8 ((r ^^^ BitVec.ofInt 32 x) ^^^ (q ^^^ BitVec.ofInt 32 x)) = 0#32 := by rw [s8_xor, e]; simp
    have h3 := s8_zero h2
    rw [show (r ^^^ BitVec.ofInt 32 x ^^^ (q ^^^ BitVec.ofInt 32 x)) = (r ^^^ q) ^^^ (BitVec.ofInt 32 x ^^^ BitVec.ofInt 32 x) from by ac_rfl] at h3
    simp at h3
    have := congrArg (· ^^^ q) h3
    simpa [BitVec.xor_assoc] using this

/-- one byte changed -/
theorem crc_byte {xs : List Int} {i : Nat} {c d : Int} (h : xs[i]? = some c) (hc : 0 ≤ c ∧ c ≤ 255) (hd : 0 ≤ d ∧ d ≤ 255) (hd0 : d ≠ 0) (s : BitVec 32) : crc s (xs.set i (bits .xor .u8 c d)) ≠ crc s xs := by
  obtain ⟨hi, rfl⟩ := List.getElem?_eq_some_iff.1 h
  have e1 : xs = xs.take i ++ xs[i] :: xs.drop (i + 1) := by simp
  have e2 : xs.set i (bits .xor .u8 xs[i] d) = xs.take i ++ bits .xor .u8 xs[i] d :: xs.drop (i + 1) := by rw [List.set_eq_take_append_cons_drop, if_pos hi]
  intro he
  have he' := BitVec.not_inj.1 he
  rw [e2] at he'
  conv at he' => rhs; rw [e1]
  rw [run_app, run_app, run_cons, run_cons] at he'
  refine run_inj _ ?_ he'
  intro e
  unfold stp at e
  rw [(b8_xor hc hd).1] at e
  generalize run (~~~s) (xs.take i) = r at e
  have h2 : s8 ((r ^^^ (BitVec.ofInt 32 xs[i] ^^^ BitVec.ofInt 32 d)) ^^^ (r ^^^ BitVec.ofInt 32 xs[i])) = 0#32 := by rw [s8_xor, e]; simp
  have h3 := s8_zero h2
  rw [show (r ^^^ (BitVec.ofInt 32 xs[i] ^^^ BitVec.ofInt 32 d) ^^^ (r ^^^ BitVec.ofInt 32 xs[i])) = (r ^^^ r) ^^^ (BitVec.ofInt 32 xs[i] ^^^ BitVec.ofInt 32 xs[i]) ^^^ BitVec.ofInt 32 d from by ac_rfl] at h3
  simp at h3
  have h4 := ofInt_eq hd.1 (show d < 4294967296 by omega)
  rw [h3] at h4
  exact hd0 h4.symm

/-- four bytes, the lowest one first, are one word -/
theorem word4 (r x : BitVec 32) : stp (stp (stp (stp r ((x.toNat % 256 : Nat) : Int)) ((x.toNat / 256 % 256 : Nat) : Int)) ((x.toNat / 65536 % 256 : Nat) : Int)) ((x.toNat / 16777216 % 256 : Nat) : Int) = s8 (s8 (s8 (s8 (r ^^^ x)))) := by
  have hb : ∀ k, BitVec.ofInt 32 ((x.toNat / 2 ^ k % 256 : Nat) : Int) = (x >>> k) &&& 255#32 := fun k => by
    apply BitVec.eq_of_toNat_eq
    have h1 : x.toNat / 2 ^ k % 256 < 256 := Nat.mod_lt _ (by omega)
    rw [ofInt_u32 _ (by omega), BitVec.toNat_and, BitVec.toNat_ushiftRight, Nat.shiftRight_eq_div_pow]
    exact (Nat.and_two_pow_sub_one_eq_mod _ 8).symm
  have h0 := hb 0
  have h1 := hb 8
  have h2 := hb 16
  have h3 := hb 24
  simp only [Nat.pow_zero, Nat.div_one, show (2 : Nat) ^ 8 = 256 from rfl, show (2 : Nat) ^ 16 = 65536 from rfl, show (2 : Nat) ^ 24 = 16777216 from rfl] at h0 h1 h2 h3
  unfold stp
  rw [h0, h1, h2, h3]
  have m : ∀ i, i < 32 → (255#32).getLsbD i = decide (i < 8) := fun i hi => by
    have : ∀ j : Fin 32, (255#32).getLsbD j.val = decide (j.val < 8) := by decide
    exact this ⟨i, hi⟩
  -- each byte is what the shifts make of it where it stands in the word
  have e1 : x >>> 8 &&& 255#32 = s8 (x &&& 65280#32) := by
    have mm : ∀ j : Fin 32, (65280#32).getLsbD j.val = (decide (8 ≤ j.val) && decide (j.val < 16)) := by decide
    rw [s8_even _ (fun i hi => by rw [BitVec.getLsbD_and, mm ⟨i, by omega⟩]; simp; omega)]
    apply BitVec.eq_of_getLsbD_eq
    intro i hi
    simp only [BitVec.getLsbD_and, BitVec.getLsbD_ushiftRight, m i hi]
    by_cases h : 8 + i < 32
    · rw [mm ⟨8 + i, h⟩]; by_cases h8 : i < 8 <;> simp [h8] <;> omega
    · rw [BitVec.getLsbD_of_ge x _ (by omega)]; simp
  have e2 : x >>> 16 &&& 255#32 = s8 (s8 (x &&& 16711680#32)) := by
    have mm : ∀ j : Fin 32, (16711680#32).getLsbD j.val = (decide (16 ≤ j.val) && decide (j.val < 24)) := by decide
    rw [s8_even (x &&& 16711680#32) (fun i hi => by rw [BitVec.getLsbD_and, mm ⟨i, by omega⟩]; simp; omega)]
    rw [s8_even _ (fun i hi => by rw [BitVec.getLsbD_ushiftRight, BitVec.getLsbD_and, mm ⟨8 + i, by omega⟩]; simp; omega)]
    apply BitVec.eq_of_getLsbD_eq
    intro i hi
    simp only [BitVec.getLsbD_and, BitVec.getLsbD_ushiftRight, m i hi]
    by_cases h : 8 + (8 + i) < 32
    · rw [mm ⟨8 + (8 + i), h⟩, show 16 + i = 8 + (8 + i) by omega]; by_cases h8 : i < 8 <;> simp [h8] <;> omega
    · rw [BitVec.getLsbD_of_ge x (8 + (8 + i)) (by omega), BitVec.getLsbD_of_ge x (16 + i) (by omega)]; simp
  have e3 : x >>> 24 &&& 255#32 = s8 (s8 (s8 (x &&& 4278190080#32))) := by
    have mm : ∀ j : Fin 32, (4278190080#32).getLsbD j.val = decide (24 ≤ j.val) := by decide
    rw [s8_even (x &&& 4278190080#32) (fun i hi => by rw [BitVec.getLsbD_and, mm ⟨i, by omega⟩]; simp; omega)]
    rw [s8_even ((x &&& 4278190080#32) >>> 8) (fun i hi => by rw [BitVec.getLsbD_ushiftRight, BitVec.getLsbD_and, mm ⟨8 + i, by omega⟩]; simp; omega)]
    rw [s8_even _ (fun i hi => by rw [BitVec.getLsbD_ushiftRight, BitVec.getLsbD_ushiftRight, BitVec.getLsbD_and, mm ⟨8 + (8 + i), by omega⟩]; simp; omega)]
    apply BitVec.eq_of_getLsbD_eq
    intro i hi
    simp only [BitVec.getLsbD_and, BitVec.getLsbD_ushiftRight, m i hi]
    by_cases h : 8 + (8 + (8 + i)) < 32
    · rw [mm ⟨8 + (8 + (8 + i)), h⟩, show 24 + i = 8 + (8 + (8 + i)) by omega]; by_cases h8 : i < 8 <;> simp [h8] <;> omega
    · rw [BitVec.getLsbD_of_ge x (8 + (8 + (8 + i))) (by omega), BitVec.getLsbD_of_ge x (24 + i) (by omega)]; simp
  rw [e1, e2, e3]
  rw [← s8_xor, ← s8_xor, ← s8_xor, ← s8_xor, ← s8_xor, ← s8_xor]
  congr 4
  apply BitVec.eq_of_getLsbD_eq
  intro i hi
  have q1 : ∀ j : Fin 32, (65280#32).getLsbD j.val = (decide (8 ≤ j.val) && decide (j.val < 16)) := by decide
  have q2 : ∀ j : Fin 32, (16711680#32).getLsbD j.val = (decide (16 ≤ j.val) && decide (j.val < 24)) := by decide
  have q3 : ∀ j : Fin 32, (4278190080#32).getLsbD j.val = decide (24 ≤ j.val) := by decide
  have hz : ∀ y : BitVec 32, y >>> 0 = y := fun y => by simp
  rw [hz x]
  simp only [BitVec.getLsbD_xor, BitVec.getLsbD_and, m i hi, q1 ⟨i, hi⟩, q2 ⟨i, hi⟩, q3 ⟨i, hi⟩]
  by_cases a : i < 8
  · simp [a, show ¬ 8 ≤ i by omega, show ¬ 16 ≤ i by omega, show ¬ 24 ≤ i by omega]
  · by_cases b : i < 16
    · simp [a, b, show 8 ≤ i by omega, show ¬ 16 ≤ i by omega, show ¬ 24 ≤ i by omega]
    · by_cases c : i < 24
      · simp [a, b, c, show 8 ≤ i by omega, show 16 ≤ i by omega, show ¬ 24 ≤ i by omega]
      · simp [a, b, c, show 8 ≤ i by omega, show 16 ≤ i by omega, show 24 ≤ i by omega]
end Go.Proofs.YtbkdenlhfigjhaaDoor.Cm

/- The table of the checksum, as the walks read it; four shifts at once. -/
namespace Go.Proofs.YtbkdenlhfigjhaaDoor
open Go.RowKit Go.Shelf

/-- the table's variable holds the sixteen numbers -/
def HTab (w : World) : Prop := ∀ k, k < 16 → w.cell? ⟨1, k, none⟩ = some (.int .u32 (Cm.tab.getD k 0))

theorem HTab.below {B : Nat} {w w' : World} (h : HTab w) (hb : Below B w w') (hB : w.heap.size ≤ B) : HTab w' := fun k hk => by
  have h1 := h k hk
  have h2 : (⟨1, k, none⟩ : Addr).block < w.heap.size := World.block_lt_of_cell? w _ h1
  rw [hb.cell (by omega), h1]
theorem HTab.alloc {w : World} (h : HTab w) (o : Obj) : HTab (w.alloc o) := fun k hk => by
  have h1 := h k hk
  rw [World.cell?_alloc_lt w o _ (World.block_lt_of_cell? w _ h1), h1]

set_option maxRecDepth 100000 in
set_option maxHeartbeats 1000000 in
theorem half_any (r : BitVec 32) (w : World) (ht : HTab w) :
    Calls Tryd.prog 90 #[.int .u32 (Cm.V r)] w fun e w' => e = .returned (.int .u32 (Cm.V (Cm.s4 r))) ∧ w = w' := by
  have hk : r.toNat % 16 < 16 := Nat.mod_lt _ (by omega)
  have hc := ht (r.toNat % 16) hk
  have ha := Cm.v_and15 r
  have hs := Lib.hid (Cm.v_shr4 r)
  have hf := Cm.tab_fit ⟨r.toNat % 16, hk⟩
  dsimp only at hf
  have hx := Lib.hid (Cm.v_xor (r >>> 4) hf.1 (by omega))
  have HE := Lib.hid (Cm.s4_tab r)
  have hr := Cm.V_fit r
  clear ht hf
  generalize r.toNat % 16 = k at *
  generalize Cm.tab.getD k 0 = c at *
  go_enter Tryd.func90, Tryd.ntmps90
  go_wp2
  go_ret
  exact ⟨by show Ending.returned (.int .u32 _) = _; rw [hs.out, hx.out, HE.out], rfl⟩
end Go.Proofs.YtbkdenlhfigjhaaDoor

/- The program's sum, and the document's: both are the plain one of XCm. -/
namespace Go.Proofs.YtbkdenlhfigjhaaDoor
open Go.RowKit Go.Shelf

set_option maxRecDepth 100000 in
set_option maxHeartbeats 2000000 in
theorem Add_any (s : BitVec 32) (A : Option Addr) (n cap B : Nat) (xs : List Int) (w : World) (hx : Rd w B A (u8s xs)) (hn : xs.length = n) (hm : n ≤ maxLen) (hb : ∀ x ∈ xs, 0 ≤ x ∧ x ≤ 255) (ht : HTab w) :
    Calls Tryd.prog 88 #[.int .u32 (Cm.V s), .slice A n cap] w fun e w' => e = .returned (.int .u32 (Cm.V (Cm.crc s xs))) ∧ w = w' := by
  unfold maxLen at hm
  have h1 := Cm.v_not s
  obtain ⟨ns, hns⟩ : ∃ ns, ns = ~~~s := ⟨_, rfl⟩
  rw [← hns] at h1
  have HN := Lib.hid hns
  have HT := Lib.hid ht
  clear ht hns
  go_enter Tryd.func88, Tryd.ntmps88
  go_wp2
  clear h1
  go_loop [5, 12] (fun r ix => ∃ (k : Nat) (q : BitVec 32), ix = .int .i64 (k : Int) ∧ k ≤ n ∧ r = .int .u32 (Cm.V q) ∧ Hid (q = Cm.run ns (xs.take k)))
    (fun _ ix => n - (intOf ix).toNat)
  case atStart => exact ⟨0, ns, rfl, by omega, rfl, Lib.hid (by simp [Cm.run_nil])⟩
  case round =>
    obtain ⟨k, q, rfl, hk, rfl, HQ⟩ := hrel
    by_cases hlt : k < n
    · obtain ⟨c, hc⟩ : ∃ c, xs[k]? = some c := ⟨xs[k], List.getElem?_eq_getElem (by omega)⟩
      obtain ⟨ad, rfl, _, hcl⟩ := hx.getU hc
      have hcb := hb c (List.mem_of_getElem? hc)
      have HS : Hid (Cm.stp q c = Cm.run ns (xs.take (k + 1))) := by
        show _ = _
        rw [Cm.run_take hc, HQ.out]
      have hxr := Cm.v_xor q (c := c) hcb.1 (by omega)
      obtain ⟨y, hy⟩ : ∃ y, y = q ^^^ BitVec.ofInt 32 c := ⟨_, rfl⟩
      rw [← hy] at hxr
      have HY : Hid (Cm.s4 (Cm.s4 y) = Cm.stp q c) := by show _ = _; rw [hy]; rfl
      clear hc hb hx HQ hy
      go_wp2_with (go_at_call 90; refine (half_any _ _ HT.out).mono ?_; rintro e w' ⟨rfl, rfl⟩)
      go_round
      case rel => exact ⟨k + 1, Cm.s4 (Cm.s4 y), by go_num, by omega, rfl, by rw [HY.out]; exact HS⟩
      case measure => simp [intOf]; omega
    · have hq : q = Cm.run ns xs := by rw [HQ.out, List.take_of_length_le (by omega)]
      have h2 := Cm.v_not q
      have HE : Hid (~~~q = Cm.crc s xs) := by show _ = _; rw [hq, HN.out]; rfl
      rw [HE.out] at h2
      clear hq HQ hx hb
      go_wp2
      go_ret
      exact ⟨rfl, rfl⟩

end Go.Proofs.YtbkdenlhfigjhaaDoor

/- The sums of rows from the beginning on. -/
namespace Go.Proofs.YtbkdenlhfigjhaaDoor
open Go.RowKit Go.Shelf

theorem Add_any0 (A : Option Addr) (n cap B : Nat) (xs : List Int) (w : World) (hx : Rd w B A (u8s xs)) (hn : xs.length = n) (hm : n ≤ maxLen) (hb : ∀ x ∈ xs, 0 ≤ x ∧ x ≤ 255) (ht : HTab w) :
    Calls Tryd.prog 88 #[.int .u32 0, .slice A n cap] w fun e w' => e = .returned (.int .u32 (Cm.V (Cm.crc 0#32 xs))) ∧ w = w' := by
  have h := Add_any 0#32 A n cap B xs w hx hn hm hb ht
  rwa [← Cm.V_zero] at h
set_option maxRecDepth 100000 in
set_option maxHeartbeats 1000000 in
theorem Sum_any (A : Option Addr) (n cap B : Nat) (xs : List Int) (w : World) (hx : Rd w B A (u8s xs)) (hn : xs.length = n) (hm : n ≤ maxLen) (hb : ∀ x ∈ xs, 0 ≤ x ∧ x ≤ 255) (ht : HTab w) :
    Calls Tryd.prog 85 #[.slice A n cap] w fun e w' => e = .returned (.int .u32 (Cm.V (Cm.crc 0#32 xs))) ∧ w = w' := by
  have HC := Lib.hid (Add_any0 A n cap B xs w hx hn hm hb ht)
  clear hx hn hm hb ht
  go_enter Tryd.func85, Tryd.ntmps85
  go_wp2_with (go_at_call 88; refine HC.out.mono ?_; rintro e w' ⟨rfl, rfl⟩)
  go_ret
  exact ⟨rfl, rfl⟩
/-- the table, as a row's list gives it -/
def TabAt (w : World) : Prop := ∀ k, k < 16 → w.cell? ⟨1, k, none⟩ = some (.int .u32 (([0, 498536548, 997073096, 651767980, 1994146192, 1802195444, 1303535960, 1342533948, 3988292384, 4027552580, 3604390888, 3412177804, 2607071920, 2262029012, 2685067896, 3183342108] : List Int).getD k 0))
theorem TabAt.tab {w : World} (h : TabAt w) : HTab w := h
theorem wf_u32 {n : Int} (h : (Lit.int .u32 n).wf = true) : 0 ≤ n ∧ n ≤ 4294967295 := by
  simpa [Lit.wf, IntKind.min, IntKind.max, IntKind.signed, IntKind.bits] using h
theorem wf_u16 {n : Int} (h : (Lit.int .u16 n).wf = true) : 0 ≤ n ∧ n ≤ 65535 := by
  simpa [Lit.wf, IntKind.min, IntKind.max, IntKind.signed, IntKind.bits] using h
theorem wf_u8' {n : Int} (h : (Lit.int .u8 n).wf = true) : 0 ≤ n ∧ n ≤ 255 := by
  simpa [Lit.wf, IntKind.min, IntKind.max, IntKind.signed, IntKind.bits] using h
end Go.Proofs.YtbkdenlhfigjhaaDoor
