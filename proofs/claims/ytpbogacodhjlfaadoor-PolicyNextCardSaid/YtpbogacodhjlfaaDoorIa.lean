/- Numbers between bounds; masks of targets, single bits of them; the lowest bit: the program's. -/
import Derived.Test.YtpbogacodhjlfaaDoorGa
import Derived.Lib.TrailingZeros
import Derived.Laws.Bits64b
namespace Go.Proofs.YtpbogacodhjlfaaDoor
open Go.RowKit Go.Shelf Km Kx Kc

namespace Gm
def inAll (lo hi : Int) (zs : List Int) : Bool := zs.all fun m => decide (lo ≤ m) && decide (m ≤ hi)
theorem inAll_iff {lo hi : Int} {zs : List Int} : inAll lo hi zs = true ↔ ∀ m ∈ zs, lo ≤ m ∧ m ≤ hi := by
  unfold inAll
  rw [List.all_eq_true]
  constructor
  · intro h m hm
    have := h m hm
    rw [Bool.and_eq_true] at this
    exact ⟨of_decide_eq_true this.1, of_decide_eq_true this.2⟩
  · intro h m hm
    rw [Bool.and_eq_true]
    exact ⟨decide_eq_true (h m hm).1, decide_eq_true (h m hm).2⟩
theorem inAll_no {lo hi : Int} {zs : List Int} {t : Int} (ht : t ∈ zs) (h : ¬ (lo ≤ t ∧ t ≤ hi)) : inAll lo hi zs = false := by
  cases hq : inAll lo hi zs with
  | false => rfl
  | true => exact absurd (inAll_iff.1 hq t ht) h
theorem inAll_step {lo hi : Int} {zs : List Int} {k : Nat} {t : Int} (h : inAll lo hi (zs.take k) = true) (hk : zs[k]? = some t) (ht : lo ≤ t ∧ t ≤ hi) : inAll lo hi (zs.take (k + 1)) = true := by
  rw [inAll_iff] at h ⊢
  intro m hm
  rw [List.take_add_one, hk] at hm
  rcases List.mem_append.1 hm with hm | hm
  · exact h m hm
  · simp at hm; subst hm; exact ht
end Gm

set_option maxRecDepth 100000 in
theorem betI_any (lo hi : Int) (A : Option Addr) (n cap B : Nat) (l : List Int) (w : World) (hr : Rd w B A (Kc.i64s l)) (hn : l.length = n) (hm : n ≤ 8388607) :
    Calls Tryd.prog 37 #[.int .i64 lo, .int .i64 hi, .slice A n cap] w fun e w' => e = .returned (.bool (Gm.inAll lo hi l)) ∧ Below w.heap.size w w' := by
  have HB := Lib.hid (Bxs.start w)
  have HR := Lib.hid hr
  have HN := Lib.hid hn
  clear hr hn
  go_enter Tryd.func37, Tryd.ntmps37
  go_wp2
  go_loopg [11] n (fun gh ix wr => ∃ k : Nat, gh + k = n ∧ ix = .int .i64 (k : Int) ∧ Hid (Gm.inAll lo hi (l.take k) = true) ∧ Hid (Bxs w wr []))
  case atStart => exact ⟨0, by omega, rfl, Lib.hid rfl, HB⟩
  case round =>
    clear HB
    obtain ⟨k, hk, rfl, HT, HB⟩ := hrel
    by_cases hlt : k < n
    · obtain ⟨t, ht⟩ : ∃ t, l[k]? = some t := ⟨l[k]'(by rw [HN.out]; exact hlt), List.getElem?_eq_getElem _⟩
      obtain ⟨ad, rfl, -, hc⟩ := HR.out k (.int .i64 t) (by unfold Kc.i64s; rw [List.getElem?_map, ht]; rfl)
      have HC := Lib.hid hc
      have d3 : (k : Int) < (n : Int) := by omega
      by_cases h0 : t < lo
      · have HE := Lib.hid (Gm.inAll_no (lo := lo) (hi := hi) (List.mem_of_getElem? ht) (by omega))
        have d0 : decide (t < lo) = true := decide_eq_true h0
        clear hc ht HT
        go_wp2_with (first | ((with_reducible refine Kx.absorb HB ?_); clear HB; intro w_ HB) | ((with_reducible refine Kx.box_gate ?_); (first | refine Kx.boxa HB rfl ?_ | refine Kx.boxt HB rfl rfl ?_ | refine Kx.box1 HB rfl rfl ?_); clear HB; intro b_ w_ HB; refine Kx.fr ?_) | ((with_reducible refine Kx.alloc_gate ?_); (first | refine Kx.ala HB ?_ | refine Kx.al1 HB ?_); clear HB; intro b_ w_ HB; refine Kx.fr ?_) | ((with_reducible refine Kx.loads_gate ?_); first | refine Kx.l1 HB rfl rfl ?_ | refine Kx.la HB rfl ?_ | refine Kx.lo HB rfl HC.out ?_) | ((with_reducible refine Kx.loadg_gate ?_); first | refine Kx.l1g HB rfl rfl rfl ?_ | refine Kx.lag HB rfl rfl ?_ | refine Kx.log HB rfl HC.out rfl ?_) | ((with_reducible refine Kx.store_gate ?_); (first | refine Kx.stwa HB rfl rfl ?_ | refine Kx.sta HB rfl rfl ?_ | refine Kx.stc HB rfl rfl ?_ | refine Kx.stt HB rfl rfl rfl ?_ | refine Kx.st1 HB rfl rfl rfl ?_); clear HB; intro w_ HB))
        go_ret
        exact ⟨by rw [HE.out]; rfl, HB.out.below⟩
      · have d0 : decide (t < lo) = false := decide_eq_false h0
        by_cases h1 : hi < t
        · have HE := Lib.hid (Gm.inAll_no (lo := lo) (hi := hi) (List.mem_of_getElem? ht) (by omega))
          have d1 : decide (hi < t) = true := decide_eq_true h1
          clear hc ht HT
          go_wp2_with (first | ((with_reducible refine Kx.absorb HB ?_); clear HB; intro w_ HB) | ((with_reducible refine Kx.box_gate ?_); (first | refine Kx.boxa HB rfl ?_ | refine Kx.boxt HB rfl rfl ?_ | refine Kx.box1 HB rfl rfl ?_); clear HB; intro b_ w_ HB; refine Kx.fr ?_) | ((with_reducible refine Kx.alloc_gate ?_); (first | refine Kx.ala HB ?_ | refine Kx.al1 HB ?_); clear HB; intro b_ w_ HB; refine Kx.fr ?_) | ((with_reducible refine Kx.loads_gate ?_); first | refine Kx.l1 HB rfl rfl ?_ | refine Kx.la HB rfl ?_ | refine Kx.lo HB rfl HC.out ?_) | ((with_reducible refine Kx.loadg_gate ?_); first | refine Kx.l1g HB rfl rfl rfl ?_ | refine Kx.lag HB rfl rfl ?_ | refine Kx.log HB rfl HC.out rfl ?_) | ((with_reducible refine Kx.store_gate ?_); (first | refine Kx.stwa HB rfl rfl ?_ | refine Kx.sta HB rfl rfl ?_ | refine Kx.stc HB rfl rfl ?_ | refine Kx.stt HB rfl rfl rfl ?_ | refine Kx.st1 HB rfl rfl rfl ?_); clear HB; intro w_ HB))
          go_ret
          exact ⟨by rw [HE.out]; rfl, HB.out.below⟩
        · have HS := Lib.hid (Gm.inAll_step HT.out ht (by omega))
          have d1 : decide (hi < t) = false := decide_eq_false h1
          clear hc ht HT
          go_wp2_with (first | ((with_reducible refine Kx.absorb HB ?_); clear HB; intro w_ HB) | ((with_reducible refine Kx.box_gate ?_); (first | refine Kx.boxa HB rfl ?_ | refine Kx.boxt HB rfl rfl ?_ | refine Kx.box1 HB rfl rfl ?_); clear HB; intro b_ w_ HB; refine Kx.fr ?_) | ((with_reducible refine Kx.alloc_gate ?_); (first | refine Kx.ala HB ?_ | refine Kx.al1 HB ?_); clear HB; intro b_ w_ HB; refine Kx.fr ?_) | ((with_reducible refine Kx.loads_gate ?_); first | refine Kx.l1 HB rfl rfl ?_ | refine Kx.la HB rfl ?_ | refine Kx.lo HB rfl HC.out ?_) | ((with_reducible refine Kx.loadg_gate ?_); first | refine Kx.l1g HB rfl rfl rfl ?_ | refine Kx.lag HB rfl rfl ?_ | refine Kx.log HB rfl HC.out rfl ?_) | ((with_reducible refine Kx.store_gate ?_); (first | refine Kx.stwa HB rfl rfl ?_ | refine Kx.sta HB rfl rfl ?_ | refine Kx.stc HB rfl rfl ?_ | refine Kx.stt HB rfl rfl rfl ?_ | refine Kx.st1 HB rfl rfl rfl ?_); clear HB; intro w_ HB))
          go_roundg (gk - 1)
          case measure => omega
          case rel => exact ⟨k + 1, by omega, by go_num, HS, HB⟩
    · obtain rfl : k = n := by omega
      have d0 : decide ((k : Int) < (k : Int)) = false := by simp
      have HE : Hid (Gm.inAll lo hi l = true) := Lib.hid (by have := HT.out; rwa [List.take_of_length_le (by rw [HN.out]; exact Nat.le_refl _)] at this)
      clear HT
      go_wp2
      go_ret
      exact ⟨by rw [HE.out]; rfl, HB.out.below⟩
set_option maxRecDepth 100000 in
theorem betL_any (lo hi : Int) (A : Option Addr) (n cap B : Nat) (l : List Int) (w : World) (hr : Rd w B A (Kc.i64s l)) (hn : l.length = n) (hm : n ≤ 8388607) :
    Calls Tryd.prog 48 #[.int .i64 lo, .int .i64 hi, .slice A n cap] w fun e w' => e = .returned (.bool (Gm.inAll lo hi l)) ∧ Below w.heap.size w w' := by
  have HB := Lib.hid (Bxs.start w)
  have HR := Lib.hid hr
  have HN := Lib.hid hn
  clear hr hn
  go_enter Tryd.func48, Tryd.ntmps48
  go_wp2
  go_loopg [11] n (fun gh ix wr => ∃ k : Nat, gh + k = n ∧ ix = .int .i64 (k : Int) ∧ Hid (Gm.inAll lo hi (l.take k) = true) ∧ Hid (Bxs w wr []))
  case atStart => exact ⟨0, by omega, rfl, Lib.hid rfl, HB⟩
  case round =>
    clear HB
    obtain ⟨k, hk, rfl, HT, HB⟩ := hrel
    by_cases hlt : k < n
    · obtain ⟨t, ht⟩ : ∃ t, l[k]? = some t := ⟨l[k]'(by rw [HN.out]; exact hlt), List.getElem?_eq_getElem _⟩
      obtain ⟨ad, rfl, -, hc⟩ := HR.out k (.int .i64 t) (by unfold Kc.i64s; rw [List.getElem?_map, ht]; rfl)
      have HC := Lib.hid hc
      have d3 : (k : Int) < (n : Int) := by omega
      by_cases h0 : t < lo
      · have HE := Lib.hid (Gm.inAll_no (lo := lo) (hi := hi) (List.mem_of_getElem? ht) (by omega))
        have d0 : decide (t < lo) = true := decide_eq_true h0
        clear hc ht HT
        go_wp2_with (first | ((with_reducible refine Kx.absorb HB ?_); clear HB; intro w_ HB) | ((with_reducible refine Kx.box_gate ?_); (first | refine Kx.boxa HB rfl ?_ | refine Kx.boxt HB rfl rfl ?_ | refine Kx.box1 HB rfl rfl ?_); clear HB; intro b_ w_ HB; refine Kx.fr ?_) | ((with_reducible refine Kx.alloc_gate ?_); (first | refine Kx.ala HB ?_ | refine Kx.al1 HB ?_); clear HB; intro b_ w_ HB; refine Kx.fr ?_) | ((with_reducible refine Kx.loads_gate ?_); first | refine Kx.l1 HB rfl rfl ?_ | refine Kx.la HB rfl ?_ | refine Kx.lo HB rfl HC.out ?_) | ((with_reducible refine Kx.loadg_gate ?_); first | refine Kx.l1g HB rfl rfl rfl ?_ | refine Kx.lag HB rfl rfl ?_ | refine Kx.log HB rfl HC.out rfl ?_) | ((with_reducible refine Kx.store_gate ?_); (first | refine Kx.stwa HB rfl rfl ?_ | refine Kx.sta HB rfl rfl ?_ | refine Kx.stc HB rfl rfl ?_ | refine Kx.stt HB rfl rfl rfl ?_ | refine Kx.st1 HB rfl rfl rfl ?_); clear HB; intro w_ HB))
        go_ret
        exact ⟨by rw [HE.out]; rfl, HB.out.below⟩
      · have d0 : decide (t < lo) = false := decide_eq_false h0
        by_cases h1 : hi < t
        · have HE := Lib.hid (Gm.inAll_no (lo := lo) (hi := hi) (List.mem_of_getElem? ht) (by omega))
          have d1 : decide (hi < t) = true := decide_eq_true h1
          clear hc ht HT
          go_wp2_with (first | ((with_reducible refine Kx.absorb HB ?_); clear HB; intro w_ HB) | ((with_reducible refine Kx.box_gate ?_); (first | refine Kx.boxa HB rfl ?_ | refine Kx.boxt HB rfl rfl ?_ | refine Kx.box1 HB rfl rfl ?_); clear HB; intro b_ w_ HB; refine Kx.fr ?_) | ((with_reducible refine Kx.alloc_gate ?_); (first | refine Kx.ala HB ?_ | refine Kx.al1 HB ?_); clear HB; intro b_ w_ HB; refine Kx.fr ?_) | ((with_reducible refine Kx.loads_gate ?_); first | refine Kx.l1 HB rfl rfl ?_ | refine Kx.la HB rfl ?_ | refine Kx.lo HB rfl HC.out ?_) | ((with_reducible refine Kx.loadg_gate ?_); first | refine Kx.l1g HB rfl rfl rfl ?_ | refine Kx.lag HB rfl rfl ?_ | refine Kx.log HB rfl HC.out rfl ?_) | ((with_reducible refine Kx.store_gate ?_); (first | refine Kx.stwa HB rfl rfl ?_ | refine Kx.sta HB rfl rfl ?_ | refine Kx.stc HB rfl rfl ?_ | refine Kx.stt HB rfl rfl rfl ?_ | refine Kx.st1 HB rfl rfl rfl ?_); clear HB; intro w_ HB))
          go_ret
          exact ⟨by rw [HE.out]; rfl, HB.out.below⟩
        · have HS := Lib.hid (Gm.inAll_step HT.out ht (by omega))
          have d1 : decide (hi < t) = false := decide_eq_false h1
          clear hc ht HT
          go_wp2_with (first | ((with_reducible refine Kx.absorb HB ?_); clear HB; intro w_ HB) | ((with_reducible refine Kx.box_gate ?_); (first | refine Kx.boxa HB rfl ?_ | refine Kx.boxt HB rfl rfl ?_ | refine Kx.box1 HB rfl rfl ?_); clear HB; intro b_ w_ HB; refine Kx.fr ?_) | ((with_reducible refine Kx.alloc_gate ?_); (first | refine Kx.ala HB ?_ | refine Kx.al1 HB ?_); clear HB; intro b_ w_ HB; refine Kx.fr ?_) | ((with_reducible refine Kx.loads_gate ?_); first | refine Kx.l1 HB rfl rfl ?_ | refine Kx.la HB rfl ?_ | refine Kx.lo HB rfl HC.out ?_) | ((with_reducible refine Kx.loadg_gate ?_); first | refine Kx.l1g HB rfl rfl rfl ?_ | refine Kx.lag HB rfl rfl ?_ | refine Kx.log HB rfl HC.out rfl ?_) | ((with_reducible refine Kx.store_gate ?_); (first | refine Kx.stwa HB rfl rfl ?_ | refine Kx.sta HB rfl rfl ?_ | refine Kx.stc HB rfl rfl ?_ | refine Kx.stt HB rfl rfl rfl ?_ | refine Kx.st1 HB rfl rfl rfl ?_); clear HB; intro w_ HB))
          go_roundg (gk - 1)
          case measure => omega
          case rel => exact ⟨k + 1, by omega, by go_num, HS, HB⟩
    · obtain rfl : k = n := by omega
      have d0 : decide ((k : Int) < (k : Int)) = false := by simp
      have HE : Hid (Gm.inAll lo hi l = true) := Lib.hid (by have := HT.out; rwa [List.take_of_length_le (by rw [HN.out]; exact Nat.le_refl _)] at this)
      clear HT
      go_wp2
      go_ret
      exact ⟨by rw [HE.out]; rfl, HB.out.below⟩

/-! ### masks -/
namespace Gm
/-- the mask of one target -/
def bitv (i : Int) : Nat := if i = -1 then 0 else 2 ^ i.toNat
theorem bitv_lt {i : Int} (h : i ≤ 15) : bitv i < 65536 := by
  unfold bitv
  split
  · decide
  · exact Nat.pow_lt_pow_right (by decide) (show i.toNat < 16 by omega)
theorem bitv_bit {i : Int} (h : -1 ≤ i) (b : Nat) : (bitv i).testBit b = decide ((b : Int) = i) := by
  unfold bitv
  split
  · rename_i e
    rw [Nat.zero_testBit, decide_eq_false (by omega)]
  · rw [Nat.testBit_two_pow]
    exact decide_eq_decide.2 (by omega)
theorem has_bitv (m : Nat) {i : Int} (h : -1 ≤ i) : has m i = decide (m &&& bitv i ≠ 0) := by
  unfold has bitv
  split
  · rename_i e
    subst e
    simp
  · rw [and_pow, decide_eq_true (show 0 ≤ i by omega), Bool.true_and]
    have := Nat.two_pow_pos i.toNat
    cases hb : m.testBit i.toNat with
    | false => simp
    | true => simp
end Gm

theorem shl_one {k : Nat} (hk : k < 64) : IntKind.u64.wrap (2 ^ k) = ((2 ^ k : Nat) : Int) := by
  rw [IntKind.wrap_u64]
  have := pow_small hk
  have h2 : ((2 ^ k : Nat) : Int) < 18446744073709551616 := by omega
  have h3 : ((2 : Int) ^ k) = ((2 ^ k : Nat) : Int) := (Int.natCast_pow 2 k).symm
  rw [h3]
  exact Int.emod_eq_of_lt (Int.natCast_nonneg _) h2

set_option maxRecDepth 100000 in
theorem bit_any (i : Int) (w : World) (h1 : -1 ≤ i) (h2 : i ≤ 15) : Calls Tryd.prog 21 #[.int .i64 i] w fun e w' => e = .returned (.int .u64 (Gm.bitv i : Int)) ∧ w = w' := by
  unfold Gm.bitv
  by_cases h : i = -1
  · subst h
    rw [if_pos rfl]
    go_enter Tryd.func21, Tryd.ntmps21
    go_wp2
    go_ret
    exact ⟨rfl, rfl⟩
  · rw [if_neg h]
    obtain ⟨k, rfl⟩ : ∃ k : Nat, i = (k : Int) := ⟨i.toNat, by omega⟩
    have d1 : ((k : Int) == -1) = false := by simp
    have hs := shl_one (k := k) (by omega)
    rw [Int.toNat_natCast]
    have HS := Lib.hid hs
    clear h hs
    go_enter Tryd.func21, Tryd.ntmps21
    go_wp2
    go_ret
    exact ⟨by show Ending.returned (Value.int _ (IntKind.u64.wrap (2 ^ k))) = _; rw [HS.out], rfl⟩
theorem bit_b (i : Int) (w : World) (h1 : -1 ≤ i) (h2 : i ≤ 15) : Calls Tryd.prog 21 #[.int .i64 i] w fun e w' => e = .returned (.int .u64 (Gm.bitv i : Int)) ∧ Below w.heap.size w w' :=
  (bit_any i w h1 h2).mono fun _ _ h => ⟨h.1, h.2 ▸ Below.refl _ _⟩

set_option maxRecDepth 100000 in
theorem PHas_any (m : Nat) (i : Int) (w : World) (hm : m < 18446744073709551616) (h1 : -1 ≤ i) (h2 : i ≤ 15) : Calls Tryd.prog 41 #[.int .u64 (m : Int), .int .i64 i] w fun e w' => e = .returned (.bool (Gm.has m i)) ∧ w = w' := by
  have hl := Gm.bitv_lt h2
  have hb := bits_and_u64_nat m (Gm.bitv i) hm (by omega)
  have HC := Lib.hid (fun W => bit_any i W h1 h2)
  rw [Gm.has_bitv m h1]
  generalize Gm.bitv i = q at *
  obtain ⟨z, hz⟩ : ∃ z : Nat, m &&& q = z := ⟨_, rfl⟩
  rw [hz] at hb ⊢
  clear hz hl
  have HE : Hid (decide (z ≠ 0) = ((z : Int) != 0)) := by
    by_cases h : z = 0
    · subst h; exact Lib.hid rfl
    · refine Lib.hid ?_
      rw [decide_eq_true h, eq_comm, bne_iff_ne]; omega
  rw [HE.out]
  clear HE
  go_enter Tryd.func41, Tryd.ntmps41
  go_wp2_with (go_at_call 21; refine (HC.out _).mono ?_; rintro e w' ⟨rfl, rfl⟩)
  go_ret
  exact ⟨rfl, rfl⟩

theorem low_one {n : Nat} (hn : n ≤ 16) : IntKind.u64.wrap (((2 ^ n : Nat) : Int) - 1) = ((2 ^ n - 1 : Nat) : Int) := by
  have h1 : 2 ^ n ≤ 2 ^ 16 := Nat.pow_le_pow_right (by decide) hn
  have h2 := Nat.two_pow_pos n
  rw [IntKind.wrap_u64]
  omega
set_option maxRecDepth 100000 in
theorem lowest_any (n : Nat) (w : World) (hn : n ≤ 16) : Calls Tryd.prog 15 #[.int .i64 (n : Int)] w fun e w' => e = .returned (.int .u64 ((2 ^ n - 1 : Nat) : Int)) ∧ w = w' := by
  have hs := shl_one (k := n) (by omega)
  have HL := Lib.hid (low_one hn)
  have hd : (n : Int) ≤ 64 := by omega
  obtain ⟨z, hz⟩ : ∃ z : Nat, 2 ^ n = z := ⟨_, rfl⟩
  have hs' : IntKind.u64.wrap (2 ^ n) = (z : Int) := by rw [hs, hz]
  rw [hz] at HL ⊢
  clear hs hz
  go_enter Tryd.func15, Tryd.ntmps15
  go_wp2
  go_ret
  exact ⟨by show Ending.returned (Value.int _ _) = _; rw [← HL.out], rfl⟩

/-! ### the lowest bit -/
/-- the library's table -/
def BTab (w : World) : Prop := ∀ k, k < 64 → w.cell? ⟨2, k, none⟩ = some (.int .u8 (Lib.deBruijn64tab.getD k 0 : Nat))
theorem BTab.below {B : Nat} {w w' : World} (h : BTab w) (hb : Below B w w') (hB : w.heap.size ≤ B) : BTab w' := fun k hk => by
  have h1 := h k hk
  have h2 : (⟨2, k, none⟩ : Addr).block < w.heap.size := World.block_lt_of_cell? w _ h1
  rw [hb.cell (by omega), h1]
theorem tz_key (x a : Nat) (hx : x < 18446744073709551616) (hx0 : x ≠ 0) (hlow : x &&& (18446744073709551616 - x) = a) :
    IntKind.u64.wrap (bits BinOp.and IntKind.u64 (x : Int) (IntKind.u64.wrap (-(x : Int))) * 285870213051353865) / 288230376151711744 = ((a * 285870213051353865 % 18446744073709551616 / 288230376151711744 : Nat) : Int) := by
  have e1 : IntKind.u64.wrap (-(x : Int)) = ((18446744073709551616 - x : Nat) : Int) := by rw [IntKind.wrap_u64]; omega
  rw [e1, bits_and_u64_nat x _ hx (by omega), hlow, IntKind.wrap_u64]
  omega
set_option maxHeartbeats 1000000 in
set_option maxRecDepth 100000 in
theorem TZ_core (x k idx : Nat) (w : World) (d0 : ((x : Int) == 0) = false)
    (key : IntKind.u64.wrap (bits BinOp.and IntKind.u64 (x : Int) (IntKind.u64.wrap (-(x : Int))) * 285870213051353865) / 288230376151711744 = (idx : Int)) (hi : idx < 64) (hk : k < 64) (hcell : w.cell? ⟨2, idx, none⟩ = some (.int .u8 k)) :
    Calls Tryd.prog 55 #[.int .u64 (x : Int)] w fun e w' => e = .returned (.int .i64 k) ∧ w = w' := by
  go_enter Tryd.func55, Tryd.ntmps55
  go_wp2_with (simp only [key])
  go_ret
  exact ⟨rfl, rfl⟩
theorem TZ_any (x : Nat) (w : World) (hx : x < 18446744073709551616) (hx0 : x ≠ 0) (ht : BTab w) : Calls Tryd.prog 55 #[.int .u64 (x : Int)] w fun e w' => e = .returned (.int .i64 (Lib.ctz 64 x : Nat)) ∧ w = w' := by
  obtain ⟨hlow, hk⟩ := Lib.lowest_bit 64 x hx0 hx
  obtain ⟨hi, htab⟩ := Lib.deBruijn64_at _ hk
  have hcell := ht _ hi
  rw [htab] at hcell
  exact TZ_core x _ _ w (by rw [beq_eq_false_iff_ne]; omega) (tz_key x _ hx hx0 hlow) hi hk hcell

/-! ### the bits of a mask, one by one -/
namespace Gm
def bitsTo (m n : Nat) : List Nat := (List.range n).filter fun b => m.testBit b
theorem filter_first {p q : Nat → Bool} {k : Nat} (hp : p k = true) (h0 : ∀ j, j < k → p j = false) (hq : ∀ j, q j = (p j && decide (j ≠ k))) : ∀ n, k < n → (List.range n).filter p = k :: (List.range n).filter q
  | 0, h => absurd h (Nat.not_lt_zero _)
  | n + 1, h => by
    rw [List.range_succ, List.filter_append, List.filter_append]
    rcases Nat.lt_or_ge k n with hk | hk
    · rw [filter_first hp h0 hq n hk, List.cons_append]
      have e : q n = p n := by rw [hq, decide_eq_true (show n ≠ k by omega), Bool.and_true]
      simp [List.filter_cons, e]
    · obtain rfl : n = k := by omega
      have e1 : (List.range n).filter p = [] := List.filter_eq_nil_iff.2 fun j hj => by rw [h0 j (List.mem_range.1 hj)]; decide
      have e2 : (List.range n).filter q = [] := List.filter_eq_nil_iff.2 fun j hj => by rw [hq, h0 j (List.mem_range.1 hj), Bool.false_and]; decide
      have e3 : q n = false := by rw [hq, decide_eq_false (fun h => h rfl), Bool.and_false]
      rw [e1, e2]
      simp [e3, hp]
/-- the lowest bit, taken away -/
theorem lowest_off {x : Nat} (h0 : x ≠ 0) (hx : x < 18446744073709551616) : x.testBit (Lib.ctz 64 x) = true ∧ (∀ j, j < Lib.ctz 64 x → x.testBit j = false) ∧ ∀ j, (x &&& (x - 1)).testBit j = (x.testBit j && decide (j ≠ Lib.ctz 64 x)) := by
  obtain ⟨m, hm, hk⟩ := Lib.ctzFrom_spec 64 x (by omega) hx
  have e : Lib.ctz 64 x = Lib.ctzFrom 64 x := by simp [Lib.ctz, h0]
  rw [e]
  generalize Lib.ctzFrom 64 x = k at *
  have h2 := Nat.two_pow_pos k
  have hk2 : 2 ^ k < 2 ^ (k + 1) := Nat.pow_lt_pow_right (by decide) (Nat.lt_succ_self _)
  have hx1 : x = 2 ^ (k + 1) * m + 2 ^ k := by rw [hm, Nat.pow_succ, Nat.mul_add, Nat.mul_one, Nat.mul_assoc]
  have hx2 : x - 1 = 2 ^ (k + 1) * m + (2 ^ k - 1) := by omega
  have b1 : ∀ j, x.testBit j = if j < k + 1 then (2 ^ k).testBit j else m.testBit (j - (k + 1)) := fun j => by rw [hx1, Nat.testBit_two_pow_mul_add _ hk2]
  have b2 : ∀ j, (x - 1).testBit j = if j < k + 1 then (2 ^ k - 1).testBit j else m.testBit (j - (k + 1)) := fun j => by rw [hx2, Nat.testBit_two_pow_mul_add _ (by omega)]
  refine ⟨?_, fun j hj => ?_, fun j => ?_⟩
  · rw [b1, if_pos (Nat.lt_succ_self _), Nat.testBit_two_pow]; simp
  · rw [b1, if_pos (by omega), Nat.testBit_two_pow]; simp; omega
  · rw [Nat.testBit_and, b1, b2]
    by_cases hj : j < k + 1
    · rw [if_pos hj, if_pos hj, Nat.testBit_two_pow, Nat.testBit_two_pow_sub_one]
      by_cases e : j = k
      · subst e; simp
      · rw [decide_eq_false (show ¬ k = j by omega)]; simp
    · rw [if_neg hj, if_neg hj, decide_eq_true (show j ≠ k by omega)]; simp
theorem off_lt {x : Nat} (n : Nat) (h : x < 2 ^ n) : x &&& (x - 1) < 2 ^ n := Nat.lt_of_le_of_lt Nat.and_le_left h
theorem bitsTo_next {x n : Nat} (h0 : x ≠ 0) (hn : n ≤ 64) (hx : x < 2 ^ n) : Lib.ctz 64 x < n ∧ bitsTo x n = Lib.ctz 64 x :: bitsTo (x &&& (x - 1)) n := by
  have hx64 : x < 18446744073709551616 := Nat.lt_of_lt_of_le hx (Nat.pow_le_pow_right (by decide) hn)
  obtain ⟨h1, h2, h3⟩ := lowest_off h0 hx64
  have hk := bit_lt hx h1
  exact ⟨hk, filter_first h1 h2 h3 n hk⟩
theorem bitsTo_zero (n : Nat) : bitsTo 0 n = [] := List.filter_eq_nil_iff.2 fun j _ => by simp
theorem bitsTo_len (m n : Nat) : (bitsTo m n).length ≤ n := by
  have := List.length_filter_le (fun b => m.testBit b) (List.range n)
  rwa [List.length_range] at this
/-- the best of some, taken from the list of them -/
def bestStep (ti : List Int) (f : Int) (t : Nat) : Int := if f = -1 ∨ ti.getD t 0 < ti.getD f.toNat 0 then (t : Int) else f
theorem best_fold (ti : List Int) (m : Nat) : ∀ n, (bitsTo m n).foldl (bestStep ti) (-1) = bestTo ti m n
  | 0 => rfl
  | n + 1 => by
    have hin := bestTo_in ti m n
    unfold bitsTo
    rw [List.range_succ, List.filter_append, List.foldl_append]
    have ih := best_fold ti m n
    unfold bitsTo at ih
    rw [ih]
    show _ = if m.testBit n = true ∧ (bestTo ti m n < 0 ∨ ti.getD n 0 < ti.getD (bestTo ti m n).toNat 0) then (n : Int) else bestTo ti m n
    cases hb : m.testBit n with
    | false => simp [hb]
    | true =>
      simp only [List.filter_cons, hb, if_true, List.filter_nil, List.foldl_cons, List.foldl_nil, true_and]
      unfold bestStep
      have e : (bestTo ti m n = -1) ↔ (bestTo ti m n < 0) := by omega
      simp only [e]
end Gm
end Go.Proofs.YtpbogacodhjlfaaDoor
