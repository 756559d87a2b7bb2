/- The program's sum, and the document's: both are the plain one of XCm. -/
import Derived.Test.YtgeaedoccdemeaaDoorCt
namespace Go.Proofs.YtgeaedoccdemeaaDoor
open Go.RowKit Go.Shelf

set_option maxRecDepth 100000 in
set_option maxHeartbeats 2000000 in
theorem Add_any (s : BitVec 32) (A : Option Addr) (n cap B : Nat) (xs : List Int) (w : World) (hx : Rd w B A (u8s xs)) (hn : xs.length = n) (hm : n ≤ maxLen) (hb : ∀ x ∈ xs, 0 ≤ x ∧ x ≤ 255) (ht : Tab w) :
    Calls Tryd.prog 27 #[.int .u32 (Cm.V s), .slice A n cap] w fun e w' => e = .returned (.int .u32 (Cm.V (Cm.crc s xs))) ∧ w = w' := by
  unfold maxLen at hm
  have h1 := Cm.v_not s
  obtain ⟨ns, hns⟩ : ∃ ns, ns = ~~~s := ⟨_, rfl⟩
  rw [← hns] at h1
  have HN := Lib.hid hns
  have HT := Lib.hid ht
  clear ht hns
  go_enter Tryd.func27, Tryd.ntmps27
  go_wp2
  clear h1
  go_loop [5, 12] (fun r ix => ∃ (k : Nat) (q : BitVec 32), ix = .int .i64 (k : Int) ∧ k ≤ n ∧ r = .int .u32 (Cm.V q) ∧ Hid (q = Cm.run ns (xs.take k)))
    (fun _ ix => n - (intOf ix).toNat)
  case atStart => exact ⟨0, ns, rfl, by omega, rfl, Lib.hid (by simp [Cm.run_nil])⟩
  case round =>
    obtain ⟨k, q, rfl, hk, rfl, HQ⟩ := hrel
    by_cases hlt : k < n
    · obtain ⟨c, hc⟩ : ∃ c, xs[k]? = some c := ⟨xs[k], List.getElem?_eq_getElem (by omega)⟩
      obtain ⟨ad, rfl, _, hcl⟩ := hx.getU hc
      have hcb := hb c (List.mem_of_getElem? hc)
      have HS : Hid (Cm.stp q c = Cm.run ns (xs.take (k + 1))) := by
        show _ = _
        rw [Cm.run_take hc, HQ.out]
      have hxr := Cm.v_xor q (c := c) hcb.1 (by omega)
      obtain ⟨y, hy⟩ : ∃ y, y = q ^^^ BitVec.ofInt 32 c := ⟨_, rfl⟩
      rw [← hy] at hxr
      have HY : Hid (Cm.s4 (Cm.s4 y) = Cm.stp q c) := by show _ = _; rw [hy]; rfl
      clear hc hb hx HQ hy
      go_wp2_with (go_at_call 28; refine (half_any _ _ HT.out).mono ?_; rintro e w' ⟨rfl, rfl⟩)
      go_round
      case rel => exact ⟨k + 1, Cm.s4 (Cm.s4 y), by go_num, by omega, rfl, by rw [HY.out]; exact HS⟩
      case measure => simp [intOf]; omega
    · have hq : q = Cm.run ns xs := by rw [HQ.out, List.take_of_length_le (by omega)]
      have h2 := Cm.v_not q
      have HE : Hid (~~~q = Cm.crc s xs) := by show _ = _; rw [hq, HN.out]; rfl
      rw [HE.out] at h2
      clear hq HQ hx hb
      go_wp2
      go_ret
      exact ⟨rfl, rfl⟩

set_option maxRecDepth 100000 in
set_option maxHeartbeats 2000000 in
theorem RAdd_any (s : BitVec 32) (A : Option Addr) (n cap B : Nat) (xs : List Int) (w : World) (hx : Rd w B A (u8s xs)) (hn : xs.length = n) (hm : n ≤ maxLen) (hb : ∀ x ∈ xs, 0 ≤ x ∧ x ≤ 255) :
    Calls Tryd.prog 24 #[.int .u32 (Cm.V s), .slice A n cap] w fun e w' => e = .returned (.int .u32 (Cm.V (Cm.crc s xs))) ∧ w = w' := by
  unfold maxLen at hm
  have h1 := Cm.v_not s
  obtain ⟨ns, hns⟩ : ∃ ns, ns = ~~~s := ⟨_, rfl⟩
  rw [← hns] at h1
  have HN := Lib.hid hns
  clear hns
  go_enter Tryd.func24, Tryd.ntmps24
  go_wp2
  clear h1
  go_loopg [5, 6] n (fun g r ix wr => ∃ (k : Nat) (q : BitVec 32), k + g = n ∧ ix = .int .i64 (k : Int) ∧ r = .int .u32 (Cm.V q) ∧ Hid (q = Cm.run ns (xs.take k)) ∧ w = wr)
  case atStart => exact ⟨0, ns, by omega, rfl, rfl, Lib.hid (by simp [Cm.run_nil]), rfl⟩
  case round =>
    obtain ⟨k, q, hkg, rfl, rfl, HQ, rfl⟩ := hrel
    cases gk with
    | succ g =>
      obtain ⟨c, hc⟩ : ∃ c, xs[k]? = some c := ⟨xs[k], List.getElem?_eq_getElem (by omega)⟩
      obtain ⟨ad, rfl, _, hcl⟩ := hx.getU hc
      have hcb := hb c (List.mem_of_getElem? hc)
      have HS : Hid (Cm.stp q c = Cm.run ns (xs.take (k + 1))) := by
        show _ = _
        rw [Cm.run_take hc, HQ.out]
      have hxr := Cm.v_xor q (c := c) hcb.1 (by omega)
      obtain ⟨y, hy⟩ : ∃ y, y = q ^^^ BitVec.ofInt 32 c := ⟨_, rfl⟩
      rw [← hy] at hxr
      have HY : Hid (Cm.s1n 8 y = Cm.stp q c) := by show _ = _; rw [hy]; rfl
      have hlt : (k : Int) < n := by omega
      clear hc hb hx HQ hy
      go_wp2
      clear hxr
      go_loopg [5, 7] 8 (fun g2 r jx wr => ∃ (j : Nat) (p : BitVec 32), j + g2 = 8 ∧ jx = .int .i64 (j : Int) ∧ r = .int .u32 (Cm.V p) ∧ Hid (Cm.s1n g2 p = Cm.stp q c) ∧ w = wr)
      case atStart => exact ⟨0, y, rfl, rfl, rfl, HY, rfl⟩
      case round =>
        obtain ⟨j, p, hjg, rfl, rfl, HP, rfl⟩ := hrel
        cases gk with
        | succ g2 =>
          have ha := Cm.v_and1 p
          have hpf := Cm.V_fit p
          have hsh := Cm.v_shr1 p
          have hxo := Cm.v_xor (p >>> 1) (c := 3988292384) (by omega) (by omega)
          have HP2 : Hid (Cm.s1n g2 (Cm.s1 p) = Cm.stp q c) := HP
          rcases Nat.mod_two_eq_zero_or_one p.toNat with h0 | h0
          · rw [h0] at ha
            rw [Cm.s1_even' h0] at hsh
            generalize Cm.s1 p = p1 at *
            clear h0 hxo HP
            go_wp2
            go_roundg g2
            case measure => omega
            case rel => exact ⟨j + 1, p1, by omega, by go_num, rfl, HP2, rfl⟩
          · rw [h0] at ha
            rw [Cm.s1_odd' h0] at hxo
            generalize Cm.s1 p = p1 at *
            generalize p >>> 1 = p0 at *
            clear h0 HP
            go_wp2
            go_roundg g2
            case measure => omega
            case rel => exact ⟨j + 1, p1, by omega, by go_num, rfl, HP2, rfl⟩
        | zero =>
          have HE : Hid (p = Cm.run ns (xs.take (k + 1))) := by show _ = _; rw [← HS.out, ← HP.out]; rfl
          obtain rfl : j = 8 := by omega
          clear HP HS
          go_wp2
          go_roundg g
          case measure => omega
          case rel => exact ⟨k + 1, p, by omega, by go_num, rfl, HE, rfl⟩
    | zero =>
      have hq : q = Cm.run ns xs := by rw [HQ.out, List.take_of_length_le (by omega)]
      have h2 := Cm.v_not q
      have HE : Hid (~~~q = Cm.crc s xs) := by show _ = _; rw [hq, HN.out]; rfl
      rw [HE.out] at h2
      have hge : ¬ (k : Int) < n := by omega
      clear hq HQ hx hb
      go_wp2
      go_ret
      exact ⟨rfl, rfl⟩
end Go.Proofs.YtgeaedoccdemeaaDoor
