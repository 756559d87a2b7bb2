/- The law PlanFew walked. -/
import Derived.Test.YtdcdlnmgbgeeeaaDoorPk
namespace Go.Proofs.YtdcdlnmgbgeeeaaDoor
open Go.RowKit Go.Shelf

namespace Pm
def bb (k : Nat) (v : Int) : Nat := if 0 ≤ v ∧ v < (k : Int) then 1 else 0
def gg (x : Pl) (k : Nat) : Nat := bb k x.t + bb k x.p + bb k x.s
theorem gg_zero (x : Pl) : gg x 0 = 0 := by
  have h : ∀ v, bb 0 v = 0 := fun v => if_neg (by omega)
  unfold gg; rw [h, h, h]
theorem gg_three (x : Pl) (k : Nat) : gg x k ≤ 3 := by
  have h : ∀ v, bb k v ≤ 1 := fun v => by unfold bb; split <;> omega
  have h1 := h x.t
  have h2 := h x.p
  have h3 := h x.s
  unfold gg; omega
theorem bb_mono (k : Nat) (v : Int) : bb k v ≤ bb (k + 1) v := by unfold bb; split <;> split <;> omega
theorem bb_hit (k : Nat) : bb k (k : Int) = 0 ∧ bb (k + 1) (k : Int) = 1 := ⟨if_neg (by omega), if_pos (by omega)⟩
theorem gg_mono (x : Pl) (k : Nat) : gg x k ≤ gg x (k + 1) := by
  have h1 := bb_mono k x.t
  have h2 := bb_mono k x.p
  have h3 := bb_mono k x.s
  unfold gg; omega
theorem gg_step {x : Pl} {k : Nat} (h : x.names (k : Int) = true) : gg x k + 1 ≤ gg x (k + 1) := by
  have h0 : (0 : Int) ≤ k ∧ ((k : Int) = x.t ∨ ((k : Int) = x.p ∧ x.c < 100) ∨ (k : Int) = x.s) := by
    refine Classical.byContradiction fun q => ?_
    rw [show x.names (k : Int) = false from ask_no q] at h
    cases h
  have h1 := bb_mono k x.t
  have h2 := bb_mono k x.p
  have h3 := bb_mono k x.s
  have hk := bb_hit k
  unfold gg
  rcases h0.2 with e | ⟨e, _⟩ | e <;> rw [e] at hk <;> omega
theorem names_self {x : Pl} (h : 0 ≤ x.t) : x.names x.t = true := ask_yes ⟨h, .inl rfl⟩
theorem names_below (x : Pl) : x.names (-1) = false := ask_no (by omega)
end Pm

set_option maxRecDepth 100000 in
set_option maxHeartbeats 4000000 in
theorem few_walk (x : Pm.Pl) (A : Option Addr) (n c : Nat) (A' : Option Addr) (n' c' : Nat) (w : World) (_hp : PlAt w w.heap.size x A n c A' n' c') (ht : Tab w) :
    Calls Tryd.prog 7 #[pv x A n c A' n' c'] w fun e w' => e = .returned (.bool true) ∧ Below w.heap.size w w' := by
  have hx1 := Lib.hid (Bx.new w x A n c A' n' c' 26)
  have hb1 : Hid (Below w.heap.size w (w.alloc (.cells (pvs x A n c A' n' c').toArray 26))) := (Below.refl _ w).alloc (Nat.le_refl _) _
  have HH := Lib.hid (head_any _ (ht.alloc (.cells (pvs x A n c A' n' c').toArray 26)))
  have HN := Lib.hid (fun t W => Names_any x A n c A' n' c' t W)
  clear ht
  rw [pv_eq] at HN ⊢
  have HX := Lib.hid (fun (W : World) (h : Below (w.heap.size + 1) (w.alloc (.cells (pvs x A n c A' n' c').toArray 26)) W) => (hx1.out.below h (Nat.lt_succ_self _) : Bx W w.heap.size x A n c A' n' c'))
  have HR : Hid (∀ (W : World), Below (w.heap.size + 1) (w.alloc (.cells (pvs x A n c A' n' c').toArray 26)) W → W.rangeAt w.heap.size 0 (pvs x A n c A' n' c')) := HX.out
  have HZ1 : Hid ((w.alloc (.cells (pvs x A n c A' n' c').toArray 26)).heap.size = w.heap.size + 1) := World.size_alloc ..
  have HI : Hid ((Tryd.prog.info? 26).map (·.size) = some (pvs x A n c A' n' c').length) := info_plan
  generalize pvs x A n c A' n' c' = L at *
  clear hx1
  go_enter Tryd.func7, Tryd.ntmps7
  go_wp2_with (go_at_call 10; fail)
  refine HH.out.mono ?_
  rintro e w2 ⟨rfl, hb2⟩
  have hC2 : Hid (Below (w.heap.size + 1) (w.alloc (.cells L.toArray 26)) w2) := hb2.mono (by rw [HZ1.out]; exact Nat.le_refl _)
  clear hb2 HH
  go_wp2_with fail
  go_loopw [4, 5] (fun nn ix wr => ∃ (k m : Nat), ix = .int .i64 (k : Int) ∧ k ≤ 16 ∧ nn = .int .i64 (m : Int) ∧ m ≤ 3 ∧ Hid (m ≤ Pm.gg x k) ∧ Hid (Below (w.heap.size + 1) (w.alloc (.cells L.toArray 26)) wr)) (fun _ ix _ => 16 - (intOf ix).toNat)
  case atStart => exact ⟨0, 0, rfl, by omega, rfl, by omega, Lib.hid (Nat.zero_le _), hC2⟩
  case round =>
    obtain ⟨k, m, rfl, hk, rfl, hm, hg, hC⟩ := hrel
    have hz : Hid (w.heap.size + 1 ≤ wr.heap.size) := by have := hC.out.size; rw [HZ1.out] at this; exact this
    by_cases hlt : k < 16
    · go_wp2_with (first | (refine wpList_load_mid rfl 26 _ rfl w.heap.size 0 rfl L _ (HR.out _ hC.out) Tryd.underlying26 rfl HI.out ?_) | (go_at_call 18; fail))
      refine (HN.out _ _).mono ?_
      rintro e w3 ⟨rfl, hb3⟩
      have hC3 := Lib.hid (hC.out.trans (hb3.mono hz.out))
      clear hb3 hz hC
      cases hn : x.names (k : Int) with
      | true =>
        have hg2 := Lib.hid (Nat.le_trans (Nat.succ_le_succ hg.out) (Pm.gg_step hn))
        have hm3 := Nat.le_trans hg2.out (Pm.gg_three x (k + 1))
        clear hn
        go_wp2
        go_roundw
        case rel => exact ⟨k + 1, m + 1, by go_num, by omega, by go_num, hm3, hg2, hC3⟩
        case measure => simp [intOf]; omega
      | false =>
        have hg2 := Lib.hid (Nat.le_trans hg.out (Pm.gg_mono x k))
        clear hn
        go_wp2
        go_roundw
        case rel => exact ⟨k + 1, m, by go_num, by omega, rfl, hm, hg2, hC3⟩
        case measure => simp [intOf]; omega
    · obtain rfl : k = 16 := by omega
      clear hg hC2
      have hm3 : (m : Int) ≤ 3 := by omega
      have hN1 := Lib.hid (HN.out (-1) wr)
      rw [Pm.names_below] at hN1
      go_wp2_with (first | (refine wpList_load_on 26 _ rfl w.heap.size 0 rfl L _ (HR.out _ hC.out) Tryd.underlying26 rfl HI.out (by kernel_rfl) ?_) | (go_at_call 18; fail))
      refine hN1.out.mono ?_
      rintro e w3 ⟨rfl, hb3⟩
      have hC3 := Lib.hid (hC.out.trans (hb3.mono hz.out))
      have hz3 := Lib.hid (Nat.le_trans hz.out hb3.size)
      have f1 := (HX.out _ hC3.out).at 1 rfl
      have hT := Lib.hid (fun (h : 0 ≤ x.t) => Pm.names_self h)
      have hN2 := Lib.hid (fun W => HN.out x.t W)
      generalize x.t = t at *
      clear hb3 hz hC hN1
      by_cases h0 : t < 0
      · go_wp2
        go_ret
        exact ⟨rfl, hb1.out.trans (hC3.out.mono (Nat.le_succ _))⟩
      · by_cases h1 : 16 ≤ t
        · go_wp2
          go_ret
          exact ⟨rfl, hb1.out.trans (hC3.out.mono (Nat.le_succ _))⟩
        · rw [hT.out (by omega)] at hN2
          have d0 : decide (t < 0) = false := by simpa using h0
          have d1 : decide (16 ≤ t) = false := by simpa using h1
          go_wp2_with (first | (refine wpList_load_on 26 _ rfl w.heap.size 0 rfl L _ (HR.out _ hC3.out) Tryd.underlying26 rfl HI.out (by kernel_rfl) ?_) | (go_at_call 18; fail))
          refine (hN2.out _).mono ?_
          rintro e w4 ⟨rfl, hb4⟩
          have hC4 := Lib.hid (hC3.out.trans (hb4.mono hz3.out))
          go_wp2
          go_ret
          exact ⟨rfl, hb1.out.trans (hC4.out.mono (Nat.le_succ _))⟩
end Go.Proofs.YtdcdlnmgbgeeeaaDoor
