/- The targets of a mask, one by one; the best of them: the program's. -/
import Derived.Test.YtpbogacodhjlfaaDoorIa
import Derived.Test.YtpbogacodhjlfaaDoorKitI
import Derived.RangeFuncBox
import Derived.RangeFuncLeaves
import Derived.Shelf.Abstract
import Derived.OwnWalkIn
import Derived.TacticsInMore
import Derived.LoopNIn
import Derived.LoopIn
import Derived.Maps.AppendAt
import Derived.Sort.QuietIn
namespace Go.Proofs.YtpbogacodhjlfaaDoor
open Go.RowKit Go.Shelf Km Kx Kc
attribute [local go_sem] Oper.semAt_some

theorem targets_in (fr : Nat) (m : Int) (w : World) :
    CallsIn Fence.wide fr Tryd.prog 43 #[.int .u64 m] w fun e w' => e = .returned (.func (.func 54) #[] #[.pointer (some ⟨w.heap.size, 0, none⟩)]) ∧ w' = w.alloc (.cells #[.int .u64 m] 25) := by
  refine callsIn_of_wp Tryd.func43 rfl trivial ?_ rfl
  simp only [Tryd.ntmps43, List.size_toArray, List.length_cons, List.length_nil, Nat.reduceAdd, Nat.reduceSub, Array.replicate_succ, Array.replicate_zero, List.push_toArray, List.append_toArray, List.nil_append, List.cons_append]
  gi_wp2
  go_ret
  exact ⟨rfl, rfl⟩

/-- a target, as it is handed over -/
def encT {n : Nat} (x : Fin n) : Array Value := #[.int .i64 ((x.val : Nat) : Int)]
def valsT {n : Nat} (l : List (Fin n)) : List Nat := l.map Fin.val
theorem valsT_snoc {n : Nat} (l : List (Fin n)) (x : Fin n) : valsT (l ++ [x]) = valsT l ++ [x.val] := by unfold valsT; rw [List.map_append]; rfl
theorem pre_len {n m : Nat} {pre : List (Fin n)} {l : List Nat} (h : valsT pre ++ l = Gm.bitsTo m n) (hl : l ≠ []) : pre.length < n := by
  have h1 := congrArg List.length h
  have h2 := Gm.bitsTo_len m n
  have h3 : 0 < l.length := List.length_pos_iff.2 hl
  rw [List.length_append] at h1
  unfold valsT at h1
  rw [List.length_map] at h1
  omega
theorem dec_mask {x : Nat} (h0 : x ≠ 0) (hx : x < 18446744073709551616) : bits BinOp.and IntKind.u64 (x : Int) (IntKind.u64.wrap ((x : Int) - 1)) = ((x &&& (x - 1) : Nat) : Int) := by
  have e : IntKind.u64.wrap ((x : Int) - 1) = ((x - 1 : Nat) : Int) := by rw [IntKind.wrap_u64]; omega
  rw [e]
  exact bits_and_u64_nat x _ hx (by omega)

set_option maxRecDepth 100000 in
set_option maxHeartbeats 2000000 in
theorem targets1_in (fr : Nat) (h1 : 1 ≤ fr) (n l Bs n₀ mask : Nat) (hn : n ≤ 64) (hm : mask < 2 ^ n) (J Jx : List (Fin n) → World → Prop)
    (hY : ∀ pre x W, J pre W → pre.length < n → YieldAt Fence.wide (fr - 1) Tryd.prog l (encT x) W fun e W' =>
      (e = .returned (.bool true) ∧ J (pre ++ [x]) W' ∧ Below n₀ W W') ∨ (e = .returned (.bool false) ∧ Jx (pre ++ [x]) W'))
    (W : World) (hBs : W.cell? ⟨Bs, 0, none⟩ = some (.int .u64 (mask : Int))) (w0 : World) (hb : BTab w0) (hw0 : w0.heap.size ≤ n₀) (hW0 : Below n₀ w0 W) (h0 : J [] W) :
    CallsIn Fence.wide fr Tryd.prog 54 #[.func (.yield l) #[] #[], .pointer (some ⟨Bs, 0, none⟩)] W fun e W' => (∃ v, e = .returned v) ∧
      ((∃ ys, valsT ys = Gm.bitsTo mask n ∧ J ys W') ∨ (∃ pre, True ∧ Jx pre W')) := by
  refine callsIn_of_wp Tryd.func54 rfl trivial ?_ rfl
  simp only [Tryd.ntmps54, List.size_toArray, List.length_cons, List.length_nil, Nat.reduceAdd, Nat.reduceSub, Array.replicate_succ, Array.replicate_zero, List.push_toArray, List.append_toArray, List.nil_append, List.cons_append]
  gi_wp2
  gi_loopw [3] (fun rx wr => ∃ (pre : List (Fin n)) (r : Nat), rx = .int .u64 (r : Int) ∧ r < 2 ^ n ∧ Hid (valsT pre ++ Gm.bitsTo r n = Gm.bitsTo mask n) ∧ Hid (J pre wr) ∧ Hid (Below n₀ w0 wr))
    (fun rx _ => (Gm.bitsTo (intOf rx).toNat n).length)
  case atStart => exact ⟨[], mask, rfl, hm, Lib.hid rfl, Lib.hid h0, Lib.hid hW0⟩
  case round =>
    obtain ⟨pre, r, rfl, hr, HS, HJ, HW⟩ := hrel
    have hr64 : r < 18446744073709551616 := Nat.lt_of_lt_of_le hr (Nat.pow_le_pow_right (by decide) hn)
    by_cases hz : r = 0
    · subst hz
      have d0 : ((0 : Int) != 0) = false := rfl
      have HE : Hid (valsT pre = Gm.bitsTo mask n) := Lib.hid (by have := HS.out; rwa [Gm.bitsTo_zero, List.append_nil] at this)
      clear HS
      gi_wp2
      go_end0
      exact ⟨⟨_, rfl⟩, .inl ⟨_, HE.out, HJ.out⟩⟩
    · obtain ⟨hk, hnx⟩ := Gm.bitsTo_next hz hn hr
      have hlen := congrArg List.length hnx
      rw [hnx] at HS
      have HTZ := Lib.hid (callsIn_wide (n := fr - 1).2 (TZ_any r wr hr64 hz (hb.below HW.out hw0)))
      have hdm := dec_mask hz hr64
      have HO := Lib.hid (Gm.off_lt n hr)
      have d0 : ((r : Int) != 0) = true := by rw [bne_iff_ne]; omega
      have HS2 : Hid (valsT (pre ++ [⟨Lib.ctz 64 r, hk⟩]) ++ Gm.bitsTo (r &&& (r - 1)) n = Gm.bitsTo mask n) := Lib.hid (by rw [valsT_snoc, List.append_assoc]; exact HS.out)
      obtain ⟨fn, tmps, assign, body, hy, hR⟩ := hY pre ⟨Lib.ctz 64 r, hk⟩ wr HJ.out (pre_len HS.out (by simp))
      unfold encT at hy
      dsimp only at hy
      have HL : Hid ((Gm.bitsTo (r &&& (r - 1)) n).length < (Gm.bitsTo r n).length) := Lib.hid (by rw [hlen]; exact Nat.lt_succ_self _)
      generalize Lib.ctz 64 r = k at *
      generalize r &&& (r - 1) = r2 at *
      clear HS hnx hlen hz hr
      gi_wp2_with (gi_at_call 55; fail)
      refine ⟨trivial, HTZ.out.mono ?_⟩
      rintro e w1 ⟨rfl, rfl⟩
      gi_wp2
      refine hR.mono ?_
      rintro e W3 (⟨rfl, hJ3, hk3⟩ | ⟨rfl, hJx3⟩)
      · gi_wp2
        go_roundw
        case rel => exact ⟨_, r2, by go_num, HO.out, HS2, Lib.hid hJ3, Lib.hid (HW.out.trans hk3)⟩
        case measure => simp only [intOf, Int.toNat_natCast]; exact HL.out
      · gi_wp2
        refine bodyPost_ret (results_none rfl _ _ _) rfl ?_
        exact ⟨⟨_, rfl⟩, .inr ⟨_, trivial, hJx3⟩⟩

theorem targets_stops (fr : Nat) (h1 : 1 ≤ fr) (n Bs n₀ mask : Nat) (hn : n ≤ 64) (hm : mask < 2 ^ n) (w w0 : World) (hb : BTab w0) (hw0 : w0.heap.size ≤ n₀) (hn₀ : n₀ ≤ w.heap.size) (hW0 : Below n₀ w0 w) (hBs : Bs < w.heap.size)
    (hc : w.cell? ⟨Bs, 0, none⟩ = some (.int .u64 (mask : Int))) :
    SeqStopsK Fence.wide fr Tryd.prog 54 #[.pointer (some ⟨Bs, 0, none⟩)] (encT (n := n)) (Below n₀) (fun ys => valsT ys = Gm.bitsTo mask n) (fun _ => True) n w := fun l J Jx W hW _ _ hY h0 =>
  targets1_in fr h1 n l Bs n₀ mask hn hm J Jx hY W ((hW.cell (p := ⟨Bs, 0, none⟩) hBs).trans hc) w0 hb hw0 (hW0.trans (hW.mono hn₀)) h0
end Go.Proofs.YtpbogacodhjlfaaDoor
