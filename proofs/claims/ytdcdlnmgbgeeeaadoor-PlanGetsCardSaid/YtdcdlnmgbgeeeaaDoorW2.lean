import Derived.Test.YtdcdlnmgbgeeeaaDoorW1
import Derived.Test.YtdcdlnmgbgeeeaaDoorBits
namespace Go.Proofs.YtdcdlnmgbgeeeaaDoor
open Go.RowKit Go.Shelf

set_option maxRecDepth 100000 in
set_option maxHeartbeats 2000000 in
theorem RPutInt_any (k : Int) (w : World) (h0 : -9223372036854775808 ≤ k) (h1 : k ≤ 9223372036854775807) :
    Calls Tryd.prog 37 #[.int .i64 k] w fun e W' => ∃ v, e = .returned v ∧ W'.ownsRow w.heap.size 5 1 v (Wm.pint k).length ((Wm.pint k).map (Value.int .u8)) ∧ Below w.heap.size w W' := by
  obtain ⟨i0, hi, hz0, hz1, hz2⟩ := info_parts info_u8
  have hlo := Wm.fold_lo h0 h1
  have hwl := Wm.wrap_lo (IntKind.u64.wrap k * 2)
  have HF : Hid (k < 0 → bits .xor .u64 IntKind.u64.max (IntKind.u64.wrap (IntKind.u64.wrap k * 2)) = Wm.fold k) :=
    fun hn => by rw [Bt.u64_xorMax hwl.1 hwl.2, Wm.fold_xor hn h0]
  have HG : Hid (¬ k < 0 → k * 2 = Wm.fold k) := fun hn => by rw [← Wm.fold_pos hn]; omega
  have HP := Lib.hid (Wm.lt_pow9 hlo.2)
  by_cases hn : k < 0
  all_goals
    go_enter Tryd.func37, Tryd.ntmps37
    go_wp2
    go_loopw [3, 4] (fun u out wr => ∃ (acc : List Int) (j : Nat) (v : Int), u = .int .u64 v ∧ Hid (Wm.pint k = acc ++ Wm.encF j v) ∧ 0 ≤ v ∧ v ≤ 18446744073709551615 ∧ Hid (v < 128 ^ (j + 1)) ∧ acc.length + j ≤ 9 ∧
        wr.ownsRow w.heap.size 5 1 out acc.length (acc.map (Value.int .u8)) ∧ Below w.heap.size w wr)
      (fun u _ _ => (intOf u).toNat)
    case atStart =>
      refine ⟨[], 9, Wm.fold k, ?_, Lib.hid rfl, hlo.1, hlo.2, HP, by simp, World.ownsRow_nil _ _ _ _, Below.refl _ _⟩
      first | rw [HF.out (by omega)] | rw [HG.out (by omega)]
    case round =>
      obtain ⟨acc, j, v, rfl, hE, hv0, hv1, hP, hpj, hrow, hB⟩ := hrel
      by_cases hlt : v < 128
      · go_wp2_with (at_builtin; refine wpList_append_own _ rfl _ _ 28 rfl w.heap.size 5 i0 (.int .u8 0) 1 1 Tryd.underlying28 hi hz0 hz1 hz2 rfl (by decide) _ _ _ rfl (hrow.alloc _) ⟨wr.heap.size, 0, none⟩ 1 1 [.int .u8 (v)] rfl rfl (cell_one_new _ _ _) (by simp [Value.oneCell']) (by unfold maxLen; omega) (by omega) (by have := hB.size; simp; omega) ?_; intro v' w1 hown' hgrow _)
        have hB1 : Below w.heap.size w w1 := (hB.alloc hB.size _).grown hgrow (by have := hB.size; simp; omega) (fun i e => (hrow.lt i e).1)
        go_ret
        refine ⟨_, rfl, ?_, hB1⟩
        rw [hE.out, Wm.encF_last hlt]
        simpa using hown'
      · obtain ⟨j, rfl⟩ : ∃ i, j = i + 1 := by
          cases j with
          | zero => have := hP.out; simp at this; omega
          | succ i => exact ⟨i, rfl⟩
        have e1 := Bt.u64_and127 hv0 hv1
        have e2 := Bt.u8_or128 (v := v % 128) (by omega) (by omega)
        go_wp2_with (at_builtin; refine wpList_append_own _ rfl _ _ 28 rfl w.heap.size 5 i0 (.int .u8 0) 1 1 Tryd.underlying28 hi hz0 hz1 hz2 rfl (by decide) _ _ _ rfl (hrow.alloc _) ⟨wr.heap.size, 0, none⟩ 1 1 [.int .u8 (v % 128 + 128)] rfl rfl (cell_one_new _ _ _) (by simp [Value.oneCell']) (by unfold maxLen; omega) (by omega) (by have := hB.size; simp; omega) ?_; intro v' w1 hown' hgrow _)
        have hB1 : Below w.heap.size w w1 := (hB.alloc hB.size _).grown hgrow (by have := hB.size; simp; omega) (fun i e => (hrow.lt i e).1)
        go_roundw
        case rel =>
          exact ⟨acc ++ [v % 128 + 128], j, v / 128, rfl, Lib.hid (by rw [hE.out, Wm.encF_more (by omega), List.append_assoc]; rfl), by omega, by omega, Lib.hid (Wm.lt_pow hP.out), by simp; omega, by simpa using hown', hB1⟩
        case measure => simp [intOf]; omega
end Go.Proofs.YtdcdlnmgbgeeeaaDoor
