/- Counting: the bits of one vote counted, and which more than half say: the program's. -/
import Derived.Test.YtpchkhphpcopkaaTa
import Derived.Test.YtpchkhphpcopkaaBK
namespace Go.Proofs.Ytpchkhphpcopkaa
open Go.RowKit Go.Shelf Km Kx

/-- sixty-four counts -/
def cvs (f : Nat → Nat) : List Value := (List.range 64).map (fun (b : Nat) => Value.int .i64 (f b : Int))
theorem cvs_len (f : Nat → Nat) : (cvs f).length = 64 := by unfold cvs; simp
theorem cvs_get (f : Nat → Nat) {k : Nat} (h : k < 64) : (cvs f)[k]? = some (.int .i64 (f k : Int)) := by unfold cvs; rw [List.getElem?_map, List.getElem?_range h]; rfl
theorem cvs_ext {f g : Nat → Nat} (h : ∀ b, b < 64 → f b = g b) : cvs f = cvs g := by
  unfold cvs
  exact List.map_congr_left fun b hb => by rw [h b (List.mem_range.1 hb)]
theorem cvs_set (f : Nat → Nat) {k : Nat} (h : k < 64) (v : Nat) : (cvs f).set k (.int .i64 (v : Int)) = cvs (fun b => if b = k then v else f b) := by
  apply List.ext_getElem?
  intro j
  by_cases hj : j < 64
  · rw [cvs_get _ hj]
    by_cases e : k = j
    · subst e
      rw [List.getElem?_set_self (by rw [cvs_len]; exact h), if_pos rfl]
    · rw [List.getElem?_set_ne e, cvs_get _ hj, if_neg (Ne.symm e)]
  · rw [List.getElem?_eq_none (by rw [List.length_set, cvs_len]; omega), List.getElem?_eq_none (by rw [cvs_len]; omega)]
/-- the bits below k of a vote counted -/
def bump (f : Nat → Nat) (u k : Nat) : Nat → Nat := fun b => if b < k ∧ u.testBit b = true then f b + 1 else f b
theorem bump_zero (f : Nat → Nat) (u : Nat) : cvs (bump f u 0) = cvs f := cvs_ext fun b _ => by unfold bump; rw [if_neg (by omega)]
theorem bump_at (f : Nat → Nat) (u k : Nat) : bump f u k k = f k := by unfold bump; rw [if_neg (by omega)]
theorem bump_succ (f : Nat → Nat) (u k : Nat) (h : k < 64) : (cvs (bump f u k)).set k (.int .i64 ((f k : Int) + ((u.testBit k).toNat : Int))) = cvs (bump f u (k + 1)) := by
  rw [show ((f k : Int) + ((u.testBit k).toNat : Int)) = ((f k + (u.testBit k).toNat : Nat) : Int) by omega, cvs_set _ h]
  refine cvs_ext fun b _ => ?_
  by_cases e : b = k
  · subst e
    rw [if_pos rfl]
    unfold bump
    cases u.testBit b <;> simp
  · rw [if_neg e]
    unfold bump
    by_cases h2 : b < k
    · simp [h2, show b < k + 1 by omega]
    · simp [h2, show ¬ b < k + 1 by omega]

/-- what reads alone, when it alone is ready -/
theorem anyW_last {P : Program} {ops : Array Oper} {md : Region.Mode} {Q : Exit → Act → World → Prop} {C : World → Prop} {D : Nat → Bool} {i : Nat} {oi : Oper} {v : Value} {listed : Array Bool} {a a' : Act} {n : Nat} (hC : BearsC C) (hi : ops[i]? = some oi) (hr : Region.ready md ops listed = [i])
    (hn : Region.wanted oi (yielded ops a.tmps) = true) (hy : ∀ w, C w → (execOp a.eval oi).run P w = .ok (.value v) w) (ha : a.put oi.dst v = a')
    (h : anyW P md ops Q C D n (listed.setIfInBounds i true) (At a' C)) : anyW P md ops Q C D (n + 1) listed (At a C) :=
  anyW_one (At a' C) (At.bears hC) hi hr hn (.inr fun _ _ k => k.2) (fun w hw => by unfold Oper.wp; rw [hy w hw]; exact ⟨ha, hw⟩) h
/-- one bit -/
theorem bit_of {u : Nat} (hu : u < 18446744073709551616) (k : Nat) : bits BinOp.and IntKind.u64 ((u : Int) / 2 ^ k) 1 = ((u.testBit k).toNat : Int) := by
  have e : ((u : Int) / 2 ^ k) = ((u / 2 ^ k : Nat) : Int) := by simp
  have hd : u.testBit k = decide (u / 2 ^ k % 2 = 1) := Nat.testBit_eq_decide_div_mod_eq
  have hle : u / 2 ^ k ≤ u := Nat.div_le_self _ _
  generalize u / 2 ^ k = q at *
  rw [e, and_one_u64 _ (by omega) (by omega), hd]
  have h2 : q % 2 = 0 ∨ q % 2 = 1 := by omega
  rcases h2 with h | h <;> rw [h] <;> simp <;> omega

set_option maxRecDepth 100000 in
set_option maxHeartbeats 1000000 in
theorem add_any (w0 w : World) (p : Nat × List Value) (b : Nat) (f : Nat → Nat) (l : List (Nat × List Value)) (r : List Rw) (u : Nat) (hu : u < 18446744073709551616) (hf : ∀ b, f b ≤ 1000000) (hB : Bxs w0 w (p :: (b, cvs f) :: l) r) :
    Calls Try.prog 21 #[.pointer (some ⟨b, 0, none⟩), .int .u64 (u : Int)] w fun e w' => e = .returned (.tuple #[]) ∧ Bxs w0 w' (p :: (b, cvs (bump f u 64)) :: l) r := by
  have HB := Lib.hid hB
  clear hB
  go_enter Try.func21, Try.ntmps21
  go_wp2_with fail
  go_loopg [5] 64 (fun gh ix wr => ∃ k : Nat, gh + k = 64 ∧ ix = .int .i64 (k : Int) ∧ Hid (Bxs w0 wr (p :: (b, cvs (bump f u k)) :: l) r))
  case atStart => exact ⟨0, by omega, rfl, by rw [bump_zero]; exact HB⟩
  case round =>
    clear HB
    obtain ⟨k, hk, rfl, HB⟩ := hrel
    by_cases hlt : k < 64
    · have d3 : (k : Int) < 64 := by omega
      have hk0 : (0 : Int) ≤ (k : Int) := by omega
      have HG : Hid ((cvs (bump f u k))[k]? = some (.int .i64 (f k : Int))) := Lib.hid (by rw [cvs_get _ hlt, bump_at])
      obtain ⟨c, hc⟩ : ∃ c : Nat, (u.testBit k).toNat = c := ⟨_, rfl⟩
      have hc1 : c ≤ 1 := by rw [← hc]; cases u.testBit k <;> decide
      have hbt : bits BinOp.and IntKind.u64 ((u : Int) / 2 ^ k) 1 = (c : Int) := by rw [bit_of hu, hc]
      have hw1 : IntKind.i64.wrap (c : Int) = (c : Int) := by rw [IntKind.wrap_i64]; omega
      have hfk := hf k
      have hw2 : IntKind.i64.wrap ((f k : Int) + (c : Int)) = (f k : Int) + (c : Int) := by rw [IntKind.wrap_i64]; omega
      have HS : Hid ((cvs (bump f u k)).set k (.int .i64 ((f k : Int) + (c : Int))) = cvs (bump f u (k + 1))) := Lib.hid (by rw [← hc]; exact bump_succ f u k hlt)
      clear hc hc1 hfk
      go_wp2_with fail
      refine Kx.region_x HB (fun i => i == 13) (by kernel_rfl) ?_
      refine anyW_take (i := 0) (v := ?v0_1) (a' := ?a0_1) (by first | exact Kx.bears_x | assumption) rfl (by kernel_rfl) (by kernel_rfl) (by kernel_rfl) (fun _ _ _ h => h) (by kernel_rfl) ?w0_1 ?y0_1 ?f0_1 ?r0_1
      case w0_1 => kernel_rfl
      case y0_1 => (intro w hC; go_simp; try with_reducible rfl)
      case f0_1 => (go_simp; try with_reducible rfl)
      refine anyW_take (i := 1) (v := ?v1_2) (a' := ?a1_2) (by first | exact Kx.bears_x | assumption) rfl (by kernel_rfl) (by kernel_rfl) (by kernel_rfl) (fun _ _ _ h => h) (by kernel_rfl) ?w1_2 ?y1_2 ?f1_2 ?r1_2
      case w1_2 => kernel_rfl
      case y1_2 => (intro w hC; go_simp; try with_reducible rfl)
      case f1_2 => (go_simp; try with_reducible rfl)
      refine anyW_take (i := 2) (v := ?v2_3) (a' := ?a2_3) (by first | exact Kx.bears_x | assumption) rfl (by kernel_rfl) (by kernel_rfl) (by kernel_rfl) (fun _ _ _ h => h) (by kernel_rfl) ?w2_3 ?y2_3 ?f2_3 ?r2_3
      case w2_3 => kernel_rfl
      case y2_3 => (intro w hC; go_simp; try with_reducible rfl)
      case f2_3 => (go_simp; try with_reducible rfl)
      refine anyW_take (i := 3) (v := ?v3_4) (a' := ?a3_4) (by first | exact Kx.bears_x | assumption) rfl (by kernel_rfl) (by kernel_rfl) (by kernel_rfl) (fun _ _ _ h => h) (by kernel_rfl) ?w3_4 ?y3_4 ?f3_4 ?r3_4
      case w3_4 => kernel_rfl
      case y3_4 => (intro w hC; go_simp; try with_reducible rfl)
      case f3_4 => (go_simp; try with_reducible rfl)
      refine anyW_take (i := 4) (v := ?v4_5) (a' := ?a4_5) (by first | exact Kx.bears_x | assumption) rfl (by kernel_rfl) (by kernel_rfl) (by kernel_rfl) (fun _ _ _ h => h) (by kernel_rfl) ?w4_5 ?y4_5 ?f4_5 ?r4_5
      case w4_5 => kernel_rfl
      case y4_5 => (intro W hW; first | (refine Eq.trans (Kx.tells_load1_x (v := .int .i64 (f k : Int)) hW b k rfl (cvs (bump f u k)) inferInstance (Try.isAgg3 _) HG.out) ?_; with_reducible rfl))
      case f4_5 => (go_simp; try with_reducible rfl)
      refine anyW_take (i := 5) (v := ?v5_6) (a' := ?a5_6) (by first | exact Kx.bears_x | assumption) rfl (by kernel_rfl) (by kernel_rfl) (by kernel_rfl) (fun _ _ _ h => h) (by kernel_rfl) ?w5_6 ?y5_6 ?f5_6 ?r5_6
      case w5_6 => kernel_rfl
      case y5_6 => (intro w hC; go_simp; try with_reducible rfl)
      case f5_6 => (go_simp; try with_reducible rfl)
      refine anyW_take (i := 6) (v := ?v6_7) (a' := ?a6_7) (by first | exact Kx.bears_x | assumption) rfl (by kernel_rfl) (by kernel_rfl) (by kernel_rfl) (fun _ _ _ h => h) (by kernel_rfl) ?w6_7 ?y6_7 ?f6_7 ?r6_7
      case w6_7 => kernel_rfl
      case y6_7 => (intro w hC; go_simp; try with_reducible rfl)
      case f6_7 => (go_simp; try with_reducible rfl)
      refine anyW_take (i := 7) (v := ?v7_8) (a' := ?a7_8) (by first | exact Kx.bears_x | assumption) rfl (by kernel_rfl) (by kernel_rfl) (by kernel_rfl) (fun _ _ _ h => h) (by kernel_rfl) ?w7_8 ?y7_8 ?f7_8 ?r7_8
      case w7_8 => kernel_rfl
      case y7_8 => (intro w hC; go_simp; try with_reducible rfl)
      case f7_8 => (go_simp; try with_reducible rfl)
      refine anyW_take (i := 8) (v := ?v8_9) (a' := ?a8_9) (by first | exact Kx.bears_x | assumption) rfl (by kernel_rfl) (by kernel_rfl) (by kernel_rfl) (fun _ _ _ h => h) (by kernel_rfl) ?w8_9 ?y8_9 ?f8_9 ?r8_9
      case w8_9 => kernel_rfl
      case y8_9 => (intro w hC; go_simp; try with_reducible rfl)
      case f8_9 => (go_simp; try with_reducible rfl)
      refine anyW_take (i := 9) (v := ?v9_10) (a' := ?a9_10) (by first | exact Kx.bears_x | assumption) rfl (by kernel_rfl) (by kernel_rfl) (by kernel_rfl) (fun _ _ _ h => h) (by kernel_rfl) ?w9_10 ?y9_10 ?f9_10 ?r9_10
      case w9_10 => kernel_rfl
      case y9_10 => (intro w hC; go_simp; try with_reducible rfl)
      case f9_10 => (go_simp; try with_reducible rfl)
      refine anyW_take (i := 10) (v := ?v10_11) (a' := ?a10_11) (by first | exact Kx.bears_x | assumption) rfl (by kernel_rfl) (by kernel_rfl) (by kernel_rfl) (fun _ _ _ h => h) (by kernel_rfl) ?w10_11 ?y10_11 ?f10_11 ?r10_11
      case w10_11 => kernel_rfl
      case y10_11 => (intro w hC; go_simp; try with_reducible rfl)
      case f10_11 => (go_simp; try with_reducible rfl)
      refine anyW_last (i := 11) (v := ?v11) (a' := ?a11) Kx.bears_x rfl (by kernel_rfl) ?w11 ?y11 ?f11 ?r11
      case w11 => kernel_rfl
      case y11 => (intro w hC; go_simp; try with_reducible rfl)
      case f11 => (go_simp; try with_reducible rfl)
      refine anyW_take (i := 12) (v := ?v12_12) (a' := ?a12_12) (by first | exact Kx.bears_x | assumption) rfl (by kernel_rfl) (by kernel_rfl) (by kernel_rfl) (fun _ _ _ h => h) (by kernel_rfl) ?w12_12 ?y12_12 ?f12_12 ?r12_12
      case w12_12 => kernel_rfl
      case y12_12 => (intro w hC; go_simp; try with_reducible rfl)
      case f12_12 => (go_simp; try with_reducible rfl)
      refine Kx.anyW_storet_x (i := 13) rfl (by kernel_rfl) (by kernel_rfl) (by rfl) rfl _ _ _ rfl b rfl _ rfl rfl (cvs (bump f u k)) (cvs (bump f u (k + 1))) HS.out (by rw [cvs_len]; exact hlt) (fun w => (Try.sizeOf3 w)) ?_
      refine anyW_done (by kernel_rfl) ?_
      clear HB
      intro w_ HB_
      have HB := Lib.hid HB_
      clear HB_
      go_wp2_with fail
      go_roundg (gk - 1)
      case measure => omega
      case rel => exact ⟨k + 1, by omega, by go_num, HB⟩
    · obtain rfl : k = 64 := by omega
      go_wp2_with fail
      go_end0
      exact ⟨rfl, HB.out⟩
end Go.Proofs.Ytpchkhphpcopkaa
