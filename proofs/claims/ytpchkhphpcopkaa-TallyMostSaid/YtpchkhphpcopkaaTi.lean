/- Whether a vote is its observer's first one, what most say, whether votes are alike: the document's. -/
import Derived.Test.YtpchkhphpcopkaaTb
import Derived.Test.YtpchkhphpcopkaaTf
namespace Go.Proofs.Ytpchkhphpcopkaa
open Go.RowKit Go.Shelf Km Kx

/-- one cell from anywhere, as a region that draws asks it -/
theorem tells_cell {P : Program} {w : World} {f : Operand → Value} {d : Option Tmp} {ty t2 : TypeId} {x : Operand} {pos : String} {af : Array Edge} {g : Option (Nat × Bool)} {v : Value} (ad : Addr) (hx : f x = .pointer (some ad))
    (hA : (isAgg ty).run P w = .ok false w) (hc : w.cell? ad = some v) : (execOp f (Oper.mk d (.load ty x) t2 pos af g)).run P w = .ok (.value v) w := by
  unfold execOp
  simp only [hx, Instr.loadAt, Instr.sureAddr, Sem.run_bind, Sem.run_pure, Result.andThen_ok, run_loadVar_one w ad ty v hc (row_of hA)]
/-- the observer's cell of a vote among others -/
theorem Rd.who {w : World} {B : Nat} {A : Option Addr} {l : List Tm.Vt} (h : Rd w B A (vvs l)) {k : Nat} {v : Tm.Vt} (hk : l[k]? = some v) : ∃ ad, A = some ad ∧ ad.block < B ∧ w.cell? (ad.add (k * 3)) = some (.int .i64 v.o) ∧ w.cell? ⟨(ad.add (k * 3)).block, (ad.add (k * 3)).off + 1, none⟩ = some (.int .u64 (v.u : Int)) ∧ w.cell? ⟨(ad.add (k * 3)).block, (ad.add (k * 3)).off + 2, none⟩ = some (.int .i64 v.a) := by
  obtain ⟨ad, e, hb, hc⟩ := h.vts hk
  have h0 := hc 0 _ rfl
  rw [Addr.add_zero'] at h0
  exact ⟨ad, e, hb, h0, hc 1 _ rfl, hc 2 _ rfl⟩

set_option maxRecDepth 100000 in
set_option maxHeartbeats 1000000 in
theorem rfirst_any (A : Option Addr) (n cap B : Nat) (l : List Tm.Vt) (i : Nat) (x : Tm.Vt) (w : World) (hr : Rd w B A (vvs l)) (hn : l.length = n) (hm : n ≤ 100000) (hx : l[i]? = some x) :
    Calls Try.prog 23 #[.slice A n cap, .int .i64 (i : Int)] w fun e w' => e = .returned (.bool (!decide (x.o ∈ (l.take i).map Tm.Vt.o))) ∧ Below w.heap.size w w' := by
  have HB := Lib.hid (Bxs.start w)
  have HR := Lib.hid hr
  have HN := Lib.hid hn
  have hin : i < n := by have := (List.getElem?_eq_some_iff.1 hx).1; omega
  obtain ⟨ad, rfl, -, hci, -, -⟩ := hr.who hx
  have HI := Lib.hid hci
  have HX := Lib.hid hx
  clear hr hn hci hx
  have hw1 : IntKind.i64.wrap (i : Int) = (i : Int) := by rw [IntKind.wrap_i64]; omega
  go_enter Try.func23, Try.ntmps23
  go_wp2_with fail
  go_loopg [5] i (fun gh ix wr => ∃ k : Nat, gh + k = i ∧ ix = .int .i64 (k : Int) ∧ Hid (Bxs w wr []) ∧ Hid (∀ (j : Nat) (y : Tm.Vt), j < k → l[j]? = some y → y.o ≠ x.o))
  case atStart => exact ⟨0, by omega, rfl, HB, Lib.hid (fun j y hj => by omega)⟩
  case round =>
    clear HB
    obtain ⟨k, hk, rfl, HB, HJ⟩ := hrel
    by_cases hlt : k < i
    · obtain ⟨y, hy⟩ : ∃ y, l[k]? = some y := ⟨l[k]'(by rw [HN.out]; omega), List.getElem?_eq_getElem _⟩
      obtain ⟨ad', e', -, hck, -, -⟩ := HR.out.who hy
      cases e'
      have HK := Lib.hid hck
      have HY := Lib.hid hy
      have d3 : (k : Int) < (i : Int) := by omega
      have d4 : (k : Int) < (n : Int) := by omega
      have d5 : (i : Int) < (n : Int) := by omega
      clear hck hy
      by_cases hq : y.o = x.o
      · have HQ := Lib.hid hq
        have d6 : (y.o == x.o) = true := by simp [hq]
        clear hq
        go_wp2_with fail
        refine Kx.region_x HB (fun i => false) (by kernel_rfl) ?_
        refine anyW_take (i := 0) (v := ?v0_1) (a' := ?a0_1) (by first | exact Kx.bears_x | assumption) rfl (by kernel_rfl) (by kernel_rfl) (by kernel_rfl) (fun _ _ _ h => h) (by kernel_rfl) ?w0_1 ?y0_1 ?f0_1 ?r0_1
        case w0_1 => kernel_rfl
        case y0_1 => (intro w hC; go_simp; try with_reducible rfl)
        case f0_1 => (go_simp; try with_reducible rfl)
        refine anyW_take (i := 1) (v := ?v1_2) (a' := ?a1_2) (by first | exact Kx.bears_x | assumption) rfl (by kernel_rfl) (by kernel_rfl) (by kernel_rfl) (fun _ _ _ h => h) (by kernel_rfl) ?w1_2 ?y1_2 ?f1_2 ?r1_2
        case w1_2 => kernel_rfl
        case y1_2 => (intro w hC; go_simp; try with_reducible rfl)
        case f1_2 => (go_simp; try with_reducible rfl)
        refine anyW_take (i := 2) (v := ?v2_3) (a' := ?a2_3) (by first | exact Kx.bears_x | assumption) rfl (by kernel_rfl) (by kernel_rfl) (by kernel_rfl) (fun _ _ _ h => h) (by kernel_rfl) ?w2_3 ?y2_3 ?f2_3 ?r2_3
        case w2_3 => kernel_rfl
        case y2_3 => (intro w hC; go_simp; try with_reducible rfl)
        case f2_3 => (go_simp; try with_reducible rfl)
        refine anyW_take (i := 3) (v := ?v3_4) (a' := ?a3_4) (by first | exact Kx.bears_x | assumption) rfl (by kernel_rfl) (by kernel_rfl) (by kernel_rfl) (fun _ _ _ h => h) (by kernel_rfl) ?w3_4 ?y3_4 ?f3_4 ?r3_4
        case w3_4 => kernel_rfl
        case y3_4 => (intro w hC; go_simp; try with_reducible rfl)
        case f3_4 => (go_simp; try with_reducible rfl)
        refine anyW_take (i := 4) (v := ?v4_5) (a' := ?a4_5) (by first | exact Kx.bears_x | assumption) rfl (by kernel_rfl) (by kernel_rfl) (by kernel_rfl) (fun _ _ _ h => h) (by kernel_rfl) ?w4_5 ?y4_5 ?f4_5 ?r4_5
        case w4_5 => kernel_rfl
        case y4_5 => (intro W hW; first | (refine Eq.trans (tells_cell (v := .int .i64 y.o) (ad.add (k * 3)) rfl (Try.isAgg3 _) (hW.old HK.out)) ?_; with_reducible rfl))
        case f4_5 => (go_simp; try with_reducible rfl)
        refine anyW_take (i := 5) (v := ?v5_6) (a' := ?a5_6) (by first | exact Kx.bears_x | assumption) rfl (by kernel_rfl) (by kernel_rfl) (by kernel_rfl) (fun _ _ _ h => h) (by kernel_rfl) ?w5_6 ?y5_6 ?f5_6 ?r5_6
        case w5_6 => kernel_rfl
        case y5_6 => (intro w hC; go_simp; try with_reducible rfl)
        case f5_6 => (go_simp; try with_reducible rfl)
        refine anyW_take (i := 6) (v := ?v6_7) (a' := ?a6_7) (by first | exact Kx.bears_x | assumption) rfl (by kernel_rfl) (by kernel_rfl) (by kernel_rfl) (fun _ _ _ h => h) (by kernel_rfl) ?w6_7 ?y6_7 ?f6_7 ?r6_7
        case w6_7 => kernel_rfl
        case y6_7 => (intro w hC; go_simp; try with_reducible rfl)
        case f6_7 => (go_simp; try with_reducible rfl)
        refine anyW_take (i := 7) (v := ?v7_8) (a' := ?a7_8) (by first | exact Kx.bears_x | assumption) rfl (by kernel_rfl) (by kernel_rfl) (by kernel_rfl) (fun _ _ _ h => h) (by kernel_rfl) ?w7_8 ?y7_8 ?f7_8 ?r7_8
        case w7_8 => kernel_rfl
        case y7_8 => (intro w hC; go_simp; try with_reducible rfl)
        case f7_8 => (go_simp; try with_reducible rfl)
        refine anyW_take (i := 8) (v := ?v8_9) (a' := ?a8_9) (by first | exact Kx.bears_x | assumption) rfl (by kernel_rfl) (by kernel_rfl) (by kernel_rfl) (fun _ _ _ h => h) (by kernel_rfl) ?w8_9 ?y8_9 ?f8_9 ?r8_9
        case w8_9 => kernel_rfl
        case y8_9 => (intro w hC; go_simp; try with_reducible rfl)
        case f8_9 => (go_simp; try with_reducible rfl)
        refine anyW_take (i := 9) (v := ?v9_10) (a' := ?a9_10) (by first | exact Kx.bears_x | assumption) rfl (by kernel_rfl) (by kernel_rfl) (by kernel_rfl) (fun _ _ _ h => h) (by kernel_rfl) ?w9_10 ?y9_10 ?f9_10 ?r9_10
        case w9_10 => kernel_rfl
        case y9_10 => (intro W hW; first | (refine Eq.trans (tells_cell (v := .int .i64 x.o) (ad.add (i * 3)) rfl (Try.isAgg3 _) (hW.old HI.out)) ?_; with_reducible rfl))
        case f9_10 => (go_simp; try with_reducible rfl)
        refine anyW_take (i := 10) (v := ?v10_11) (a' := ?a10_11) (by first | exact Kx.bears_x | assumption) rfl (by kernel_rfl) (by kernel_rfl) (by kernel_rfl) (fun _ _ _ h => h) (by kernel_rfl) ?w10_11 ?y10_11 ?f10_11 ?r10_11
        case w10_11 => kernel_rfl
        case y10_11 => (intro w hC; go_simp; try with_reducible rfl)
        case f10_11 => (go_simp; try with_reducible rfl)
        refine anyW_done (by kernel_rfl) ?_
        clear HB
        intro w_ HB_
        have HB := Lib.hid HB_
        clear HB_
        go_wp2_with fail
        go_ret
        refine ⟨?_, HB.out.below⟩
        have : x.o ∈ (l.take i).map Tm.Vt.o := by
          rw [← HQ.out]
          exact List.mem_map_of_mem (List.mem_of_getElem? (i := k) (by rw [List.getElem?_take, if_pos hlt]; exact HY.out))
        rw [decide_eq_true this]; rfl
      · have HQ := Lib.hid hq
        have d6 : (y.o == x.o) = false := by simp [hq]
        clear hq
        go_wp2_with fail
        refine Kx.region_x HB (fun i => false) (by kernel_rfl) ?_
        refine anyW_take (i := 0) (v := ?v0_12) (a' := ?a0_12) (by first | exact Kx.bears_x | assumption) rfl (by kernel_rfl) (by kernel_rfl) (by kernel_rfl) (fun _ _ _ h => h) (by kernel_rfl) ?w0_12 ?y0_12 ?f0_12 ?r0_12
        case w0_12 => kernel_rfl
        case y0_12 => (intro w hC; go_simp; try with_reducible rfl)
        case f0_12 => (go_simp; try with_reducible rfl)
        refine anyW_take (i := 1) (v := ?v1_13) (a' := ?a1_13) (by first | exact Kx.bears_x | assumption) rfl (by kernel_rfl) (by kernel_rfl) (by kernel_rfl) (fun _ _ _ h => h) (by kernel_rfl) ?w1_13 ?y1_13 ?f1_13 ?r1_13
        case w1_13 => kernel_rfl
        case y1_13 => (intro w hC; go_simp; try with_reducible rfl)
        case f1_13 => (go_simp; try with_reducible rfl)
        refine anyW_take (i := 2) (v := ?v2_14) (a' := ?a2_14) (by first | exact Kx.bears_x | assumption) rfl (by kernel_rfl) (by kernel_rfl) (by kernel_rfl) (fun _ _ _ h => h) (by kernel_rfl) ?w2_14 ?y2_14 ?f2_14 ?r2_14
        case w2_14 => kernel_rfl
        case y2_14 => (intro w hC; go_simp; try with_reducible rfl)
        case f2_14 => (go_simp; try with_reducible rfl)
        refine anyW_take (i := 3) (v := ?v3_15) (a' := ?a3_15) (by first | exact Kx.bears_x | assumption) rfl (by kernel_rfl) (by kernel_rfl) (by kernel_rfl) (fun _ _ _ h => h) (by kernel_rfl) ?w3_15 ?y3_15 ?f3_15 ?r3_15
        case w3_15 => kernel_rfl
        case y3_15 => (intro w hC; go_simp; try with_reducible rfl)
        case f3_15 => (go_simp; try with_reducible rfl)
        refine anyW_take (i := 4) (v := ?v4_16) (a' := ?a4_16) (by first | exact Kx.bears_x | assumption) rfl (by kernel_rfl) (by kernel_rfl) (by kernel_rfl) (fun _ _ _ h => h) (by kernel_rfl) ?w4_16 ?y4_16 ?f4_16 ?r4_16
        case w4_16 => kernel_rfl
        case y4_16 => (intro W hW; first | (refine Eq.trans (tells_cell (v := .int .i64 y.o) (ad.add (k * 3)) rfl (Try.isAgg3 _) (hW.old HK.out)) ?_; with_reducible rfl))
        case f4_16 => (go_simp; try with_reducible rfl)
        refine anyW_take (i := 5) (v := ?v5_17) (a' := ?a5_17) (by first | exact Kx.bears_x | assumption) rfl (by kernel_rfl) (by kernel_rfl) (by kernel_rfl) (fun _ _ _ h => h) (by kernel_rfl) ?w5_17 ?y5_17 ?f5_17 ?r5_17
        case w5_17 => kernel_rfl
        case y5_17 => (intro w hC; go_simp; try with_reducible rfl)
        case f5_17 => (go_simp; try with_reducible rfl)
        refine anyW_take (i := 6) (v := ?v6_18) (a' := ?a6_18) (by first | exact Kx.bears_x | assumption) rfl (by kernel_rfl) (by kernel_rfl) (by kernel_rfl) (fun _ _ _ h => h) (by kernel_rfl) ?w6_18 ?y6_18 ?f6_18 ?r6_18
        case w6_18 => kernel_rfl
        case y6_18 => (intro w hC; go_simp; try with_reducible rfl)
        case f6_18 => (go_simp; try with_reducible rfl)
        refine anyW_take (i := 7) (v := ?v7_19) (a' := ?a7_19) (by first | exact Kx.bears_x | assumption) rfl (by kernel_rfl) (by kernel_rfl) (by kernel_rfl) (fun _ _ _ h => h) (by kernel_rfl) ?w7_19 ?y7_19 ?f7_19 ?r7_19
        case w7_19 => kernel_rfl
        case y7_19 => (intro w hC; go_simp; try with_reducible rfl)
        case f7_19 => (go_simp; try with_reducible rfl)
        refine anyW_take (i := 8) (v := ?v8_20) (a' := ?a8_20) (by first | exact Kx.bears_x | assumption) rfl (by kernel_rfl) (by kernel_rfl) (by kernel_rfl) (fun _ _ _ h => h) (by kernel_rfl) ?w8_20 ?y8_20 ?f8_20 ?r8_20
        case w8_20 => kernel_rfl
        case y8_20 => (intro w hC; go_simp; try with_reducible rfl)
        case f8_20 => (go_simp; try with_reducible rfl)
        refine anyW_take (i := 9) (v := ?v9_21) (a' := ?a9_21) (by first | exact Kx.bears_x | assumption) rfl (by kernel_rfl) (by kernel_rfl) (by kernel_rfl) (fun _ _ _ h => h) (by kernel_rfl) ?w9_21 ?y9_21 ?f9_21 ?r9_21
        case w9_21 => kernel_rfl
        case y9_21 => (intro W hW; first | (refine Eq.trans (tells_cell (v := .int .i64 x.o) (ad.add (i * 3)) rfl (Try.isAgg3 _) (hW.old HI.out)) ?_; with_reducible rfl))
        case f9_21 => (go_simp; try with_reducible rfl)
        refine anyW_take (i := 10) (v := ?v10_22) (a' := ?a10_22) (by first | exact Kx.bears_x | assumption) rfl (by kernel_rfl) (by kernel_rfl) (by kernel_rfl) (fun _ _ _ h => h) (by kernel_rfl) ?w10_22 ?y10_22 ?f10_22 ?r10_22
        case w10_22 => kernel_rfl
        case y10_22 => (intro w hC; go_simp; try with_reducible rfl)
        case f10_22 => (go_simp; try with_reducible rfl)
        refine anyW_done (by kernel_rfl) ?_
        clear HB
        intro w_ HB_
        have HB := Lib.hid HB_
        clear HB_
        go_wp2_with fail
        go_roundg (gk - 1)
        case measure => omega
        case rel => exact ⟨k + 1, by omega, by go_num, HB, Lib.hid (fun j z hj hz => by
          rcases Nat.lt_or_ge j k with h | h
          · exact HJ.out j z h hz
          · obtain rfl : j = k := by omega
            rw [HY.out] at hz; cases hz; exact HQ.out)⟩
    · obtain rfl : k = i := by omega
      have d0 : decide ((k : Int) < (k : Int)) = false := by simp
      go_wp2_with fail
      go_ret
      refine ⟨?_, HB.out.below⟩
      have : x.o ∉ (l.take k).map Tm.Vt.o := fun hm => by
        obtain ⟨y, hy, e⟩ := List.mem_map.1 hm
        obtain ⟨j, hj⟩ := List.mem_iff_getElem?.1 hy
        rw [List.getElem?_take] at hj
        split at hj
        · exact HJ.out j y (by assumption) hj e
        · cases hj
      rw [decide_eq_false this]; rfl
end Go.Proofs.Ytpchkhphpcopkaa
