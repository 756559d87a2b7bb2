/- The bounds' table; whether ten numbers and two lists are right: the program's. -/
import Derived.Test.YtdcdlnmgbgeeeaaDoorPb
import Derived.Deep.MidRow
namespace Go.Proofs.YtdcdlnmgbgeeeaaDoor
open Go.RowKit Go.Shelf

/-- what the table of bounds holds -/
def spans : List Int := [0, 9223372036854775807, -1, 15, -1, 15, -1, 15, 0, 100, 0, 1099511627776, 0, 1099511627776, 0, 1099511627776, 0, 65535, 0, 65535]
def spv : List Value := i64s spans
theorem spv_len : spv.length = 20 := rfl
def Tab (w : World) : Prop := ∀ k, k < 20 → w.cell? ⟨0, k, none⟩ = some (.int .i64 (spans.getD k 0))

theorem Tab.below {B : Nat} {w w' : World} (h : Tab w) (hb : Below B w w') (hB : w.heap.size ≤ B) : Tab w' := fun k hk => by
  have h1 := h k hk
  have h2 : (⟨0, k, none⟩ : Addr).block < w.heap.size := World.block_lt_of_cell? w _ h1
  rw [hb.cell (by omega), h1]
theorem Tab.alloc {w : World} (h : Tab w) (o : Obj) : Tab (w.alloc o) := fun k hk => by
  have h1 := h k hk
  rw [World.cell?_alloc_lt w o _ (World.block_lt_of_cell? w _ h1), h1]

theorem info_spans : (Tryd.prog.info? 65).map (·.size) = some 20 := by kernel_rfl
theorem info_span : (Tryd.prog.info? 64).map (·.size) = some 2 := by kernel_rfl
theorem Tab.range {w : World} (h : Tab w) : w.rangeAt 0 0 spv := fun j v hv => by
    have hj : j < 20 := by have := (List.getElem?_eq_some_iff.1 hv).1; rwa [spv_len] at this
    rw [Nat.zero_add, h j hj]
    unfold spv at hv
    rw [List.getElem?_map] at hv
    rw [List.getD_eq_getElem?_getD]
    cases hs : spans[j]? with
    | none => rw [hs] at hv; cases hv
    | some z => rw [hs] at hv; simpa using hv

theorem index_spans (k : Nat) (hk : k < 10) (w : World) : (Instr.index 65 (.agg spv.toArray) (.int .i64 (k : Int))).run Tryd.prog w = .ok (.agg #[.int .i64 (Pm.lows.getD k 0), .int .i64 (Pm.tops.getD k 0)]) w := by
  have hu := run_underlying (P := Tryd.prog) Tryd.underlying65 w
  have hu2 := run_underlying (P := Tryd.prog) Tryd.underlying64 w
  have hs : (sizeOf 64).run Tryd.prog w = .ok 2 w := by
    have h := info_span
    cases hq : Tryd.prog.info? 64 with
    | none => rw [hq] at h; cases h
    | some i =>
      rw [hq] at h
      simp only [Option.map_some, Option.some.injEq] at h
      simp [sizeOf, typeInfo, hq, h]
  have hlt : (k : Int) < 10 := by omega
  have hg : isAgg 64 = (do match ← underlying 64 with | .struct _ | .array _ _ => pure true | _ => pure false : Sem Bool) := rfl
  have ha : (isAgg 64).run Tryd.prog w = .ok true w := by
    rw [hg, Sem.run_bind, hu2]; rfl
  have hp : (part 64 spv.toArray (k * 2)).run Tryd.prog w = .ok (.agg (spv.toArray.extract (k * 2) (k * 2 + 2))) w := by
    unfold part
    rw [Sem.run_bind, ha]
    show (Sem.run Tryd.prog (do pure (Value.agg (spv.toArray.extract (k * 2) (k * 2 + (← sizeOf 64))))) w) = _
    rw [Sem.run_bind, hs]
    rfl
  have hpe : spv.toArray.extract (k * 2) (k * 2 + 2) = #[.int .i64 (Pm.lows.getD k 0), .int .i64 (Pm.tops.getD k 0)] := by
    match k, hk with
    | 0, _ => rfl
    | 1, _ => rfl
    | 2, _ => rfl
    | 3, _ => rfl
    | 4, _ => rfl
    | 5, _ => rfl
    | 6, _ => rfl
    | 7, _ => rfl
    | 8, _ => rfl
    | 9, _ => rfl
  rw [hpe] at hp
  unfold Instr.index
  rw [Sem.run_bind]
  simp only [asIntOf, Sem.run_pure, Result.andThen_ok, Sem.run_bind, hu]
  rw [if_pos ⟨Int.natCast_nonneg k, hlt⟩, Sem.run_bind, hs]
  exact hp

set_option maxRecDepth 100000 in
set_option maxHeartbeats 4000000 in
theorem rightI_any (ns : List Int) (A1 A2 : Option Addr) (n1 n2 c1 c2 B : Nat) (pen ch : List Int) (w : World) (hns : ns.length = 10) (hx : Rd w B A1 (i64s pen)) (hn1 : pen.length = n1) (hm1 : n1 ≤ maxLen) (hy : Rd w B A2 (i64s ch)) (hn2 : ch.length = n2) (hm2 : n2 ≤ maxLen)
    (hB : B ≤ w.heap.size) (ht : Tab w) :
    Calls Tryd.prog 25 #[.agg (i64s ns).toArray, .slice A1 n1 c1, .slice A2 n2 c2] w fun e w' => e = .returned (.bool (Pm.ask (Pm.Rt ns pen ch))) ∧ Below w.heap.size w w' := by
  have HX := Lib.hid hx
  have HY := Lib.hid hy
  have HT := Lib.hid ht
  have HN1 := Lib.hid hn1
  have HN2 := Lib.hid hn2
  have hw1 : Hid (Rd (w.alloc (.cells (i64s ns).toArray 44)) (w.heap.size + 1) (some ⟨w.heap.size, 0, none⟩) (i64s ns)) := Rd.new w (w.heap.size + 1) (i64s ns) 44 (0, 0) (by omega)
  have hb1 : Hid (Below w.heap.size w (w.alloc (.cells (i64s ns).toArray 44))) := (Below.refl _ w).alloc (Nat.le_refl _) _
  have hz1 : (w.alloc (.cells (i64s ns).toArray 44)).heap.size = w.heap.size + 1 := World.size_alloc ..
  have hld := Lib.hid (ht.alloc (.cells (i64s ns).toArray 44)).range
  clear hx hy ht hn1 hn2
  go_enter Tryd.func25, Tryd.ntmps25
  go_wp2_with (refine wpList_load_mid rfl 65 _ rfl 0 0 rfl spv _ hld.out Tryd.underlying65 rfl info_spans ?_)
  go_loopw [10] (fun ix wr => ∃ (k : Nat), ix = .int .i64 (k : Int) ∧ k ≤ 10 ∧ Hid (∀ j, j < k → Pm.At ns j) ∧ Hid (Below (w.heap.size + 1) (w.alloc (.cells (i64s ns).toArray 44)) wr)) (fun ix _ => 10 - (intOf ix).toNat)
  case atStart => exact ⟨0, rfl, by omega, Lib.hid (fun j h => absurd h (Nat.not_lt_zero j)), Lib.hid (Below.refl _ _)⟩
  case round =>
    obtain ⟨k, rfl, hk, hA, hb2⟩ := hrel
    have hsz : w.heap.size + 1 ≤ wr.heap.size := by have := hb2.out.size; rw [hz1] at this; exact this
    by_cases hlt : k < 10
    · obtain ⟨x, hxk⟩ : ∃ x, ns[k]? = some x := ⟨ns[k]'(by omega), List.getElem?_eq_getElem (by omega)⟩
      obtain ⟨ad, e1, _, hc1⟩ := (hw1.out.below hb2.out).getU hxk
      cases e1
      have hAt : Hid (Pm.At ns k = (Pm.lows.getD k 0 ≤ x ∧ x ≤ Pm.tops.getD k 0)) := by
        unfold Pm.At
        rw [List.getD_eq_getElem?_getD (l := ns), hxk]
        exact Lib.hid rfl
      have hix := index_spans k hlt
      clear hxk
      generalize Pm.lows.getD k 0 = lo at *
      generalize Pm.tops.getD k 0 = hi at *
      have hc2 : (wr.alloc (.cells #[.int .i64 lo, .int .i64 hi] 64)).cell? ((⟨w.heap.size, 0, none⟩ : Addr).add k) = some (.int .i64 x) := by
        rw [World.cell?_alloc_lt _ _ _ (by rw [addr_add_block]; omega)]; exact hc1
      have hb3 := Lib.hid (hb2.out.alloc hsz (.cells #[.int .i64 lo, .int .i64 hi] 64))
      have hc3 : (wr.alloc (.cells #[.int .i64 lo, .int .i64 hi] 64)).cell? ⟨w.heap.size, k, none⟩ = some (.int .i64 x) := by
        rw [Addr.add_mid, Nat.zero_add] at hc2; exact hc2
      clear hc1 hc2
      by_cases h0 : x < lo
      · have HE : Hid (Pm.ask (Pm.Rt ns pen ch) = false) := Pm.ask_no (fun h => by have := h.1 k hlt; rw [hAt.out] at this; omega)
        have d0 : decide (x < lo) = true := by simpa using h0
        go_wp2_with fail
        go_quiet (fail)
        go_wp2
        go_ret
        exact ⟨ret_bool HE.out.symm, below_drawn (hb1.out.trans (hb3.out.mono (by omega))) _⟩
      · have d0 : decide (x < lo) = false := by simpa using h0
        by_cases h1 : hi < x
        · have HE : Hid (Pm.ask (Pm.Rt ns pen ch) = false) := Pm.ask_no (fun h => by have := h.1 k hlt; rw [hAt.out] at this; omega)
          go_wp2_with fail
          go_quiet (fail)
          go_wp2
          go_ret
          exact ⟨ret_bool HE.out.symm, below_drawn (hb1.out.trans (hb3.out.mono (by omega))) _⟩
        · have HA : Hid (∀ j, j < k + 1 → Pm.At ns j) := by
            intro j hj
            by_cases e : j = k
            · rw [e, hAt.out]; omega
            · exact hA.out j (by omega)
          go_wp2_with fail
          go_quiet (fail)
          go_wp2
          go_roundw
          case rel => exact ⟨k + 1, by go_num, by omega, HA, Lib.hid (below_drawn hb3.out _)⟩
          case measure => simp [intOf]; omega
    · obtain rfl : k = 10 := by omega
      have hbw := Lib.hid (hb1.out.trans (hb2.out.mono (Nat.le_succ _)))
      have HP := Lib.hid (boundedI_any A1 n1 c1 B pen 16 1000000 wr (HX.out.below (hbw.out.mono hB)) HN1.out hm1)
      have HC := Lib.hid (boundedL_any A2 n2 c2 B ch 8 1099511627776 wr (HY.out.below (hbw.out.mono hB)) HN2.out hm2)
      have HS := Lib.hid (IsSorted_any A2 n2 c2 B ch wr (HY.out.below (hbw.out.mono hB)) HN2.out hm2)
      by_cases p1 : Pm.Bd pen 16 1000000
      · rw [Pm.ask_yes p1] at HP
        by_cases p2 : Pm.Bd ch 8 1099511627776
        · rw [Pm.ask_yes p2] at HC
          have HE : Hid (Pm.ask (Pm.Rt ns pen ch) = Pm.ask (Pm.Sd ch)) := by
            by_cases p3 : Pm.Sd ch
            · rw [Pm.ask_yes p3]; exact Pm.ask_yes ⟨hA.out, p1, p2, p3⟩
            · rw [Pm.ask_no p3]; exact Pm.ask_no (fun h => p3 h.2.2.2)
          clear p1 p2
          go_wp2_with (go_at_call 38; fail)
          refine HP.out.mono ?_
          rintro e w' ⟨rfl, rfl⟩
          go_wp2_with (go_at_call 39; fail)
          refine HC.out.mono ?_
          rintro e w' ⟨rfl, rfl⟩
          go_wp2_with (go_at_call 40; fail)
          refine HS.out.mono ?_
          rintro e w' ⟨rfl, nd, rfl⟩
          go_wp2
          go_ret
          exact ⟨ret_bool HE.out.symm, below_drawn hbw.out _⟩
        · rw [Pm.ask_no p2] at HC
          have HE : Hid (Pm.ask (Pm.Rt ns pen ch) = false) := Pm.ask_no (fun h => p2 h.2.2.1)
          clear p1 p2
          go_wp2_with (go_at_call 38; fail)
          refine HP.out.mono ?_
          rintro e w' ⟨rfl, rfl⟩
          go_wp2_with (go_at_call 39; fail)
          refine HC.out.mono ?_
          rintro e w' ⟨rfl, rfl⟩
          go_wp2
          go_ret
          exact ⟨ret_bool HE.out.symm, hbw.out⟩
      · rw [Pm.ask_no p1] at HP
        have HE : Hid (Pm.ask (Pm.Rt ns pen ch) = false) := Pm.ask_no (fun h => p1 h.2.1)
        clear p1
        go_wp2_with (go_at_call 38; refine HP.out.mono ?_; rintro e w' ⟨rfl, rfl⟩)
        go_ret
        exact ⟨ret_bool HE.out.symm, hbw.out⟩

set_option maxRecDepth 100000 in
set_option maxHeartbeats 4000000 in
theorem rightL_any (ns : List Int) (A1 A2 : Option Addr) (n1 n2 c1 c2 B : Nat) (pen ch : List Int) (w : World) (hns : ns.length = 10) (hx : Rd w B A1 (i64s pen)) (hn1 : pen.length = n1) (hm1 : n1 ≤ maxLen) (hy : Rd w B A2 (i64s ch)) (hn2 : ch.length = n2) (hm2 : n2 ≤ maxLen)
    (hB : B ≤ w.heap.size) (ht : Tab w) :
    Calls Tryd.prog 28 #[.agg (i64s ns).toArray, .slice A1 n1 c1, .slice A2 n2 c2] w fun e w' => e = .returned (.bool (Pm.ask (Pm.Rt ns pen ch))) ∧ Below w.heap.size w w' := by
  have HX := Lib.hid hx
  have HY := Lib.hid hy
  have HT := Lib.hid ht
  have HN1 := Lib.hid hn1
  have HN2 := Lib.hid hn2
  have hw1 : Hid (Rd (w.alloc (.cells (i64s ns).toArray 44)) (w.heap.size + 1) (some ⟨w.heap.size, 0, none⟩) (i64s ns)) := Rd.new w (w.heap.size + 1) (i64s ns) 44 (0, 0) (by omega)
  have hb1 : Hid (Below w.heap.size w (w.alloc (.cells (i64s ns).toArray 44))) := (Below.refl _ w).alloc (Nat.le_refl _) _
  have hz1 : (w.alloc (.cells (i64s ns).toArray 44)).heap.size = w.heap.size + 1 := World.size_alloc ..
  have hld := Lib.hid (ht.alloc (.cells (i64s ns).toArray 44)).range
  clear hx hy ht hn1 hn2
  go_enter Tryd.func28, Tryd.ntmps28
  go_wp2_with (refine wpList_load_mid rfl 65 _ rfl 0 0 rfl spv _ hld.out Tryd.underlying65 rfl info_spans ?_)
  go_loopw [10] (fun ix wr => ∃ (k : Nat), ix = .int .i64 (k : Int) ∧ k ≤ 10 ∧ Hid (∀ j, j < k → Pm.At ns j) ∧ Hid (Below (w.heap.size + 1) (w.alloc (.cells (i64s ns).toArray 44)) wr)) (fun ix _ => 10 - (intOf ix).toNat)
  case atStart => exact ⟨0, rfl, by omega, Lib.hid (fun j h => absurd h (Nat.not_lt_zero j)), Lib.hid (Below.refl _ _)⟩
  case round =>
    obtain ⟨k, rfl, hk, hA, hb2⟩ := hrel
    have hsz : w.heap.size + 1 ≤ wr.heap.size := by have := hb2.out.size; rw [hz1] at this; exact this
    by_cases hlt : k < 10
    · obtain ⟨x, hxk⟩ : ∃ x, ns[k]? = some x := ⟨ns[k]'(by omega), List.getElem?_eq_getElem (by omega)⟩
      obtain ⟨ad, e1, _, hc1⟩ := (hw1.out.below hb2.out).getU hxk
      cases e1
      have hAt : Hid (Pm.At ns k = (Pm.lows.getD k 0 ≤ x ∧ x ≤ Pm.tops.getD k 0)) := by
        unfold Pm.At
        rw [List.getD_eq_getElem?_getD (l := ns), hxk]
        exact Lib.hid rfl
      have hix := index_spans k hlt
      clear hxk
      generalize Pm.lows.getD k 0 = lo at *
      generalize Pm.tops.getD k 0 = hi at *
      have hc2 : (wr.alloc (.cells #[.int .i64 lo, .int .i64 hi] 64)).cell? ((⟨w.heap.size, 0, none⟩ : Addr).add k) = some (.int .i64 x) := by
        rw [World.cell?_alloc_lt _ _ _ (by rw [addr_add_block]; omega)]; exact hc1
      have hb3 := Lib.hid (hb2.out.alloc hsz (.cells #[.int .i64 lo, .int .i64 hi] 64))
      have hc3 : (wr.alloc (.cells #[.int .i64 lo, .int .i64 hi] 64)).cell? ⟨w.heap.size, k, none⟩ = some (.int .i64 x) := by
        rw [Addr.add_mid, Nat.zero_add] at hc2; exact hc2
      clear hc1 hc2
      by_cases h0 : x < lo
      · have HE : Hid (Pm.ask (Pm.Rt ns pen ch) = false) := Pm.ask_no (fun h => by have := h.1 k hlt; rw [hAt.out] at this; omega)
        have d0 : decide (x < lo) = true := by simpa using h0
        go_wp2_with fail
        go_quiet (fail)
        go_wp2
        go_ret
        exact ⟨ret_bool HE.out.symm, below_drawn (hb1.out.trans (hb3.out.mono (by omega))) _⟩
      · have d0 : decide (x < lo) = false := by simpa using h0
        by_cases h1 : hi < x
        · have HE : Hid (Pm.ask (Pm.Rt ns pen ch) = false) := Pm.ask_no (fun h => by have := h.1 k hlt; rw [hAt.out] at this; omega)
          go_wp2_with fail
          go_quiet (fail)
          go_wp2
          go_ret
          exact ⟨ret_bool HE.out.symm, below_drawn (hb1.out.trans (hb3.out.mono (by omega))) _⟩
        · have HA : Hid (∀ j, j < k + 1 → Pm.At ns j) := by
            intro j hj
            by_cases e : j = k
            · rw [e, hAt.out]; omega
            · exact hA.out j (by omega)
          go_wp2_with fail
          go_quiet (fail)
          go_wp2
          go_roundw
          case rel => exact ⟨k + 1, by go_num, by omega, HA, Lib.hid (below_drawn hb3.out _)⟩
          case measure => simp [intOf]; omega
    · obtain rfl : k = 10 := by omega
      have hbw := Lib.hid (hb1.out.trans (hb2.out.mono (Nat.le_succ _)))
      have HP := Lib.hid (boundedL_any A1 n1 c1 B pen 16 1000000 wr (HX.out.below (hbw.out.mono hB)) HN1.out hm1)
      have HC := Lib.hid (boundedL_any A2 n2 c2 B ch 8 1099511627776 wr (HY.out.below (hbw.out.mono hB)) HN2.out hm2)
      have HS := Lib.hid (IsSorted_any A2 n2 c2 B ch wr (HY.out.below (hbw.out.mono hB)) HN2.out hm2)
      by_cases p1 : Pm.Bd pen 16 1000000
      · rw [Pm.ask_yes p1] at HP
        by_cases p2 : Pm.Bd ch 8 1099511627776
        · rw [Pm.ask_yes p2] at HC
          have HE : Hid (Pm.ask (Pm.Rt ns pen ch) = Pm.ask (Pm.Sd ch)) := by
            by_cases p3 : Pm.Sd ch
            · rw [Pm.ask_yes p3]; exact Pm.ask_yes ⟨hA.out, p1, p2, p3⟩
            · rw [Pm.ask_no p3]; exact Pm.ask_no (fun h => p3 h.2.2.2)
          clear p1 p2
          go_wp2_with (go_at_call 39; fail)
          refine HP.out.mono ?_
          rintro e w' ⟨rfl, rfl⟩
          go_wp2_with (go_at_call 39; fail)
          refine HC.out.mono ?_
          rintro e w' ⟨rfl, rfl⟩
          go_wp2_with (go_at_call 40; fail)
          refine HS.out.mono ?_
          rintro e w' ⟨rfl, nd, rfl⟩
          go_wp2
          go_ret
          exact ⟨ret_bool HE.out.symm, below_drawn hbw.out _⟩
        · rw [Pm.ask_no p2] at HC
          have HE : Hid (Pm.ask (Pm.Rt ns pen ch) = false) := Pm.ask_no (fun h => p2 h.2.2.1)
          clear p1 p2
          go_wp2_with (go_at_call 39; fail)
          refine HP.out.mono ?_
          rintro e w' ⟨rfl, rfl⟩
          go_wp2_with (go_at_call 39; fail)
          refine HC.out.mono ?_
          rintro e w' ⟨rfl, rfl⟩
          go_wp2
          go_ret
          exact ⟨ret_bool HE.out.symm, hbw.out⟩
      · rw [Pm.ask_no p1] at HP
        have HE : Hid (Pm.ask (Pm.Rt ns pen ch) = false) := Pm.ask_no (fun h => p1 h.2.1)
        clear p1
        go_wp2_with (go_at_call 39; refine HP.out.mono ?_; rintro e w' ⟨rfl, rfl⟩)
        go_ret
        exact ⟨ret_bool HE.out.symm, hbw.out⟩
end Go.Proofs.YtdcdlnmgbgeeeaaDoor
