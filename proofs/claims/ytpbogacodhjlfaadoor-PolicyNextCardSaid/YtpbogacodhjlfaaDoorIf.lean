/- Whether a plan is right: plan's own (its texts, over the seat of the policy). -/
import Derived.Test.YtpbogacodhjlfaaDoorIe
import Derived.Deep.MidRow
namespace Go.Proofs.YtpbogacodhjlfaaDoor.Pr
open Go.RowKit Go.Shelf Kc

/-- a plan as a value: its lists lie where the slices say -/
def pv (x : Pm.Pl) (A : Option Addr) (n c : Nat) (A' : Option Addr) (n' c' : Nat) : Value :=
  .agg #[.int .i64 x.e, .int .i64 x.t, .int .i64 x.p, .int .i64 x.s, .int .i64 x.c, .int .i64 x.st, .int .i64 x.si, .int .i64 x.ra, .int .u64 x.up, .int .u64 x.su, .slice A n c, .slice A' n' c']

theorem last_block (w : World) (o : Obj) {b : Nat} (h : b = w.heap.size) : (w.alloc o).heap[b]? = some o := by subst h; exact heap_alloc_new w o
theorem info_nums : (Tryd.prog.info? 71).map (·.size) = some 10 := by kernel_rfl
theorem sgw {n : Int} (h : Pm.U n) : wrap64 n = Pm.sg n := by
  unfold Pm.U at h
  unfold wrap64 Pm.sg
  split <;> omega

set_option maxRecDepth 100000 in
set_option maxHeartbeats 1000000 in
theorem numbersOf_any (x : Pm.Pl) (A : Option Addr) (n c : Nat) (A' : Option Addr) (n' c' : Nat) (w : World) (hx : x.Ok) :
    Calls Tryd.prog 50 #[pv x A n c A' n' c'] w fun e w' => e = .returned (.agg (i64s x.nums).toArray) ∧ Below w.heap.size w w' := by
  have HE : Hid (i64s x.nums = [.int .i64 x.e, .int .i64 x.t, .int .i64 x.p, .int .i64 x.s, .int .i64 x.c, .int .i64 x.st, .int .i64 x.si, .int .i64 x.ra, .int .i64 (wrap64 x.up), .int .i64 (wrap64 x.su)]) := by
    rw [sgw hx.up, sgw hx.su]; exact Lib.hid rfl
  clear hx
  unfold pv
  go_enter Tryd.func50, Tryd.ntmps50
  go_wp2
  refine bodyPost_ret (results_cell_row rfl _ _ (w.heap.size + 1) _ _ (0, 0) _ rfl (last_block _ _ (by simp)) Tryd.underlying71 rfl info_nums) rfl ?_
  rw [HE.out]
  exact ⟨rfl, (((Below.refl _ w).alloc (Nat.le_refl _) _).alloc (by simp) _)⟩

set_option maxRecDepth 100000 in
set_option maxHeartbeats 1000000 in
theorem boundedI_any (A : Option Addr) (n c B : Nat) (xs : List Int) (size : Nat) (most : Int) (w : World) (hx : Rd w B A (i64s xs)) (hn : xs.length = n) (hm1 : n ≤ maxLen) :
    Calls Tryd.prog 58 #[.slice A n c, .int .i64 (size : Int), .int .i64 most] w fun e w' => e = .returned (.bool (Pm.ask (Pm.Bd xs size most))) ∧ w = w' := by
  unfold maxLen at hm1
  by_cases hs : size < n
  · have HE : Hid (Pm.ask (Pm.Bd xs size most) = false) := Pm.ask_no (fun h => by have := h.1; omega)
    clear hx
    go_enter Tryd.func58, Tryd.ntmps58
    go_wp2
    go_ret
    exact ⟨ret_bool HE.out.symm, rfl⟩
  · go_enter Tryd.func58, Tryd.ntmps58
    go_wp2
    go_loopw [15] (fun ix wr => ∃ (k : Nat), ix = .int .i64 (k : Int) ∧ k ≤ n ∧ Hid (∀ m ∈ xs.take k, 0 ≤ m ∧ m ≤ most) ∧ Hid (wr = w)) (fun ix _ => n - (intOf ix).toNat)
    case atStart => exact ⟨0, rfl, by omega, Lib.hid (fun m h => absurd h List.not_mem_nil), Lib.hid rfl⟩
    case round =>
      obtain ⟨k, rfl, hk, hT, hW⟩ := hrel
      have hx' : Rd wr B A (i64s xs) := by rw [hW.out]; exact hx
      by_cases hlt : k < n
      · obtain ⟨x, hxk⟩ : ∃ x, xs[k]? = some x := ⟨xs[k], List.getElem?_eq_getElem (by omega)⟩
        obtain ⟨ad1, rfl, _, hc1⟩ := hx'.getU hxk
        by_cases h0 : x < 0
        · have HE : Hid (Pm.ask (Pm.Bd xs size most) = false) := Pm.ask_no (fun h => by have := (h.2 x (List.mem_of_getElem? hxk)).1; omega)
          clear hxk hx hx'
          go_wp2
          go_ret
          exact ⟨ret_bool HE.out.symm, hW.out.symm⟩
        · by_cases h1 : most < x
          · have HE : Hid (Pm.ask (Pm.Bd xs size most) = false) := Pm.ask_no (fun h => by have := (h.2 x (List.mem_of_getElem? hxk)).2; omega)
            clear hxk hx hx'
            go_wp2
            go_ret
            exact ⟨ret_bool HE.out.symm, hW.out.symm⟩
          · have HS : Hid (∀ m ∈ xs.take (k + 1), 0 ≤ m ∧ m ≤ most) := by
              intro m hm
              rw [List.take_add_one, hxk] at hm
              rcases List.mem_append.1 hm with h | h
              · exact hT.out m h
              · simp at h; subst h; omega
            clear hxk hx hx'
            go_wp2
            go_roundw
            case rel => exact ⟨k + 1, by go_num, by omega, HS, hW⟩
            case measure => simp [intOf]; omega
      · have HE : Hid (Pm.ask (Pm.Bd xs size most) = true) := by
          refine Pm.ask_yes ⟨by omega, ?_⟩
          have h := hT.out
          rw [List.take_of_length_le (by omega)] at h
          exact h
        clear hx hx'
        go_wp2
        go_ret
        exact ⟨ret_bool HE.out.symm, hW.out.symm⟩

set_option maxRecDepth 100000 in
set_option maxHeartbeats 1000000 in
theorem boundedL_any (A : Option Addr) (n c B : Nat) (xs : List Int) (size : Nat) (most : Int) (w : World) (hx : Rd w B A (i64s xs)) (hn : xs.length = n) (hm1 : n ≤ maxLen) :
    Calls Tryd.prog 59 #[.slice A n c, .int .i64 (size : Int), .int .i64 most] w fun e w' => e = .returned (.bool (Pm.ask (Pm.Bd xs size most))) ∧ w = w' := by
  unfold maxLen at hm1
  by_cases hs : size < n
  · have HE : Hid (Pm.ask (Pm.Bd xs size most) = false) := Pm.ask_no (fun h => by have := h.1; omega)
    clear hx
    go_enter Tryd.func59, Tryd.ntmps59
    go_wp2
    go_ret
    exact ⟨ret_bool HE.out.symm, rfl⟩
  · go_enter Tryd.func59, Tryd.ntmps59
    go_wp2
    go_loopw [15] (fun ix wr => ∃ (k : Nat), ix = .int .i64 (k : Int) ∧ k ≤ n ∧ Hid (∀ m ∈ xs.take k, 0 ≤ m ∧ m ≤ most) ∧ Hid (wr = w)) (fun ix _ => n - (intOf ix).toNat)
    case atStart => exact ⟨0, rfl, by omega, Lib.hid (fun m h => absurd h List.not_mem_nil), Lib.hid rfl⟩
    case round =>
      obtain ⟨k, rfl, hk, hT, hW⟩ := hrel
      have hx' : Rd wr B A (i64s xs) := by rw [hW.out]; exact hx
      by_cases hlt : k < n
      · obtain ⟨x, hxk⟩ : ∃ x, xs[k]? = some x := ⟨xs[k], List.getElem?_eq_getElem (by omega)⟩
        obtain ⟨ad1, rfl, _, hc1⟩ := hx'.getU hxk
        by_cases h0 : x < 0
        · have HE : Hid (Pm.ask (Pm.Bd xs size most) = false) := Pm.ask_no (fun h => by have := (h.2 x (List.mem_of_getElem? hxk)).1; omega)
          clear hxk hx hx'
          go_wp2
          go_ret
          exact ⟨ret_bool HE.out.symm, hW.out.symm⟩
        · by_cases h1 : most < x
          · have HE : Hid (Pm.ask (Pm.Bd xs size most) = false) := Pm.ask_no (fun h => by have := (h.2 x (List.mem_of_getElem? hxk)).2; omega)
            clear hxk hx hx'
            go_wp2
            go_ret
            exact ⟨ret_bool HE.out.symm, hW.out.symm⟩
          · have HS : Hid (∀ m ∈ xs.take (k + 1), 0 ≤ m ∧ m ≤ most) := by
              intro m hm
              rw [List.take_add_one, hxk] at hm
              rcases List.mem_append.1 hm with h | h
              · exact hT.out m h
              · simp at h; subst h; omega
            clear hxk hx hx'
            go_wp2
            go_roundw
            case rel => exact ⟨k + 1, by go_num, by omega, HS, hW⟩
            case measure => simp [intOf]; omega
      · have HE : Hid (Pm.ask (Pm.Bd xs size most) = true) := by
          refine Pm.ask_yes ⟨by omega, ?_⟩
          have h := hT.out
          rw [List.take_of_length_le (by omega)] at h
          exact h
        clear hx hx'
        go_wp2
        go_ret
        exact ⟨ret_bool HE.out.symm, hW.out.symm⟩

/-! ### sorted -/
set_option maxRecDepth 100000 in
theorem isNaN_any (n : Int) (w : World) : Calls Tryd.prog 64 #[.int .i64 n] w fun e w' => e = .returned (.bool false) ∧ w = w' := by
  have hb : (n != n) = false := by simp
  go_enter Tryd.func64, Tryd.ntmps64
  go_wp2
  go_ret
  exact ⟨ret_bool (by simp), rfl⟩

set_option maxRecDepth 100000 in
theorem Less_any (a b : Int) (w : World) : Calls Tryd.prog 63 #[.int .i64 a, .int .i64 b] w fun e w' => e = .returned (.bool (decide (a < b))) ∧ w = w' := by
  go_enter Tryd.func63, Tryd.ntmps63
  go_wp2_with (go_at_call 64; refine (isNaN_any a _).mono ?_; rintro e w' ⟨rfl, rfl⟩)
  go_ret
  exact ⟨rfl, rfl⟩

theorem wrap_id {n : Int} (h1 : -9223372036854775808 ≤ n) (h2 : n ≤ 9223372036854775807) : IntKind.i64.wrap n = n := by
  simp [IntKind.wrap, IntKind.signed, IntKind.bits]; omega

theorem sd_step {xs : List Int} {k : Nat} {x y : Int} (hx : xs[k + 1]? = some x) (hy : xs[k]? = some y) (h : ∀ j, k + 1 ≤ j → j + 1 < xs.length → xs.getD j 0 ≤ xs.getD (j + 1) 0) (hl : ¬ x < y) :
    ∀ j, k ≤ j → j + 1 < xs.length → xs.getD j 0 ≤ xs.getD (j + 1) 0 := by
  intro j hj hjl
  by_cases e : j = k
  · subst e
    rw [List.getD_eq_getElem?_getD, List.getD_eq_getElem?_getD, hx, hy]
    simp; omega
  · exact h j (by omega) hjl

set_option maxRecDepth 100000 in
set_option maxHeartbeats 1000000 in
theorem IsSorted_any (A : Option Addr) (n c B : Nat) (xs : List Int) (w : World) (hx : Rd w B A (i64s xs)) (hn : xs.length = n) (hm1 : n ≤ maxLen) :
    Calls Tryd.prog 60 #[.slice A n c] w fun e w' => e = .returned (.bool (Pm.ask (Pm.Sd xs))) ∧ ∃ d, w' = w.drewN d := by
  unfold maxLen at hm1
  go_enter Tryd.func60, Tryd.ntmps60
  go_wp2
  go_loopw [3] (fun ix wr => ∃ (k : Int) (nd : Nat), ix = .int .i64 k ∧ -1 ≤ k ∧ k ≤ (n : Int) - 1 ∧ Hid (∀ j : Nat, k ≤ j → j + 1 < xs.length → xs.getD j 0 ≤ xs.getD (j + 1) 0) ∧ Hid (wr = w.drewN nd)) (fun ix _ => (intOf ix).toNat)
  case atStart => exact ⟨(n : Int) - 1, 0, by go_num, by omega, by omega, Lib.hid (fun j h1 h2 => by omega), Lib.hid rfl⟩
  case round =>
    obtain ⟨k, nd, rfl, hk, hk2, hT, hW⟩ := hrel
    have hx' : Rd wr B A (i64s xs) := by rw [hW.out]; exact hx
    by_cases hlt : 0 < k
    · obtain ⟨m, rfl⟩ := Int.eq_ofNat_of_zero_le (show 0 ≤ k by omega)
      obtain ⟨i, hi⟩ : ∃ i : Nat, m = i + 1 := ⟨m - 1, by omega⟩
      obtain ⟨x, hxk⟩ : ∃ x, xs[m]? = some x := ⟨xs[m]'(by omega), List.getElem?_eq_getElem (by omega)⟩
      obtain ⟨y, hyk⟩ : ∃ y, xs[i]? = some y := ⟨xs[i]'(by omega), List.getElem?_eq_getElem (by omega)⟩
      obtain ⟨ad1, rfl, _, hc1⟩ := hx'.getU hxk
      obtain ⟨ad2, e2, _, hc2⟩ := hx'.getU hyk
      obtain rfl : ad1 = ad2 := by injection e2
      have hmn : (m : Int) < (n : Int) := by omega
      have him : (i : Int) < (n : Int) := by omega
      have hi1 : (m : Int) - 1 = (i : Int) := by omega
      have hi2 : IntKind.i64.wrap ((m : Int) - 1) = (i : Int) := by rw [hi1]; exact wrap_id (by omega) (by omega)
      have HI := Lib.hid hi
      rw [hi] at hxk
      clear e2 hi
      by_cases hl : x < y
      · have HE : Hid (Pm.ask (Pm.Sd xs) = false) := Pm.ask_no (fun h => by
          have hil : i + 1 < xs.length := (List.getElem?_eq_some_iff.1 hxk).1
          have := h i hil
          rw [List.getD_eq_getElem?_getD, List.getD_eq_getElem?_getD, hxk, hyk] at this
          simp at this; omega)
        clear hxk hyk hx hx' hT
        go_wp2_with fail
        go_quiet (first | (go_at_call 63; exact Calls.quiet_of_same ((Less_any x y _).mono fun _ _ h => ⟨h.1, h.2.symm⟩)))
        go_wp2
        go_ret
        exact ⟨ret_bool HE.out.symm, nd + _, by rw [hW.out, World.drewN_drewN]⟩
      · have HS := Lib.hid (sd_step hxk hyk (fun j h1 h2 => hT.out j (by have := HI.out; omega) h2) hl)
        clear hxk hyk hx hx' hT
        go_wp2_with fail
        go_quiet (first | (go_at_call 63; exact Calls.quiet_of_same ((Less_any x y _).mono fun _ _ h => ⟨h.1, h.2.symm⟩)))
        go_wp2
        go_roundw
        case rel => exact ⟨(i : Int), nd + _, by go_num, by omega, by omega, Lib.hid (fun j h1 h2 => HS.out j (by omega) h2), Lib.hid (by rw [hW.out, World.drewN_drewN])⟩
        case measure => simp [intOf]; omega
    · have HE : Hid (Pm.ask (Pm.Sd xs) = true) := Pm.ask_yes (fun j hj => hT.out j (by omega) hj)
      clear hx hx' hT
      go_wp2
      go_ret
      exact ⟨ret_bool HE.out.symm, nd, hW.out⟩
/-- what the table of bounds holds -/
def spans : List Int := [0, 9223372036854775807, -1, 15, -1, 15, -1, 15, 0, 100, 0, 1099511627776, 0, 1099511627776, 0, 1099511627776, 0, 65535, 0, 65535]
def spv : List Value := i64s spans
theorem spv_len : spv.length = 20 := rfl
def Tab (w : World) : Prop := ∀ k, k < 20 → w.cell? ⟨0, k, none⟩ = some (.int .i64 (spans.getD k 0))

theorem Tab.below {B : Nat} {w w' : World} (h : Tab w) (hb : Below B w w') (hB : w.heap.size ≤ B) : Tab w' := fun k hk => by
  have h1 := h k hk
  have h2 : (⟨0, k, none⟩ : Addr).block < w.heap.size := World.block_lt_of_cell? w _ h1
  rw [hb.cell (by omega), h1]
theorem Tab.alloc {w : World} (h : Tab w) (o : Obj) : Tab (w.alloc o) := fun k hk => by
  have h1 := h k hk
  rw [World.cell?_alloc_lt w o _ (World.block_lt_of_cell? w _ h1), h1]

theorem info_spans : (Tryd.prog.info? 79).map (·.size) = some 20 := by kernel_rfl
theorem info_span : (Tryd.prog.info? 78).map (·.size) = some 2 := by kernel_rfl
theorem Tab.range {w : World} (h : Tab w) : w.rangeAt 0 0 spv := fun j v hv => by
    have hj : j < 20 := by have := (List.getElem?_eq_some_iff.1 hv).1; rwa [spv_len] at this
    rw [Nat.zero_add, h j hj]
    unfold spv Kc.i64s at hv
    rw [List.getElem?_map] at hv
    rw [List.getD_eq_getElem?_getD]
    cases hs : spans[j]? with
    | none => rw [hs] at hv; cases hv
    | some z => rw [hs] at hv; simpa using hv

set_option maxRecDepth 100000 in
theorem index_spans (k : Nat) (hk : k < 10) (w : World) : (Instr.index 79 (.agg spv.toArray) (.int .i64 (k : Int))).run Tryd.prog w = .ok (.agg #[.int .i64 (Pm.lows.getD k 0), .int .i64 (Pm.tops.getD k 0)]) w := by
  have hu := run_underlying (P := Tryd.prog) Tryd.underlying79 w
  have hu2 := run_underlying (P := Tryd.prog) Tryd.underlying78 w
  have hs : (sizeOf 78).run Tryd.prog w = .ok 2 w := by
    have h := info_span
    cases hq : Tryd.prog.info? 78 with
    | none => rw [hq] at h; cases h
    | some i =>
      rw [hq] at h
      simp only [Option.map_some, Option.some.injEq] at h
      simp [sizeOf, typeInfo, hq, h]
  have hlt : (k : Int) < 10 := by omega
  have hg : isAgg 78 = (do match ← underlying 78 with | .struct _ | .array _ _ => pure true | _ => pure false : Sem Bool) := rfl
  have ha : (isAgg 78).run Tryd.prog w = .ok true w := by
    rw [hg, Sem.run_bind, hu2]; rfl
  have hp : (part 78 spv.toArray (k * 2)).run Tryd.prog w = .ok (.agg (spv.toArray.extract (k * 2) (k * 2 + 2))) w := by
    unfold part
    rw [Sem.run_bind, ha]
    show (Sem.run Tryd.prog (do pure (Value.agg (spv.toArray.extract (k * 2) (k * 2 + (← sizeOf 78))))) w) = _
    rw [Sem.run_bind, hs]
    rfl
  have hpe : spv.toArray.extract (k * 2) (k * 2 + 2) = #[.int .i64 (Pm.lows.getD k 0), .int .i64 (Pm.tops.getD k 0)] := by
    match k, hk with
    | 0, _ => rfl
    | 1, _ => rfl
    | 2, _ => rfl
    | 3, _ => rfl
    | 4, _ => rfl
    | 5, _ => rfl
    | 6, _ => rfl
    | 7, _ => rfl
    | 8, _ => rfl
    | 9, _ => rfl
  rw [hpe] at hp
  unfold Instr.index
  rw [Sem.run_bind]
  simp only [asIntOf, Sem.run_pure, Result.andThen_ok, Sem.run_bind, hu]
  rw [if_pos ⟨Int.natCast_nonneg k, hlt⟩, Sem.run_bind, hs]
  exact hp

set_option maxRecDepth 100000 in
set_option maxHeartbeats 4000000 in
theorem rightI_any (ns : List Int) (A1 A2 : Option Addr) (n1 n2 c1 c2 B : Nat) (pen ch : List Int) (w : World) (hns : ns.length = 10) (hx : Rd w B A1 (i64s pen)) (hn1 : pen.length = n1) (hm1 : n1 ≤ maxLen) (hy : Rd w B A2 (i64s ch)) (hn2 : ch.length = n2) (hm2 : n2 ≤ maxLen)
    (hB : B ≤ w.heap.size) (ht : Tab w) :
    Calls Tryd.prog 49 #[.agg (i64s ns).toArray, .slice A1 n1 c1, .slice A2 n2 c2] w fun e w' => e = .returned (.bool (Pm.ask (Pm.Rt ns pen ch))) ∧ Below w.heap.size w w' := by
  have HX := Lib.hid hx
  have HY := Lib.hid hy
  have HT := Lib.hid ht
  have HN1 := Lib.hid hn1
  have HN2 := Lib.hid hn2
  have hw1 : Hid (Rd (w.alloc (.cells (i64s ns).toArray 71)) (w.heap.size + 1) (some ⟨w.heap.size, 0, none⟩) (i64s ns)) := Rd.new w (w.heap.size + 1) (i64s ns) 71 (0, 0) (by omega)
  have hb1 : Hid (Below w.heap.size w (w.alloc (.cells (i64s ns).toArray 71))) := (Below.refl _ w).alloc (Nat.le_refl _) _
  have hz1 : (w.alloc (.cells (i64s ns).toArray 71)).heap.size = w.heap.size + 1 := World.size_alloc ..
  have hld := Lib.hid (ht.alloc (.cells (i64s ns).toArray 71)).range
  clear hx hy ht hn1 hn2
  go_enter Tryd.func49, Tryd.ntmps49
  go_wp2_with (refine wpList_load_mid rfl 79 _ rfl 0 0 rfl spv _ hld.out Tryd.underlying79 rfl info_spans ?_)
  go_loopw [10] (fun ix wr => ∃ (k : Nat), ix = .int .i64 (k : Int) ∧ k ≤ 10 ∧ Hid (∀ j, j < k → Pm.At ns j) ∧ Hid (Below (w.heap.size + 1) (w.alloc (.cells (i64s ns).toArray 71)) wr)) (fun ix _ => 10 - (intOf ix).toNat)
  case atStart => exact ⟨0, rfl, by omega, Lib.hid (fun j h => absurd h (Nat.not_lt_zero j)), Lib.hid (Below.refl _ _)⟩
  case round =>
    obtain ⟨k, rfl, hk, hA, hb2⟩ := hrel
    have hsz : w.heap.size + 1 ≤ wr.heap.size := by have := hb2.out.size; rw [hz1] at this; exact this
    by_cases hlt : k < 10
    · obtain ⟨x, hxk⟩ : ∃ x, ns[k]? = some x := ⟨ns[k]'(by omega), List.getElem?_eq_getElem (by omega)⟩
      obtain ⟨ad, e1, _, hc1⟩ := (hw1.out.below hb2.out).getU hxk
      cases e1
      have hAt : Hid (Pm.At ns k = (Pm.lows.getD k 0 ≤ x ∧ x ≤ Pm.tops.getD k 0)) := by
        unfold Pm.At
        rw [List.getD_eq_getElem?_getD (l := ns), hxk]
        exact Lib.hid rfl
      have hix := index_spans k hlt
      clear hxk
      generalize Pm.lows.getD k 0 = lo at *
      generalize Pm.tops.getD k 0 = hi at *
      have hc2 : (wr.alloc (.cells #[.int .i64 lo, .int .i64 hi] 78)).cell? ((⟨w.heap.size, 0, none⟩ : Addr).add k) = some (.int .i64 x) := by
        rw [World.cell?_alloc_lt _ _ _ (by rw [addr_add_block]; omega)]; exact hc1
      have hb3 := Lib.hid (hb2.out.alloc hsz (.cells #[.int .i64 lo, .int .i64 hi] 78))
      have hc3 : (wr.alloc (.cells #[.int .i64 lo, .int .i64 hi] 78)).cell? ⟨w.heap.size, k, none⟩ = some (.int .i64 x) := by
        rw [Addr.add_mid, Nat.zero_add] at hc2; exact hc2
      clear hc1 hc2
      by_cases h0 : x < lo
      · have HE : Hid (Pm.ask (Pm.Rt ns pen ch) = false) := Pm.ask_no (fun h => by have := h.1 k hlt; rw [hAt.out] at this; omega)
        have d0 : decide (x < lo) = true := by simpa using h0
        go_wp2_with fail
        go_quiet (fail)
        go_wp2
        go_ret
        exact ⟨ret_bool HE.out.symm, below_drawn (hb1.out.trans (hb3.out.mono (by omega))) _⟩
      · have d0 : decide (x < lo) = false := by simpa using h0
        by_cases h1 : hi < x
        · have HE : Hid (Pm.ask (Pm.Rt ns pen ch) = false) := Pm.ask_no (fun h => by have := h.1 k hlt; rw [hAt.out] at this; omega)
          go_wp2_with fail
          go_quiet (fail)
          go_wp2
          go_ret
          exact ⟨ret_bool HE.out.symm, below_drawn (hb1.out.trans (hb3.out.mono (by omega))) _⟩
        · have HA : Hid (∀ j, j < k + 1 → Pm.At ns j) := by
            intro j hj
            by_cases e : j = k
            · rw [e, hAt.out]; omega
            · exact hA.out j (by omega)
          go_wp2_with fail
          go_quiet (fail)
          go_wp2
          go_roundw
          case rel => exact ⟨k + 1, by go_num, by omega, HA, Lib.hid (below_drawn hb3.out _)⟩
          case measure => simp [intOf]; omega
    · obtain rfl : k = 10 := by omega
      have hbw := Lib.hid (hb1.out.trans (hb2.out.mono (Nat.le_succ _)))
      have HP := Lib.hid (boundedI_any A1 n1 c1 B pen 16 1000000 wr (HX.out.below (hbw.out.mono hB)) HN1.out hm1)
      have HC := Lib.hid (boundedL_any A2 n2 c2 B ch 8 1099511627776 wr (HY.out.below (hbw.out.mono hB)) HN2.out hm2)
      have HS := Lib.hid (IsSorted_any A2 n2 c2 B ch wr (HY.out.below (hbw.out.mono hB)) HN2.out hm2)
      by_cases p1 : Pm.Bd pen 16 1000000
      · rw [Pm.ask_yes p1] at HP
        by_cases p2 : Pm.Bd ch 8 1099511627776
        · rw [Pm.ask_yes p2] at HC
          have HE : Hid (Pm.ask (Pm.Rt ns pen ch) = Pm.ask (Pm.Sd ch)) := by
            by_cases p3 : Pm.Sd ch
            · rw [Pm.ask_yes p3]; exact Pm.ask_yes ⟨hA.out, p1, p2, p3⟩
            · rw [Pm.ask_no p3]; exact Pm.ask_no (fun h => p3 h.2.2.2)
          clear p1 p2
          go_wp2_with (go_at_call 58; fail)
          refine HP.out.mono ?_
          rintro e w' ⟨rfl, rfl⟩
          go_wp2_with (go_at_call 59; fail)
          refine HC.out.mono ?_
          rintro e w' ⟨rfl, rfl⟩
          go_wp2_with (go_at_call 60; fail)
          refine HS.out.mono ?_
          rintro e w' ⟨rfl, nd, rfl⟩
          go_wp2
          go_ret
          exact ⟨ret_bool HE.out.symm, below_drawn hbw.out _⟩
        · rw [Pm.ask_no p2] at HC
          have HE : Hid (Pm.ask (Pm.Rt ns pen ch) = false) := Pm.ask_no (fun h => p2 h.2.2.1)
          clear p1 p2
          go_wp2_with (go_at_call 58; fail)
          refine HP.out.mono ?_
          rintro e w' ⟨rfl, rfl⟩
          go_wp2_with (go_at_call 59; fail)
          refine HC.out.mono ?_
          rintro e w' ⟨rfl, rfl⟩
          go_wp2
          go_ret
          exact ⟨ret_bool HE.out.symm, hbw.out⟩
      · rw [Pm.ask_no p1] at HP
        have HE : Hid (Pm.ask (Pm.Rt ns pen ch) = false) := Pm.ask_no (fun h => p1 h.2.1)
        clear p1
        go_wp2_with (go_at_call 58; refine HP.out.mono ?_; rintro e w' ⟨rfl, rfl⟩)
        go_ret
        exact ⟨ret_bool HE.out.symm, hbw.out⟩

/-- a plan's value, cell by cell -/
def pvs (x : Pm.Pl) (A : Option Addr) (n c : Nat) (A' : Option Addr) (n' c' : Nat) : List Value :=
  [.int .i64 x.e, .int .i64 x.t, .int .i64 x.p, .int .i64 x.s, .int .i64 x.c, .int .i64 x.st, .int .i64 x.si, .int .i64 x.ra, .int .u64 x.up, .int .u64 x.su, .slice A n c, .slice A' n' c']
theorem pv_eq (x : Pm.Pl) (A : Option Addr) (n c : Nat) (A' : Option Addr) (n' c' : Nat) : pv x A n c A' n' c' = .agg (pvs x A n c A' n' c').toArray := rfl

/-- a plan's lists lie where its value says -/
structure PlAt (w : World) (B : Nat) (x : Pm.Pl) (A : Option Addr) (n c : Nat) (A' : Option Addr) (n' c' : Nat) : Prop where
  ok : x.Ok
  r1 : Rd w B A (i64s x.pen)
  l1 : x.pen.length = n
  m1 : n ≤ maxLen
  r2 : Rd w B A' (i64s x.ch)
  l2 : x.ch.length = n'
  m2 : n' ≤ maxLen
theorem PlAt.below {w w' : World} {B B' : Nat} {x : Pm.Pl} {A : Option Addr} {n c : Nat} {A' : Option Addr} {n' c' : Nat} (h : PlAt w B x A n c A' n' c') (hb : Below B' w w') (hB : B ≤ B') : PlAt w' B x A n c A' n' c' :=
  ⟨h.ok, h.r1.below (hb.mono hB), h.l1, h.m1, h.r2.below (hb.mono hB), h.l2, h.m2⟩
theorem PlAt.more {w : World} {B B' : Nat} {x : Pm.Pl} {A : Option Addr} {n c : Nat} {A' : Option Addr} {n' c' : Nat} (h : PlAt w B x A n c A' n' c') (hB : B ≤ B') : PlAt w B' x A n c A' n' c' :=
  ⟨h.ok, h.r1.more hB, h.l1, h.m1, h.r2.more hB, h.l2, h.m2⟩

/-- a plan in a block of its own -/
def Bx (w : World) (b : Nat) (x : Pm.Pl) (A : Option Addr) (n c : Nat) (A' : Option Addr) (n' c' : Nat) : Prop := w.rangeAt b 0 (pvs x A n c A' n' c')
section
variable {w w' : World} {b : Nat} {x : Pm.Pl} {A : Option Addr} {n c : Nat} {A' : Option Addr} {n' c' : Nat}
theorem Bx.at (h : Bx w b x A n c A' n' c') (j : Nat) {v : Value} (hv : (pvs x A n c A' n' c')[j]? = some v) : w.cell? ⟨b, j, none⟩ = some v := by
  have := h j v hv
  rwa [Nat.zero_add] at this
theorem Bx.pen (h : Bx w b x A n c A' n' c') : w.cell? ⟨b, 10, none⟩ = some (.slice A n c) := h.at 10 rfl
theorem Bx.ch (h : Bx w b x A n c A' n' c') : w.cell? ⟨b, 11, none⟩ = some (.slice A' n' c') := h.at 11 rfl
theorem Bx.below {B : Nat} (h : Bx w b x A n c A' n' c') (hb : Below B w w') (hB : b < B) : Bx w' b x A n c A' n' c' := fun j v hv => by
  rw [hb.cell (by exact hB)]; exact h j v hv
theorem Bx.drewN (h : Bx w b x A n c A' n' c') (k : Nat) : Bx (w.drewN k) b x A n c A' n' c' := h
theorem Bx.new (w : World) (x : Pm.Pl) (A : Option Addr) (n c : Nat) (A' : Option Addr) (n' c' : Nat) (t : TypeId) : Bx (w.alloc (.cells (pvs x A n c A' n' c').toArray t)) w.heap.size x A n c A' n' c' := fun j v hv => by
  have := (Rd.new w (w.heap.size + 1) (pvs x A n c A' n' c') t (0, 0) (by omega)) j v hv
  obtain ⟨ad, e, _, hc⟩ := this
  cases e
  rw [Addr.add_mid] at hc
  exact hc
end

theorem info_plan : (Tryd.prog.info? 28).map (·.size) = some 12 := by kernel_rfl

theorem exec_load {P : Program} {a : Act} {o : Oper} {w : World} (ty : TypeId) (x : Operand) (ho : o.op = .load ty x) (b : Nat) (hx : a.eval x = .pointer (some ⟨b, 0, none⟩)) (cs : List Value) (d : TypeDesc) (hr : w.rangeAt b 0 cs)
    (hu : P.underlying ty = some d) (hd : d.isRow = true) (hi : (P.info? ty).map (·.size) = some cs.length) : (execOp a.eval o).run P w = .ok (.value (.agg cs.toArray)) w := by
  unfold execOp
  simp only [ho, hx, Instr.loadAt, Instr.sureAddr, Sem.run_bind, Sem.run_pure, Result.andThen_ok, run_loadVar_mid w b 0 ty cs d hr hu hd hi]

set_option maxRecDepth 100000 in
set_option maxHeartbeats 4000000 in
theorem Right_any (x : Pm.Pl) (A : Option Addr) (n c : Nat) (A' : Option Addr) (n' c' : Nat) (B : Nat) (w : World) (hp : PlAt w B x A n c A' n' c') (hB : B ≤ w.heap.size) (ht : Tab w) :
    Calls Tryd.prog 36 #[pv x A n c A' n' c'] w fun e w' => e = .returned (.bool x.right) ∧ Below w.heap.size w w' := by
  have HP := Lib.hid hp
  have HT := Lib.hid ht
  have hx1 := Lib.hid (Bx.new w x A n c A' n' c' 28)
  have hb1 : Hid (Below w.heap.size w (w.alloc (.cells (pvs x A n c A' n' c').toArray 28))) := (Below.refl _ w).alloc (Nat.le_refl _) _
  clear hp ht
  rw [pv_eq]
  have HNU := Lib.hid (fun W => numbersOf_any x A n c A' n' c' W HP.out.ok)
  rw [pv_eq] at HNU
  have HX := Lib.hid (fun (W : World) (h : Below (w.heap.size + 1) (w.alloc (.cells (pvs x A n c A' n' c').toArray 28)) W) => (hx1.out.below h (Nat.lt_succ_self _) : Bx W w.heap.size x A n c A' n' c'))
  have HR : Hid (∀ (W : World), Below (w.heap.size + 1) (w.alloc (.cells (pvs x A n c A' n' c').toArray 28)) W → W.rangeAt w.heap.size 0 (pvs x A n c A' n' c')) := HX.out
  have hz1 : (w.alloc (.cells (pvs x A n c A' n' c').toArray 28)).heap.size = w.heap.size + 1 := World.size_alloc ..
  have hlen : (pvs x A n c A' n' c').length = 12 := rfl
  generalize pvs x A n c A' n' c' = L at *
  clear hx1
  go_enter Tryd.func36, Tryd.ntmps36
  go_wp2_with fail
  refine region_C (fun W => Below (w.heap.size + 1) (w.alloc (.cells L.toArray 28)) W) (by kernel_rfl) ?_
  have hC : Below (w.heap.size + 1) (w.alloc (.cells L.toArray 28)) (w.alloc (.cells L.toArray 28)).drew := (Below.refl _ _).drew
  refine anyC_take (i := 0) (v := ?v0_95) (a' := ?a0_95) rfl (by kernel_rfl) (by kernel_rfl) (by kernel_rfl) (fun _ _ _ h => h) hC ?w0_95 ?y0_95 ?f0_95 ?r0_95
  case w0_95 => kernel_rfl
  case y0_95 => (intro W hW; exact by refine exec_load 28 (.tmp 1) ?_ w.heap.size ?_ L _ (HR.out _ hW) Tryd.underlying28 rfl (by rw [hlen]; exact info_plan) <;> rfl)
  case f0_95 => (go_simp; try with_reducible rfl)
  refine anyC_take (i := 2) (v := ?v2_96) (a' := ?a2_96) rfl (by kernel_rfl) (by kernel_rfl) (by kernel_rfl) (fun _ _ _ h => h) hC ?w2_96 ?y2_96 ?f2_96 ?r2_96
  case w2_96 => kernel_rfl
  case y2_96 => (intro w hC; go_simp; try with_reducible rfl)
  case f2_96 => (go_simp; try with_reducible rfl)
  refine anyC_take (i := 4) (v := ?v4_97) (a' := ?a4_97) rfl (by kernel_rfl) (by kernel_rfl) (by kernel_rfl) (fun _ _ _ h => h) hC ?w4_97 ?y4_97 ?f4_97 ?r4_97
  case w4_97 => kernel_rfl
  case y4_97 => (intro w hC; go_simp; try with_reducible rfl)
  case f4_97 => (go_simp; try with_reducible rfl)
  refine anyC_take (i := 3) (v := ?v3_98) (a' := ?a3_98) rfl (by kernel_rfl) (by kernel_rfl) (by kernel_rfl) (fun _ _ _ h => h) hC ?w3_98 ?y3_98 ?f3_98 ?r3_98
  case w3_98 => kernel_rfl
  case y3_98 => (intro w hC; have h4 := (HX.out w hC).pen; go_simp; try with_reducible rfl)
  case f3_98 => (go_simp; try with_reducible rfl)
  refine anyC_take (i := 5) (v := ?v5_99) (a' := ?a5_99) rfl (by kernel_rfl) (by kernel_rfl) (by kernel_rfl) (fun _ _ _ h => h) hC ?w5_99 ?y5_99 ?f5_99 ?r5_99
  case w5_99 => kernel_rfl
  case y5_99 => (intro w hC; have h4 := (HX.out w hC).ch; go_simp; try with_reducible rfl)
  case f5_99 => (go_simp; try with_reducible rfl)
  refine anyC_one (i := 1) rfl (by kernel_rfl) (by kernel_rfl) (fun K hK => ?_)
  go_simp
  refine (HNU.out _).mono ?_
  rintro e w2 ⟨rfl, hb2⟩
  have hC2 : Below (w.heap.size + 1) (w.alloc (.cells L.toArray 28)) w2 := hC.trans (hb2.mono (by simp))
  refine hK _ _ ⟨hC2, ?_⟩
  refine anyC_one (i := 6) rfl (by kernel_rfl) (by kernel_rfl) (fun K hK => ?_)
  go_simp
  have hb3 := hb1.out.trans (hC2.mono (Nat.le_succ _))
  refine (rightI_any x.nums A A' n n' c c' B x.pen x.ch w2 rfl (HP.out.r1.below (hb3.mono hB)) HP.out.l1 HP.out.m1 (HP.out.r2.below (hb3.mono hB)) HP.out.l2 HP.out.m2 (Nat.le_trans hB hb3.size) (HT.out.below hb3 (Nat.le_refl _))).mono ?_
  rintro e w4 ⟨rfl, hb4⟩
  have hC4 : Below (w.heap.size + 1) (w.alloc (.cells L.toArray 28)) w4 := hC2.trans (hb4.mono (by have := hC2.size; rw [hz1] at this; exact this))
  refine hK _ _ ⟨hC4, ?_⟩
  refine anyC_take (i := 7) (v := ?v7_100) (a' := ?a7_100) rfl (by kernel_rfl) (by kernel_rfl) (by kernel_rfl) (fun _ _ _ h => h) hC4 ?w7_100 ?y7_100 ?f7_100 ?r7_100
  case w7_100 => kernel_rfl
  case y7_100 => (intro w hC; go_simp; try with_reducible rfl)
  case f7_100 => (go_simp; try with_reducible rfl)
  refine anyC_done (by kernel_rfl) ?_
  go_wp2
  go_ret
  exact ⟨rfl, hb1.out.trans (hC4.mono (Nat.le_succ _))⟩

end Go.Proofs.YtpbogacodhjlfaaDoor.Pr
namespace Go.Proofs.YtpbogacodhjlfaaDoor
open Go.RowKit Go.Shelf Km Kx Kc Kt
theorem Tabs.t {w : World} (h : Tabs w) : Pr.Tab w := h.s
theorem Tabs.below {B : Nat} {w w' : World} (h : Tabs w) (hb : Below B w w') (hB : w.heap.size ≤ B) : Tabs w' := ⟨h.d.below hb hB, h.b.below hb hB, Pr.Tab.below h.t hb hB⟩
theorem rt_iff (x : Gm.Pl) (hx : x.Ok) : x.right = true ↔ RightP x := by
  have hs : ∀ u : Int, Pm.U u → (0 ≤ Pm.sg u ∧ Pm.sg u ≤ 65535 ↔ u ≤ 65535) := fun u hu => by
    unfold Pm.U at hu
    unfold Pm.sg
    split <;> omega
  have hU := hs _ hx.up
  have hS := hs _ hx.su
  have he := hx.e
  unfold Pm.I at he
  have ha : x.right = true ↔ Pm.Rt x.nums x.pen x.ch := by
    unfold Pm.Pl.right
    by_cases h : Pm.Rt x.nums x.pen x.ch
    · rw [Pm.ask_yes h]; exact ⟨fun _ => h, fun _ => rfl⟩
    · rw [Pm.ask_no h]; exact ⟨fun q => (by cases q), fun q => absurd q h⟩
  rw [ha]
  constructor
  · rintro ⟨h, ⟨p1, p2⟩, ⟨c1, c2⟩, sd⟩
    have h0 : 0 ≤ x.e ∧ x.e ≤ _ := h 0 (by decide)
    have h1 : -1 ≤ x.t ∧ x.t ≤ 15 := h 1 (by decide)
    have h2 : -1 ≤ x.p ∧ x.p ≤ 15 := h 2 (by decide)
    have h3 : -1 ≤ x.s ∧ x.s ≤ 15 := h 3 (by decide)
    have h4 : 0 ≤ x.c ∧ x.c ≤ 100 := h 4 (by decide)
    have h5 : 0 ≤ x.st ∧ x.st ≤ 1099511627776 := h 5 (by decide)
    have h6 : 0 ≤ x.si ∧ x.si ≤ 1099511627776 := h 6 (by decide)
    have h7 : 0 ≤ x.ra ∧ x.ra ≤ 1099511627776 := h 7 (by decide)
    have h8 : 0 ≤ Pm.sg x.up ∧ Pm.sg x.up ≤ 65535 := h 8 (by decide)
    have h9 : 0 ≤ Pm.sg x.su ∧ Pm.sg x.su ≤ 65535 := h 9 (by decide)
    exact ⟨h0.1, h1.1, by omega, h2.1, by omega, h3.1, by omega, h4.1, h4.2, h5, h6, h7, hU.1 h8, hS.1 h9, p1, c1, p2, c2, sd⟩
  · intro h
    refine ⟨fun k hk => ?_, ⟨h.np, h.pen⟩, ⟨h.nc, h.ch⟩, h.sd⟩
    match k, hk with
    | 0, _ => exact ⟨h.e, he.2⟩
    | 1, _ => exact ⟨h.t1, by have := h.t2; show x.t ≤ 15; omega⟩
    | 2, _ => exact ⟨h.p1, by have := h.p2; show x.p ≤ 15; omega⟩
    | 3, _ => exact ⟨h.s1, by have := h.s2; show x.s ≤ 15; omega⟩
    | 4, _ => exact ⟨h.c1, h.c2⟩
    | 5, _ => exact h.st
    | 6, _ => exact h.si
    | 7, _ => exact h.ra
    | 8, _ => exact hU.2 h.up
    | 9, _ => exact hS.2 h.su
theorem PlanRight_any (x : Gm.Pl) (A : Option Addr) (n c0 : Nat) (A' : Option Addr) (n' c' : Nat) (B : Nat) (w : World) (hp : PAt w B x A n c0 A' n' c') (hB : B ≤ w.heap.size) (hn : n ≤ 9000000) (hn' : n' ≤ 9000000) (ht : Tabs w) :
    Calls Tryd.prog 36 #[.agg (pc x A n c0 A' n' c').toArray] w (Says w (RightP x)) := by
  refine (Pr.Right_any x A n c0 A' n' c' B w ⟨hp.ok, hp.pen, hp.n, by unfold maxLen; omega, hp.ch, hp.n', by unfold maxLen; omega⟩ hB ht.t).mono ?_
  rintro e w' ⟨rfl, hb⟩
  exact ⟨_, rfl, rt_iff x hp.ok, hb⟩
end Go.Proofs.YtpbogacodhjlfaaDoor
