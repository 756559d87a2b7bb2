/- A list of nodes in ascending order, each once: collected, sorted, made compact; whether a node is in it. -/
import Derived.Test.YtfdpogbhhocaeaaCd
namespace Go.Proofs.Ytfdpogbhhocaeaa
open Go.RowKit Go.Shelf Km Go.Sort
attribute [local go_sem] Oper.semAt_some

theorem Collect_in (A : Option Addr) (len cap B Bs : Nat) (zs : List Int) (hz : zs.length = len) (hm : len * 8 ≤ 140737488355328) (w : World) (hBs : Bs < w.heap.size) (hc : w.cell? ⟨Bs, 0, none⟩ = some (.slice A len cap)) (hr : Rd w B A (i64s zs)) (hB : B ≤ w.heap.size) :
    CallsIn Fence.wide 5 Try.prog 27 #[.func (.func 29) #[] #[.pointer (some ⟨Bs, 0, none⟩)]] w fun e w' => ∃ v, e = .returned v ∧
      w'.ownsRow w.heap.size 3 1 v zs.length (i64s zs) ∧ Below w.heap.size w w' := by
  subst hz
  refine callsIn_of_wp Try.func27 rfl trivial ?_ rfl
  simp only [Try.ntmps27, List.size_toArray, List.length_cons, List.length_nil, Nat.reduceAdd, Nat.reduceSub, Array.replicate_succ, Array.replicate_zero, List.push_toArray, List.append_toArray, List.nil_append, List.cons_append]
  gi_wp2_with (gi_at_call 32; fail)
  refine ⟨trivial, (AppendSeq_in A _ cap B Bs zs rfl hm w hBs hc hr hB).mono ?_⟩
  rintro e w' ⟨v, rfl, hrow, hb⟩
  gi_wp2
  go_ret
  exact ⟨v, rfl, hrow, hb⟩

set_option maxHeartbeats 2000000 in
theorem Sorted_in (A : Option Addr) (len cap B Bs : Nat) (zs : List Int) (hz : zs.length = len) (hm : len * 8 ≤ 140737488355328) (w : World) (hBs : Bs < w.heap.size) (hc : w.cell? ⟨Bs, 0, none⟩ = some (.slice A len cap)) (hr : Rd w B A (i64s zs)) (hB : B ≤ w.heap.size) :
    CallsIn Fence.wide 6 Try.prog 23 #[.func (.func 29) #[] #[.pointer (some ⟨Bs, 0, none⟩)]] w fun e w' => ∃ v, e = .returned v ∧
      w'.ownsRow w.heap.size 3 1 v zs.length (i64s (srt zs)) ∧ Below w.heap.size w w' := by
  subst hz
  refine callsIn_of_wp Try.func23 rfl trivial ?_ rfl
  simp only [Try.ntmps23, List.size_toArray, List.length_cons, List.length_nil, Nat.reduceAdd, Nat.reduceSub, Array.replicate_succ, Array.replicate_zero, List.push_toArray, List.append_toArray, List.nil_append, List.cons_append]
  gi_wp2_with (gi_at_call 27; fail)
  refine ⟨trivial, (Collect_in A _ cap B Bs zs rfl hm w hBs hc hr hB).mono ?_⟩
  rintro e w1 ⟨v, rfl, hrow, hb⟩
  have hrow2 := hrow
  rcases hrow.2 with ⟨rfl, hz0⟩ | ⟨gb, cap2, cur, rfl, hbase, hgb, r1, r2, r3, r4⟩
  · have hss : zs = [] := List.eq_nil_of_length_eq_zero hz0
    subst hss
    gi_wp2_with (gi_at_call 28; fail)
    refine ⟨trivial, (callsIn_wide.2 (slices_Sort_int_none none 0 w1)).mono ?_⟩
    rintro e w' ⟨rfl, e9⟩
    subst e9
    gi_wp2
    go_ret
    exact ⟨.slice none 0 0, rfl, by simpa [srt] using hrow2, hb⟩
  · have hH : Holds (Value.int .i64) w1 gb 0 zs.toArray := holds_of_block_i hgb (by simpa [i64s] using r4)
    have hgl : gb < w1.heap.size := (Array.getElem?_eq_some_iff.1 hgb).1
    have HS := Lib.hid (callsIn_wide (n := 5).2 (slices_Sort_int gb 0 cap2 zs w1 hH hgl (by omega)))
    have ho := fun q os => ownsRow_sorted_i (os := os) (n := q) (ss := zs) (ts := srt zs) (srt_len zs) hbase hgb r1 r2 r3
    have hbb := fun q os => hb.grown (grownBy_sorted_i (n := q) (os := os) (srt zs).toArray) hb.size (fun j hj => by cases hj; exact hbase)
    have HO := Lib.hid ho
    have HB := Lib.hid hbb
    clear hH hgl ho hbb hrow hrow2 r1 r2 r3 r4 hgb
    gi_wp2_with (gi_at_call 28; fail)
    refine ⟨trivial, HS.out.mono ?_⟩
    rintro e w2 ⟨rfl, q, os, e2⟩
    have h1 := HO.out q os
    have h2 := HB.out q os
    rw [show (srt zs).toArray = (zs.mergeSort fun x y => decide (x ≤ y)).toArray from rfl] at h1 h2
    have h1' : w2.ownsRow w.heap.size 3 1 (.slice (some ⟨gb, 0, none⟩) zs.length cap2) zs.length (i64s (srt zs)) := by rw [e2]; exact h1
    have h2' : Below w.heap.size w w2 := by rw [e2]; exact h2
    clear e2 h1 h2
    gi_wp2
    go_ret
    exact ⟨_, rfl, h1', h2'⟩

/-- nodes, in blocks made since -/
def Nds (base : Nat) (w : World) (v : Value) (zs : List Int) : Prop := ∃ A c, v = .slice A zs.length c ∧ zs.length ≤ c ∧ c ≤ maxLen ∧ Rd w w.heap.size A (i64s zs) ∧ Fr base A ∧ (zs = [] ∨ ∃ b, A = some ⟨b, 0, none⟩)
theorem grow_none (w : World) : grow w #[] = w := by unfold grow; simp

set_option maxHeartbeats 2000000 in
theorem distinct_any (A : Option Addr) (len cap B : Nat) (zs : List Int) (hz : zs.length = len) (hm : len * 8 ≤ 140737488355328) (w : World) (hr : Rd w B A (i64s zs)) (hB : B ≤ w.heap.size) :
    Calls Try.prog 16 #[.slice A len cap] w fun e w' => ∃ v, e = .returned v ∧ Nds w.heap.size w' v (dst zs) ∧ Below w.heap.size w w' := by
  refine (callsIn_wide (n := 7)).1 ?_
  subst hz
  have hb1 : Below w.heap.size w (w.alloc (.cells #[.slice A zs.length cap] 23)) := (Below.refl _ w).alloc (Nat.le_refl _) _
  have hs1 : (w.alloc (.cells #[.slice A zs.length cap] 23)).heap.size = w.heap.size + 1 := World.size_alloc ..
  have HS := Lib.hid (Sorted_in A _ cap B w.heap.size zs rfl hm (w.alloc (.cells #[.slice A zs.length cap] 23)) (by omega) (Boxed.new w 23 (.slice A zs.length cap)).cell (hr.below (hb1.mono hB)) (by omega))
  refine callsIn_of_wp Try.func16 rfl trivial ?_ rfl
  simp only [Try.ntmps16, List.size_toArray, List.length_cons, List.length_nil, Nat.reduceAdd, Nat.reduceSub, Array.replicate_succ, Array.replicate_zero, List.push_toArray, List.append_toArray, List.nil_append, List.cons_append]
  gi_wp2_with (gi_at_call 24; fail)
  refine ⟨trivial, (Values_in 6 A zs.length cap w).mono ?_⟩
  rintro e w' ⟨rfl, rfl⟩
  gi_wp2_with (gi_at_call 23; fail)
  refine ⟨trivial, HS.out.mono ?_⟩
  generalize w.alloc (.cells #[.slice A zs.length cap] 23) = w0 at *
  rintro e w1 ⟨v, rfl, hrow, hb⟩
  have hbw : Below w.heap.size w w1 := hb1.trans (hb.mono (by omega))
  rcases hrow.2 with ⟨rfl, hz0⟩ | ⟨gb, cap2, cur, rfl, hbase, hgb, r1, r2, r3, r4⟩
  · have hss : zs = [] := List.eq_nil_of_length_eq_zero hz0
    subst hss
    gi_wp2_with (gi_at_call 22; fail)
    refine ⟨trivial, (callsIn_wide.2 (slices_Compact_int_empty none 0 w1)).mono ?_⟩
    rintro e w' ⟨rfl, e9⟩
    subst e9
    gi_wp2
    go_ret
    refine ⟨_, rfl, ?_, hbw⟩
    rw [dst_nil]
    exact ⟨none, 0, rfl, Nat.le_refl _, Nat.zero_le _, Rd.nil _ _ _, Fr.none, .inl rfl⟩
  · have hlz : (srt zs).length = zs.length := srt_len zs
    have hH : Holds (Value.int .i64) w1 gb 0 (srt zs).toArray := holds_of_block_i hgb (by simpa [hlz, i64s] using r4)
    have hm9 : cap2 ≤ 9223372036854775807 := by unfold maxLen at r2; omega
    have HS2 := Lib.hid (callsIn_wide (n := 6).2 (slices_Compact_int gb 0 cap2 (srt zs) w1 hH (by omega) (by omega)))
    rw [hlz] at HS2
    have hdl := dst_len zs
    have hll : (dst zs ++ List.replicate (zs.length - (dst zs).length) 0).length = zs.length := by rw [List.length_append, List.length_replicate]; omega
    have ho := fun q => ownsRow_sorted_i (os := #[]) (n := q) (ss := zs) (ts := dst zs ++ List.replicate (zs.length - (dst zs).length) 0) hll hbase hgb r1 r2 r3
    have hbb := fun q => hbw.grown (grownBy_sorted_i (w := w1) (g := gb) (n := q) (os := #[]) (dst zs ++ List.replicate (zs.length - (dst zs).length) 0).toArray) hbw.size (fun j hj => by cases hj; omega)
    have HO := Lib.hid ho
    have HB := Lib.hid hbb
    clear hH ho hbb hrow r3 r4 hgb
    gi_wp2_with (gi_at_call 22; fail)
    refine ⟨trivial, HS2.out.mono ?_⟩
    rintro e w2 ⟨rfl, q, e2⟩
    have h1 := HO.out q
    have h2 := HB.out q
    rw [grow_none] at h1 h2
    have h1' : w2.ownsRow w0.heap.size 3 1 (.slice (some ⟨gb, 0, none⟩) zs.length cap2) zs.length (i64s (dst zs ++ List.replicate (zs.length - (dst zs).length) 0)) := by rw [e2]; exact h1
    have h2' : Below w.heap.size w w2 := by rw [e2]; exact h2
    clear e2 h1 h2
    gi_wp2
    go_ret
    refine ⟨_, rfl, ⟨_, cap2, rfl, by show (dst zs).length ≤ cap2; omega, r2, ?_, (own_fr h1').mono (by omega), .inr ⟨gb, rfl⟩⟩, h2'⟩
    have h3 := (Rd.of_own h1').take (dst zs).length
    unfold i64s at h3 ⊢
    rw [← List.map_take, List.take_left' rfl] at h3
    exact h3

theorem has_any (v : Value) (base : Nat) (zs : List Int) (x : Int) (w : World) (hv : Nds base w v zs) (hs : zs.Pairwise (· ≤ ·)) (hm : zs.length ≤ 100000000) :
    Calls Try.prog 20 #[v, .int .i64 x] w fun e w' => e = .returned (.bool (decide (x ∈ zs))) ∧ ∃ q, w' = w.drewN q := by
  obtain ⟨A, c, rfl, hc, hcm, hr, -, ho⟩ := hv
  have hd : decide (x ∈ zs) = zs.contains x := by rw [List.contains_eq_mem]
  rw [hd]
  rcases ho with rfl | ⟨b, rfl⟩
  · go_enter Try.func20, Try.ntmps20
    go_wp2_with (go_at_call 26; refine (slices_BinarySearch_int_empty A c x w).mono ?_; rintro e w' ⟨rfl, rfl⟩)
    go_ret
    exact ⟨rfl, 0, rfl⟩
  · have hcl : ∀ j, j < zs.length → w.cell? ⟨b, 0 + j, none⟩ = some (.int .i64 (zs.getD j 0)) := fun j hj => by
      obtain ⟨ad, e, -, h⟩ := hr j _ (i64s_get (List.getElem?_eq_getElem hj))
      cases e
      rw [Addr.add_mid] at h
      rw [h, List.getD_eq_getElem?_getD, List.getElem?_eq_getElem hj]
      rfl
    have HS := Lib.hid (slices_BinarySearch_int b 0 zs.length c zs x w (Nat.le_refl _) (by omega) hcl (by rw [List.take_length]; exact hs))
    rw [List.take_length] at HS
    clear hcl hr hs hd
    generalize (zs.countP (· < x) : Nat) = q1 at HS
    generalize zs.contains x = bb at *
    go_enter Try.func20, Try.ntmps20
    go_wp2_with (go_at_call 26; fail)
    refine HS.out.mono ?_
    rintro e w' ⟨rfl, q, e9⟩
    clear HS
    go_wp2
    go_ret
    exact ⟨rfl, q, rfl⟩
end Go.Proofs.Ytfdpogbhhocaeaa
