import Derived.Test.YtmddekhflmacpaaDoorLSums
namespace Go.Proofs.YtmddekhflmacpaaDoor
open Go.RowKit Go.Shelf

set_option maxRecDepth 100000 in
set_option maxHeartbeats 2000000 in
theorem pieces_walk (a0 : Option Addr) (len0 cap0 : Nat) (z0 : List Int) (a1 : Option Addr) (len1 cap1 : Nat) (z1 : List Int) (w : World) (w0 : RowOf .u8 w a0 len0 cap0 z0) (w1 : RowOf .u8 w a1 len1 cap1 z1)
    (_s0 : cap0 * 1 ≤ 140737488351232) (_s1 : cap1 * 1 ≤ 140737488351232) (u0 : cap0 ≤ 1048576) (u1 : cap1 ≤ 1048576) (t0 : TabAt w) :
    Calls Tryd.prog 4 #[.slice a0 len0 cap0, .slice a1 len1 cap1] w fun e w' => e = .returned (.bool true) ∧ Below w.heap.size w w' := by
  obtain ⟨xs, hn, hc, hm, hr, hw⟩ := row_rd w0
  obtain ⟨ys, hn1, hc1, hm1, hr1, hw1⟩ := row_rd w1
  have HB := Lib.hid (wf_u8 hw)
  have HB1 := Lib.hid (wf_u8 hw1)
  have HN := Lib.hid hn
  have HN1 := Lib.hid hn1
  obtain ⟨i0, hi, hz0, hz1, hz2⟩ := info_parts info_u8
  clear w0 w1 hw hw1 hn hn1
  have HA := Lib.hid (Cm.crc_app 0#32 xs ys)
  obtain ⟨q, hq⟩ : ∃ q, q = Cm.crc 0#32 xs := ⟨_, rfl⟩
  have HQ := Lib.hid hq
  have HQ0 := Lib.hid (Cm.crc_nil q)
  clear hq
  have HL : Hid ((xs ++ ys).length = len0 + len1) := by show _ = _; rw [List.length_append, HN.out, HN1.out]
  have HBA : Hid (∀ x ∈ xs ++ ys, 0 ≤ x ∧ x ≤ 255) := fun x hx => by
    rcases List.mem_append.1 hx with h | h
    · exact HB.out x h
    · exact HB1.out x h
  have hml : len0 ≤ maxLen := by unfold maxLen; omega
  have hml1 : len1 ≤ maxLen := by unfold maxLen; omega
  have hml2 : len0 + len1 ≤ maxLen := by unfold maxLen; omega
  go_enter Tryd.func4, Tryd.ntmps4
  go_wp2_with (first
    | (go_at_call 9; refine (head_any _ t0.tab).mono ?_; rintro e w1 ⟨rfl, hb1⟩; have ht1 := t0.tab.below hb1 (Nat.le_refl _); have hmade := World.ownsRow_made (base := w1.heap.size) (e := 5) (size := 1) w1 #[] 0 (Nat.le_refl _) (by unfold maxLen; omega) (by simp))
    | (at_builtin; refine wpList_app rfl _ _ 23 rfl w1.heap.size 5 i0 (.int .u8 0) 1 Tryd.underlying23 hi hz0 hz1 hz2 rfl _ _ _ rfl hmade w.heap.size a0 len0 cap0 (u8s xs) rfl (by rw [List.length_map]; exact HN.out) ((hr.below hb1).alloc hb1.size _) (oneCell_ints _ _) (by unfold maxLen; omega) (by omega) (by simp) ?_; intro v2 w2 hown2 hgrow2 _; have hb2 := below_app ((Below.refl w1.heap.size w1).alloc (Nat.le_refl _) _) hmade hgrow2 (by simp); rw [Nat.zero_add, List.nil_append] at hown2; obtain ⟨A2, c2, rfl, hcp2, hcm2, hrd2⟩ := own_view hown2)
    | (at_builtin; refine wpList_app rfl _ _ 23 rfl w1.heap.size 5 i0 (.int .u8 0) 1 Tryd.underlying23 hi hz0 hz1 hz2 rfl _ _ _ rfl hown2 w.heap.size a1 len1 cap1 (u8s ys) rfl (by rw [List.length_map]; exact HN1.out) ((hr1.below hb1).below (hb2.mono hb1.size)) (oneCell_ints _ _) (by unfold maxLen; omega) (by omega) hb2.size ?_; intro v3 w3 hown3 hgrow3 _; have hb3 := below_app (hb2.mono (Nat.le_refl _)) hown2 hgrow3 hb2.size; obtain ⟨A3, c3, rfl, hcp3, hcm3, hrd3⟩ := own_view hown3)
    | (go_at_call 10; fail))
  have hb13 := hb1.trans (hb3.mono hb1.size)
  rw [← List.map_append] at hrd3
  have ht3 := ht1.below hb3 (Nat.le_refl _)
  have hr0' := hr.below hb13
  have hr1' := hr1.below hb13
  have HS3 := Lib.hid (Sum_any A3 (len0 + len1) c3 w3.heap.size (xs ++ ys) w3 hrd3 HL.out hml2 HBA.out ht3)
  rw [HA.out, ← HQ.out] at HS3
  have HS0 := Lib.hid (Sum_any a0 len0 cap0 w.heap.size xs w3 hr0' HN.out hml HB.out ht3)
  rw [← HQ.out] at HS0
  have HD := Lib.hid (Add_any q a1 len1 cap1 w.heap.size ys w3 hr1' HN1.out hml1 HB1.out ht3)
  have HD0 := Lib.hid (Add_any q none 0 0 0 [] w3 (Rd.nil _ _ _) rfl (by unfold maxLen; omega) (by simp) ht3)
  rw [HQ0.out] at HD0
  have HBB := Lib.hid hb13
  clear hmade hgrow2 hown2 hrd2 hgrow3 hown3 hrd3 hb2 hb3 hb13 hb1 hr0' hr1' hr hr1 ht3 ht1
  refine HS0.out.mono ?_
  rintro e w' ⟨rfl, rfl⟩
  go_wp2_with fail
  refine HD.out.mono ?_
  rintro e w' ⟨rfl, rfl⟩
  go_wp2_with fail
  refine HS3.out.mono ?_
  rintro e w' ⟨rfl, rfl⟩
  go_wp2_with fail
  refine HS0.out.mono ?_
  rintro e w' ⟨rfl, rfl⟩
  go_wp2_with fail
  refine HD0.out.mono ?_
  rintro e w' ⟨rfl, rfl⟩
  go_wp2_with fail
  refine HS0.out.mono ?_
  rintro e w' ⟨rfl, rfl⟩
  go_wp2_with fail
  go_ret
  exact ⟨rfl, HBB.out⟩
end Go.Proofs.YtmddekhflmacpaaDoor
