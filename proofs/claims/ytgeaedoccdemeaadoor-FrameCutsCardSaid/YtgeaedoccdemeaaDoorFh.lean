/- The live question of frames. -/
import Derived.Test.YtgeaedoccdemeaaDoorFr
import Derived.Lib.SlBytesConst
namespace Go.Proofs.YtgeaedoccdemeaaDoor
open Go.RowKit Go.Shelf

theorem get_frm {k : Int} {b : List Int} (hk : 0 ≤ k ∧ k ≤ 255) (hb : Fm.By b) (hl : b.length ≤ 8192) : Fm.get (Fm.frm k b) 0 = (k, b, (((b.length + 8 : Nat)) : Int), 0) := by
  have h := Fm.get_some (b := Fm.frm k b) (n := 0) (k := k) (x := b) (by omega) (Fm.frm_by hk hb hl) (by have := Fm.g1_frm (k := k) (b := b) (r := []) hl; rwa [List.append_nil] at this)
  rw [Nat.zero_add] at h
  exact h

set_option maxRecDepth 100000 in
set_option maxHeartbeats 2000000 in
theorem head_any (w : World) (ht : Tab w) : Calls Tryd.prog 10 #[] w fun e w' => e = .returned (.bool true) ∧ Below w.heap.size w w' := by
  have hP : Hid (Fm.put 1 [97] = (Fm.frm 1 [97], 0)) := Fm.put_ok (by decide)
  have hG : Hid (Fm.get (Fm.frm 1 [97]) 0 = (1, [97], 9, 0)) := get_frm (by omega) (by unfold Fm.By; decide) (by decide)
  have hZ : Hid (Fm.get [0] 0 = (0, [], 0, 32)) := by show _ = _; decide
  have hFB := Lib.hid (Fm.frm_by (k := 1) (b := [97]) (by omega) (by unfold Fm.By; decide) (by decide))
  have hFL : Hid ((Fm.frm 1 [97]).length = 9) := Fm.frm_len _ _
  have hstr : strOfNums [97] = ⟨#[97]⟩ := rfl
  have kc := Lib.run_convert_bytes_const (P := Tryd.prog) w 22 5 #[.int .u8 97] 1 1 Tryd.underlying22 Tryd.underlying5
  obtain ⟨w1, hw1⟩ : ∃ w1, w1 = w.alloc (.cells #[.int .u8 97] 5 (1, 2)) := ⟨_, rfl⟩
  have R1 : Hid (Rd w1 (w.heap.size + 1) (some ⟨w.heap.size, 0, none⟩) (u8s [97])) := by rw [hw1]; exact Rd.new w (w.heap.size + 1) (u8s [97]) 5 (1, 2) (by omega)
  have T1 : Hid (Tab w1) := by rw [hw1]; exact ht.alloc _
  have hb1 : Below w.heap.size w w1 := by rw [hw1]; exact (Below.refl _ w).alloc (Nat.le_refl _) _
  have hs1 : w1.heap.size = w.heap.size + 1 := by rw [hw1]; simp
  have HB := Lib.hid hb1
  rw [show (#[Value.int .u8 97] : Array Value).size = 1 from rfl] at kc
  rw [← hw1] at kc
  clear hw1 ht hb1
  go_enter Tryd.func10, Tryd.ntmps10
  go_wp2_with (go_at_call 11; fail)
  refine (Put_any 1 (some ⟨w.heap.size, 0, none⟩) 1 1 (w.heap.size + 1) [97] w1 (by omega) R1.out rfl (by omega) (by unfold maxLen; omega) (by omega) (by unfold Fm.By; decide) T1.out).mono ?_
  rw [hP.out]
  dsimp only
  rw [hFL.out]
  rintro e w2 ⟨v2, rfl, hown2, hb2⟩
  obtain ⟨A2, c2, rfl, hcp2, hcm2, hrd2⟩ := own_view hown2
  have HB2 := Lib.hid (HB.out.trans (hb2.mono (by omega)))
  have HT2 := Lib.hid (T1.out.below hb2 (Nat.le_refl _))
  have HR2 := Lib.hid hrd2
  clear hown2 hb2 hrd2 kc hs1
  go_wp2_with (go_at_call 13; fail)
  refine (Get_any A2 9 c2 w2.heap.size (Fm.frm 1 [97]) 0 w2 HR2.out hFL.out hcp2 hcm2 (Nat.le_refl _) hFB.out HT2.out (by omega) (by omega)).mono ?_
  rw [hG.out]
  dsimp only
  rw [show ([97] : List Int).length = 1 from rfl]
  rintro e w3 ⟨v3, rfl, hown3, hb3⟩
  obtain ⟨A3, c3, rfl, hcp3, hcm3, hrd3⟩ := own_view hown3
  have HB3 := Lib.hid (HB2.out.trans (hb3.mono HB2.out.size))
  have HT3 := Lib.hid (HT2.out.below hb3 (Nat.le_refl _))
  have HR3 := Lib.hid hrd3
  clear hown3 hb3 hrd3 HB2 HT2 HR2
  go_wp2_with (go_at_call 13; fail)
  refine (Get_any (some ⟨w3.heap.size, 0, none⟩) 1 1 (w3.heap.size + 1) [0] 0 (w3.alloc (.cells #[.int .u8 0] 5)) (by exact Rd.new w3 (w3.heap.size + 1) (u8s [0]) 5 (0, 0) (by omega)) rfl (by omega) (by unfold maxLen; omega) (by simp) (by unfold Fm.By; decide) (HT3.out.alloc _) (by omega) (by omega)).mono ?_
  rw [hZ.out]
  dsimp only
  rintro e w4 ⟨v4, rfl, hown4, hb4⟩
  have hc3 := str_of (n := 1) (cap := c3) ((HR3.out.alloc (Nat.le_refl _) _).below (hb4.mono (by simp))) rfl
  have HB4 := Lib.hid ((HB3.out.alloc HB3.out.size _).trans (hb4.mono (by have := HB3.out.size; simp; omega)))
  clear hown4 hb4
  go_wp2_with fail
  go_ret
  exact ⟨rfl, HB4.out⟩
end Go.Proofs.YtgeaedoccdemeaaDoor
