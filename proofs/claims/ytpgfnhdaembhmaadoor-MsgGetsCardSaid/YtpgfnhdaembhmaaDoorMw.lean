/- The live question of the laws on messages. -/
import Derived.Test.YtpgfnhdaembhmaaDoorMv
namespace Go.Proofs.YtpgfnhdaembhmaaDoor
open Go.RowKit Go.Shelf

namespace Mm
/-- the message that the live question writes -/
def hm : Ms := ⟨1, 1, 2, 0, 0, 0, 7, 0, 0, 0, false, Pm.zero, [], [], []⟩
theorem hm_ok : hm.Ok := ⟨⟨by decide, by decide⟩, ⟨by decide, by decide⟩, ⟨by decide, by decide⟩, ⟨by decide, by decide⟩, ⟨by decide, by decide⟩, ⟨by decide, by decide⟩, ⟨by decide, by decide⟩, ⟨by decide, by decide⟩, ⟨by decide, by decide⟩, ⟨by decide, by decide⟩,
  Pm.ok_zero, fits_nil, Fm.By.nil, Fm.By.nil⟩
theorem hm_right : hm.right = true := right_iff.2 ⟨by decide, by decide, ⟨by decide, by decide⟩, ⟨by decide, by decide⟩, by decide, by decide, by decide, psame_yes, .inl rfl, by decide, by decide⟩

theorem fget_frm {k : Int} {b : List Int} (hk : 0 ≤ k ∧ k ≤ 255) (hb : Fm.By b) (hl : b.length ≤ 8192) : Fm.get (Fm.frm k b) 0 = (k, b, ((Fm.frm k b).length : Int), 0) := by
  have h1 := Fm.g1_frm (k := k) (r := []) hl
  rw [List.append_nil] at h1
  have h2 : Fm.get (Fm.frm k b) 0 = _ := Fm.get_some (n := 0) (Nat.zero_le _) (Fm.frm_by hk hb hl) (k := k) (x := b) h1
  rw [h2, Nat.zero_add, Fm.frm_len]
theorem get_put {x : Ms} (hx : x.Ok) (h : x.right = true) : get x.put.1 = (x, 0) := by
  obtain ⟨h1, h2, -⟩ := right_iff.1 h
  rw [put_ok h]
  dsimp only
  have e := fget_frm (k := x.k) ⟨by omega, by omega⟩ (body_by hx h) (body_len h)
  rw [get_of (by rw [e]) (by rw [e]), e]
  exact of_put hx h
end Mm
theorem hm_built : Tryd.prog.built 30 (#[(0, .int .i64 1), (1, .int .i64 1), (2, .int .i64 2), (6, .int .i64 7)] : Array (Nat × Value)).toList = some (mvs Mm.hm Lo.zero).toArray := by kernel_rfl

set_option maxRecDepth 100000 in
set_option maxHeartbeats 4000000 in
theorem mhead_any (w : World) (ht : Tab w) (hh : HTab w) : Calls Tryd.prog 9 #[] w fun e w' => e = .returned (.bool true) ∧ Below w.heap.size w w' := by
  have hbx := range_new w (mvs Mm.hm Lo.zero) 30
  have hb1 := Lib.hid ((Below.refl w.heap.size w).alloc (Nat.le_refl _) (.cells (mvs Mm.hm Lo.zero).toArray 30))
  have hz1 : (w.alloc (.cells (mvs Mm.hm Lo.zero).toArray 30)).heap.size = w.heap.size + 1 := World.size_alloc ..
  have hpa : ∀ W, MsAt W 0 Mm.hm Lo.zero := fun W => ⟨Mm.hm_ok, PlAt.zero _ _, Rd.nil _ _ _, rfl, Nat.le_refl _, Nat.zero_le _, Rd.nil _ _ _, rfl, Nat.le_refl _, Nat.zero_le _, Rd.nil _ _ _, rfl, Nat.le_refl _, Nat.zero_le _⟩
  have HT := Lib.hid (fun (W : World) (h : Below w.heap.size w W) => ht.below h (Nat.le_refl _))
  have HH := Lib.hid (fun (W : World) (h : Below w.heap.size w W) => hh.below h (Nat.le_refl _))
  have HP := Lib.hid (fun (W : World) (h : Below w.heap.size w W) => MPut_any Mm.hm Lo.zero 0 W (hpa W) (Nat.zero_le _) (HT.out W h) (HH.out W h))
  have HPZ := Lib.hid (fun (W : World) (h : Below w.heap.size w W) => MPut_any Mm.zero Lo.zero 0 W (MsAt.zero _ _) (Nat.zero_le _) (HT.out W h) (HH.out W h))
  rw [show Mm.hm.put.2 = 0 from by rw [Mm.put_ok Mm.hm_right]] at HP
  rw [show Mm.zero.put.2 = 51 from by rw [Mm.put_no Mm.zero_no]] at HPZ
  have HRI := Lib.hid (fun (W : World) (h : Below w.heap.size w W) => MRight_any Mm.hm Lo.zero 0 W (hpa W) (Nat.zero_le _) (HT.out W h))
  rw [Mm.hm_right] at HRI
  have HSA := Lib.hid (fun (W : World) (l : Lo) (B : Nat) (h : MsAt W B Mm.hm l) (hB : B ≤ W.heap.size) => MSame_any Mm.hm Mm.hm Lo.zero l 0 B W (hpa W) h (Nat.zero_le _) hB)
  rw [show Mm.same Mm.hm Mm.hm = true from Mm.same_yes] at HSA
  have HG := Lib.hid (Mm.get_put Mm.hm_ok Mm.hm_right)
  have HBY := Lib.hid (Mm.put_by Mm.hm_ok)
  generalize Mm.hm.put.1 = b at *
  have HBX := Lib.hid (fun (W : World) (h : Below (w.heap.size + 1) (w.alloc (.cells (mvs Mm.hm Lo.zero).toArray 30)) W) => range_below hbx h (Nat.lt_succ_self _))
  have HW := Lib.hid (fun (W : World) (h : Below (w.heap.size + 1) (w.alloc (.cells (mvs Mm.hm Lo.zero).toArray 30)) W) => hb1.out.trans (h.mono (Nat.le_succ _)))
  have hC1 := Lib.hid (Below.refl (w.heap.size + 1) (w.alloc (.cells (mvs Mm.hm Lo.zero).toArray 30)))
  have HZ1 := Lib.hid hz1
  have hi1 : Hid ((Tryd.prog.info? 30).map (·.size) = some (mvs Mm.hm Lo.zero).length) := info_msg
  have hi2 : Hid ((Tryd.prog.info? 30).map (·.size) = some (mvs Mm.hm Lo.zero).toArray.size) := info_msg
  have hs0 : Hid (26 = (mvs Mm.hm Lo.zero).toArray.size) := rfl
  have ho1 := Lib.hid (mvs_one Mm.hm Lo.zero)
  have hbu := Lib.hid hm_built
  clear ht hh hbx hz1 hpa
  unfold mv at HP HRI HSA
  obtain ⟨L, hL⟩ : ∃ L, L = mvs Mm.hm Lo.zero := ⟨_, rfl⟩
  rw [← hL] at HP HRI HSA HBX HW hC1 HZ1 hi1 hi2 hs0 ho1 hbu hb1
  clear hL
  go_enter Tryd.func9, Tryd.ntmps9
  go_wp2_with (first | ((with_reducible refine wpList_gate ?_); refine wpList_build rfl 30 _ rfl #[(0, .int .i64 1), (1, .int .i64 1), (2, .int .i64 2), (6, .int .i64 7)] (by kernel_rfl) L.toArray hbu.out ?_) | ((with_reducible refine wpList_gate ?_); refine wpList_store_new rfl 30 _ _ rfl _ L.toArray rfl rfl hi2.out hs0.out ho1.out ?_) | ((with_reducible refine wpList_gate ?_); refine wpList_load_mid rfl 30 _ rfl w.heap.size 0 rfl L _ (HBX.out _ hC1.out) Tryd.underlying30 rfl hi1.out ?_) | (go_at_call 10; fail))
  refine (HP.out _ hb1.out).mono ?_
  rintro e w2 ⟨v2, rfl, hown2, hb2⟩
  obtain ⟨A2, c2, rfl, hcp2, hcm2, hrd2⟩ := own_view hown2
  rw [HZ1.out] at hb2
  have hC2 := Lib.hid (hC1.out.trans hb2)
  have HGE := Lib.hid (MGet_any A2 b.length c2 w2.heap.size b w2 hrd2 rfl hcp2 hcm2 (Nat.le_refl _) HBY.out (HT.out _ (HW.out _ hC2.out)) (HH.out _ (HW.out _ hC2.out)))
  rw [HG.out] at HGE
  clear hown2 hb2 hrd2 HP
  go_wp2_with (go_at_call 16; fail)
  refine HGE.out.mono ?_
  rintro e w3 ⟨l3, rfl, hms3, -, hb3⟩
  have hz2 : w.heap.size + 1 ≤ w2.heap.size := by have := hC2.out.size; rwa [HZ1.out] at this
  have hC3 := Lib.hid (hC2.out.trans (hb3.mono hz2))
  have hz3 := Nat.le_trans hz2 hb3.size
  have hC4 := Lib.hid (hC3.out.alloc hz3 (.cells (mvs Mm.hm l3).toArray 30))
  have hb4 : Below w3.heap.size w3 (w3.alloc (.cells (mvs Mm.hm l3).toArray 30)) := (Below.refl _ _).alloc (Nat.le_refl _) _
  have hz4 : (w3.alloc (.cells (mvs Mm.hm l3).toArray 30)).heap.size = w3.heap.size + 1 := World.size_alloc ..
  have HMS4 := Lib.hid (hms3.below hb4 (Nat.le_refl _))
  have HRX4 := Lib.hid (range_new w3 (mvs Mm.hm l3) 30)
  have HZ4 := Lib.hid hz4
  have HN7 : Hid ((mvs Mm.hm l3)[6]? = some (.int .i64 7)) := rfl
  have hi3 : Hid ((Tryd.prog.info? 30).map (·.size) = some (mvs Mm.hm l3).length) := info_msg
  have hi4 : Hid ((Tryd.prog.info? 30).map (·.size) = some (mvs Mm.hm l3).toArray.size) := info_msg
  have hs4 : Hid (26 = (mvs Mm.hm l3).toArray.size) := rfl
  have ho4 := Lib.hid (mvs_one Mm.hm l3)
  have HSA4 := Lib.hid (fun (W : World) => HSA.out W l3)
  clear hb3 hms3 hb4 hz4 HGE HSA
  unfold mv at HSA4 ⊢
  obtain ⟨M, hM⟩ : ∃ M, M = mvs Mm.hm l3 := ⟨_, rfl⟩
  rw [← hM] at hC4 HMS4 HRX4 HZ4 HN7 hi3 hi4 hs4 ho4 HSA4 ⊢
  clear hM
  go_wp2_with (first | ((with_reducible refine wpList_gate ?_); refine wpList_store_new rfl 30 _ _ rfl _ M.toArray rfl rfl hi4.out hs4.out ho4.out ?_; generalize World.alloc w3 _ = w4 at *) | ((with_reducible refine wpList_gate ?_); refine wpList_build rfl 30 _ rfl #[] rfl (mvs Mm.zero Lo.zero).toArray zmsg_built ?_) | (go_at_call 10; fail))
  refine (HPZ.out _ (HW.out _ hC4.out)).mono ?_
  rintro e w5 ⟨v5, rfl, hown5, hb5⟩
  have hb5' : Below (w3.heap.size + 1) w4 w5 := by rw [← HZ4.out]; exact hb5
  have hz5 : w3.heap.size + 1 ≤ w5.heap.size := by have := hb5.size; rwa [HZ4.out] at this
  have hC5 := Lib.hid (hC4.out.trans (hb5'.mono (by omega)))
  have HMS5 := Lib.hid (HMS4.out.below hb5' (Nat.le_succ _))
  have HRX5 := Lib.hid (range_below HRX4.out hb5' (Nat.lt_succ_self _))
  have k6 := range_at HRX5.out 6 HN7.out
  have HBX5 := Lib.hid (HBX.out _ hC5.out)
  have HS5 := Lib.hid (HSA4.out w5 w3.heap.size HMS5.out (by omega))
  clear hown5 hb5 hb5' HPZ HSA4 HMS4 HRX4
  go_wp2_with (first | ((with_reducible refine wpList_gate ?_); refine wpList_load_on 30 _ rfl w.heap.size 0 rfl L _ HBX5.out Tryd.underlying30 rfl hi1.out (by kernel_rfl) ?_) | ((with_reducible refine wpList_gate ?_); refine wpList_load_on 30 _ rfl w3.heap.size 0 rfl M _ HRX5.out Tryd.underlying30 rfl hi3.out (by kernel_rfl) ?_) | (go_at_call 21; fail))
  refine HS5.out.mono ?_
  rintro e w6 ⟨rfl, hb6⟩
  have hC6 := Lib.hid (hC5.out.trans (hb6.mono (by omega)))
  have HBX6 := Lib.hid (HBX.out _ hC6.out)
  have hz6 := Nat.le_trans hz5 hb6.size
  clear hb6 HS5 HBX5 HRX5 k6
  go_wp2_with (first | ((with_reducible refine wpList_gate ?_); refine wpList_load_on 30 _ rfl w.heap.size 0 rfl L _ HBX6.out Tryd.underlying30 rfl hi1.out (by kernel_rfl) ?_) | (go_at_call 14; fail))
  refine (HRI.out _ (HW.out _ hC6.out)).mono ?_
  rintro e w7 ⟨rfl, hb7⟩
  have hw7 := Lib.hid (HW.out _ (hC6.out.trans (hb7.mono (by omega))))
  go_wp2
  go_ret
  exact ⟨rfl, hw7.out⟩
end Go.Proofs.YtpgfnhdaembhmaaDoor
