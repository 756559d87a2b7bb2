/- The law MsgGets walked. -/
import Derived.Test.YtpgfnhdaembhmaaDoorMw
import Derived.Test.YtpgfnhdaembhmaaDoorMh
import Derived.Test.YtpgfnhdaembhmaaDoorMx
namespace Go.Proofs.YtpgfnhdaembhmaaDoor
open Go.RowKit Go.Shelf

set_option maxRecDepth 100000 in
set_option maxHeartbeats 8000000 in
theorem mgets_walk (a : Option Addr) (len cap : Nat) (z : List Int) (k : Int) (a' : Option Addr) (len' cap' : Nat) (z' : List Int) (w : World) (hr : RowOf .u8 w a len cap z) (hk : (Lit.int .u8 k).wf = true) (hr' : RowOf .u8 w a' len' cap' z') (ht : Tab w) (hh : HTab w) :
    Calls Tryd.prog 4 #[.slice a len cap, .int .u8 k, .slice a' len' cap'] w fun e w' => e = .returned (.bool true) ∧ Below w.heap.size w w' := by
  obtain ⟨bs, hbl, hlc, hcm, hbr, hbw⟩ := row_rd hr
  obtain ⟨cs, hcl, hlc', hcm', hcr, hcw⟩ := row_rd hr'
  have hbb := wf_u8 hbw
  have hcb := wf_u8 hcw
  have hk8 : 0 ≤ k ∧ k ≤ 255 := by simpa [Lit.wf, IntKind.min, IntKind.max, IntKind.signed, IntKind.bits] using hk
  have HT := Lib.hid (fun (W : World) (h : Below w.heap.size w W) => ht.below h (Nat.le_refl _))
  have HH := Lib.hid (fun (W : World) (h : Below w.heap.size w W) => hh.below h (Nat.le_refl _))
  have HD := Lib.hid (mhead_any w ht hh)
  have HG := Lib.hid (fun (W : World) (h : Below w.heap.size w W) => MGet_any a len cap w.heap.size bs W (hbr.below h) hbl hlc hcm h.size hbb (HT.out W h) (HH.out W h))
  have HR := Lib.hid (fun (W : World) (h : Below w.heap.size w W) => RMGet_any a len cap w.heap.size bs W (hbr.below h) hbl hlc hcm h.size hbb)
  have HO := Lib.hid (fun (W : World) (h : Below w.heap.size w W) => MOf_any k a' len' cap' w.heap.size cs W hk8 (hcr.below h) hcl hlc' hcm' h.size hcb (HT.out W h))
  have HQ := Lib.hid (fun (W : World) (h : Below w.heap.size w W) => ROf_any k a' len' cap' w.heap.size cs W hk8 (hcr.below h) hcl hlc' hcm' h.size hcb)
  clear hr hr' hk ht hh hbl hlc hcm hbr hbw hcl hlc' hcm' hcr hcw hbb hcb hk8
  generalize Mm.get bs = Y at *
  generalize Mm.of k cs = Z at *
  obtain ⟨Y1, Y2⟩ := Y
  obtain ⟨Z1, Z2⟩ := Z
  dsimp only at *
  go_enter Tryd.func4, Tryd.ntmps4
  go_wp2_with (go_at_call 9; fail)
  refine HD.out.mono ?_
  rintro e w0 ⟨rfl, hb0⟩
  have hw0 := Lib.hid hb0
  clear hb0 HD
  go_wp2_with (first | (go_at_call 16; fail))
  refine (HG.out _ hw0.out).mono ?_
  rintro e w1 ⟨l0, rfl, hms, -, hb⟩
  have hw1 := Lib.hid (hw0.out.trans (hb.mono hw0.out.size))
  have hb' : Below w1.heap.size w1 (w1.alloc (.cells (mvs Y1 l0).toArray 30)) := (Below.refl _ _).alloc (Nat.le_refl _) _
  have hw2 := Lib.hid (hw1.out.trans (hb'.mono hw1.out.size))
  have HM0 := Lib.hid ((hms.below hb' (Nat.le_refl _)).more hb'.size)
  have HX0 := Lib.hid (range_new w1 (mvs Y1 l0) 30)
  have hz0 : Hid ((w1.alloc (.cells (mvs Y1 l0).toArray 30)).heap.size = w1.heap.size + 1) := World.size_alloc ..
  have ha0 : Hid ((Tryd.prog.info? 30).map (·.size) = some (mvs Y1 l0).toArray.size) := info_msg
  have hi0 : Hid ((Tryd.prog.info? 30).map (·.size) = some (mvs Y1 l0).length) := info_msg
  have hs0 : Hid (26 = (mvs Y1 l0).toArray.size) := rfl
  have ho0 := Lib.hid (mvs_one Y1 l0)
  clear hb hms hb' HG
  unfold mv
  obtain ⟨R0, hR0⟩ : ∃ R, R = mvs Y1 l0 := ⟨_, rfl⟩
  have HE0 := Lib.hid hR0
  rw [← hR0] at hw2 HM0 HX0 hz0 ha0 hi0 hs0 ho0  ⊢
  clear hR0
  go_wp2_with (first | ((with_reducible refine wpList_gate ?_); refine wpList_store_new rfl 30 _ _ rfl _ R0.toArray rfl rfl ha0.out hs0.out ho0.out ?_; generalize World.alloc w1 _ = w2 at *) | (go_at_call 17; fail))
  refine (HR.out _ hw2.out).mono ?_
  rintro e w3 ⟨l1, rfl, hms, -, hb⟩
  have hw3 := Lib.hid (hw2.out.trans (hb.mono hw2.out.size))
  have hb' : Below w3.heap.size w3 (w3.alloc (.cells (mvs Y1 l1).toArray 30)) := (Below.refl _ _).alloc (Nat.le_refl _) _
  have hw4 := Lib.hid (hw3.out.trans (hb'.mono hw3.out.size))
  have HM1 := Lib.hid ((hms.below hb' (Nat.le_refl _)).more hb'.size)
  have HX1 := Lib.hid (range_new w3 (mvs Y1 l1) 30)
  have hz1 : Hid ((w3.alloc (.cells (mvs Y1 l1).toArray 30)).heap.size = w3.heap.size + 1) := World.size_alloc ..
  have ha1 : Hid ((Tryd.prog.info? 30).map (·.size) = some (mvs Y1 l1).toArray.size) := info_msg
  have hi1 : Hid ((Tryd.prog.info? 30).map (·.size) = some (mvs Y1 l1).length) := info_msg
  have hs1 : Hid (26 = (mvs Y1 l1).toArray.size) := rfl
  have ho1 := Lib.hid (mvs_one Y1 l1)
  have HM0_1 := Lib.hid ((HM0.out.below (hb.trans (hb'.mono hb.size)) (Nat.le_refl _)).more (Nat.le_trans hb.size hb'.size))
  have HX0_1 := Lib.hid (range_below HX0.out (hb.trans (hb'.mono hb.size)) (by rw [hz0.out]; omega))
  have hq0_1 : Hid (w1.heap.size < (w3.alloc (.cells (mvs Y1 l1).toArray 30)).heap.size) := by
    have h1 := hb.size
    have h2 := hb'.size
    have h3 := hz0.out
    show _ < _
    omega
  clear HM0 HX0
  clear hb hms hb' HR
  unfold mv
  obtain ⟨R1, hR1⟩ : ∃ R, R = mvs Y1 l1 := ⟨_, rfl⟩
  have HE1 := Lib.hid hR1
  rw [← hR1] at hw4 HM1 HX1 hz1 ha1 hi1 hs1 ho1 HM0_1 HX0_1 hq0_1 ⊢
  clear hR1
  go_wp2_with (first | ((with_reducible refine wpList_gate ?_); refine wpList_store_new rfl 30 _ _ rfl _ R1.toArray rfl rfl ha1.out hs1.out ho1.out ?_; generalize World.alloc w3 _ = w4 at *) | (go_at_call 18; fail))
  refine (HO.out _ hw4.out).mono ?_
  rintro e w5 ⟨l2, rfl, hms, -, hb⟩
  have hw5 := Lib.hid (hw4.out.trans (hb.mono hw4.out.size))
  have hb' : Below w5.heap.size w5 (w5.alloc (.cells (mvs Z1 l2).toArray 30)) := (Below.refl _ _).alloc (Nat.le_refl _) _
  have hw6 := Lib.hid (hw5.out.trans (hb'.mono hw5.out.size))
  have HM2 := Lib.hid ((hms.below hb' (Nat.le_refl _)).more hb'.size)
  have HX2 := Lib.hid (range_new w5 (mvs Z1 l2) 30)
  have hz2 : Hid ((w5.alloc (.cells (mvs Z1 l2).toArray 30)).heap.size = w5.heap.size + 1) := World.size_alloc ..
  have ha2 : Hid ((Tryd.prog.info? 30).map (·.size) = some (mvs Z1 l2).toArray.size) := info_msg
  have hi2 : Hid ((Tryd.prog.info? 30).map (·.size) = some (mvs Z1 l2).length) := info_msg
  have hs2 : Hid (26 = (mvs Z1 l2).toArray.size) := rfl
  have ho2 := Lib.hid (mvs_one Z1 l2)
  have HM0_2 := Lib.hid ((HM0_1.out.below (hb.trans (hb'.mono hb.size)) (Nat.le_refl _)).more (Nat.le_trans hb.size hb'.size))
  have HX0_2 := Lib.hid (range_below HX0_1.out (hb.trans (hb'.mono hb.size)) (by have := hq0_1.out; omega))
  have hq0_2 : Hid (w1.heap.size < (w5.alloc (.cells (mvs Z1 l2).toArray 30)).heap.size) := by
    have h1 := hb.size
    have h2 := hb'.size
    have h3 := hq0_1.out
    show _ < _
    omega
  have HM1_2 := Lib.hid ((HM1.out.below (hb.trans (hb'.mono hb.size)) (Nat.le_refl _)).more (Nat.le_trans hb.size hb'.size))
  have HX1_2 := Lib.hid (range_below HX1.out (hb.trans (hb'.mono hb.size)) (by rw [hz1.out]; omega))
  have hq1_2 : Hid (w3.heap.size < (w5.alloc (.cells (mvs Z1 l2).toArray 30)).heap.size) := by
    have h1 := hb.size
    have h2 := hb'.size
    have h3 := hz1.out
    show _ < _
    omega
  clear HM0_1 HX0_1 HM1 HX1
  clear hb hms hb' HO
  unfold mv
  obtain ⟨R2, hR2⟩ : ∃ R, R = mvs Z1 l2 := ⟨_, rfl⟩
  have HE2 := Lib.hid hR2
  rw [← hR2] at hw6 HM2 HX2 hz2 ha2 hi2 hs2 ho2 HM0_2 HX0_2 hq0_2 HM1_2 HX1_2 hq1_2 ⊢
  clear hR2
  go_wp2_with (first | ((with_reducible refine wpList_gate ?_); refine wpList_store_new rfl 30 _ _ rfl _ R2.toArray rfl rfl ha2.out hs2.out ho2.out ?_; generalize World.alloc w5 _ = w6 at *) | (go_at_call 19; fail))
  refine (HQ.out _ hw6.out).mono ?_
  rintro e w7 ⟨l3, rfl, hms, -, hb⟩
  have hw7 := Lib.hid (hw6.out.trans (hb.mono hw6.out.size))
  have hb' : Below w7.heap.size w7 (w7.alloc (.cells (mvs Z1 l3).toArray 30)) := (Below.refl _ _).alloc (Nat.le_refl _) _
  have hw8 := Lib.hid (hw7.out.trans (hb'.mono hw7.out.size))
  have HM3 := Lib.hid ((hms.below hb' (Nat.le_refl _)).more hb'.size)
  have HX3 := Lib.hid (range_new w7 (mvs Z1 l3) 30)
  have hz3 : Hid ((w7.alloc (.cells (mvs Z1 l3).toArray 30)).heap.size = w7.heap.size + 1) := World.size_alloc ..
  have ha3 : Hid ((Tryd.prog.info? 30).map (·.size) = some (mvs Z1 l3).toArray.size) := info_msg
  have hi3 : Hid ((Tryd.prog.info? 30).map (·.size) = some (mvs Z1 l3).length) := info_msg
  have hs3 : Hid (26 = (mvs Z1 l3).toArray.size) := rfl
  have ho3 := Lib.hid (mvs_one Z1 l3)
  have HM0_3 := Lib.hid ((HM0_2.out.below (hb.trans (hb'.mono hb.size)) (Nat.le_refl _)).more (Nat.le_trans hb.size hb'.size))
  have HX0_3 := Lib.hid (range_below HX0_2.out (hb.trans (hb'.mono hb.size)) (by have := hq0_2.out; omega))
  have hq0_3 : Hid (w1.heap.size < (w7.alloc (.cells (mvs Z1 l3).toArray 30)).heap.size) := by
    have h1 := hb.size
    have h2 := hb'.size
    have h3 := hq0_2.out
    show _ < _
    omega
  have HM1_3 := Lib.hid ((HM1_2.out.below (hb.trans (hb'.mono hb.size)) (Nat.le_refl _)).more (Nat.le_trans hb.size hb'.size))
  have HX1_3 := Lib.hid (range_below HX1_2.out (hb.trans (hb'.mono hb.size)) (by have := hq1_2.out; omega))
  have hq1_3 : Hid (w3.heap.size < (w7.alloc (.cells (mvs Z1 l3).toArray 30)).heap.size) := by
    have h1 := hb.size
    have h2 := hb'.size
    have h3 := hq1_2.out
    show _ < _
    omega
  have HM2_3 := Lib.hid ((HM2.out.below (hb.trans (hb'.mono hb.size)) (Nat.le_refl _)).more (Nat.le_trans hb.size hb'.size))
  have HX2_3 := Lib.hid (range_below HX2.out (hb.trans (hb'.mono hb.size)) (by rw [hz2.out]; omega))
  have hq2_3 : Hid (w5.heap.size < (w7.alloc (.cells (mvs Z1 l3).toArray 30)).heap.size) := by
    have h1 := hb.size
    have h2 := hb'.size
    have h3 := hz2.out
    show _ < _
    omega
  clear HM0_2 HX0_2 HM1_2 HX1_2 HM2 HX2
  clear hb hms hb' HQ
  unfold mv
  obtain ⟨R3, hR3⟩ : ∃ R, R = mvs Z1 l3 := ⟨_, rfl⟩
  have HE3 := Lib.hid hR3
  rw [← hR3] at hw8 HM3 HX3 hz3 ha3 hi3 hs3 ho3 HM0_3 HX0_3 hq0_3 HM1_3 HX1_3 hq1_3 HM2_3 HX2_3 hq2_3 ⊢
  clear hR3
  have hyy : (Y2 == Y2) = true := by rw [beq_self_eq_true]
  have hzz : (Z2 == Z2) = true := by rw [beq_self_eq_true]
  have HS1 := Lib.hid (RMSame_any Y1 Y1 l0 l1 _ _ _ HM0_3.out HM1_3.out (Nat.le_refl _) (Nat.le_refl _))
  have HS2 := Lib.hid (fun (W : World) h1 h2 => RMSame_any Z1 Z1 l2 l3 (w7.alloc (.cells R3.toArray 30)).heap.size (w7.alloc (.cells R3.toArray 30)).heap.size W h1 h2)
  rw [show Mm.same Y1 Y1 = true from Mm.same_yes] at HS1
  rw [show Mm.same Z1 Z1 = true from Mm.same_yes] at HS2
  unfold mv at HS1 HS2
  rw [← HE0.out, ← HE1.out] at HS1
  rw [← HE2.out, ← HE3.out] at HS2
  go_wp2_with (first | ((with_reducible refine wpList_gate ?_); refine wpList_store_new rfl 30 _ _ rfl _ R3.toArray rfl rfl ha3.out hs3.out ho3.out ?_; generalize World.alloc w7 _ = w8 at *) | ((with_reducible refine wpList_gate ?_); refine wpList_load_on 30 _ rfl w1.heap.size 0 rfl R0 _ (HX0_3.out) Tryd.underlying30 rfl hi0.out (by kernel_rfl) ?_) | ((with_reducible refine wpList_gate ?_); refine wpList_load_on 30 _ rfl w3.heap.size 0 rfl R1 _ (HX1_3.out) Tryd.underlying30 rfl hi1.out (by kernel_rfl) ?_) | (go_at_call 20; fail))
  refine HS1.out.mono ?_
  rintro e w9 ⟨rfl, hb9⟩
  have hw9 := Lib.hid (hw8.out.trans (hb9.mono hw8.out.size))
  have HX2' := Lib.hid (range_below HX2_3.out hb9 hq2_3.out)
  have HX3' := Lib.hid (range_below HX3.out hb9 (by rw [hz3.out]; omega))
  have HS2' := Lib.hid (HS2.out w9 (HM2_3.out.below hb9 (Nat.le_refl _)) (HM3.out.below hb9 (Nat.le_refl _)) hb9.size hb9.size)
  clear hb9 HS1 HS2
  go_wp2_with (first | ((with_reducible refine wpList_gate ?_); refine wpList_load_on 30 _ rfl w5.heap.size 0 rfl R2 _ (HX2'.out) Tryd.underlying30 rfl hi2.out (by kernel_rfl) ?_) | ((with_reducible refine wpList_gate ?_); refine wpList_load_on 30 _ rfl w7.heap.size 0 rfl R3 _ (HX3'.out) Tryd.underlying30 rfl hi3.out (by kernel_rfl) ?_) | (go_at_call 20; fail))
  refine HS2'.out.mono ?_
  rintro e w10 ⟨rfl, hb10⟩
  have hw10 := Lib.hid (hw9.out.trans (hb10.mono hw9.out.size))
  go_wp2
  go_ret
  exact ⟨rfl, hw10.out⟩
end Go.Proofs.YtpgfnhdaembhmaaDoor
