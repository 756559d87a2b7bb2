import Derived.Test.YtpgfnhdaembhmaaDoorBPb

/- Whether a plan is right: the document's. -/
namespace Go.Proofs.YtpgfnhdaembhmaaDoor
open Go.RowKit Go.Shelf

namespace Pm
theorem sg_small {n : Int} (h : U n) : (0 ≤ sg n ∧ sg n ≤ 65535) ↔ n ≤ 65535 := by unfold U at h; unfold sg; split <;> omega
def Small (x : Pl) : Prop := 0 ≤ x.e ∧ -1 ≤ x.t ∧ x.t ≤ 15 ∧ -1 ≤ x.p ∧ x.p ≤ 15 ∧ -1 ≤ x.s ∧ x.s ≤ 15 ∧ 0 ≤ x.c ∧ x.c ≤ 100 ∧ (0 ≤ x.st ∧ x.st ≤ 1099511627776) ∧ (0 ≤ x.si ∧ x.si ≤ 1099511627776) ∧ (0 ≤ x.ra ∧ x.ra ≤ 1099511627776) ∧ x.up ≤ 65535 ∧ x.su ≤ 65535
theorem rt_iff {x : Pl} (hx : x.Ok) : Rt x.nums x.pen x.ch ↔
    (0 ≤ x.e ∧ -1 ≤ x.t ∧ x.t ≤ 15 ∧ -1 ≤ x.p ∧ x.p ≤ 15 ∧ -1 ≤ x.s ∧ x.s ≤ 15 ∧ 0 ≤ x.c ∧ x.c ≤ 100 ∧ (0 ≤ x.st ∧ x.st ≤ 1099511627776) ∧ (0 ≤ x.si ∧ x.si ≤ 1099511627776) ∧ (0 ≤ x.ra ∧ x.ra ≤ 1099511627776) ∧ x.up ≤ 65535 ∧ x.su ≤ 65535) ∧
      Bd x.pen 16 1000000 ∧ Bd x.ch 8 1099511627776 ∧ Sd x.ch := by
  have hu := sg_small hx.up
  have hs := sg_small hx.su
  have he := hx.e
  unfold I at he
  constructor
  · rintro ⟨h, h2⟩
    refine ⟨?_, h2⟩
    have a0 : 0 ≤ x.e ∧ x.e ≤ _ := h 0 (by omega)
    have a1 : -1 ≤ x.t ∧ x.t ≤ 15 := h 1 (by omega)
    have a2 : -1 ≤ x.p ∧ x.p ≤ 15 := h 2 (by omega)
    have a3 : -1 ≤ x.s ∧ x.s ≤ 15 := h 3 (by omega)
    have a4 : 0 ≤ x.c ∧ x.c ≤ 100 := h 4 (by omega)
    have a5 : 0 ≤ x.st ∧ x.st ≤ 1099511627776 := h 5 (by omega)
    have a6 : 0 ≤ x.si ∧ x.si ≤ 1099511627776 := h 6 (by omega)
    have a7 : 0 ≤ x.ra ∧ x.ra ≤ 1099511627776 := h 7 (by omega)
    have a8 : 0 ≤ sg x.up ∧ sg x.up ≤ 65535 := h 8 (by omega)
    have a9 : 0 ≤ sg x.su ∧ sg x.su ≤ 65535 := h 9 (by omega)
    have b8 := hu.1 a8
    have b9 := hs.1 a9
    omega
  · rintro ⟨h, h2⟩
    refine ⟨fun k hk => ?_, h2⟩
    have a8 := hu.2 (by omega)
    have a9 := hs.2 (by omega)
    match k, hk with
    | 0, _ => exact (⟨by omega, by omega⟩ : 0 ≤ x.e ∧ x.e ≤ 9223372036854775807)
    | 1, _ => exact (⟨by omega, by omega⟩ : -1 ≤ x.t ∧ x.t ≤ 15)
    | 2, _ => exact (⟨by omega, by omega⟩ : -1 ≤ x.p ∧ x.p ≤ 15)
    | 3, _ => exact (⟨by omega, by omega⟩ : -1 ≤ x.s ∧ x.s ≤ 15)
    | 4, _ => exact (⟨by omega, by omega⟩ : 0 ≤ x.c ∧ x.c ≤ 100)
    | 5, _ => exact (⟨by omega, by omega⟩ : 0 ≤ x.st ∧ x.st ≤ 1099511627776)
    | 6, _ => exact (⟨by omega, by omega⟩ : 0 ≤ x.si ∧ x.si ≤ 1099511627776)
    | 7, _ => exact (⟨by omega, by omega⟩ : 0 ≤ x.ra ∧ x.ra ≤ 1099511627776)
    | 8, _ => exact a8
    | 9, _ => exact a9
end Pm

set_option maxRecDepth 100000 in
set_option maxHeartbeats 8000000 in
theorem RRight_no (x : Pm.Pl) (A : Option Addr) (n c : Nat) (A' : Option Addr) (n' c' : Nat) (B : Nat) (w : World) (hp : PlAt w B x A n c A' n' c') (hno : ¬ (Pm.Small x ∧ n ≤ 16 ∧ n' ≤ 8)) :
    Calls Tryd.prog 34 #[pv x A n c A' n' c'] w fun e w' => e = .returned (.bool x.right) ∧ Below w.heap.size w w' := by
  unfold Pm.Small at hno
  have HNO := Lib.hid hno
  clear hno
  have hx1 := Bx.new w x A n c A' n' c' 27
  have hb1 := Lib.hid ((Below.refl w.heap.size w).alloc (Nat.le_refl _) (.cells (pvs x A n c A' n' c').toArray 27))
  have hz1 : (w.alloc (.cells (pvs x A n c A' n' c').toArray 27)).heap.size = w.heap.size + 1 := World.size_alloc ..
  have HRT : Hid (x.right = Pm.ask _) := congrArg Pm.ask (propext (Pm.rt_iff hp.ok))
  have hl1 := hp.l1
  have hl2 := hp.l2
  have hm1 := hp.c1
  have hm2 := hp.c2
  have hm3 := hp.m1
  have hm4 := hp.m2
  unfold maxLen at hm3 hm4
  have k0 := hx1.at 0 rfl
  have k1 := hx1.at 1 rfl
  have k2 := hx1.at 2 rfl
  have k3 := hx1.at 3 rfl
  have k4 := hx1.at 4 rfl
  have k5 := hx1.at 5 rfl
  have k6 := hx1.at 6 rfl
  have k7 := hx1.at 7 rfl
  have k8 := hx1.at 8 rfl
  have k9 := hx1.at 9 rfl
  have k10 := hx1.pen
  have k11 := hx1.ch
  clear hx1 hp
  rw [pv_eq]
  generalize pvs x A n c A' n' c' = L at *
  generalize x.e = xe at *
  generalize x.t = xt at *
  generalize x.p = xp at *
  generalize x.s = xs at *
  generalize x.c = xc at *
  generalize x.st = xst at *
  generalize x.si = xsi at *
  generalize x.ra = xra at *
  generalize x.up = xup at *
  generalize x.su = xsu at *
  have HL1 := Lib.hid hl1
  have HL2 := Lib.hid hl2
  have I1 := Lib.hid (in_any xst 0 1099511627776 (w.alloc (.cells L.toArray 27)))
  have I2 := Lib.hid (in_any xsi 0 1099511627776 (w.alloc (.cells L.toArray 27)))
  have I3 := Lib.hid (in_any xra 0 1099511627776 (w.alloc (.cells L.toArray 27)))
  by_cases d0 : xe < 0
  · have HE : Hid (x.right = false) := HRT.out.trans (Pm.ask_no (fun h => by have := h.1; omega))
    clear hl1 hl2
    go_enter Tryd.func34, Tryd.ntmps34
    go_wp2
    go_ret
    exact ⟨ret_bool HE.out.symm, hb1.out⟩
  by_cases d1 : xt < -1
  · have HE : Hid (x.right = false) := HRT.out.trans (Pm.ask_no (fun h => by have := h.1; omega))
    clear hl1 hl2
    go_enter Tryd.func34, Tryd.ntmps34
    go_wp2
    go_ret
    exact ⟨ret_bool HE.out.symm, hb1.out⟩
  by_cases d2 : 16 ≤ xt
  · have HE : Hid (x.right = false) := HRT.out.trans (Pm.ask_no (fun h => by have := h.1; omega))
    clear hl1 hl2
    go_enter Tryd.func34, Tryd.ntmps34
    go_wp2
    go_ret
    exact ⟨ret_bool HE.out.symm, hb1.out⟩
  by_cases d3 : xp < -1
  · have HE : Hid (x.right = false) := HRT.out.trans (Pm.ask_no (fun h => by have := h.1; omega))
    clear hl1 hl2
    go_enter Tryd.func34, Tryd.ntmps34
    go_wp2
    go_ret
    exact ⟨ret_bool HE.out.symm, hb1.out⟩
  by_cases d4 : 16 ≤ xp
  · have HE : Hid (x.right = false) := HRT.out.trans (Pm.ask_no (fun h => by have := h.1; omega))
    clear hl1 hl2
    go_enter Tryd.func34, Tryd.ntmps34
    go_wp2
    go_ret
    exact ⟨ret_bool HE.out.symm, hb1.out⟩
  by_cases d5 : xs < -1
  · have HE : Hid (x.right = false) := HRT.out.trans (Pm.ask_no (fun h => by have := h.1; omega))
    clear hl1 hl2
    go_enter Tryd.func34, Tryd.ntmps34
    go_wp2
    go_ret
    exact ⟨ret_bool HE.out.symm, hb1.out⟩
  by_cases d6 : 16 ≤ xs
  · have HE : Hid (x.right = false) := HRT.out.trans (Pm.ask_no (fun h => by have := h.1; omega))
    clear hl1 hl2
    go_enter Tryd.func34, Tryd.ntmps34
    go_wp2
    go_ret
    exact ⟨ret_bool HE.out.symm, hb1.out⟩
  by_cases d7 : xc < 0
  · have HE : Hid (x.right = false) := HRT.out.trans (Pm.ask_no (fun h => by have := h.1; omega))
    clear hl1 hl2
    go_enter Tryd.func34, Tryd.ntmps34
    go_wp2
    go_ret
    exact ⟨ret_bool HE.out.symm, hb1.out⟩
  by_cases d8 : 100 < xc
  · have HE : Hid (x.right = false) := HRT.out.trans (Pm.ask_no (fun h => by have := h.1; omega))
    clear hl1 hl2
    go_enter Tryd.func34, Tryd.ntmps34
    go_wp2
    go_ret
    exact ⟨ret_bool HE.out.symm, hb1.out⟩
  by_cases q1 : 0 ≤ xst ∧ xst ≤ 1099511627776
  case neg =>
    have HE : Hid (x.right = false) := HRT.out.trans (Pm.ask_no (fun h => q1 (by have := h.1; omega)))
    rw [Pm.ask_no q1] at I1
    clear hl1 hl2 q1
    go_enter Tryd.func34, Tryd.ntmps34
    go_wp2_with (go_at_call 64; fail)
    refine I1.out.mono ?_
    rintro e w' ⟨rfl, rfl⟩
    go_wp2
    go_ret
    exact ⟨ret_bool HE.out.symm, hb1.out⟩
  rw [Pm.ask_yes q1] at I1
  by_cases q2 : 0 ≤ xsi ∧ xsi ≤ 1099511627776
  case neg =>
    have HE : Hid (x.right = false) := HRT.out.trans (Pm.ask_no (fun h => q2 (by have := h.1; omega)))
    rw [Pm.ask_no q2] at I2
    clear hl1 hl2 q2
    go_enter Tryd.func34, Tryd.ntmps34
    go_wp2_with (go_at_call 64; fail)
    refine I1.out.mono ?_
    rintro e w' ⟨rfl, rfl⟩
    go_wp2_with (go_at_call 64; fail)
    refine I2.out.mono ?_
    rintro e w' ⟨rfl, rfl⟩
    go_wp2
    go_ret
    exact ⟨ret_bool HE.out.symm, hb1.out⟩
  rw [Pm.ask_yes q2] at I2
  by_cases q3 : 0 ≤ xra ∧ xra ≤ 1099511627776
  case neg =>
    have HE : Hid (x.right = false) := HRT.out.trans (Pm.ask_no (fun h => q3 (by have := h.1; omega)))
    rw [Pm.ask_no q3] at I3
    clear hl1 hl2 q3
    go_enter Tryd.func34, Tryd.ntmps34
    go_wp2_with (go_at_call 64; fail)
    refine I1.out.mono ?_
    rintro e w' ⟨rfl, rfl⟩
    go_wp2_with (go_at_call 64; fail)
    refine I2.out.mono ?_
    rintro e w' ⟨rfl, rfl⟩
    go_wp2_with (go_at_call 64; fail)
    refine I3.out.mono ?_
    rintro e w' ⟨rfl, rfl⟩
    go_wp2
    go_ret
    exact ⟨ret_bool HE.out.symm, hb1.out⟩
  rw [Pm.ask_yes q3] at I3
  by_cases d9 : 65535 < xup
  · have HE : Hid (x.right = false) := HRT.out.trans (Pm.ask_no (fun h => by have := h.1; omega))
    clear hl1 hl2
    go_enter Tryd.func34, Tryd.ntmps34
    go_wp2_with (go_at_call 64; fail)
    refine I1.out.mono ?_
    rintro e w' ⟨rfl, rfl⟩
    go_wp2_with (go_at_call 64; fail)
    refine I2.out.mono ?_
    rintro e w' ⟨rfl, rfl⟩
    go_wp2_with (go_at_call 64; fail)
    refine I3.out.mono ?_
    rintro e w' ⟨rfl, rfl⟩
    go_wp2
    go_ret
    exact ⟨ret_bool HE.out.symm, hb1.out⟩
  by_cases d10 : 65535 < xsu
  · have HE : Hid (x.right = false) := HRT.out.trans (Pm.ask_no (fun h => by have := h.1; omega))
    clear hl1 hl2
    go_enter Tryd.func34, Tryd.ntmps34
    go_wp2_with (go_at_call 64; fail)
    refine I1.out.mono ?_
    rintro e w' ⟨rfl, rfl⟩
    go_wp2_with (go_at_call 64; fail)
    refine I2.out.mono ?_
    rintro e w' ⟨rfl, rfl⟩
    go_wp2_with (go_at_call 64; fail)
    refine I3.out.mono ?_
    rintro e w' ⟨rfl, rfl⟩
    go_wp2
    go_ret
    exact ⟨ret_bool HE.out.symm, hb1.out⟩
  by_cases d11 : 16 < n
  · have HE : Hid (x.right = false) := HRT.out.trans (Pm.ask_no (fun h => by have := h.2.1.1; omega))
    clear hl1 hl2
    go_enter Tryd.func34, Tryd.ntmps34
    go_wp2_with (go_at_call 64; fail)
    refine I1.out.mono ?_
    rintro e w' ⟨rfl, rfl⟩
    go_wp2_with (go_at_call 64; fail)
    refine I2.out.mono ?_
    rintro e w' ⟨rfl, rfl⟩
    go_wp2_with (go_at_call 64; fail)
    refine I3.out.mono ?_
    rintro e w' ⟨rfl, rfl⟩
    go_wp2
    go_ret
    exact ⟨ret_bool HE.out.symm, hb1.out⟩
  by_cases d12 : 8 < n'
  · have HE : Hid (x.right = false) := HRT.out.trans (Pm.ask_no (fun h => by have := h.2.2.1.1; omega))
    clear hl1 hl2
    go_enter Tryd.func34, Tryd.ntmps34
    go_wp2_with (go_at_call 64; fail)
    refine I1.out.mono ?_
    rintro e w' ⟨rfl, rfl⟩
    go_wp2_with (go_at_call 64; fail)
    refine I2.out.mono ?_
    rintro e w' ⟨rfl, rfl⟩
    go_wp2_with (go_at_call 64; fail)
    refine I3.out.mono ?_
    rintro e w' ⟨rfl, rfl⟩
    go_wp2
    go_ret
    exact ⟨ret_bool HE.out.symm, hb1.out⟩
  exact absurd (by omega) HNO.out
end Go.Proofs.YtpgfnhdaembhmaaDoor

/- Whether a plan is right, further: the document's. -/
namespace Go.Proofs.YtpgfnhdaembhmaaDoor
open Go.RowKit Go.Shelf

set_option maxRecDepth 100000 in
set_option maxHeartbeats 8000000 in
theorem RRight_any (x : Pm.Pl) (A : Option Addr) (n c : Nat) (A' : Option Addr) (n' c' : Nat) (B : Nat) (w : World) (hp : PlAt w B x A n c A' n' c') (hB : B ≤ w.heap.size) :
    Calls Tryd.prog 34 #[pv x A n c A' n' c'] w fun e w' => e = .returned (.bool x.right) ∧ Below w.heap.size w w' := by
  by_cases hsm : Pm.Small x ∧ n ≤ 16 ∧ n' ≤ 8
  case neg => exact RRight_no x A n c A' n' c' B w hp hsm
  obtain ⟨hsm, hn16, hn8⟩ := hsm
  have hx1 := Bx.new w x A n c A' n' c' 27
  have hb1 := Lib.hid ((Below.refl w.heap.size w).alloc (Nat.le_refl _) (.cells (pvs x A n c A' n' c').toArray 27))
  have HRT : Hid (x.right = Pm.ask (Pm.Bd x.pen 16 1000000 ∧ Pm.Bd x.ch 8 1099511627776 ∧ Pm.Sd x.ch)) := congrArg Pm.ask (propext ((Pm.rt_iff hp.ok).trans ⟨fun h => h.2, fun h => ⟨hsm, h⟩⟩))
  unfold Pm.Small at hsm
  have hl1 := hp.l1
  have hl2 := hp.l2
  have hm1 := hp.c1
  have hm2 := hp.c2
  have HX := Lib.hid hp.r1
  have HY := Lib.hid hp.r2
  have k0 := hx1.at 0 rfl
  have k1 := hx1.at 1 rfl
  have k2 := hx1.at 2 rfl
  have k3 := hx1.at 3 rfl
  have k4 := hx1.at 4 rfl
  have k5 := hx1.at 5 rfl
  have k6 := hx1.at 6 rfl
  have k7 := hx1.at 7 rfl
  have k8 := hx1.at 8 rfl
  have k9 := hx1.at 9 rfl
  have k10 := hx1.pen
  have k11 := hx1.ch
  clear hx1 hp
  rw [pv_eq]
  generalize pvs x A n c A' n' c' = L at *
  generalize x.e = xe at *
  generalize x.t = xt at *
  generalize x.p = xp at *
  generalize x.s = xs at *
  generalize x.c = xc at *
  generalize x.st = xst at *
  generalize x.si = xsi at *
  generalize x.ra = xra at *
  generalize x.up = xup at *
  generalize x.su = xsu at *
  obtain ⟨d0, d1, d2, d3, d4, d5, d6, d7, d8, q1, q2, q3, d9, d10⟩ := hsm
  have HL1 := Lib.hid hl1
  have HL2 := Lib.hid hl2
  have I1 := Lib.hid (in_any xst 0 1099511627776 (w.alloc (.cells L.toArray 27)))
  have I2 := Lib.hid (in_any xsi 0 1099511627776 (w.alloc (.cells L.toArray 27)))
  have I3 := Lib.hid (in_any xra 0 1099511627776 (w.alloc (.cells L.toArray 27)))
  rw [Pm.ask_yes q1] at I1
  rw [Pm.ask_yes q2] at I2
  rw [Pm.ask_yes q3] at I3
  have e0 : ¬ xe < 0 := by omega
  have e1 : ¬ xt < -1 := by omega
  have e2 : ¬ 16 ≤ xt := by omega
  have e3 : ¬ xp < -1 := by omega
  have e4 : ¬ 16 ≤ xp := by omega
  have e5 : ¬ xs < -1 := by omega
  have e6 : ¬ 16 ≤ xs := by omega
  have e7 : ¬ xc < 0 := by omega
  have e8 : ¬ 100 < xc := by omega
  have e9 : ¬ 65535 < xup := by omega
  have e10 : ¬ 65535 < xsu := by omega
  have e11 : ¬ 16 < n := by omega
  have e12 : ¬ 8 < n' := by omega
  clear hl1 hl2 q1 q2 q3 d0 d1 d2 d3 d4 d5 d6 d7 d8 d9 d10
  go_enter Tryd.func34, Tryd.ntmps34
  go_wp2_with (go_at_call 64; fail)
  refine I1.out.mono ?_
  rintro e w' ⟨rfl, rfl⟩
  go_wp2_with (go_at_call 64; fail)
  refine I2.out.mono ?_
  rintro e w' ⟨rfl, rfl⟩
  go_wp2_with (go_at_call 64; fail)
  refine I3.out.mono ?_
  rintro e w' ⟨rfl, rfl⟩
  clear I1 I2 I3
  go_wp2_with fail
  have HX1 := Lib.hid (HX.out.below (hb1.out.mono hB))
  have HY1 := Lib.hid (HY.out.below (hb1.out.mono hB))
  clear k0 k1 k2 k3 k4 k5 k6 k7 k8 k9 e0 e1 e2 e3 e4 e5 e6 e7 e8 e9 e10 e11 e12 HX HY
  have K10 := Lib.hid k10
  have K11 := Lib.hid k11
  go_loopw [3] (fun ix wr => ∃ (k : Nat), ix = .int .i64 (k : Int) ∧ k ≤ n ∧ Hid (∀ m ∈ x.pen.take k, 0 ≤ m ∧ m ≤ 1000000) ∧ Hid (wr = w.alloc (.cells L.toArray 27))) (fun ix _ => n - (intOf ix).toNat)
  case atStart => exact ⟨0, rfl, by omega, Lib.hid (fun m h => absurd h List.not_mem_nil), Lib.hid rfl⟩
  case round =>
    obtain ⟨k, rfl, hk, hT, hW⟩ := hrel
    have hx' : Rd wr B A (i64s x.pen) := by rw [hW.out]; exact HX1.out
    have k10' : wr.cell? ⟨w.heap.size, 10, none⟩ = some (.slice A n c) := by rw [hW.out]; exact K10.out
    have k11' : wr.cell? ⟨w.heap.size, 11, none⟩ = some (.slice A' n' c') := by rw [hW.out]; exact K11.out
    clear k10 k11
    by_cases hlt : k < n
    · obtain ⟨y, hyk⟩ : ∃ y, x.pen[k]? = some y := ⟨x.pen[k]'(by have := HL1.out; omega), List.getElem?_eq_getElem (by have := HL1.out; omega)⟩
      obtain ⟨ad1, rfl, _, hc1⟩ := hx'.getU hyk
      by_cases h0 : y < 0
      · have HE : Hid (x.right = false) := HRT.out.trans (Pm.ask_no (fun h => by have := (h.1.2 y (List.mem_of_getElem? hyk)).1; omega))
        clear hyk hx'
        go_wp2
        go_ret
        exact ⟨ret_bool HE.out.symm, by rw [hW.out]; exact hb1.out⟩
      · by_cases h1 : 1000000 < y
        · have HE : Hid (x.right = false) := HRT.out.trans (Pm.ask_no (fun h => by have := (h.1.2 y (List.mem_of_getElem? hyk)).2; omega))
          clear hyk hx'
          go_wp2
          go_ret
          exact ⟨ret_bool HE.out.symm, by rw [hW.out]; exact hb1.out⟩
        · have HS : Hid (∀ m ∈ x.pen.take (k + 1), 0 ≤ m ∧ m ≤ 1000000) := by
            intro m hm
            rw [List.take_add_one, hyk] at hm
            rcases List.mem_append.1 hm with h | h
            · exact hT.out m h
            · simp at h; subst h; omega
          clear hyk hx'
          go_wp2
          go_roundw
          case rel => exact ⟨k + 1, by go_num, by omega, HS, hW⟩
          case measure => simp [intOf]; omega
    · obtain rfl : k = n := by omega
      have HB1 : Hid (Pm.Bd x.pen 16 1000000) := by
        refine ⟨by rw [HL1.out]; omega, ?_⟩
        have h := hT.out
        rw [List.take_of_length_le (by rw [HL1.out]; exact Nat.le_refl _)] at h
        exact h
      clear hT hx' HX1
      go_wp2_with fail
      have K11w := Lib.hid k11'
      have HY2 : Hid (Rd wr B A' (i64s x.ch)) := by rw [hW.out]; exact HY1.out
      have HBW : Hid (Below w.heap.size w wr) := by rw [hW.out]; exact hb1.out
      clear hW HY1 hb1 k10' k11' K10 K11 hlt
      obtain ⟨wp, ew⟩ : ∃ wp, wp = wr := ⟨_, rfl⟩
      subst ew
      go_loopw [4] (fun ix wr => ∃ (j : Nat), ix = .int .i64 (j : Int) ∧ j ≤ n' ∧ Hid (∀ m ∈ x.ch.take j, 0 ≤ m ∧ m ≤ 1099511627776) ∧ Hid (∀ i, i + 1 < j → x.ch.getD i 0 ≤ x.ch.getD (i + 1) 0) ∧ Hid (Below wp.heap.size wp wr)) (fun ix _ => n' - (intOf ix).toNat)
      case atStart => exact ⟨0, rfl, by omega, Lib.hid (fun m h => absurd h List.not_mem_nil), Lib.hid (fun i h => absurd h (Nat.not_lt_zero _)), Lib.hid (Below.refl _ _)⟩
      case round =>
        obtain ⟨j, rfl, hj, hT, hS, hBx⟩ := hrel
        have hbz : w.heap.size < wp.heap.size := World.block_lt_of_cell? wp _ K11w.out
        have hk11x : wr.cell? ⟨w.heap.size, 11, none⟩ = some (.slice A' n' c') := by rw [hBx.out.cell (by exact hbz)]; exact K11w.out
        by_cases hlt : j < n'
        · obtain ⟨y, hyk⟩ : ∃ y, x.ch[j]? = some y := ⟨x.ch[j]'(by have := HL2.out; omega), List.getElem?_eq_getElem (by have := HL2.out; omega)⟩
          have hxr := (HY2.out.below (hBx.out.mono (Nat.le_trans hB HBW.out.size)))
          obtain ⟨ad2, rfl, hadB, hc2⟩ := hxr.getU hyk
          have hadz : ad2.block < wr.heap.size := by have := HBW.out.size; have := hBx.out.size; omega
          have F11 : Hid (∀ W, Below wr.heap.size wr W → W.cell? ⟨w.heap.size, 11, none⟩ = some (.slice (some ad2) n' c')) := fun W h => by
            rw [h.cell (by show w.heap.size < _; have := hBx.out.size; omega)]; exact hk11x
          have FY : Hid (∀ W, Below wr.heap.size wr W → W.cell? (ad2.add j) = some (.int .i64 y)) := fun W h => by
            rw [h.cell (by rw [addr_add_block]; exact hadz)]; exact hc2
          have HYK := Lib.hid hyk
          have hjn : (j : Int) < (n' : Int) := by omega
          have hEND := Lib.hid (HBW.out.trans (hBx.out.mono HBW.out.size)).drew
          have HXR := Lib.hid hxr
          clear hyk hc2 hxr hadB
          go_wp2_with fail
          refine region_C (fun W => Below wr.heap.size wr W) (by kernel_rfl) ?_
          have hC : Below wr.heap.size wr wr.drew := (Below.refl _ _).drew
          refine anyC_take (i := 0) (v := ?v0_111) (a' := ?a0_111) rfl (by kernel_rfl) (by kernel_rfl) (by kernel_rfl) (fun _ _ _ h => h) hC ?w0_111 ?y0_111 ?f0_111 ?r0_111
          case w0_111 => kernel_rfl
          case y0_111 => (intro w hC; go_simp; try with_reducible rfl)
          case f0_111 => (go_simp; try with_reducible rfl)
          refine anyC_take (i := 2) (v := ?v2_112) (a' := ?a2_112) rfl (by kernel_rfl) (by kernel_rfl) (by kernel_rfl) (fun _ _ _ h => h) hC ?w2_112 ?y2_112 ?f2_112 ?r2_112
          case w2_112 => kernel_rfl
          case y2_112 => (intro w hC; go_simp; try with_reducible rfl)
          case f2_112 => (go_simp; try with_reducible rfl)
          refine anyC_take (i := 1) (v := ?v1_113) (a' := ?a1_113) rfl (by kernel_rfl) (by kernel_rfl) (by kernel_rfl) (fun _ _ _ h => h) hC ?w1_113 ?y1_113 ?f1_113 ?r1_113
          case w1_113 => kernel_rfl
          case y1_113 => (intro w hC; have h4 := F11.out w hC; go_simp; try with_reducible rfl)
          case f1_113 => (go_simp; try with_reducible rfl)
          refine anyC_take (i := 3) (v := ?v3_114) (a' := ?a3_114) rfl (by kernel_rfl) (by kernel_rfl) (by kernel_rfl) (fun _ _ _ h => h) hC ?w3_114 ?y3_114 ?f3_114 ?r3_114
          case w3_114 => kernel_rfl
          case y3_114 => (intro w hC; go_simp; try with_reducible rfl)
          case f3_114 => (go_simp; try with_reducible rfl)
          refine anyC_take (i := 4) (v := ?v4_115) (a' := ?a4_115) rfl (by kernel_rfl) (by kernel_rfl) (by kernel_rfl) (fun _ _ _ h => h) hC ?w4_115 ?y4_115 ?f4_115 ?r4_115
          case w4_115 => kernel_rfl
          case y4_115 => (intro w hC; have h4 := FY.out w hC; go_simp; try with_reducible rfl)
          case f4_115 => (go_simp; try with_reducible rfl)
          refine anyC_one (i := 5) rfl (by kernel_rfl) (by kernel_rfl) (fun K hK => ?_)
          go_simp
          refine (in_any y 0 1099511627776 wr.drew).mono ?_
          rintro e w' ⟨rfl, rfl⟩
          refine hK _ _ ⟨hC, ?_⟩
          clear hK K
          by_cases hin : 0 ≤ y ∧ y ≤ 1099511627776
          · have HS1 : Hid (∀ m ∈ x.ch.take (j + 1), 0 ≤ m ∧ m ≤ 1099511627776) := by
              intro m hm
              rw [List.take_add_one, HYK.out] at hm
              rcases List.mem_append.1 hm with h | h
              · exact hT.out m h
              · simp at h; subst h; exact hin
            rw [Pm.ask_yes hin]
            clear hin
            refine anyC_take (i := 6) (v := ?v6_116) (a' := ?a6_116) rfl (by kernel_rfl) (by kernel_rfl) (by kernel_rfl) (fun _ _ _ h => h) hC ?w6_116 ?y6_116 ?f6_116 ?r6_116
            case w6_116 => kernel_rfl
            case y6_116 => (intro w hC; go_simp; try with_reducible rfl)
            case f6_116 => (go_simp; try with_reducible rfl)
            refine anyC_take (i := 7) (v := ?v7_117) (a' := ?a7_117) rfl (by kernel_rfl) (by kernel_rfl) (by kernel_rfl) (fun _ _ _ h => h) hC ?w7_117 ?y7_117 ?f7_117 ?r7_117
            case w7_117 => kernel_rfl
            case y7_117 => (intro w hC; go_simp; try with_reducible rfl)
            case f7_117 => (go_simp; try with_reducible rfl)
            by_cases h0 : j = 0
            · subst h0
              have HS2 : Hid (∀ i, i + 1 < 0 + 1 → x.ch.getD i 0 ≤ x.ch.getD (i + 1) 0) := fun i hi => by omega
              refine anyC_take (i := 8) (v := ?v8_118) (a' := ?a8_118) rfl (by kernel_rfl) (by kernel_rfl) (by kernel_rfl) (fun _ _ _ h => h) hC ?w8_118 ?y8_118 ?f8_118 ?r8_118
              case w8_118 => kernel_rfl
              case y8_118 => (intro w hC; go_simp; try with_reducible rfl)
              case f8_118 => (go_simp; try with_reducible rfl)
              refine anyC_take (i := 9) (v := ?v9_119) (a' := ?a9_119) rfl (by kernel_rfl) (by kernel_rfl) (by kernel_rfl) (fun _ _ _ h => h) hC ?w9_119 ?y9_119 ?f9_119 ?r9_119
              case w9_119 => kernel_rfl
              case y9_119 => (intro w hC; go_simp; try with_reducible rfl)
              case f9_119 => (go_simp; try with_reducible rfl)
              refine anyC_take (i := 10) (v := ?v10_120) (a' := ?a10_120) rfl (by kernel_rfl) (by kernel_rfl) (by kernel_rfl) (fun _ _ _ h => h) hC ?w10_120 ?y10_120 ?f10_120 ?r10_120
              case w10_120 => kernel_rfl
              case y10_120 => (intro w hC; go_simp; try with_reducible rfl)
              case f10_120 => (go_simp; try with_reducible rfl)
              refine anyC_skip (i := 11) (a' := ?a11_121) rfl (by kernel_rfl) (by kernel_rfl) (by kernel_rfl) (fun _ _ _ h => h) hC (by kernel_rfl) ?f11_121 ?r11_121
              case f11_121 => (go_simp; try with_reducible rfl)
              refine anyC_skip (i := 12) (a' := ?a12_122) rfl (by kernel_rfl) (by kernel_rfl) (by kernel_rfl) (fun _ _ _ h => h) hC (by kernel_rfl) ?f12_122 ?r12_122
              case f12_122 => (go_simp; try with_reducible rfl)
              refine anyC_skip (i := 13) (a' := ?a13_123) rfl (by kernel_rfl) (by kernel_rfl) (by kernel_rfl) (fun _ _ _ h => h) hC (by kernel_rfl) ?f13_123 ?r13_123
              case f13_123 => (go_simp; try with_reducible rfl)
              refine anyC_skip (i := 14) (a' := ?a14_124) rfl (by kernel_rfl) (by kernel_rfl) (by kernel_rfl) (fun _ _ _ h => h) hC (by kernel_rfl) ?f14_124 ?r14_124
              case f14_124 => (go_simp; try with_reducible rfl)
              refine anyC_skip (i := 15) (a' := ?a15_125) rfl (by kernel_rfl) (by kernel_rfl) (by kernel_rfl) (fun _ _ _ h => h) hC (by kernel_rfl) ?f15_125 ?r15_125
              case f15_125 => (go_simp; try with_reducible rfl)
              refine anyC_skip (i := 16) (a' := ?a16_126) rfl (by kernel_rfl) (by kernel_rfl) (by kernel_rfl) (fun _ _ _ h => h) hC (by kernel_rfl) ?f16_126 ?r16_126
              case f16_126 => (go_simp; try with_reducible rfl)
              refine anyC_skip (i := 17) (a' := ?a17_127) rfl (by kernel_rfl) (by kernel_rfl) (by kernel_rfl) (fun _ _ _ h => h) hC (by kernel_rfl) ?f17_127 ?r17_127
              case f17_127 => (go_simp; try with_reducible rfl)
              refine anyC_skip (i := 18) (a' := ?a18_128) rfl (by kernel_rfl) (by kernel_rfl) (by kernel_rfl) (fun _ _ _ h => h) hC (by kernel_rfl) ?f18_128 ?r18_128
              case f18_128 => (go_simp; try with_reducible rfl)
              refine anyC_skip (i := 19) (a' := ?a19_129) rfl (by kernel_rfl) (by kernel_rfl) (by kernel_rfl) (fun _ _ _ h => h) hC (by kernel_rfl) ?f19_129 ?r19_129
              case f19_129 => (go_simp; try with_reducible rfl)
              refine anyC_skip (i := 20) (a' := ?a20_130) rfl (by kernel_rfl) (by kernel_rfl) (by kernel_rfl) (fun _ _ _ h => h) hC (by kernel_rfl) ?f20_130 ?r20_130
              case f20_130 => (go_simp; try with_reducible rfl)
              refine anyC_skip (i := 21) (a' := ?a21_131) rfl (by kernel_rfl) (by kernel_rfl) (by kernel_rfl) (fun _ _ _ h => h) hC (by kernel_rfl) ?f21_131 ?r21_131
              case f21_131 => (go_simp; try with_reducible rfl)
              refine anyC_skip (i := 22) (a' := ?a22_132) rfl (by kernel_rfl) (by kernel_rfl) (by kernel_rfl) (fun _ _ _ h => h) hC (by kernel_rfl) ?f22_132 ?r22_132
              case f22_132 => (go_simp; try with_reducible rfl)
              refine anyC_take (i := 23) (v := ?v23_133) (a' := ?a23_133) rfl (by kernel_rfl) (by kernel_rfl) (by kernel_rfl) (fun _ _ _ h => h) hC ?w23_133 ?y23_133 ?f23_133 ?r23_133
              case w23_133 => kernel_rfl
              case y23_133 => (intro w hC; go_simp; try with_reducible rfl)
              case f23_133 => (go_simp; try with_reducible rfl)
              refine anyC_take (i := 24) (v := ?v24_134) (a' := ?a24_134) rfl (by kernel_rfl) (by kernel_rfl) (by kernel_rfl) (fun _ _ _ h => h) hC ?w24_134 ?y24_134 ?f24_134 ?r24_134
              case w24_134 => kernel_rfl
              case y24_134 => (intro w hC; go_simp; try with_reducible rfl)
              case f24_134 => (go_simp; try with_reducible rfl)
              refine anyC_done (by kernel_rfl) ?_
              go_wp2
              go_roundw
              case rel => exact ⟨0 + 1, by go_num, by omega, HS1, HS2, Lib.hid hBx.out.drew⟩
              case measure => simp [intOf]; omega
            · obtain ⟨i, hi⟩ : ∃ i, j = i + 1 := ⟨j - 1, by omega⟩
              have hj0 : decide ((0 : Int) < (j : Int)) = true := by simp; omega
              have hj1 : decide (0 < j) = true := by simp; omega
              have hj2 : 0 < j := by omega
              obtain ⟨z, hzk⟩ : ∃ z, x.ch[i]? = some z := ⟨x.ch[i]'(by have := HL2.out; omega), List.getElem?_eq_getElem (by have := HL2.out; omega)⟩
              obtain ⟨ad3, e3, _, hc3⟩ := HXR.out.getU hzk
              obtain rfl : ad2 = ad3 := by injection e3
              have FZ : Hid (∀ W, Below wr.heap.size wr W → W.cell? (ad2.add i) = some (.int .i64 z)) := fun W h => by
                rw [h.cell (by rw [addr_add_block]; exact hadz)]; exact hc3
              have hin : (i : Int) < (n' : Int) := by omega
              have hi1 : (j : Int) - 1 = (i : Int) := by omega
              have hi3 : IntKind.i64.wrap (i : Int) = (i : Int) := wrap_id (by omega) (by omega)
              have hi2 : IntKind.i64.wrap ((j : Int) - 1) = (i : Int) := by rw [hi1]; exact wrap_id (by omega) (by omega)
              have hle : Hid ((Pm.Sd x.ch → z ≤ y) ∧ (z ≤ y → ∀ a, a + 1 < j + 1 → x.ch.getD a 0 ≤ x.ch.getD (a + 1) 0)) := by
                have hy1 := HYK.out
                rw [hi] at hy1
                have hil : i + 1 < x.ch.length := (List.getElem?_eq_some_iff.1 hy1).1
                refine ⟨fun h => ?_, fun h a ha => ?_⟩
                · have := h i hil
                  rw [List.getD_eq_getElem?_getD, List.getD_eq_getElem?_getD, hzk, hy1] at this
                  exact this
                · by_cases e : a = i
                  · subst e
                    rw [List.getD_eq_getElem?_getD, List.getD_eq_getElem?_getD, hzk, hy1]
                    exact h
                  · exact hS.out a (by omega)
              clear hc3 hzk e3 h0 hi
              refine anyC_take (i := 8) (v := ?v8_135) (a' := ?a8_135) rfl (by kernel_rfl) (by kernel_rfl) (by kernel_rfl) (fun _ _ _ h => h) hC ?w8_135 ?y8_135 ?f8_135 ?r8_135
              case w8_135 => kernel_rfl
              case y8_135 => (intro w hC; go_simp; try with_reducible rfl)
              case f8_135 => (go_simp; try with_reducible rfl)
              refine anyC_take (i := 9) (v := ?v9_136) (a' := ?a9_136) rfl (by kernel_rfl) (by kernel_rfl) (by kernel_rfl) (fun _ _ _ h => h) hC ?w9_136 ?y9_136 ?f9_136 ?r9_136
              case w9_136 => kernel_rfl
              case y9_136 => (intro w hC; go_simp; try with_reducible rfl)
              case f9_136 => (go_simp; try with_reducible rfl)
              refine anyC_take (i := 10) (v := ?v10_137) (a' := ?a10_137) rfl (by kernel_rfl) (by kernel_rfl) (by kernel_rfl) (fun _ _ _ h => h) hC ?w10_137 ?y10_137 ?f10_137 ?r10_137
              case w10_137 => kernel_rfl
              case y10_137 => (intro w hC; go_simp; try with_reducible rfl)
              case f10_137 => (go_simp; try with_reducible rfl)
              refine anyC_take (i := 11) (v := ?v11_138) (a' := ?a11_138) rfl (by kernel_rfl) (by kernel_rfl) (by kernel_rfl) (fun _ _ _ h => h) hC ?w11_138 ?y11_138 ?f11_138 ?r11_138
              case w11_138 => kernel_rfl
              case y11_138 => (intro w hC; go_simp; try with_reducible rfl)
              case f11_138 => (go_simp; try with_reducible rfl)
              refine anyC_take (i := 13) (v := ?v13_139) (a' := ?a13_139) rfl (by kernel_rfl) (by kernel_rfl) (by kernel_rfl) (fun _ _ _ h => h) hC ?w13_139 ?y13_139 ?f13_139 ?r13_139
              case w13_139 => kernel_rfl
              case y13_139 => (intro w hC; go_simp; try with_reducible rfl)
              case f13_139 => (go_simp; try with_reducible rfl)
              refine anyC_take (i := 17) (v := ?v17_140) (a' := ?a17_140) rfl (by kernel_rfl) (by kernel_rfl) (by kernel_rfl) (fun _ _ _ h => h) hC ?w17_140 ?y17_140 ?f17_140 ?r17_140
              case w17_140 => kernel_rfl
              case y17_140 => (intro w hC; go_simp; try with_reducible rfl)
              case f17_140 => (go_simp; try with_reducible rfl)
              refine anyC_take (i := 19) (v := ?v19_141) (a' := ?a19_141) rfl (by kernel_rfl) (by kernel_rfl) (by kernel_rfl) (fun _ _ _ h => h) hC ?w19_141 ?y19_141 ?f19_141 ?r19_141
              case w19_141 => kernel_rfl
              case y19_141 => (intro w hC; go_simp; try with_reducible rfl)
              case f19_141 => (go_simp; try with_reducible rfl)
              refine anyC_take (i := 12) (v := ?v12_142) (a' := ?a12_142) rfl (by kernel_rfl) (by kernel_rfl) (by kernel_rfl) (fun _ _ _ h => h) hC ?w12_142 ?y12_142 ?f12_142 ?r12_142
              case w12_142 => kernel_rfl
              case y12_142 => (intro w hC; have h4 := F11.out w hC; go_simp; try with_reducible rfl)
              case f12_142 => (go_simp; try with_reducible rfl)
              refine anyC_take (i := 18) (v := ?v18_143) (a' := ?a18_143) rfl (by kernel_rfl) (by kernel_rfl) (by kernel_rfl) (fun _ _ _ h => h) hC ?w18_143 ?y18_143 ?f18_143 ?r18_143
              case w18_143 => kernel_rfl
              case y18_143 => (intro w hC; have h4 := F11.out w hC; go_simp; try with_reducible rfl)
              case f18_143 => (go_simp; try with_reducible rfl)
              refine anyC_take (i := 14) (v := ?v14_144) (a' := ?a14_144) rfl (by kernel_rfl) (by kernel_rfl) (by kernel_rfl) (fun _ _ _ h => h) hC ?w14_144 ?y14_144 ?f14_144 ?r14_144
              case w14_144 => kernel_rfl
              case y14_144 => (intro w hC; go_simp; try with_reducible rfl)
              case f14_144 => (go_simp; try with_reducible rfl)
              refine anyC_take (i := 15) (v := ?v15_145) (a' := ?a15_145) rfl (by kernel_rfl) (by kernel_rfl) (by kernel_rfl) (fun _ _ _ h => h) hC ?w15_145 ?y15_145 ?f15_145 ?r15_145
              case w15_145 => kernel_rfl
              case y15_145 => (intro w hC; go_simp; try with_reducible rfl)
              case f15_145 => (go_simp; try with_reducible rfl)
              refine anyC_take (i := 16) (v := ?v16_146) (a' := ?a16_146) rfl (by kernel_rfl) (by kernel_rfl) (by kernel_rfl) (fun _ _ _ h => h) hC ?w16_146 ?y16_146 ?f16_146 ?r16_146
              case w16_146 => kernel_rfl
              case y16_146 => (intro w hC; have h4 := FZ.out w hC; go_simp; try with_reducible rfl)
              case f16_146 => (go_simp; try with_reducible rfl)
              refine anyC_take (i := 20) (v := ?v20_147) (a' := ?a20_147) rfl (by kernel_rfl) (by kernel_rfl) (by kernel_rfl) (fun _ _ _ h => h) hC ?w20_147 ?y20_147 ?f20_147 ?r20_147
              case w20_147 => kernel_rfl
              case y20_147 => (intro w hC; go_simp; try with_reducible rfl)
              case f20_147 => (go_simp; try with_reducible rfl)
              refine anyC_take (i := 21) (v := ?v21_148) (a' := ?a21_148) rfl (by kernel_rfl) (by kernel_rfl) (by kernel_rfl) (fun _ _ _ h => h) hC ?w21_148 ?y21_148 ?f21_148 ?r21_148
              case w21_148 => kernel_rfl
              case y21_148 => (intro w hC; have h4 := FY.out w hC; go_simp; try with_reducible rfl)
              case f21_148 => (go_simp; try with_reducible rfl)
              by_cases hzy : y < z
              · have hd : decide (y < z) = true := by simpa using hzy
                have HE : Hid (x.right = false) := HRT.out.trans (Pm.ask_no (fun h => by have := hle.out.1 h.2.2; omega))
                clear hle hzy
                refine anyC_take (i := 22) (v := ?v22_149) (a' := ?a22_149) rfl (by kernel_rfl) (by kernel_rfl) (by kernel_rfl) (fun _ _ _ h => h) hC ?w22_149 ?y22_149 ?f22_149 ?r22_149
                case w22_149 => kernel_rfl
                case y22_149 => (intro w hC; go_simp; try with_reducible rfl)
                case f22_149 => (go_simp; try with_reducible rfl)
                refine anyC_take (i := 23) (v := ?v23_150) (a' := ?a23_150) rfl (by kernel_rfl) (by kernel_rfl) (by kernel_rfl) (fun _ _ _ h => h) hC ?w23_150 ?y23_150 ?f23_150 ?r23_150
                case w23_150 => kernel_rfl
                case y23_150 => (intro w hC; go_simp; try with_reducible rfl)
                case f23_150 => (go_simp; try with_reducible rfl)
                refine anyC_take (i := 24) (v := ?v24_151) (a' := ?a24_151) rfl (by kernel_rfl) (by kernel_rfl) (by kernel_rfl) (fun _ _ _ h => h) hC ?w24_151 ?y24_151 ?f24_151 ?r24_151
                case w24_151 => kernel_rfl
                case y24_151 => (intro w hC; go_simp; try with_reducible rfl)
                case f24_151 => (go_simp; try with_reducible rfl)
                refine anyC_done (by kernel_rfl) ?_
                go_wp2
                go_ret
                exact ⟨ret_bool HE.out.symm, hEND.out⟩
              · have hd : decide (y < z) = false := by simpa using hzy
                have HS2 := Lib.hid (hle.out.2 (by omega))
                clear hle hzy
                refine anyC_take (i := 22) (v := ?v22_152) (a' := ?a22_152) rfl (by kernel_rfl) (by kernel_rfl) (by kernel_rfl) (fun _ _ _ h => h) hC ?w22_152 ?y22_152 ?f22_152 ?r22_152
                case w22_152 => kernel_rfl
                case y22_152 => (intro w hC; go_simp; try with_reducible rfl)
                case f22_152 => (go_simp; try with_reducible rfl)
                refine anyC_take (i := 23) (v := ?v23_153) (a' := ?a23_153) rfl (by kernel_rfl) (by kernel_rfl) (by kernel_rfl) (fun _ _ _ h => h) hC ?w23_153 ?y23_153 ?f23_153 ?r23_153
                case w23_153 => kernel_rfl
                case y23_153 => (intro w hC; go_simp; try with_reducible rfl)
                case f23_153 => (go_simp; try with_reducible rfl)
                refine anyC_take (i := 24) (v := ?v24_154) (a' := ?a24_154) rfl (by kernel_rfl) (by kernel_rfl) (by kernel_rfl) (fun _ _ _ h => h) hC ?w24_154 ?y24_154 ?f24_154 ?r24_154
                case w24_154 => kernel_rfl
                case y24_154 => (intro w hC; go_simp; try with_reducible rfl)
                case f24_154 => (go_simp; try with_reducible rfl)
                refine anyC_done (by kernel_rfl) ?_
                go_wp2
                go_roundw
                case rel => exact ⟨j + 1, by go_num, by omega, HS1, HS2, Lib.hid hBx.out.drew⟩
                case measure => simp [intOf]; omega
          · have HE : Hid (x.right = false) := HRT.out.trans (Pm.ask_no (fun h => hin (h.2.1.2 y (List.mem_of_getElem? HYK.out))))
            rw [Pm.ask_no hin]
            clear hin
            refine anyC_take (i := 6) (v := ?v6_155) (a' := ?a6_155) rfl (by kernel_rfl) (by kernel_rfl) (by kernel_rfl) (fun _ _ _ h => h) hC ?w6_155 ?y6_155 ?f6_155 ?r6_155
            case w6_155 => kernel_rfl
            case y6_155 => (intro w hC; go_simp; try with_reducible rfl)
            case f6_155 => (go_simp; try with_reducible rfl)
            refine anyC_take (i := 7) (v := ?v7_156) (a' := ?a7_156) rfl (by kernel_rfl) (by kernel_rfl) (by kernel_rfl) (fun _ _ _ h => h) hC ?w7_156 ?y7_156 ?f7_156 ?r7_156
            case w7_156 => kernel_rfl
            case y7_156 => (intro w hC; go_simp; try with_reducible rfl)
            case f7_156 => (go_simp; try with_reducible rfl)
            refine anyC_skip (i := 8) (a' := ?a8_157) rfl (by kernel_rfl) (by kernel_rfl) (by kernel_rfl) (fun _ _ _ h => h) hC (by kernel_rfl) ?f8_157 ?r8_157
            case f8_157 => (go_simp; try with_reducible rfl)
            refine anyC_skip (i := 9) (a' := ?a9_158) rfl (by kernel_rfl) (by kernel_rfl) (by kernel_rfl) (fun _ _ _ h => h) hC (by kernel_rfl) ?f9_158 ?r9_158
            case f9_158 => (go_simp; try with_reducible rfl)
            refine anyC_skip (i := 10) (a' := ?a10_159) rfl (by kernel_rfl) (by kernel_rfl) (by kernel_rfl) (fun _ _ _ h => h) hC (by kernel_rfl) ?f10_159 ?r10_159
            case f10_159 => (go_simp; try with_reducible rfl)
            refine anyC_skip (i := 11) (a' := ?a11_160) rfl (by kernel_rfl) (by kernel_rfl) (by kernel_rfl) (fun _ _ _ h => h) hC (by kernel_rfl) ?f11_160 ?r11_160
            case f11_160 => (go_simp; try with_reducible rfl)
            refine anyC_skip (i := 12) (a' := ?a12_161) rfl (by kernel_rfl) (by kernel_rfl) (by kernel_rfl) (fun _ _ _ h => h) hC (by kernel_rfl) ?f12_161 ?r12_161
            case f12_161 => (go_simp; try with_reducible rfl)
            refine anyC_skip (i := 13) (a' := ?a13_162) rfl (by kernel_rfl) (by kernel_rfl) (by kernel_rfl) (fun _ _ _ h => h) hC (by kernel_rfl) ?f13_162 ?r13_162
            case f13_162 => (go_simp; try with_reducible rfl)
            refine anyC_skip (i := 14) (a' := ?a14_163) rfl (by kernel_rfl) (by kernel_rfl) (by kernel_rfl) (fun _ _ _ h => h) hC (by kernel_rfl) ?f14_163 ?r14_163
            case f14_163 => (go_simp; try with_reducible rfl)
            refine anyC_skip (i := 15) (a' := ?a15_164) rfl (by kernel_rfl) (by kernel_rfl) (by kernel_rfl) (fun _ _ _ h => h) hC (by kernel_rfl) ?f15_164 ?r15_164
            case f15_164 => (go_simp; try with_reducible rfl)
            refine anyC_skip (i := 16) (a' := ?a16_165) rfl (by kernel_rfl) (by kernel_rfl) (by kernel_rfl) (fun _ _ _ h => h) hC (by kernel_rfl) ?f16_165 ?r16_165
            case f16_165 => (go_simp; try with_reducible rfl)
            refine anyC_skip (i := 17) (a' := ?a17_166) rfl (by kernel_rfl) (by kernel_rfl) (by kernel_rfl) (fun _ _ _ h => h) hC (by kernel_rfl) ?f17_166 ?r17_166
            case f17_166 => (go_simp; try with_reducible rfl)
            refine anyC_skip (i := 18) (a' := ?a18_167) rfl (by kernel_rfl) (by kernel_rfl) (by kernel_rfl) (fun _ _ _ h => h) hC (by kernel_rfl) ?f18_167 ?r18_167
            case f18_167 => (go_simp; try with_reducible rfl)
            refine anyC_skip (i := 19) (a' := ?a19_168) rfl (by kernel_rfl) (by kernel_rfl) (by kernel_rfl) (fun _ _ _ h => h) hC (by kernel_rfl) ?f19_168 ?r19_168
            case f19_168 => (go_simp; try with_reducible rfl)
            refine anyC_skip (i := 20) (a' := ?a20_169) rfl (by kernel_rfl) (by kernel_rfl) (by kernel_rfl) (fun _ _ _ h => h) hC (by kernel_rfl) ?f20_169 ?r20_169
            case f20_169 => (go_simp; try with_reducible rfl)
            refine anyC_skip (i := 21) (a' := ?a21_170) rfl (by kernel_rfl) (by kernel_rfl) (by kernel_rfl) (fun _ _ _ h => h) hC (by kernel_rfl) ?f21_170 ?r21_170
            case f21_170 => (go_simp; try with_reducible rfl)
            refine anyC_skip (i := 22) (a' := ?a22_171) rfl (by kernel_rfl) (by kernel_rfl) (by kernel_rfl) (fun _ _ _ h => h) hC (by kernel_rfl) ?f22_171 ?r22_171
            case f22_171 => (go_simp; try with_reducible rfl)
            refine anyC_skip (i := 23) (a' := ?a23_172) rfl (by kernel_rfl) (by kernel_rfl) (by kernel_rfl) (fun _ _ _ h => h) hC (by kernel_rfl) ?f23_172 ?r23_172
            case f23_172 => (go_simp; try with_reducible rfl)
            refine anyC_take (i := 24) (v := ?v24_173) (a' := ?a24_173) rfl (by kernel_rfl) (by kernel_rfl) (by kernel_rfl) (fun _ _ _ h => h) hC ?w24_173 ?y24_173 ?f24_173 ?r24_173
            case w24_173 => kernel_rfl
            case y24_173 => (intro w hC; go_simp; try with_reducible rfl)
            case f24_173 => (go_simp; try with_reducible rfl)
            refine anyC_done (by kernel_rfl) ?_
            go_wp2
            go_ret
            exact ⟨ret_bool HE.out.symm, hEND.out⟩
        · obtain rfl : j = n' := by omega
          have HE : Hid (x.right = true) := by
            refine HRT.out.trans (Pm.ask_yes ⟨HB1.out, ⟨by rw [HL2.out]; omega, ?_⟩, fun i hi => hS.out i (by rw [HL2.out] at hi; exact hi)⟩)
            have h := hT.out
            rw [List.take_of_length_le (by rw [HL2.out]; exact Nat.le_refl _)] at h
            exact h
          have hEND := Lib.hid (HBW.out.trans (hBx.out.mono HBW.out.size))
          clear hT hS
          go_wp2
          go_ret
          exact ⟨ret_bool HE.out.symm, hEND.out⟩
end Go.Proofs.YtpgfnhdaembhmaaDoor
