/- Whether a plan is right: the document's. -/
import Derived.Test.YtdcdlnmgbgeeeaaDoorPi
namespace Go.Proofs.YtdcdlnmgbgeeeaaDoor
open Go.RowKit Go.Shelf

namespace Pm
theorem sg_small {n : Int} (h : U n) : (0 ≤ sg n ∧ sg n ≤ 65535) ↔ n ≤ 65535 := by unfold U at h; unfold sg; split <;> omega
def Small (x : Pl) : Prop := 0 ≤ x.e ∧ -1 ≤ x.t ∧ x.t ≤ 15 ∧ -1 ≤ x.p ∧ x.p ≤ 15 ∧ -1 ≤ x.s ∧ x.s ≤ 15 ∧ 0 ≤ x.c ∧ x.c ≤ 100 ∧ (0 ≤ x.st ∧ x.st ≤ 1099511627776) ∧ (0 ≤ x.si ∧ x.si ≤ 1099511627776) ∧ (0 ≤ x.ra ∧ x.ra ≤ 1099511627776) ∧ x.up ≤ 65535 ∧ x.su ≤ 65535
theorem rt_iff {x : Pl} (hx : x.Ok) : Rt x.nums x.pen x.ch ↔
    (0 ≤ x.e ∧ -1 ≤ x.t ∧ x.t ≤ 15 ∧ -1 ≤ x.p ∧ x.p ≤ 15 ∧ -1 ≤ x.s ∧ x.s ≤ 15 ∧ 0 ≤ x.c ∧ x.c ≤ 100 ∧ (0 ≤ x.st ∧ x.st ≤ 1099511627776) ∧ (0 ≤ x.si ∧ x.si ≤ 1099511627776) ∧ (0 ≤ x.ra ∧ x.ra ≤ 1099511627776) ∧ x.up ≤ 65535 ∧ x.su ≤ 65535) ∧
      Bd x.pen 16 1000000 ∧ Bd x.ch 8 1099511627776 ∧ Sd x.ch := by
  have hu := sg_small hx.up
  have hs := sg_small hx.su
  have he := hx.e
  unfold I at he
  constructor
  · rintro ⟨h, h2⟩
    refine ⟨?_, h2⟩
    have a0 : 0 ≤ x.e ∧ x.e ≤ _ := h 0 (by omega)
    have a1 : -1 ≤ x.t ∧ x.t ≤ 15 := h 1 (by omega)
    have a2 : -1 ≤ x.p ∧ x.p ≤ 15 := h 2 (by omega)
    have a3 : -1 ≤ x.s ∧ x.s ≤ 15 := h 3 (by omega)
    have a4 : 0 ≤ x.c ∧ x.c ≤ 100 := h 4 (by omega)
    have a5 : 0 ≤ x.st ∧ x.st ≤ 1099511627776 := h 5 (by omega)
    have a6 : 0 ≤ x.si ∧ x.si ≤ 1099511627776 := h 6 (by omega)
    have a7 : 0 ≤ x.ra ∧ x.ra ≤ 1099511627776 := h 7 (by omega)
    have a8 : 0 ≤ sg x.up ∧ sg x.up ≤ 65535 := h 8 (by omega)
    have a9 : 0 ≤ sg x.su ∧ sg x.su ≤ 65535 := h 9 (by omega)
    have b8 := hu.1 a8
    have b9 := hs.1 a9
    omega
  · rintro ⟨h, h2⟩
    refine ⟨fun k hk => ?_, h2⟩
    have a8 := hu.2 (by omega)
    have a9 := hs.2 (by omega)
    match k, hk with
    | 0, _ => exact (⟨by omega, by omega⟩ : 0 ≤ x.e ∧ x.e ≤ 9223372036854775807)
    | 1, _ => exact (⟨by omega, by omega⟩ : -1 ≤ x.t ∧ x.t ≤ 15)
    | 2, _ => exact (⟨by omega, by omega⟩ : -1 ≤ x.p ∧ x.p ≤ 15)
    | 3, _ => exact (⟨by omega, by omega⟩ : -1 ≤ x.s ∧ x.s ≤ 15)
    | 4, _ => exact (⟨by omega, by omega⟩ : 0 ≤ x.c ∧ x.c ≤ 100)
    | 5, _ => exact (⟨by omega, by omega⟩ : 0 ≤ x.st ∧ x.st ≤ 1099511627776)
    | 6, _ => exact (⟨by omega, by omega⟩ : 0 ≤ x.si ∧ x.si ≤ 1099511627776)
    | 7, _ => exact (⟨by omega, by omega⟩ : 0 ≤ x.ra ∧ x.ra ≤ 1099511627776)
    | 8, _ => exact a8
    | 9, _ => exact a9
end Pm

set_option maxRecDepth 100000 in
set_option maxHeartbeats 8000000 in
theorem RRight_no (x : Pm.Pl) (A : Option Addr) (n c : Nat) (A' : Option Addr) (n' c' : Nat) (B : Nat) (w : World) (hp : PlAt w B x A n c A' n' c') (hno : ¬ (Pm.Small x ∧ n ≤ 16 ∧ n' ≤ 8)) :
    Calls Tryd.prog 14 #[pv x A n c A' n' c'] w fun e w' => e = .returned (.bool x.right) ∧ Below w.heap.size w w' := by
  unfold Pm.Small at hno
  have HNO := Lib.hid hno
  clear hno
  have hx1 := Bx.new w x A n c A' n' c' 26
  have hb1 := Lib.hid ((Below.refl w.heap.size w).alloc (Nat.le_refl _) (.cells (pvs x A n c A' n' c').toArray 26))
  have hz1 : (w.alloc (.cells (pvs x A n c A' n' c').toArray 26)).heap.size = w.heap.size + 1 := World.size_alloc ..
  have HRT : Hid (x.right = Pm.ask _) := congrArg Pm.ask (propext (Pm.rt_iff hp.ok))
  have hl1 := hp.l1
  have hl2 := hp.l2
  have hm1 := hp.c1
  have hm2 := hp.c2
  have hm3 := hp.m1
  have hm4 := hp.m2
  unfold maxLen at hm3 hm4
  have k0 := hx1.at 0 rfl
  have k1 := hx1.at 1 rfl
  have k2 := hx1.at 2 rfl
  have k3 := hx1.at 3 rfl
  have k4 := hx1.at 4 rfl
  have k5 := hx1.at 5 rfl
  have k6 := hx1.at 6 rfl
  have k7 := hx1.at 7 rfl
  have k8 := hx1.at 8 rfl
  have k9 := hx1.at 9 rfl
  have k10 := hx1.pen
  have k11 := hx1.ch
  clear hx1 hp
  rw [pv_eq]
  generalize pvs x A n c A' n' c' = L at *
  generalize x.e = xe at *
  generalize x.t = xt at *
  generalize x.p = xp at *
  generalize x.s = xs at *
  generalize x.c = xc at *
  generalize x.st = xst at *
  generalize x.si = xsi at *
  generalize x.ra = xra at *
  generalize x.up = xup at *
  generalize x.su = xsu at *
  have HL1 := Lib.hid hl1
  have HL2 := Lib.hid hl2
  have I1 := Lib.hid (in_any xst 0 1099511627776 (w.alloc (.cells L.toArray 26)))
  have I2 := Lib.hid (in_any xsi 0 1099511627776 (w.alloc (.cells L.toArray 26)))
  have I3 := Lib.hid (in_any xra 0 1099511627776 (w.alloc (.cells L.toArray 26)))
  by_cases d0 : xe < 0
  · have HE : Hid (x.right = false) := HRT.out.trans (Pm.ask_no (fun h => by have := h.1; omega))
    clear hl1 hl2
    go_enter Tryd.func14, Tryd.ntmps14
    go_wp2
    go_ret
    exact ⟨ret_bool HE.out.symm, hb1.out⟩
  by_cases d1 : xt < -1
  · have HE : Hid (x.right = false) := HRT.out.trans (Pm.ask_no (fun h => by have := h.1; omega))
    clear hl1 hl2
    go_enter Tryd.func14, Tryd.ntmps14
    go_wp2
    go_ret
    exact ⟨ret_bool HE.out.symm, hb1.out⟩
  by_cases d2 : 16 ≤ xt
  · have HE : Hid (x.right = false) := HRT.out.trans (Pm.ask_no (fun h => by have := h.1; omega))
    clear hl1 hl2
    go_enter Tryd.func14, Tryd.ntmps14
    go_wp2
    go_ret
    exact ⟨ret_bool HE.out.symm, hb1.out⟩
  by_cases d3 : xp < -1
  · have HE : Hid (x.right = false) := HRT.out.trans (Pm.ask_no (fun h => by have := h.1; omega))
    clear hl1 hl2
    go_enter Tryd.func14, Tryd.ntmps14
    go_wp2
    go_ret
    exact ⟨ret_bool HE.out.symm, hb1.out⟩
  by_cases d4 : 16 ≤ xp
  · have HE : Hid (x.right = false) := HRT.out.trans (Pm.ask_no (fun h => by have := h.1; omega))
    clear hl1 hl2
    go_enter Tryd.func14, Tryd.ntmps14
    go_wp2
    go_ret
    exact ⟨ret_bool HE.out.symm, hb1.out⟩
  by_cases d5 : xs < -1
  · have HE : Hid (x.right = false) := HRT.out.trans (Pm.ask_no (fun h => by have := h.1; omega))
    clear hl1 hl2
    go_enter Tryd.func14, Tryd.ntmps14
    go_wp2
    go_ret
    exact ⟨ret_bool HE.out.symm, hb1.out⟩
  by_cases d6 : 16 ≤ xs
  · have HE : Hid (x.right = false) := HRT.out.trans (Pm.ask_no (fun h => by have := h.1; omega))
    clear hl1 hl2
    go_enter Tryd.func14, Tryd.ntmps14
    go_wp2
    go_ret
    exact ⟨ret_bool HE.out.symm, hb1.out⟩
  by_cases d7 : xc < 0
  · have HE : Hid (x.right = false) := HRT.out.trans (Pm.ask_no (fun h => by have := h.1; omega))
    clear hl1 hl2
    go_enter Tryd.func14, Tryd.ntmps14
    go_wp2
    go_ret
    exact ⟨ret_bool HE.out.symm, hb1.out⟩
  by_cases d8 : 100 < xc
  · have HE : Hid (x.right = false) := HRT.out.trans (Pm.ask_no (fun h => by have := h.1; omega))
    clear hl1 hl2
    go_enter Tryd.func14, Tryd.ntmps14
    go_wp2
    go_ret
    exact ⟨ret_bool HE.out.symm, hb1.out⟩
  by_cases q1 : 0 ≤ xst ∧ xst ≤ 1099511627776
  case neg =>
    have HE : Hid (x.right = false) := HRT.out.trans (Pm.ask_no (fun h => q1 (by have := h.1; omega)))
    rw [Pm.ask_no q1] at I1
    clear hl1 hl2 q1
    go_enter Tryd.func14, Tryd.ntmps14
    go_wp2_with (go_at_call 26; fail)
    refine I1.out.mono ?_
    rintro e w' ⟨rfl, rfl⟩
    go_wp2
    go_ret
    exact ⟨ret_bool HE.out.symm, hb1.out⟩
  rw [Pm.ask_yes q1] at I1
  by_cases q2 : 0 ≤ xsi ∧ xsi ≤ 1099511627776
  case neg =>
    have HE : Hid (x.right = false) := HRT.out.trans (Pm.ask_no (fun h => q2 (by have := h.1; omega)))
    rw [Pm.ask_no q2] at I2
    clear hl1 hl2 q2
    go_enter Tryd.func14, Tryd.ntmps14
    go_wp2_with (go_at_call 26; fail)
    refine I1.out.mono ?_
    rintro e w' ⟨rfl, rfl⟩
    go_wp2_with (go_at_call 26; fail)
    refine I2.out.mono ?_
    rintro e w' ⟨rfl, rfl⟩
    go_wp2
    go_ret
    exact ⟨ret_bool HE.out.symm, hb1.out⟩
  rw [Pm.ask_yes q2] at I2
  by_cases q3 : 0 ≤ xra ∧ xra ≤ 1099511627776
  case neg =>
    have HE : Hid (x.right = false) := HRT.out.trans (Pm.ask_no (fun h => q3 (by have := h.1; omega)))
    rw [Pm.ask_no q3] at I3
    clear hl1 hl2 q3
    go_enter Tryd.func14, Tryd.ntmps14
    go_wp2_with (go_at_call 26; fail)
    refine I1.out.mono ?_
    rintro e w' ⟨rfl, rfl⟩
    go_wp2_with (go_at_call 26; fail)
    refine I2.out.mono ?_
    rintro e w' ⟨rfl, rfl⟩
    go_wp2_with (go_at_call 26; fail)
    refine I3.out.mono ?_
    rintro e w' ⟨rfl, rfl⟩
    go_wp2
    go_ret
    exact ⟨ret_bool HE.out.symm, hb1.out⟩
  rw [Pm.ask_yes q3] at I3
  by_cases d9 : 65535 < xup
  · have HE : Hid (x.right = false) := HRT.out.trans (Pm.ask_no (fun h => by have := h.1; omega))
    clear hl1 hl2
    go_enter Tryd.func14, Tryd.ntmps14
    go_wp2_with (go_at_call 26; fail)
    refine I1.out.mono ?_
    rintro e w' ⟨rfl, rfl⟩
    go_wp2_with (go_at_call 26; fail)
    refine I2.out.mono ?_
    rintro e w' ⟨rfl, rfl⟩
    go_wp2_with (go_at_call 26; fail)
    refine I3.out.mono ?_
    rintro e w' ⟨rfl, rfl⟩
    go_wp2
    go_ret
    exact ⟨ret_bool HE.out.symm, hb1.out⟩
  by_cases d10 : 65535 < xsu
  · have HE : Hid (x.right = false) := HRT.out.trans (Pm.ask_no (fun h => by have := h.1; omega))
    clear hl1 hl2
    go_enter Tryd.func14, Tryd.ntmps14
    go_wp2_with (go_at_call 26; fail)
    refine I1.out.mono ?_
    rintro e w' ⟨rfl, rfl⟩
    go_wp2_with (go_at_call 26; fail)
    refine I2.out.mono ?_
    rintro e w' ⟨rfl, rfl⟩
    go_wp2_with (go_at_call 26; fail)
    refine I3.out.mono ?_
    rintro e w' ⟨rfl, rfl⟩
    go_wp2
    go_ret
    exact ⟨ret_bool HE.out.symm, hb1.out⟩
  by_cases d11 : 16 < n
  · have HE : Hid (x.right = false) := HRT.out.trans (Pm.ask_no (fun h => by have := h.2.1.1; omega))
    clear hl1 hl2
    go_enter Tryd.func14, Tryd.ntmps14
    go_wp2_with (go_at_call 26; fail)
    refine I1.out.mono ?_
    rintro e w' ⟨rfl, rfl⟩
    go_wp2_with (go_at_call 26; fail)
    refine I2.out.mono ?_
    rintro e w' ⟨rfl, rfl⟩
    go_wp2_with (go_at_call 26; fail)
    refine I3.out.mono ?_
    rintro e w' ⟨rfl, rfl⟩
    go_wp2
    go_ret
    exact ⟨ret_bool HE.out.symm, hb1.out⟩
  by_cases d12 : 8 < n'
  · have HE : Hid (x.right = false) := HRT.out.trans (Pm.ask_no (fun h => by have := h.2.2.1.1; omega))
    clear hl1 hl2
    go_enter Tryd.func14, Tryd.ntmps14
    go_wp2_with (go_at_call 26; fail)
    refine I1.out.mono ?_
    rintro e w' ⟨rfl, rfl⟩
    go_wp2_with (go_at_call 26; fail)
    refine I2.out.mono ?_
    rintro e w' ⟨rfl, rfl⟩
    go_wp2_with (go_at_call 26; fail)
    refine I3.out.mono ?_
    rintro e w' ⟨rfl, rfl⟩
    go_wp2
    go_ret
    exact ⟨ret_bool HE.out.symm, hb1.out⟩
  exact absurd (by omega) HNO.out
end Go.Proofs.YtdcdlnmgbgeeeaaDoor
