/- Whether a plan is right: the document's. -/
import Derived.Test.YtbkdenlhfigjhaaDoorBPb
import Derived.Test.YtbkdenlhfigjhaaDoorBMa
import Derived.Test.YtbkdenlhfigjhaaDoorBQv
namespace Go.Proofs.YtbkdenlhfigjhaaDoor
open Go.RowKit Go.Shelf

namespace Pm
theorem sg_small {n : Int} (h : U n) : (0 ≤ sg n ∧ sg n ≤ 65535) ↔ n ≤ 65535 := by unfold U at h; unfold sg; split <;> omega
def Small (x : Pl) : Prop := 0 ≤ x.e ∧ -1 ≤ x.t ∧ x.t ≤ 15 ∧ -1 ≤ x.p ∧ x.p ≤ 15 ∧ -1 ≤ x.s ∧ x.s ≤ 15 ∧ 0 ≤ x.c ∧ x.c ≤ 100 ∧ (0 ≤ x.st ∧ x.st ≤ 1099511627776) ∧ (0 ≤ x.si ∧ x.si ≤ 1099511627776) ∧ (0 ≤ x.ra ∧ x.ra ≤ 1099511627776) ∧ x.up ≤ 65535 ∧ x.su ≤ 65535
theorem rt_iff {x : Pl} (hx : x.Ok) : Rt x.nums x.pen x.ch ↔
    (0 ≤ x.e ∧ -1 ≤ x.t ∧ x.t ≤ 15 ∧ -1 ≤ x.p ∧ x.p ≤ 15 ∧ -1 ≤ x.s ∧ x.s ≤ 15 ∧ 0 ≤ x.c ∧ x.c ≤ 100 ∧ (0 ≤ x.st ∧ x.st ≤ 1099511627776) ∧ (0 ≤ x.si ∧ x.si ≤ 1099511627776) ∧ (0 ≤ x.ra ∧ x.ra ≤ 1099511627776) ∧ x.up ≤ 65535 ∧ x.su ≤ 65535) ∧
      Bd x.pen 16 1000000 ∧ Bd x.ch 8 1099511627776 ∧ Sd x.ch := by
  have hu := sg_small hx.up
  have hs := sg_small hx.su
  have he := hx.e
  unfold I at he
  constructor
  · rintro ⟨h, h2⟩
    refine ⟨?_, h2⟩
    have a0 : 0 ≤ x.e ∧ x.e ≤ _ := h 0 (by omega)
    have a1 : -1 ≤ x.t ∧ x.t ≤ 15 := h 1 (by omega)
    have a2 : -1 ≤ x.p ∧ x.p ≤ 15 := h 2 (by omega)
    have a3 : -1 ≤ x.s ∧ x.s ≤ 15 := h 3 (by omega)
    have a4 : 0 ≤ x.c ∧ x.c ≤ 100 := h 4 (by omega)
    have a5 : 0 ≤ x.st ∧ x.st ≤ 1099511627776 := h 5 (by omega)
    have a6 : 0 ≤ x.si ∧ x.si ≤ 1099511627776 := h 6 (by omega)
    have a7 : 0 ≤ x.ra ∧ x.ra ≤ 1099511627776 := h 7 (by omega)
    have a8 : 0 ≤ sg x.up ∧ sg x.up ≤ 65535 := h 8 (by omega)
    have a9 : 0 ≤ sg x.su ∧ sg x.su ≤ 65535 := h 9 (by omega)
    have b8 := hu.1 a8
    have b9 := hs.1 a9
    omega
  · rintro ⟨h, h2⟩
    refine ⟨fun k hk => ?_, h2⟩
    have a8 := hu.2 (by omega)
    have a9 := hs.2 (by omega)
    match k, hk with
    | 0, _ => exact (⟨by omega, by omega⟩ : 0 ≤ x.e ∧ x.e ≤ 9223372036854775807)
    | 1, _ => exact (⟨by omega, by omega⟩ : -1 ≤ x.t ∧ x.t ≤ 15)
    | 2, _ => exact (⟨by omega, by omega⟩ : -1 ≤ x.p ∧ x.p ≤ 15)
    | 3, _ => exact (⟨by omega, by omega⟩ : -1 ≤ x.s ∧ x.s ≤ 15)
    | 4, _ => exact (⟨by omega, by omega⟩ : 0 ≤ x.c ∧ x.c ≤ 100)
    | 5, _ => exact (⟨by omega, by omega⟩ : 0 ≤ x.st ∧ x.st ≤ 1099511627776)
    | 6, _ => exact (⟨by omega, by omega⟩ : 0 ≤ x.si ∧ x.si ≤ 1099511627776)
    | 7, _ => exact (⟨by omega, by omega⟩ : 0 ≤ x.ra ∧ x.ra ≤ 1099511627776)
    | 8, _ => exact a8
    | 9, _ => exact a9
end Pm

set_option maxRecDepth 100000 in
set_option maxHeartbeats 8000000 in
theorem RRight_no (x : Pm.Pl) (A : Option Addr) (n c : Nat) (A' : Option Addr) (n' c' : Nat) (B : Nat) (w : World) (hp : PlAt w B x A n c A' n' c') (hno : ¬ (Pm.Small x ∧ n ≤ 16 ∧ n' ≤ 8)) :
    Calls Tryd.prog 24 #[pv x A n c A' n' c'] w fun e w' => e = .returned (.bool x.right) ∧ Below w.heap.size w w' := by
  unfold Pm.Small at hno
  have HNO := Lib.hid hno
  clear hno
  have hx1 := Bx.new w x A n c A' n' c' 36
  have hb1 := Lib.hid ((Below.refl w.heap.size w).alloc (Nat.le_refl _) (.cells (pvs x A n c A' n' c').toArray 36))
  have hz1 : (w.alloc (.cells (pvs x A n c A' n' c').toArray 36)).heap.size = w.heap.size + 1 := World.size_alloc ..
  have HRT : Hid (x.right = Pm.ask _) := congrArg Pm.ask (propext (Pm.rt_iff hp.ok))
  have hl1 := hp.l1
  have hl2 := hp.l2
  have hm1 := hp.c1
  have hm2 := hp.c2
  have hm3 := hp.m1
  have hm4 := hp.m2
  unfold maxLen at hm3 hm4
  have k0 := hx1.at 0 rfl
  have k1 := hx1.at 1 rfl
  have k2 := hx1.at 2 rfl
  have k3 := hx1.at 3 rfl
  have k4 := hx1.at 4 rfl
  have k5 := hx1.at 5 rfl
  have k6 := hx1.at 6 rfl
  have k7 := hx1.at 7 rfl
  have k8 := hx1.at 8 rfl
  have k9 := hx1.at 9 rfl
  have k10 := hx1.pen
  have k11 := hx1.ch
  clear hx1 hp
  rw [pv_eq]
  generalize pvs x A n c A' n' c' = L at *
  generalize x.e = xe at *
  generalize x.t = xt at *
  generalize x.p = xp at *
  generalize x.s = xs at *
  generalize x.c = xc at *
  generalize x.st = xst at *
  generalize x.si = xsi at *
  generalize x.ra = xra at *
  generalize x.up = xup at *
  generalize x.su = xsu at *
  have HL1 := Lib.hid hl1
  have HL2 := Lib.hid hl2
  have I1 := Lib.hid (in_any xst 0 1099511627776 (w.alloc (.cells L.toArray 36)))
  have I2 := Lib.hid (in_any xsi 0 1099511627776 (w.alloc (.cells L.toArray 36)))
  have I3 := Lib.hid (in_any xra 0 1099511627776 (w.alloc (.cells L.toArray 36)))
  by_cases d0 : xe < 0
  · have HE : Hid (x.right = false) := HRT.out.trans (Pm.ask_no (fun h => by have := h.1; omega))
    clear hl1 hl2
    go_enter Tryd.func24, Tryd.ntmps24
    go_wp2
    go_ret
    exact ⟨ret_bool HE.out.symm, hb1.out⟩
  by_cases d1 : xt < -1
  · have HE : Hid (x.right = false) := HRT.out.trans (Pm.ask_no (fun h => by have := h.1; omega))
    clear hl1 hl2
    go_enter Tryd.func24, Tryd.ntmps24
    go_wp2
    go_ret
    exact ⟨ret_bool HE.out.symm, hb1.out⟩
  by_cases d2 : 16 ≤ xt
  · have HE : Hid (x.right = false) := HRT.out.trans (Pm.ask_no (fun h => by have := h.1; omega))
    clear hl1 hl2
    go_enter Tryd.func24, Tryd.ntmps24
    go_wp2
    go_ret
    exact ⟨ret_bool HE.out.symm, hb1.out⟩
  by_cases d3 : xp < -1
  · have HE : Hid (x.right = false) := HRT.out.trans (Pm.ask_no (fun h => by have := h.1; omega))
    clear hl1 hl2
    go_enter Tryd.func24, Tryd.ntmps24
    go_wp2
    go_ret
    exact ⟨ret_bool HE.out.symm, hb1.out⟩
  by_cases d4 : 16 ≤ xp
  · have HE : Hid (x.right = false) := HRT.out.trans (Pm.ask_no (fun h => by have := h.1; omega))
    clear hl1 hl2
    go_enter Tryd.func24, Tryd.ntmps24
    go_wp2
    go_ret
    exact ⟨ret_bool HE.out.symm, hb1.out⟩
  by_cases d5 : xs < -1
  · have HE : Hid (x.right = false) := HRT.out.trans (Pm.ask_no (fun h => by have := h.1; omega))
    clear hl1 hl2
    go_enter Tryd.func24, Tryd.ntmps24
    go_wp2
    go_ret
    exact ⟨ret_bool HE.out.symm, hb1.out⟩
  by_cases d6 : 16 ≤ xs
  · have HE : Hid (x.right = false) := HRT.out.trans (Pm.ask_no (fun h => by have := h.1; omega))
    clear hl1 hl2
    go_enter Tryd.func24, Tryd.ntmps24
    go_wp2
    go_ret
    exact ⟨ret_bool HE.out.symm, hb1.out⟩
  by_cases d7 : xc < 0
  · have HE : Hid (x.right = false) := HRT.out.trans (Pm.ask_no (fun h => by have := h.1; omega))
    clear hl1 hl2
    go_enter Tryd.func24, Tryd.ntmps24
    go_wp2
    go_ret
    exact ⟨ret_bool HE.out.symm, hb1.out⟩
  by_cases d8 : 100 < xc
  · have HE : Hid (x.right = false) := HRT.out.trans (Pm.ask_no (fun h => by have := h.1; omega))
    clear hl1 hl2
    go_enter Tryd.func24, Tryd.ntmps24
    go_wp2
    go_ret
    exact ⟨ret_bool HE.out.symm, hb1.out⟩
  by_cases q1 : 0 ≤ xst ∧ xst ≤ 1099511627776
  case neg =>
    have HE : Hid (x.right = false) := HRT.out.trans (Pm.ask_no (fun h => q1 (by have := h.1; omega)))
    rw [Pm.ask_no q1] at I1
    clear hl1 hl2 q1
    go_enter Tryd.func24, Tryd.ntmps24
    go_wp2_with (go_at_call 42; fail)
    refine I1.out.mono ?_
    rintro e w' ⟨rfl, rfl⟩
    go_wp2
    go_ret
    exact ⟨ret_bool HE.out.symm, hb1.out⟩
  rw [Pm.ask_yes q1] at I1
  by_cases q2 : 0 ≤ xsi ∧ xsi ≤ 1099511627776
  case neg =>
    have HE : Hid (x.right = false) := HRT.out.trans (Pm.ask_no (fun h => q2 (by have := h.1; omega)))
    rw [Pm.ask_no q2] at I2
    clear hl1 hl2 q2
    go_enter Tryd.func24, Tryd.ntmps24
    go_wp2_with (go_at_call 42; fail)
    refine I1.out.mono ?_
    rintro e w' ⟨rfl, rfl⟩
    go_wp2_with (go_at_call 42; fail)
    refine I2.out.mono ?_
    rintro e w' ⟨rfl, rfl⟩
    go_wp2
    go_ret
    exact ⟨ret_bool HE.out.symm, hb1.out⟩
  rw [Pm.ask_yes q2] at I2
  by_cases q3 : 0 ≤ xra ∧ xra ≤ 1099511627776
  case neg =>
    have HE : Hid (x.right = false) := HRT.out.trans (Pm.ask_no (fun h => q3 (by have := h.1; omega)))
    rw [Pm.ask_no q3] at I3
    clear hl1 hl2 q3
    go_enter Tryd.func24, Tryd.ntmps24
    go_wp2_with (go_at_call 42; fail)
    refine I1.out.mono ?_
    rintro e w' ⟨rfl, rfl⟩
    go_wp2_with (go_at_call 42; fail)
    refine I2.out.mono ?_
    rintro e w' ⟨rfl, rfl⟩
    go_wp2_with (go_at_call 42; fail)
    refine I3.out.mono ?_
    rintro e w' ⟨rfl, rfl⟩
    go_wp2
    go_ret
    exact ⟨ret_bool HE.out.symm, hb1.out⟩
  rw [Pm.ask_yes q3] at I3
  by_cases d9 : 65535 < xup
  · have HE : Hid (x.right = false) := HRT.out.trans (Pm.ask_no (fun h => by have := h.1; omega))
    clear hl1 hl2
    go_enter Tryd.func24, Tryd.ntmps24
    go_wp2_with (go_at_call 42; fail)
    refine I1.out.mono ?_
    rintro e w' ⟨rfl, rfl⟩
    go_wp2_with (go_at_call 42; fail)
    refine I2.out.mono ?_
    rintro e w' ⟨rfl, rfl⟩
    go_wp2_with (go_at_call 42; fail)
    refine I3.out.mono ?_
    rintro e w' ⟨rfl, rfl⟩
    go_wp2
    go_ret
    exact ⟨ret_bool HE.out.symm, hb1.out⟩
  by_cases d10 : 65535 < xsu
  · have HE : Hid (x.right = false) := HRT.out.trans (Pm.ask_no (fun h => by have := h.1; omega))
    clear hl1 hl2
    go_enter Tryd.func24, Tryd.ntmps24
    go_wp2_with (go_at_call 42; fail)
    refine I1.out.mono ?_
    rintro e w' ⟨rfl, rfl⟩
    go_wp2_with (go_at_call 42; fail)
    refine I2.out.mono ?_
    rintro e w' ⟨rfl, rfl⟩
    go_wp2_with (go_at_call 42; fail)
    refine I3.out.mono ?_
    rintro e w' ⟨rfl, rfl⟩
    go_wp2
    go_ret
    exact ⟨ret_bool HE.out.symm, hb1.out⟩
  by_cases d11 : 16 < n
  · have HE : Hid (x.right = false) := HRT.out.trans (Pm.ask_no (fun h => by have := h.2.1.1; omega))
    clear hl1 hl2
    go_enter Tryd.func24, Tryd.ntmps24
    go_wp2_with (go_at_call 42; fail)
    refine I1.out.mono ?_
    rintro e w' ⟨rfl, rfl⟩
    go_wp2_with (go_at_call 42; fail)
    refine I2.out.mono ?_
    rintro e w' ⟨rfl, rfl⟩
    go_wp2_with (go_at_call 42; fail)
    refine I3.out.mono ?_
    rintro e w' ⟨rfl, rfl⟩
    go_wp2
    go_ret
    exact ⟨ret_bool HE.out.symm, hb1.out⟩
  by_cases d12 : 8 < n'
  · have HE : Hid (x.right = false) := HRT.out.trans (Pm.ask_no (fun h => by have := h.2.2.1.1; omega))
    clear hl1 hl2
    go_enter Tryd.func24, Tryd.ntmps24
    go_wp2_with (go_at_call 42; fail)
    refine I1.out.mono ?_
    rintro e w' ⟨rfl, rfl⟩
    go_wp2_with (go_at_call 42; fail)
    refine I2.out.mono ?_
    rintro e w' ⟨rfl, rfl⟩
    go_wp2_with (go_at_call 42; fail)
    refine I3.out.mono ?_
    rintro e w' ⟨rfl, rfl⟩
    go_wp2
    go_ret
    exact ⟨ret_bool HE.out.symm, hb1.out⟩
  exact absurd (by omega) HNO.out
end Go.Proofs.YtbkdenlhfigjhaaDoor

/- Whether a plan is right, further: the document's. -/
namespace Go.Proofs.YtbkdenlhfigjhaaDoor
open Go.RowKit Go.Shelf

set_option maxRecDepth 100000 in
set_option maxHeartbeats 8000000 in
theorem RRight_any (x : Pm.Pl) (A : Option Addr) (n c : Nat) (A' : Option Addr) (n' c' : Nat) (B : Nat) (w : World) (hp : PlAt w B x A n c A' n' c') (hB : B ≤ w.heap.size) :
    Calls Tryd.prog 24 #[pv x A n c A' n' c'] w fun e w' => e = .returned (.bool x.right) ∧ Below w.heap.size w w' := by
  by_cases hsm : Pm.Small x ∧ n ≤ 16 ∧ n' ≤ 8
  case neg => exact RRight_no x A n c A' n' c' B w hp hsm
  obtain ⟨hsm, hn16, hn8⟩ := hsm
  have hx1 := Bx.new w x A n c A' n' c' 36
  have hb1 := Lib.hid ((Below.refl w.heap.size w).alloc (Nat.le_refl _) (.cells (pvs x A n c A' n' c').toArray 36))
  have HRT : Hid (x.right = Pm.ask (Pm.Bd x.pen 16 1000000 ∧ Pm.Bd x.ch 8 1099511627776 ∧ Pm.Sd x.ch)) := congrArg Pm.ask (propext ((Pm.rt_iff hp.ok).trans ⟨fun h => h.2, fun h => ⟨hsm, h⟩⟩))
  unfold Pm.Small at hsm
  have hl1 := hp.l1
  have hl2 := hp.l2
  have hm1 := hp.c1
  have hm2 := hp.c2
  have HX := Lib.hid hp.r1
  have HY := Lib.hid hp.r2
  have k0 := hx1.at 0 rfl
  have k1 := hx1.at 1 rfl
  have k2 := hx1.at 2 rfl
  have k3 := hx1.at 3 rfl
  have k4 := hx1.at 4 rfl
  have k5 := hx1.at 5 rfl
  have k6 := hx1.at 6 rfl
  have k7 := hx1.at 7 rfl
  have k8 := hx1.at 8 rfl
  have k9 := hx1.at 9 rfl
  have k10 := hx1.pen
  have k11 := hx1.ch
  clear hx1 hp
  rw [pv_eq]
  generalize pvs x A n c A' n' c' = L at *
  generalize x.e = xe at *
  generalize x.t = xt at *
  generalize x.p = xp at *
  generalize x.s = xs at *
  generalize x.c = xc at *
  generalize x.st = xst at *
  generalize x.si = xsi at *
  generalize x.ra = xra at *
  generalize x.up = xup at *
  generalize x.su = xsu at *
  obtain ⟨d0, d1, d2, d3, d4, d5, d6, d7, d8, q1, q2, q3, d9, d10⟩ := hsm
  have HL1 := Lib.hid hl1
  have HL2 := Lib.hid hl2
  have I1 := Lib.hid (in_any xst 0 1099511627776 (w.alloc (.cells L.toArray 36)))
  have I2 := Lib.hid (in_any xsi 0 1099511627776 (w.alloc (.cells L.toArray 36)))
  have I3 := Lib.hid (in_any xra 0 1099511627776 (w.alloc (.cells L.toArray 36)))
  rw [Pm.ask_yes q1] at I1
  rw [Pm.ask_yes q2] at I2
  rw [Pm.ask_yes q3] at I3
  have e0 : ¬ xe < 0 := by omega
  have e1 : ¬ xt < -1 := by omega
  have e2 : ¬ 16 ≤ xt := by omega
  have e3 : ¬ xp < -1 := by omega
  have e4 : ¬ 16 ≤ xp := by omega
  have e5 : ¬ xs < -1 := by omega
  have e6 : ¬ 16 ≤ xs := by omega
  have e7 : ¬ xc < 0 := by omega
  have e8 : ¬ 100 < xc := by omega
  have e9 : ¬ 65535 < xup := by omega
  have e10 : ¬ 65535 < xsu := by omega
  have e11 : ¬ 16 < n := by omega
  have e12 : ¬ 8 < n' := by omega
  clear hl1 hl2 q1 q2 q3 d0 d1 d2 d3 d4 d5 d6 d7 d8 d9 d10
  go_enter Tryd.func24, Tryd.ntmps24
  go_wp2_with (go_at_call 42; fail)
  refine I1.out.mono ?_
  rintro e w' ⟨rfl, rfl⟩
  go_wp2_with (go_at_call 42; fail)
  refine I2.out.mono ?_
  rintro e w' ⟨rfl, rfl⟩
  go_wp2_with (go_at_call 42; fail)
  refine I3.out.mono ?_
  rintro e w' ⟨rfl, rfl⟩
  clear I1 I2 I3
  go_wp2_with fail
  have HX1 := Lib.hid (HX.out.below (hb1.out.mono hB))
  have HY1 := Lib.hid (HY.out.below (hb1.out.mono hB))
  clear k0 k1 k2 k3 k4 k5 k6 k7 k8 k9 e0 e1 e2 e3 e4 e5 e6 e7 e8 e9 e10 e11 e12 HX HY
  have K10 := Lib.hid k10
  have K11 := Lib.hid k11
  go_loopw [3] (fun ix wr => ∃ (k : Nat), ix = .int .i64 (k : Int) ∧ k ≤ n ∧ Hid (∀ m ∈ x.pen.take k, 0 ≤ m ∧ m ≤ 1000000) ∧ Hid (wr = w.alloc (.cells L.toArray 36))) (fun ix _ => n - (intOf ix).toNat)
  case atStart => exact ⟨0, rfl, by omega, Lib.hid (fun m h => absurd h List.not_mem_nil), Lib.hid rfl⟩
  case round =>
    obtain ⟨k, rfl, hk, hT, hW⟩ := hrel
    have hx' : Rd wr B A (i64s x.pen) := by rw [hW.out]; exact HX1.out
    have k10' : wr.cell? ⟨w.heap.size, 10, none⟩ = some (.slice A n c) := by rw [hW.out]; exact K10.out
    have k11' : wr.cell? ⟨w.heap.size, 11, none⟩ = some (.slice A' n' c') := by rw [hW.out]; exact K11.out
    clear k10 k11
    by_cases hlt : k < n
    · obtain ⟨y, hyk⟩ : ∃ y, x.pen[k]? = some y := ⟨x.pen[k]'(by have := HL1.out; omega), List.getElem?_eq_getElem (by have := HL1.out; omega)⟩
      obtain ⟨ad1, rfl, _, hc1⟩ := hx'.getU hyk
      by_cases h0 : y < 0
      · have HE : Hid (x.right = false) := HRT.out.trans (Pm.ask_no (fun h => by have := (h.1.2 y (List.mem_of_getElem? hyk)).1; omega))
        clear hyk hx'
        go_wp2
        go_ret
        exact ⟨ret_bool HE.out.symm, by rw [hW.out]; exact hb1.out⟩
      · by_cases h1 : 1000000 < y
        · have HE : Hid (x.right = false) := HRT.out.trans (Pm.ask_no (fun h => by have := (h.1.2 y (List.mem_of_getElem? hyk)).2; omega))
          clear hyk hx'
          go_wp2
          go_ret
          exact ⟨ret_bool HE.out.symm, by rw [hW.out]; exact hb1.out⟩
        · have HS : Hid (∀ m ∈ x.pen.take (k + 1), 0 ≤ m ∧ m ≤ 1000000) := by
            intro m hm
            rw [List.take_add_one, hyk] at hm
            rcases List.mem_append.1 hm with h | h
            · exact hT.out m h
            · simp at h; subst h; omega
          clear hyk hx'
          go_wp2
          go_roundw
          case rel => exact ⟨k + 1, by go_num, by omega, HS, hW⟩
          case measure => simp [intOf]; omega
    · obtain rfl : k = n := by omega
      have HB1 : Hid (Pm.Bd x.pen 16 1000000) := by
        refine ⟨by rw [HL1.out]; omega, ?_⟩
        have h := hT.out
        rw [List.take_of_length_le (by rw [HL1.out]; exact Nat.le_refl _)] at h
        exact h
      clear hT hx' HX1
      go_wp2_with fail
      have K11w := Lib.hid k11'
      have HY2 : Hid (Rd wr B A' (i64s x.ch)) := by rw [hW.out]; exact HY1.out
      have HBW : Hid (Below w.heap.size w wr) := by rw [hW.out]; exact hb1.out
      clear hW HY1 hb1 k10' k11' K10 K11 hlt
      obtain ⟨wp, ew⟩ : ∃ wp, wp = wr := ⟨_, rfl⟩
      subst ew
      go_loopw [4] (fun ix wr => ∃ (j : Nat), ix = .int .i64 (j : Int) ∧ j ≤ n' ∧ Hid (∀ m ∈ x.ch.take j, 0 ≤ m ∧ m ≤ 1099511627776) ∧ Hid (∀ i, i + 1 < j → x.ch.getD i 0 ≤ x.ch.getD (i + 1) 0) ∧ Hid (Below wp.heap.size wp wr)) (fun ix _ => n' - (intOf ix).toNat)
      case atStart => exact ⟨0, rfl, by omega, Lib.hid (fun m h => absurd h List.not_mem_nil), Lib.hid (fun i h => absurd h (Nat.not_lt_zero _)), Lib.hid (Below.refl _ _)⟩
      case round =>
        obtain ⟨j, rfl, hj, hT, hS, hBx⟩ := hrel
        have hbz : w.heap.size < wp.heap.size := World.block_lt_of_cell? wp _ K11w.out
        have hk11x : wr.cell? ⟨w.heap.size, 11, none⟩ = some (.slice A' n' c') := by rw [hBx.out.cell (by exact hbz)]; exact K11w.out
        by_cases hlt : j < n'
        · obtain ⟨y, hyk⟩ : ∃ y, x.ch[j]? = some y := ⟨x.ch[j]'(by have := HL2.out; omega), List.getElem?_eq_getElem (by have := HL2.out; omega)⟩
          have hxr := (HY2.out.below (hBx.out.mono (Nat.le_trans hB HBW.out.size)))
          obtain ⟨ad2, rfl, hadB, hc2⟩ := hxr.getU hyk
          have hadz : ad2.block < wr.heap.size := by have := HBW.out.size; have := hBx.out.size; omega
          have F11 : Hid (∀ W, Below wr.heap.size wr W → W.cell? ⟨w.heap.size, 11, none⟩ = some (.slice (some ad2) n' c')) := fun W h => by
            rw [h.cell (by show w.heap.size < _; have := hBx.out.size; omega)]; exact hk11x
          have FY : Hid (∀ W, Below wr.heap.size wr W → W.cell? (ad2.add j) = some (.int .i64 y)) := fun W h => by
            rw [h.cell (by rw [addr_add_block]; exact hadz)]; exact hc2
          have HYK := Lib.hid hyk
          have hjn : (j : Int) < (n' : Int) := by omega
          have hEND := Lib.hid (HBW.out.trans (hBx.out.mono HBW.out.size)).drew
          have HXR := Lib.hid hxr
          clear hyk hc2 hxr hadB
          go_wp2_with fail
          refine region_C (fun W => Below wr.heap.size wr W) (by kernel_rfl) ?_
          have hC : Below wr.heap.size wr wr.drew := (Below.refl _ _).drew
          refine anyC_take (i := 0) (v := ?v0_55) (a' := ?a0_55) rfl (by kernel_rfl) (by kernel_rfl) (by kernel_rfl) (fun _ _ _ h => h) hC ?w0_55 ?y0_55 ?f0_55 ?r0_55
          case w0_55 => kernel_rfl
          case y0_55 => (intro w hC; go_simp; try with_reducible rfl)
          case f0_55 => (go_simp; try with_reducible rfl)
          refine anyC_take (i := 2) (v := ?v2_56) (a' := ?a2_56) rfl (by kernel_rfl) (by kernel_rfl) (by kernel_rfl) (fun _ _ _ h => h) hC ?w2_56 ?y2_56 ?f2_56 ?r2_56
          case w2_56 => kernel_rfl
          case y2_56 => (intro w hC; go_simp; try with_reducible rfl)
          case f2_56 => (go_simp; try with_reducible rfl)
          refine anyC_take (i := 1) (v := ?v1_57) (a' := ?a1_57) rfl (by kernel_rfl) (by kernel_rfl) (by kernel_rfl) (fun _ _ _ h => h) hC ?w1_57 ?y1_57 ?f1_57 ?r1_57
          case w1_57 => kernel_rfl
          case y1_57 => (intro w hC; have h4 := F11.out w hC; go_simp; try with_reducible rfl)
          case f1_57 => (go_simp; try with_reducible rfl)
          refine anyC_take (i := 3) (v := ?v3_58) (a' := ?a3_58) rfl (by kernel_rfl) (by kernel_rfl) (by kernel_rfl) (fun _ _ _ h => h) hC ?w3_58 ?y3_58 ?f3_58 ?r3_58
          case w3_58 => kernel_rfl
          case y3_58 => (intro w hC; go_simp; try with_reducible rfl)
          case f3_58 => (go_simp; try with_reducible rfl)
          refine anyC_take (i := 4) (v := ?v4_59) (a' := ?a4_59) rfl (by kernel_rfl) (by kernel_rfl) (by kernel_rfl) (fun _ _ _ h => h) hC ?w4_59 ?y4_59 ?f4_59 ?r4_59
          case w4_59 => kernel_rfl
          case y4_59 => (intro w hC; have h4 := FY.out w hC; go_simp; try with_reducible rfl)
          case f4_59 => (go_simp; try with_reducible rfl)
          refine anyC_one (i := 5) rfl (by kernel_rfl) (by kernel_rfl) (fun K hK => ?_)
          go_simp
          refine (in_any y 0 1099511627776 wr.drew).mono ?_
          rintro e w' ⟨rfl, rfl⟩
          refine hK _ _ ⟨hC, ?_⟩
          clear hK K
          by_cases hin : 0 ≤ y ∧ y ≤ 1099511627776
          · have HS1 : Hid (∀ m ∈ x.ch.take (j + 1), 0 ≤ m ∧ m ≤ 1099511627776) := by
              intro m hm
              rw [List.take_add_one, HYK.out] at hm
              rcases List.mem_append.1 hm with h | h
              · exact hT.out m h
              · simp at h; subst h; exact hin
            rw [Pm.ask_yes hin]
            clear hin
            refine anyC_take (i := 6) (v := ?v6_60) (a' := ?a6_60) rfl (by kernel_rfl) (by kernel_rfl) (by kernel_rfl) (fun _ _ _ h => h) hC ?w6_60 ?y6_60 ?f6_60 ?r6_60
            case w6_60 => kernel_rfl
            case y6_60 => (intro w hC; go_simp; try with_reducible rfl)
            case f6_60 => (go_simp; try with_reducible rfl)
            refine anyC_take (i := 7) (v := ?v7_61) (a' := ?a7_61) rfl (by kernel_rfl) (by kernel_rfl) (by kernel_rfl) (fun _ _ _ h => h) hC ?w7_61 ?y7_61 ?f7_61 ?r7_61
            case w7_61 => kernel_rfl
            case y7_61 => (intro w hC; go_simp; try with_reducible rfl)
            case f7_61 => (go_simp; try with_reducible rfl)
            by_cases h0 : j = 0
            · subst h0
              have HS2 : Hid (∀ i, i + 1 < 0 + 1 → x.ch.getD i 0 ≤ x.ch.getD (i + 1) 0) := fun i hi => by omega
              refine anyC_take (i := 8) (v := ?v8_62) (a' := ?a8_62) rfl (by kernel_rfl) (by kernel_rfl) (by kernel_rfl) (fun _ _ _ h => h) hC ?w8_62 ?y8_62 ?f8_62 ?r8_62
              case w8_62 => kernel_rfl
              case y8_62 => (intro w hC; go_simp; try with_reducible rfl)
              case f8_62 => (go_simp; try with_reducible rfl)
              refine anyC_take (i := 9) (v := ?v9_63) (a' := ?a9_63) rfl (by kernel_rfl) (by kernel_rfl) (by kernel_rfl) (fun _ _ _ h => h) hC ?w9_63 ?y9_63 ?f9_63 ?r9_63
              case w9_63 => kernel_rfl
              case y9_63 => (intro w hC; go_simp; try with_reducible rfl)
              case f9_63 => (go_simp; try with_reducible rfl)
              refine anyC_take (i := 10) (v := ?v10_64) (a' := ?a10_64) rfl (by kernel_rfl) (by kernel_rfl) (by kernel_rfl) (fun _ _ _ h => h) hC ?w10_64 ?y10_64 ?f10_64 ?r10_64
              case w10_64 => kernel_rfl
              case y10_64 => (intro w hC; go_simp; try with_reducible rfl)
              case f10_64 => (go_simp; try with_reducible rfl)
              refine anyC_skip (i := 11) (a' := ?a11_65) rfl (by kernel_rfl) (by kernel_rfl) (by kernel_rfl) (fun _ _ _ h => h) hC (by kernel_rfl) ?f11_65 ?r11_65
              case f11_65 => (go_simp; try with_reducible rfl)
              refine anyC_skip (i := 12) (a' := ?a12_66) rfl (by kernel_rfl) (by kernel_rfl) (by kernel_rfl) (fun _ _ _ h => h) hC (by kernel_rfl) ?f12_66 ?r12_66
              case f12_66 => (go_simp; try with_reducible rfl)
              refine anyC_skip (i := 13) (a' := ?a13_67) rfl (by kernel_rfl) (by kernel_rfl) (by kernel_rfl) (fun _ _ _ h => h) hC (by kernel_rfl) ?f13_67 ?r13_67
              case f13_67 => (go_simp; try with_reducible rfl)
              refine anyC_skip (i := 14) (a' := ?a14_68) rfl (by kernel_rfl) (by kernel_rfl) (by kernel_rfl) (fun _ _ _ h => h) hC (by kernel_rfl) ?f14_68 ?r14_68
              case f14_68 => (go_simp; try with_reducible rfl)
              refine anyC_skip (i := 15) (a' := ?a15_69) rfl (by kernel_rfl) (by kernel_rfl) (by kernel_rfl) (fun _ _ _ h => h) hC (by kernel_rfl) ?f15_69 ?r15_69
              case f15_69 => (go_simp; try with_reducible rfl)
              refine anyC_skip (i := 16) (a' := ?a16_70) rfl (by kernel_rfl) (by kernel_rfl) (by kernel_rfl) (fun _ _ _ h => h) hC (by kernel_rfl) ?f16_70 ?r16_70
              case f16_70 => (go_simp; try with_reducible rfl)
              refine anyC_skip (i := 17) (a' := ?a17_71) rfl (by kernel_rfl) (by kernel_rfl) (by kernel_rfl) (fun _ _ _ h => h) hC (by kernel_rfl) ?f17_71 ?r17_71
              case f17_71 => (go_simp; try with_reducible rfl)
              refine anyC_skip (i := 18) (a' := ?a18_72) rfl (by kernel_rfl) (by kernel_rfl) (by kernel_rfl) (fun _ _ _ h => h) hC (by kernel_rfl) ?f18_72 ?r18_72
              case f18_72 => (go_simp; try with_reducible rfl)
              refine anyC_skip (i := 19) (a' := ?a19_73) rfl (by kernel_rfl) (by kernel_rfl) (by kernel_rfl) (fun _ _ _ h => h) hC (by kernel_rfl) ?f19_73 ?r19_73
              case f19_73 => (go_simp; try with_reducible rfl)
              refine anyC_skip (i := 20) (a' := ?a20_74) rfl (by kernel_rfl) (by kernel_rfl) (by kernel_rfl) (fun _ _ _ h => h) hC (by kernel_rfl) ?f20_74 ?r20_74
              case f20_74 => (go_simp; try with_reducible rfl)
              refine anyC_skip (i := 21) (a' := ?a21_75) rfl (by kernel_rfl) (by kernel_rfl) (by kernel_rfl) (fun _ _ _ h => h) hC (by kernel_rfl) ?f21_75 ?r21_75
              case f21_75 => (go_simp; try with_reducible rfl)
              refine anyC_skip (i := 22) (a' := ?a22_76) rfl (by kernel_rfl) (by kernel_rfl) (by kernel_rfl) (fun _ _ _ h => h) hC (by kernel_rfl) ?f22_76 ?r22_76
              case f22_76 => (go_simp; try with_reducible rfl)
              refine anyC_take (i := 23) (v := ?v23_77) (a' := ?a23_77) rfl (by kernel_rfl) (by kernel_rfl) (by kernel_rfl) (fun _ _ _ h => h) hC ?w23_77 ?y23_77 ?f23_77 ?r23_77
              case w23_77 => kernel_rfl
              case y23_77 => (intro w hC; go_simp; try with_reducible rfl)
              case f23_77 => (go_simp; try with_reducible rfl)
              refine anyC_take (i := 24) (v := ?v24_78) (a' := ?a24_78) rfl (by kernel_rfl) (by kernel_rfl) (by kernel_rfl) (fun _ _ _ h => h) hC ?w24_78 ?y24_78 ?f24_78 ?r24_78
              case w24_78 => kernel_rfl
              case y24_78 => (intro w hC; go_simp; try with_reducible rfl)
              case f24_78 => (go_simp; try with_reducible rfl)
              refine anyC_done (by kernel_rfl) ?_
              go_wp2
              go_roundw
              case rel => exact ⟨0 + 1, by go_num, by omega, HS1, HS2, Lib.hid hBx.out.drew⟩
              case measure => simp [intOf]; omega
            · obtain ⟨i, hi⟩ : ∃ i, j = i + 1 := ⟨j - 1, by omega⟩
              have hj0 : decide ((0 : Int) < (j : Int)) = true := by simp; omega
              have hj1 : decide (0 < j) = true := by simp; omega
              have hj2 : 0 < j := by omega
              obtain ⟨z, hzk⟩ : ∃ z, x.ch[i]? = some z := ⟨x.ch[i]'(by have := HL2.out; omega), List.getElem?_eq_getElem (by have := HL2.out; omega)⟩
              obtain ⟨ad3, e3, _, hc3⟩ := HXR.out.getU hzk
              obtain rfl : ad2 = ad3 := by injection e3
              have FZ : Hid (∀ W, Below wr.heap.size wr W → W.cell? (ad2.add i) = some (.int .i64 z)) := fun W h => by
                rw [h.cell (by rw [addr_add_block]; exact hadz)]; exact hc3
              have hin : (i : Int) < (n' : Int) := by omega
              have hi1 : (j : Int) - 1 = (i : Int) := by omega
              have hi3 : IntKind.i64.wrap (i : Int) = (i : Int) := wrap_id (by omega) (by omega)
              have hi2 : IntKind.i64.wrap ((j : Int) - 1) = (i : Int) := by rw [hi1]; exact wrap_id (by omega) (by omega)
              have hle : Hid ((Pm.Sd x.ch → z ≤ y) ∧ (z ≤ y → ∀ a, a + 1 < j + 1 → x.ch.getD a 0 ≤ x.ch.getD (a + 1) 0)) := by
                have hy1 := HYK.out
                rw [hi] at hy1
                have hil : i + 1 < x.ch.length := (List.getElem?_eq_some_iff.1 hy1).1
                refine ⟨fun h => ?_, fun h a ha => ?_⟩
                · have := h i hil
                  rw [List.getD_eq_getElem?_getD, List.getD_eq_getElem?_getD, hzk, hy1] at this
                  exact this
                · by_cases e : a = i
                  · subst e
                    rw [List.getD_eq_getElem?_getD, List.getD_eq_getElem?_getD, hzk, hy1]
                    exact h
                  · exact hS.out a (by omega)
              clear hc3 hzk e3 h0 hi
              refine anyC_take (i := 8) (v := ?v8_79) (a' := ?a8_79) rfl (by kernel_rfl) (by kernel_rfl) (by kernel_rfl) (fun _ _ _ h => h) hC ?w8_79 ?y8_79 ?f8_79 ?r8_79
              case w8_79 => kernel_rfl
              case y8_79 => (intro w hC; go_simp; try with_reducible rfl)
              case f8_79 => (go_simp; try with_reducible rfl)
              refine anyC_take (i := 9) (v := ?v9_80) (a' := ?a9_80) rfl (by kernel_rfl) (by kernel_rfl) (by kernel_rfl) (fun _ _ _ h => h) hC ?w9_80 ?y9_80 ?f9_80 ?r9_80
              case w9_80 => kernel_rfl
              case y9_80 => (intro w hC; go_simp; try with_reducible rfl)
              case f9_80 => (go_simp; try with_reducible rfl)
              refine anyC_take (i := 10) (v := ?v10_81) (a' := ?a10_81) rfl (by kernel_rfl) (by kernel_rfl) (by kernel_rfl) (fun _ _ _ h => h) hC ?w10_81 ?y10_81 ?f10_81 ?r10_81
              case w10_81 => kernel_rfl
              case y10_81 => (intro w hC; go_simp; try with_reducible rfl)
              case f10_81 => (go_simp; try with_reducible rfl)
              refine anyC_take (i := 11) (v := ?v11_82) (a' := ?a11_82) rfl (by kernel_rfl) (by kernel_rfl) (by kernel_rfl) (fun _ _ _ h => h) hC ?w11_82 ?y11_82 ?f11_82 ?r11_82
              case w11_82 => kernel_rfl
              case y11_82 => (intro w hC; go_simp; try with_reducible rfl)
              case f11_82 => (go_simp; try with_reducible rfl)
              refine anyC_take (i := 13) (v := ?v13_83) (a' := ?a13_83) rfl (by kernel_rfl) (by kernel_rfl) (by kernel_rfl) (fun _ _ _ h => h) hC ?w13_83 ?y13_83 ?f13_83 ?r13_83
              case w13_83 => kernel_rfl
              case y13_83 => (intro w hC; go_simp; try with_reducible rfl)
              case f13_83 => (go_simp; try with_reducible rfl)
              refine anyC_take (i := 17) (v := ?v17_84) (a' := ?a17_84) rfl (by kernel_rfl) (by kernel_rfl) (by kernel_rfl) (fun _ _ _ h => h) hC ?w17_84 ?y17_84 ?f17_84 ?r17_84
              case w17_84 => kernel_rfl
              case y17_84 => (intro w hC; go_simp; try with_reducible rfl)
              case f17_84 => (go_simp; try with_reducible rfl)
              refine anyC_take (i := 19) (v := ?v19_85) (a' := ?a19_85) rfl (by kernel_rfl) (by kernel_rfl) (by kernel_rfl) (fun _ _ _ h => h) hC ?w19_85 ?y19_85 ?f19_85 ?r19_85
              case w19_85 => kernel_rfl
              case y19_85 => (intro w hC; go_simp; try with_reducible rfl)
              case f19_85 => (go_simp; try with_reducible rfl)
              refine anyC_take (i := 12) (v := ?v12_86) (a' := ?a12_86) rfl (by kernel_rfl) (by kernel_rfl) (by kernel_rfl) (fun _ _ _ h => h) hC ?w12_86 ?y12_86 ?f12_86 ?r12_86
              case w12_86 => kernel_rfl
              case y12_86 => (intro w hC; have h4 := F11.out w hC; go_simp; try with_reducible rfl)
              case f12_86 => (go_simp; try with_reducible rfl)
              refine anyC_take (i := 18) (v := ?v18_87) (a' := ?a18_87) rfl (by kernel_rfl) (by kernel_rfl) (by kernel_rfl) (fun _ _ _ h => h) hC ?w18_87 ?y18_87 ?f18_87 ?r18_87
              case w18_87 => kernel_rfl
              case y18_87 => (intro w hC; have h4 := F11.out w hC; go_simp; try with_reducible rfl)
              case f18_87 => (go_simp; try with_reducible rfl)
              refine anyC_take (i := 14) (v := ?v14_88) (a' := ?a14_88) rfl (by kernel_rfl) (by kernel_rfl) (by kernel_rfl) (fun _ _ _ h => h) hC ?w14_88 ?y14_88 ?f14_88 ?r14_88
              case w14_88 => kernel_rfl
              case y14_88 => (intro w hC; go_simp; try with_reducible rfl)
              case f14_88 => (go_simp; try with_reducible rfl)
              refine anyC_take (i := 15) (v := ?v15_89) (a' := ?a15_89) rfl (by kernel_rfl) (by kernel_rfl) (by kernel_rfl) (fun _ _ _ h => h) hC ?w15_89 ?y15_89 ?f15_89 ?r15_89
              case w15_89 => kernel_rfl
              case y15_89 => (intro w hC; go_simp; try with_reducible rfl)
              case f15_89 => (go_simp; try with_reducible rfl)
              refine anyC_take (i := 16) (v := ?v16_90) (a' := ?a16_90) rfl (by kernel_rfl) (by kernel_rfl) (by kernel_rfl) (fun _ _ _ h => h) hC ?w16_90 ?y16_90 ?f16_90 ?r16_90
              case w16_90 => kernel_rfl
              case y16_90 => (intro w hC; have h4 := FZ.out w hC; go_simp; try with_reducible rfl)
              case f16_90 => (go_simp; try with_reducible rfl)
              refine anyC_take (i := 20) (v := ?v20_91) (a' := ?a20_91) rfl (by kernel_rfl) (by kernel_rfl) (by kernel_rfl) (fun _ _ _ h => h) hC ?w20_91 ?y20_91 ?f20_91 ?r20_91
              case w20_91 => kernel_rfl
              case y20_91 => (intro w hC; go_simp; try with_reducible rfl)
              case f20_91 => (go_simp; try with_reducible rfl)
              refine anyC_take (i := 21) (v := ?v21_92) (a' := ?a21_92) rfl (by kernel_rfl) (by kernel_rfl) (by kernel_rfl) (fun _ _ _ h => h) hC ?w21_92 ?y21_92 ?f21_92 ?r21_92
              case w21_92 => kernel_rfl
              case y21_92 => (intro w hC; have h4 := FY.out w hC; go_simp; try with_reducible rfl)
              case f21_92 => (go_simp; try with_reducible rfl)
              by_cases hzy : y < z
              · have hd : decide (y < z) = true := by simpa using hzy
                have HE : Hid (x.right = false) := HRT.out.trans (Pm.ask_no (fun h => by have := hle.out.1 h.2.2; omega))
                clear hle hzy
                refine anyC_take (i := 22) (v := ?v22_93) (a' := ?a22_93) rfl (by kernel_rfl) (by kernel_rfl) (by kernel_rfl) (fun _ _ _ h => h) hC ?w22_93 ?y22_93 ?f22_93 ?r22_93
                case w22_93 => kernel_rfl
                case y22_93 => (intro w hC; go_simp; try with_reducible rfl)
                case f22_93 => (go_simp; try with_reducible rfl)
                refine anyC_take (i := 23) (v := ?v23_94) (a' := ?a23_94) rfl (by kernel_rfl) (by kernel_rfl) (by kernel_rfl) (fun _ _ _ h => h) hC ?w23_94 ?y23_94 ?f23_94 ?r23_94
                case w23_94 => kernel_rfl
                case y23_94 => (intro w hC; go_simp; try with_reducible rfl)
                case f23_94 => (go_simp; try with_reducible rfl)
                refine anyC_take (i := 24) (v := ?v24_95) (a' := ?a24_95) rfl (by kernel_rfl) (by kernel_rfl) (by kernel_rfl) (fun _ _ _ h => h) hC ?w24_95 ?y24_95 ?f24_95 ?r24_95
                case w24_95 => kernel_rfl
                case y24_95 => (intro w hC; go_simp; try with_reducible rfl)
                case f24_95 => (go_simp; try with_reducible rfl)
                refine anyC_done (by kernel_rfl) ?_
                go_wp2
                go_ret
                exact ⟨ret_bool HE.out.symm, hEND.out⟩
              · have hd : decide (y < z) = false := by simpa using hzy
                have HS2 := Lib.hid (hle.out.2 (by omega))
                clear hle hzy
                refine anyC_take (i := 22) (v := ?v22_96) (a' := ?a22_96) rfl (by kernel_rfl) (by kernel_rfl) (by kernel_rfl) (fun _ _ _ h => h) hC ?w22_96 ?y22_96 ?f22_96 ?r22_96
                case w22_96 => kernel_rfl
                case y22_96 => (intro w hC; go_simp; try with_reducible rfl)
                case f22_96 => (go_simp; try with_reducible rfl)
                refine anyC_take (i := 23) (v := ?v23_97) (a' := ?a23_97) rfl (by kernel_rfl) (by kernel_rfl) (by kernel_rfl) (fun _ _ _ h => h) hC ?w23_97 ?y23_97 ?f23_97 ?r23_97
                case w23_97 => kernel_rfl
                case y23_97 => (intro w hC; go_simp; try with_reducible rfl)
                case f23_97 => (go_simp; try with_reducible rfl)
                refine anyC_take (i := 24) (v := ?v24_98) (a' := ?a24_98) rfl (by kernel_rfl) (by kernel_rfl) (by kernel_rfl) (fun _ _ _ h => h) hC ?w24_98 ?y24_98 ?f24_98 ?r24_98
                case w24_98 => kernel_rfl
                case y24_98 => (intro w hC; go_simp; try with_reducible rfl)
                case f24_98 => (go_simp; try with_reducible rfl)
                refine anyC_done (by kernel_rfl) ?_
                go_wp2
                go_roundw
                case rel => exact ⟨j + 1, by go_num, by omega, HS1, HS2, Lib.hid hBx.out.drew⟩
                case measure => simp [intOf]; omega
          · have HE : Hid (x.right = false) := HRT.out.trans (Pm.ask_no (fun h => hin (h.2.1.2 y (List.mem_of_getElem? HYK.out))))
            rw [Pm.ask_no hin]
            clear hin
            refine anyC_take (i := 6) (v := ?v6_99) (a' := ?a6_99) rfl (by kernel_rfl) (by kernel_rfl) (by kernel_rfl) (fun _ _ _ h => h) hC ?w6_99 ?y6_99 ?f6_99 ?r6_99
            case w6_99 => kernel_rfl
            case y6_99 => (intro w hC; go_simp; try with_reducible rfl)
            case f6_99 => (go_simp; try with_reducible rfl)
            refine anyC_take (i := 7) (v := ?v7_100) (a' := ?a7_100) rfl (by kernel_rfl) (by kernel_rfl) (by kernel_rfl) (fun _ _ _ h => h) hC ?w7_100 ?y7_100 ?f7_100 ?r7_100
            case w7_100 => kernel_rfl
            case y7_100 => (intro w hC; go_simp; try with_reducible rfl)
            case f7_100 => (go_simp; try with_reducible rfl)
            refine anyC_skip (i := 8) (a' := ?a8_101) rfl (by kernel_rfl) (by kernel_rfl) (by kernel_rfl) (fun _ _ _ h => h) hC (by kernel_rfl) ?f8_101 ?r8_101
            case f8_101 => (go_simp; try with_reducible rfl)
            refine anyC_skip (i := 9) (a' := ?a9_102) rfl (by kernel_rfl) (by kernel_rfl) (by kernel_rfl) (fun _ _ _ h => h) hC (by kernel_rfl) ?f9_102 ?r9_102
            case f9_102 => (go_simp; try with_reducible rfl)
            refine anyC_skip (i := 10) (a' := ?a10_103) rfl (by kernel_rfl) (by kernel_rfl) (by kernel_rfl) (fun _ _ _ h => h) hC (by kernel_rfl) ?f10_103 ?r10_103
            case f10_103 => (go_simp; try with_reducible rfl)
            refine anyC_skip (i := 11) (a' := ?a11_104) rfl (by kernel_rfl) (by kernel_rfl) (by kernel_rfl) (fun _ _ _ h => h) hC (by kernel_rfl) ?f11_104 ?r11_104
            case f11_104 => (go_simp; try with_reducible rfl)
            refine anyC_skip (i := 12) (a' := ?a12_105) rfl (by kernel_rfl) (by kernel_rfl) (by kernel_rfl) (fun _ _ _ h => h) hC (by kernel_rfl) ?f12_105 ?r12_105
            case f12_105 => (go_simp; try with_reducible rfl)
            refine anyC_skip (i := 13) (a' := ?a13_106) rfl (by kernel_rfl) (by kernel_rfl) (by kernel_rfl) (fun _ _ _ h => h) hC (by kernel_rfl) ?f13_106 ?r13_106
            case f13_106 => (go_simp; try with_reducible rfl)
            refine anyC_skip (i := 14) (a' := ?a14_107) rfl (by kernel_rfl) (by kernel_rfl) (by kernel_rfl) (fun _ _ _ h => h) hC (by kernel_rfl) ?f14_107 ?r14_107
            case f14_107 => (go_simp; try with_reducible rfl)
            refine anyC_skip (i := 15) (a' := ?a15_108) rfl (by kernel_rfl) (by kernel_rfl) (by kernel_rfl) (fun _ _ _ h => h) hC (by kernel_rfl) ?f15_108 ?r15_108
            case f15_108 => (go_simp; try with_reducible rfl)
            refine anyC_skip (i := 16) (a' := ?a16_109) rfl (by kernel_rfl) (by kernel_rfl) (by kernel_rfl) (fun _ _ _ h => h) hC (by kernel_rfl) ?f16_109 ?r16_109
            case f16_109 => (go_simp; try with_reducible rfl)
            refine anyC_skip (i := 17) (a' := ?a17_110) rfl (by kernel_rfl) (by kernel_rfl) (by kernel_rfl) (fun _ _ _ h => h) hC (by kernel_rfl) ?f17_110 ?r17_110
            case f17_110 => (go_simp; try with_reducible rfl)
            refine anyC_skip (i := 18) (a' := ?a18_111) rfl (by kernel_rfl) (by kernel_rfl) (by kernel_rfl) (fun _ _ _ h => h) hC (by kernel_rfl) ?f18_111 ?r18_111
            case f18_111 => (go_simp; try with_reducible rfl)
            refine anyC_skip (i := 19) (a' := ?a19_112) rfl (by kernel_rfl) (by kernel_rfl) (by kernel_rfl) (fun _ _ _ h => h) hC (by kernel_rfl) ?f19_112 ?r19_112
            case f19_112 => (go_simp; try with_reducible rfl)
            refine anyC_skip (i := 20) (a' := ?a20_113) rfl (by kernel_rfl) (by kernel_rfl) (by kernel_rfl) (fun _ _ _ h => h) hC (by kernel_rfl) ?f20_113 ?r20_113
            case f20_113 => (go_simp; try with_reducible rfl)
            refine anyC_skip (i := 21) (a' := ?a21_114) rfl (by kernel_rfl) (by kernel_rfl) (by kernel_rfl) (fun _ _ _ h => h) hC (by kernel_rfl) ?f21_114 ?r21_114
            case f21_114 => (go_simp; try with_reducible rfl)
            refine anyC_skip (i := 22) (a' := ?a22_115) rfl (by kernel_rfl) (by kernel_rfl) (by kernel_rfl) (fun _ _ _ h => h) hC (by kernel_rfl) ?f22_115 ?r22_115
            case f22_115 => (go_simp; try with_reducible rfl)
            refine anyC_skip (i := 23) (a' := ?a23_116) rfl (by kernel_rfl) (by kernel_rfl) (by kernel_rfl) (fun _ _ _ h => h) hC (by kernel_rfl) ?f23_116 ?r23_116
            case f23_116 => (go_simp; try with_reducible rfl)
            refine anyC_take (i := 24) (v := ?v24_117) (a' := ?a24_117) rfl (by kernel_rfl) (by kernel_rfl) (by kernel_rfl) (fun _ _ _ h => h) hC ?w24_117 ?y24_117 ?f24_117 ?r24_117
            case w24_117 => kernel_rfl
            case y24_117 => (intro w hC; go_simp; try with_reducible rfl)
            case f24_117 => (go_simp; try with_reducible rfl)
            refine anyC_done (by kernel_rfl) ?_
            go_wp2
            go_ret
            exact ⟨ret_bool HE.out.symm, hEND.out⟩
        · obtain rfl : j = n' := by omega
          have HE : Hid (x.right = true) := by
            refine HRT.out.trans (Pm.ask_yes ⟨HB1.out, ⟨by rw [HL2.out]; omega, ?_⟩, fun i hi => hS.out i (by rw [HL2.out] at hi; exact hi)⟩)
            have h := hT.out
            rw [List.take_of_length_le (by rw [HL2.out]; exact Nat.le_refl _)] at h
            exact h
          have hEND := Lib.hid (HBW.out.trans (hBx.out.mono HBW.out.size))
          clear hT hS
          go_wp2
          go_ret
          exact ⟨ret_bool HE.out.symm, hEND.out⟩
end Go.Proofs.YtbkdenlhfigjhaaDoor

/- Whether a message is right: the document's. -/
namespace Go.Proofs.YtbkdenlhfigjhaaDoor
open Go.RowKit Go.Shelf

set_option maxRecDepth 100000 in
set_option maxHeartbeats 4000000 in
theorem RMRight_any (x : Mm.Ms) (l : Lo) (B : Nat) (w : World) (hp : MsAt w B x l) (hB : B ≤ w.heap.size) :
    Calls Tryd.prog 9 #[mv x l] w fun e w' => e = .returned (.bool x.right) ∧ Below w.heap.size w w' := by
  have hx1 := Mx.new w x l 39
  have hb1 : Hid (Below w.heap.size w (w.alloc (.cells (mvs x l).toArray 39))) := (Below.refl _ w).alloc (Nat.le_refl _) _
  have hz1 : w.heap.size ≤ (w.alloc (.cells (mvs x l).toArray 39)).heap.size := by rw [World.size_alloc]; omega
  have k0 := hx1.at 0 rfl
  have k1 := hx1.at 1 rfl
  have k2 := hx1.at 2 rfl
  have k8 := hx1.at 8 rfl
  have k9 := hx1.at 9 rfl
  have k10 := hx1.at 10 rfl
  have k23 := hx1.id
  have k24 := hx1.se
  have k25 := hx1.pa
  have HPL := Lib.hid hx1.plan
  have HR := Lib.hid (RRight_any x.plan _ _ _ _ _ _ B _ (hp.pl.below hb1.out hB) (Nat.le_trans hB hz1))
  have HS := Lib.hid (RSame_any x.plan Pm.zero _ _ _ _ _ _ B none 0 0 none 0 0 0 _ (hp.pl.below hb1.out hB) (PlAt.zero _ 0) (Nat.le_trans hB hz1) (Nat.zero_le _))
  have hz := Lib.hid hz1
  have hc3 : Hid ((((l.n3 : Int) != 0) = false ∧ (x.id.length = 0 ∨ x.id.length = 3)) ∨ (((l.n3 : Int) != 0) = true ∧ ((l.n3 : Int) != 3) = false ∧ (x.id.length = 0 ∨ x.id.length = 3)) ∨ (((l.n3 : Int) != 0) = true ∧ ((l.n3 : Int) != 3) = true ∧ x.right = false)) := by
    have h3 := hp.l3
    by_cases q0 : l.n3 = 0
    · exact .inl ⟨by rw [q0]; rfl, .inl (by omega)⟩
    · have z0 : ((l.n3 : Int) != 0) = true := by rw [bne_iff_ne]; omega
      by_cases q3 : l.n3 = 3
      · exact .inr (.inl ⟨z0, by rw [q3]; rfl, .inr (by omega)⟩)
      · exact .inr (.inr ⟨z0, by rw [bne_iff_ne]; omega, Mm.no_id (by omega) (by omega)⟩)
  have N1 := Lib.hid (Mm.on_k1 (x := x))
  have N2 := Lib.hid (Mm.on_k2 (x := x))
  have N3 := Lib.hid (Mm.on_f1 (x := x))
  have N4 := Lib.hid (Mm.on_f2 (x := x))
  have N5 := Lib.hid (Mm.on_t1 (x := x))
  have N6 := Lib.hid (Mm.on_t2 (x := x))
  have N7 := Lib.hid (Mm.on_up (x := x))
  have N8 := Lib.hid (Mm.on_c1 (x := x))
  have N9 := Lib.hid (Mm.on_c2 (x := x))
  have NA := Lib.hid (Mm.on_se (x := x) hp.l4)
  have NB := Lib.hid (Mm.on_pa (x := x) hp.l5)
  have NY := Lib.hid (fun a1 a2 a3 a4 a5 a6 a7 a8 a9 a10 a11 a12 => Mm.right_pr (x := x) hp.l4 hp.l5 a1 a2 a3 a4 a5 a6 a7 a8 a9 a10 a11 a12)
  have HPR : Hid (x.pright = if x.has then x.plan.right else Pm.same x.plan Pm.zero) := rfl
  clear hp hB hx1 hz1
  unfold mv
  generalize mvs x l = L at *
  all_goals
    go_enter Tryd.func9, Tryd.ntmps9
    repeat (first
      | go_skip
      | (with_reducible refine wpList_gate ?_
         fail_if_success (refine wpList_sure rfl ?_)
         refine wpList_fork 45 true rfl rfl rfl (by kernel_rfl) (fun h => ?_) (fun h a' h1 h2 h3 h4 => ?_)
         rw [h])
      | (fail_if_success (with_reducible refine cond_gate ?_)
         go_step))
    go_step
  all_goals first
    | (have hleaf := h3
       go_step
       go_step
       refine wp_cond_split (t := true) h3 (fun _ => ?_) (fun q => by cases q)
       iterate 9 go_step
       try simp only [Exit.then]
       refine bodyPost_ret (results_tmp rfl _ _ _) (by first | rfl | exact h1) ?_
       rw [getD_set_same _ _ _ (by rw [h2]; exact Nat.le_of_ble_eq_true rfl)]
       refine ⟨ret_bool ?_, hb1.out⟩
       first | exact (N1.out h).symm | exact (N2.out h).symm | exact (N3.out h).symm | exact (N4.out h).symm | exact (N5.out h).symm | exact (N6.out h).symm | exact (N7.out h).symm | exact (N8.out h).symm | exact (NA.out h).symm)
    | (first | have hend := N9.out (by assumption) | have hend := NB.out (by assumption) | have hend := d2
       iterate 9 go_step
       go_ret
       exact ⟨ret_bool hend.symm, hb1.out⟩)
    | (fail_if_success have hleaf := h3
       fail_if_success have hend := N9.out (by assumption)
       skip)
  rcases hc3.out with ⟨d0, hi⟩ | ⟨d0, d1, hi⟩ | ⟨d0, d1, d2⟩
  all_goals
    repeat (first
      | go_skip
      | (with_reducible refine wpList_gate ?_
         fail_if_success (refine wpList_sure rfl ?_)
         refine wpList_fork 67 true rfl rfl rfl (by kernel_rfl) (fun h => ?_) (fun h a' h1 h2 h3 h4 => ?_)
         rw [h])
      | (fail_if_success (with_reducible refine cond_gate ?_)
         go_step))
  all_goals first
    | (have hleaf := h3
       go_step
       go_step
       refine wp_cond_split (t := true) h3 (fun _ => ?_) (fun q => by cases q)
       iterate 9 go_step
       try simp only [Exit.then]
       refine bodyPost_ret (results_tmp rfl _ _ _) (by first | rfl | exact h1) ?_
       rw [getD_set_same _ _ _ (by rw [h2]; exact Nat.le_of_ble_eq_true rfl)]
       refine ⟨ret_bool ?_, hb1.out⟩
       first | exact (N1.out h).symm | exact (N2.out h).symm | exact (N3.out h).symm | exact (N4.out h).symm | exact (N5.out h).symm | exact (N6.out h).symm | exact (N7.out h).symm | exact (N8.out h).symm | exact (NA.out h).symm)
    | go_step
  all_goals first
    | (first | have hend := N9.out (by assumption) | have hend := NB.out (by assumption) | have hend := d2
       iterate 9 go_step
       go_ret
       exact ⟨ret_bool hend.symm, hb1.out⟩)
    | skip
  all_goals
    have hra := NY.out (by assumption) (by assumption) (by assumption) (by assumption) (by assumption) (by assumption) (by assumption) (by assumption) (by omega) (by assumption) (by assumption) (by omega)
    have HRA := Lib.hid hra
    clear hra N1 N2 N3 N4 N5 N6 N7 N8 N9 NA NB NY k0 k1 k2 k8 k9 k23 k24 k25
    cases hh : x.has
    · have HPF : Hid (x.right = Pm.same x.plan Pm.zero) := HRA.out.trans (HPR.out.trans (by rw [hh]; rfl))
      rw [hh] at k10
      go_wp2_with (first | (refine wpList_load_mid rfl 36 _ rfl w.heap.size 11 rfl _ _ HPL.out Tryd.underlying36 rfl info_plan ?_) | (go_at_call 25; refine HS.out.mono ?_; rintro e w2 ⟨rfl, hb2⟩))
      go_ret
      exact ⟨ret_bool HPF.out.symm, hb1.out.trans (hb2.mono hz.out)⟩
    · have HPF : Hid (x.right = x.plan.right) := HRA.out.trans (HPR.out.trans (by rw [hh]; rfl))
      rw [hh] at k10
      go_wp2_with (first | (refine wpList_load_mid rfl 36 _ rfl w.heap.size 11 rfl _ _ HPL.out Tryd.underlying36 rfl info_plan ?_) | (go_at_call 24; refine HR.out.mono ?_; rintro e w2 ⟨rfl, hb2⟩))
      go_ret
      exact ⟨ret_bool HPF.out.symm, hb1.out.trans (hb2.mono hz.out)⟩
end Go.Proofs.YtbkdenlhfigjhaaDoor
