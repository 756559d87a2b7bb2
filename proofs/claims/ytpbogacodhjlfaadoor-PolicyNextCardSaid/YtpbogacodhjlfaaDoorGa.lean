/- A plan in memory, numbers in a list; between two bounds, spans, a bit of a mask, the best of some: the document's. -/
import Derived.Test.YtpbogacodhjlfaaDoorKitY
import Derived.Test.YtpbogacodhjlfaaDoorKitCf
import Derived.Test.YtpbogacodhjlfaaDoorGi
import Derived.Test.YtpbogacodhjlfaaDoorGt
namespace Go.Proofs.YtpbogacodhjlfaaDoor
open Go.RowKit Go.Shelf Km Kx Kc

theorem i64s_get {zs : List Int} {k : Nat} {x : Int} (h : zs[k]? = some x) : (Kc.i64s zs)[k]? = some (.int .i64 x) := by unfold Kc.i64s; rw [List.getElem?_map, h]; rfl
theorem i64s_len (l : List Int) : (Kc.i64s l).length = l.length := by unfold Kc.i64s; rw [List.length_map]
theorem i64s_cells (l : List Int) : ∀ u ∈ Kc.i64s l, u.oneCell' = true := fun u hu => by
  unfold Kc.i64s at hu
  obtain ⟨n, _, rfl⟩ := List.mem_map.1 hu
  rfl
theorem i64s_app (a b : List Int) : Kc.i64s (a ++ b) = Kc.i64s a ++ Kc.i64s b := List.map_append
/-- one number of a list in memory -/
theorem Rd.num {w : World} {B : Nat} {A : Option Addr} {l : List Int} (h : Rd w B A (Kc.i64s l)) {k : Nat} (hk : k < l.length) : ∃ ad, A = some ad ∧ ad.block < B ∧ w.cell? (ad.add k) = some (.int .i64 (l.getD k 0)) := by
  obtain ⟨x, hx⟩ : ∃ x, l[k]? = some x := ⟨l[k], List.getElem?_eq_getElem hk⟩
  obtain ⟨ad, e, hb, hc⟩ := h k _ (i64s_get hx)
  refine ⟨ad, e, hb, ?_⟩
  rw [List.getD_eq_getElem?_getD, hx]; exact hc

/-- a plan's cells; its lists lie at A, A' -/
def pc (x : Gm.Pl) (A : Option Addr) (n c : Nat) (A' : Option Addr) (n' c' : Nat) : List Value :=
  [.int .i64 x.e, .int .i64 x.t, .int .i64 x.p, .int .i64 x.s, .int .i64 x.c, .int .i64 x.st, .int .i64 x.si, .int .i64 x.ra, .int .u64 x.up, .int .u64 x.su, .slice A n c, .slice A' n' c']
/-- its lists read so, and its numbers are within their kinds -/
structure PAt (w : World) (B : Nat) (x : Gm.Pl) (A : Option Addr) (n c : Nat) (A' : Option Addr) (n' c' : Nat) : Prop where
  ok : x.Ok
  pen : Rd w B A (Kc.i64s x.pen)
  ch : Rd w B A' (Kc.i64s x.ch)
  k' : n' ≤ c'
  n : x.pen.length = n
  n' : x.ch.length = n'
theorem PAt.below {w w' : World} {B : Nat} {x : Gm.Pl} {A : Option Addr} {n c : Nat} {A' : Option Addr} {n' c' : Nat} (h : PAt w B x A n c A' n' c') (hb : Below B w w') : PAt w' B x A n c A' n' c' := ⟨h.ok, h.pen.below hb, h.ch.below hb, h.k', h.n, h.n'⟩
theorem PAt.more {w : World} {B B' : Nat} {x : Gm.Pl} {A : Option Addr} {n c : Nat} {A' : Option Addr} {n' c' : Nat} (h : PAt w B x A n c A' n' c') (hB : B ≤ B') : PAt w B' x A n c A' n' c' := ⟨h.ok, h.pen.more hB, h.ch.more hB, h.k', h.n, h.n'⟩

set_option maxRecDepth 100000 in
theorem in4_any (n lo hi : Int) (w : World) : Calls Tryd.prog 56 #[.int .i64 n, .int .i64 lo, .int .i64 hi] w fun e w' => e = .returned (.bool (decide (lo ≤ n) && decide (n ≤ hi))) ∧ w = w' := by
  by_cases h1 : lo ≤ n
  · have d1 : decide (lo ≤ n) = true := by simp [h1]
    rw [d1, Bool.true_and]
    go_enter Tryd.func56, Tryd.ntmps56
    go_wp2
    go_ret
    exact ⟨rfl, rfl⟩
  · have d1 : decide (lo ≤ n) = false := by simp; omega
    rw [d1, Bool.false_and]
    go_enter Tryd.func56, Tryd.ntmps56
    go_wp2
    go_ret
    exact ⟨rfl, rfl⟩
set_option maxRecDepth 100000 in
theorem in13_any (n lo hi : Int) (w : World) : Calls Tryd.prog 33 #[.int .i64 n, .int .i64 lo, .int .i64 hi] w fun e w' => e = .returned (.bool (decide (lo ≤ n) && decide (n ≤ hi))) ∧ w = w' := by
  by_cases h1 : lo ≤ n
  · have d1 : decide (lo ≤ n) = true := by simp [h1]
    rw [d1, Bool.true_and]
    go_enter Tryd.func33, Tryd.ntmps33
    go_wp2
    go_ret
    exact ⟨rfl, rfl⟩
  · have d1 : decide (lo ≤ n) = false := by simp; omega
    rw [d1, Bool.false_and]
    go_enter Tryd.func33, Tryd.ntmps33
    go_wp2
    go_ret
    exact ⟨rfl, rfl⟩
set_option maxRecDepth 100000 in
theorem span_any (n : Int) (w : World) : Calls Tryd.prog 34 #[.int .i64 n] w fun e w' => e = .returned (.bool (decide (1 ≤ n) && decide (n ≤ 1048576))) ∧ w = w' := by
  by_cases h1 : 1 ≤ n
  · have d1 : decide ((1 : Int) ≤ n) = true := by simp [h1]
    rw [d1, Bool.true_and]
    go_enter Tryd.func34, Tryd.ntmps34
    go_wp2
    go_ret
    exact ⟨rfl, rfl⟩
  · have d1 : decide ((1 : Int) ≤ n) = false := by simp; omega
    rw [d1, Bool.false_and]
    go_enter Tryd.func34, Tryd.ntmps34
    go_wp2
    go_ret
    exact ⟨rfl, rfl⟩

set_option maxRecDepth 100000 in
theorem has_any (m : Nat) (i : Int) (w : World) (hm : m < 18446744073709551616) (hi : i ≤ 63) : Calls Tryd.prog 28 #[.int .u64 (m : Int), .int .i64 i] w fun e w' => e = .returned (.bool (Gm.has m i)) ∧ w = w' := by
  unfold Gm.has
  by_cases h : 0 ≤ i
  · obtain ⟨k, rfl⟩ : ∃ k : Nat, i = (k : Int) := ⟨i.toNat, by omega⟩
    have d1 : decide ((0 : Int) ≤ (k : Int)) = true := by simp
    have hb := bit_of hm k
    have d3 : (k : Int) ≤ 64 := by omega
    rw [d1, Bool.true_and, Int.toNat_natCast]
    cases hbit : m.testBit k with
    | true =>
      rw [hbit] at hb
      have hb1 : bits BinOp.and IntKind.u64 ((m : Int) / 2 ^ k) 1 = 1 := hb
      clear hb hbit
      go_enter Tryd.func28, Tryd.ntmps28
      go_wp2
      go_ret
      exact ⟨rfl, rfl⟩
    | false =>
      rw [hbit] at hb
      have hb1 : bits BinOp.and IntKind.u64 ((m : Int) / 2 ^ k) 1 = 0 := hb
      clear hb hbit
      go_enter Tryd.func28, Tryd.ntmps28
      go_wp2
      go_ret
      exact ⟨rfl, rfl⟩
  · have d1 : decide ((0 : Int) ≤ i) = false := by simp; omega
    rw [d1, Bool.false_and]
    go_enter Tryd.func28, Tryd.ntmps28
    go_wp2
    go_ret
    exact ⟨rfl, rfl⟩

set_option maxRecDepth 100000 in
set_option maxHeartbeats 2000000 in
theorem Best_any (c : Cf) (ti : List Int) (n m : Nat) (B : Nat) (w : World) (hr : Rd w B c.ta (Kc.i64s ti)) (hB : B ≤ w.heap.size) (hl : ti.length = n) (htn : c.tn = n) (hcn : c.targets = (n : Int)) (hn : n ≤ 16) (hm : m < 18446744073709551616) :
    Calls Tryd.prog 25 #[.agg (cf c).toArray, .int .u64 (m : Int)] w fun e w' => e = .returned (.int .i64 (Gm.bestTo ti m n)) ∧ Below w.heap.size w w' := by
  have HB := Lib.hid (Bxs.start w)
  have HR := Lib.hid (hr.more hB)
  have HL := Lib.hid hl
  have HTN := Lib.hid htn
  have HCN : Hid ((cf c)[2]? = some (.int .i64 (n : Int))) := Lib.hid (by rw [← hcn]; rfl)
  clear hr hB hl htn hcn
  go_enter Tryd.func25, Tryd.ntmps25
  go_wp2_with (first | ((with_reducible refine Kx.absorb HB ?_); clear HB; intro w_ HB) | ((with_reducible refine Kx.box_gate (d := some 2) ?_); (first | refine Kx.boxa HB rfl ?_ | refine Kx.boxt HB rfl rfl ?_ | refine Kx.box1 HB rfl rfl ?_); clear HB; intro b2 w_ HB; refine Kx.fr ?_) | ((with_reducible refine Kx.alloc_gate (d := some 2) ?_); (first | refine Kx.ala HB ?_ | refine Kx.al1 HB ?_); clear HB; intro b2 w_ HB; refine Kx.fr ?_) | ((with_reducible refine Kx.box_gate ?_); (first | refine Kx.boxa HB rfl ?_ | refine Kx.boxt HB rfl rfl ?_ | refine Kx.box1 HB rfl rfl ?_); clear HB; intro b_ w_ HB; refine Kx.fr ?_) | ((with_reducible refine Kx.alloc_gate ?_); (first | refine Kx.ala HB ?_ | refine Kx.al1 HB ?_); clear HB; intro b_ w_ HB; refine Kx.fr ?_) | ((with_reducible refine Kx.loads_gate ?_); first | refine Kx.l1 HB rfl rfl ?_ | refine Kx.la HB rfl ?_ | refine Kx.lo HB rfl HC.out ?_) | ((with_reducible refine Kx.loadg_gate ?_); first | refine Kx.l1g HB rfl rfl rfl ?_ | refine Kx.lag HB rfl rfl ?_ | refine Kx.log HB rfl HC.out rfl ?_) | ((with_reducible refine Kx.store_gate ?_); (first | refine Kx.stwa HB rfl rfl ?_ | refine Kx.sta HB rfl rfl ?_ | refine Kx.stc HB rfl rfl ?_ | refine Kx.stt HB rfl rfl rfl ?_ | refine Kx.st1 HB rfl rfl rfl ?_); clear HB; intro w_ HB))
  go_loopg [5, 6] n (fun gh ox ix wr => ∃ k : Nat, gh + k = n ∧ ox = .int .i64 (Gm.bestTo ti m k) ∧ ix = .int .i64 (k : Int) ∧ Hid (Bxs w wr [(b2, cf c)]))
  case atStart => exact ⟨0, by omega, rfl, rfl, HB⟩
  case round =>
    clear HB
    obtain ⟨k, hk, rfl, rfl, HB⟩ := hrel
    have hbi := Gm.bestTo_in ti m k
    by_cases hlt : k < n
    · have d3 : (k : Int) < (n : Int) := by omega
      have HS : Hid (Gm.bestTo ti m (k + 1) = if m.testBit k = true ∧ (Gm.bestTo ti m k < 0 ∨ ti.getD k 0 < ti.getD (Gm.bestTo ti m k).toNat 0) then (k : Int) else Gm.bestTo ti m k) := Lib.hid rfl
      have HH : Hid (∀ W, Calls Tryd.prog 28 #[.int .u64 (m : Int), .int .i64 (k : Int)] W fun e w' => e = .returned (.bool (m.testBit k)) ∧ Below W.heap.size W w') := Lib.hid (fun W => by
        refine (has_any m (k : Int) W hm (by omega)).mono ?_
        rintro e w' ⟨rfl, rfl⟩
        refine ⟨?_, Below.refl _ _⟩
        unfold Gm.has
        rw [decide_eq_true (by omega), Bool.true_and, Int.toNat_natCast])
      cases hbit : m.testBit k with
      | false =>
        rw [hbit] at HH HS
        have HE : Hid (Gm.bestTo ti m (k + 1) = Gm.bestTo ti m k) := Lib.hid (by rw [HS.out, if_neg (fun h => by cases h.1)])
        clear HS hbit hbi
        go_wp2_with ((with_reducible refine Kx.loads_gate ?_); refine Kx.wpList_load1_x HB rfl _ _ rfl b2 rfl (cf c) (Tryd.isAgg3 _) _ HCN.out ?_)
        refine Kx.region_x HB (fun i => false) (by kernel_rfl) ?_
        refine Kx.tk 0 rfl ?_
        refine Kx.tk 1 rfl ?_
        refine anyW_call (i := 2) (v := ?v2_1) (f := ?g2_1) (args := ?s2_1) (a' := ?a2_1) (by first | exact Kx.bears_x | exact bears_u | assumption) rfl (by kernel_rfl) (by kernel_rfl) (by kernel_rfl) (fun _ _ _ h => h) (by kernel_rfl) ?c2_1 ?w2_1 ?y2_1 ?f2_1 ?r2_1
        case w2_1 => kernel_rfl
        case y2_1 => (intro W hW; go_simp; first | (refine ⟨?_, ?_⟩ <;> with_reducible rfl) | with_reducible rfl)
        case c2_1 => (intro W hW; refine Calls.mono (HH.out W) ?_; rintro e w_ ⟨rfl, hb_⟩; refine ⟨?_, by first | exact hb_ | exact hb_ ▸ Below.refl _ _⟩; with_reducible rfl)
        case f2_1 => (go_simp; try with_reducible rfl)
        refine Kx.tk 3 rfl ?_
        refine Kx.sk 4 rfl ?_
        refine Kx.sk 5 rfl ?_
        refine Kx.sk 6 rfl ?_
        refine Kx.sk 7 rfl ?_
        refine Kx.sk 8 rfl ?_
        refine Kx.sk 9 rfl ?_
        refine Kx.sk 10 rfl ?_
        refine Kx.sk 11 rfl ?_
        refine Kx.sk 12 rfl ?_
        refine Kx.sk 13 rfl ?_
        refine Kx.sk 14 rfl ?_
        refine Kx.sk 15 rfl ?_
        refine Kx.sk 16 rfl ?_
        refine Kx.sk 17 rfl ?_
        refine Kx.sk 18 rfl ?_
        refine Kx.tk 19 rfl ?_
        refine anyW_done (by kernel_rfl) ?_
        clear HB
        intro w_ HB_
        have HB := Lib.hid HB_
        clear HB_
        go_wp2_with fail
        go_roundg (gk - 1)
        case measure => omega
        case rel => exact ⟨k + 1, by omega, by rw [HE.out], by go_num, HB⟩
      | true =>
        rw [hbit] at HH HS
        by_cases hneg : Gm.bestTo ti m k < 0
        · have HE : Hid (Gm.bestTo ti m (k + 1) = (k : Int)) := Lib.hid (by rw [HS.out, if_pos ⟨rfl, .inl hneg⟩])
          have d4 : decide (Gm.bestTo ti m k < (0 : Int)) = true := decide_eq_true hneg
          clear HS hbit hbi hneg
          go_wp2_with ((with_reducible refine Kx.loads_gate ?_); refine Kx.wpList_load1_x HB rfl _ _ rfl b2 rfl (cf c) (Tryd.isAgg3 _) _ HCN.out ?_)
          refine Kx.region_x HB (fun i => false) (by kernel_rfl) ?_
          refine Kx.tk 0 rfl ?_
          refine Kx.tk 1 rfl ?_
          refine anyW_call (i := 2) (v := ?v2_2) (f := ?g2_2) (args := ?s2_2) (a' := ?a2_2) (by first | exact Kx.bears_x | exact bears_u | assumption) rfl (by kernel_rfl) (by kernel_rfl) (by kernel_rfl) (fun _ _ _ h => h) (by kernel_rfl) ?c2_2 ?w2_2 ?y2_2 ?f2_2 ?r2_2
          case w2_2 => kernel_rfl
          case y2_2 => (intro W hW; go_simp; first | (refine ⟨?_, ?_⟩ <;> with_reducible rfl) | with_reducible rfl)
          case c2_2 => (intro W hW; refine Calls.mono (HH.out W) ?_; rintro e w_ ⟨rfl, hb_⟩; refine ⟨?_, by first | exact hb_ | exact hb_ ▸ Below.refl _ _⟩; with_reducible rfl)
          case f2_2 => (go_simp; try with_reducible rfl)
          refine Kx.tk 3 rfl ?_
          refine Kx.tk 4 rfl ?_
          refine Kx.tk 5 rfl ?_
          refine Kx.tk 6 rfl ?_
          refine Kx.sk 7 rfl ?_
          refine Kx.sk 8 rfl ?_
          refine Kx.sk 9 rfl ?_
          refine Kx.sk 10 rfl ?_
          refine Kx.sk 11 rfl ?_
          refine Kx.sk 12 rfl ?_
          refine Kx.sk 13 rfl ?_
          refine Kx.sk 14 rfl ?_
          refine Kx.sk 15 rfl ?_
          refine Kx.sk 16 rfl ?_
          refine Kx.sk 17 rfl ?_
          refine Kx.tk 18 rfl ?_
          refine Kx.tk 19 rfl ?_
          refine anyW_done (by kernel_rfl) ?_
          clear HB
          intro w_ HB_
          have HB := Lib.hid HB_
          clear HB_
          go_wp2_with fail
          go_roundg (gk - 1)
          case measure => omega
          case rel => exact ⟨k + 1, by omega, by rw [HE.out], by go_num, HB⟩
        · obtain ⟨q, hq⟩ : ∃ q : Nat, Gm.bestTo ti m k = (q : Int) := ⟨(Gm.bestTo ti m k).toNat, by omega⟩
          rw [hq] at HS hbi ⊢
          have hqk : q < k := by have := hbi.2.1; omega
          obtain ⟨ad, e1, -, hc1⟩ := HR.out.num (k := k) (by rw [HL.out]; exact hlt)
          obtain ⟨ad', e2, -, hc2⟩ := HR.out.num (k := q) (by rw [HL.out]; omega)
          rw [e1] at e2
          cases e2
          have H1 := Lib.hid hc1
          have H2 := Lib.hid hc2
          have HTA : Hid ((cf c)[5]? = some (.slice (some ad) n c.tc)) := Lib.hid (by rw [← e1, ← HTN.out]; rfl)
          have d4 : decide ((q : Int) < (0 : Int)) = false := by simp
          have d5 : (q : Int) < (n : Int) := by omega
          clear hc1 hc2 e1 hbit hbi hneg hq
          by_cases hless : ti.getD k 0 < ti.getD q 0
          · have HE : Hid (Gm.bestTo ti m (k + 1) = (k : Int)) := Lib.hid (by rw [HS.out, if_pos ⟨rfl, .inr (by rw [Int.toNat_natCast]; exact hless)⟩])
            have d6 : decide (ti.getD k 0 < ti.getD q 0) = true := decide_eq_true hless
            generalize ti.getD k 0 = a at *
            generalize ti.getD q 0 = b at *
            clear HS hless
            go_wp2_with ((with_reducible refine Kx.loads_gate ?_); refine Kx.wpList_load1_x HB rfl _ _ rfl b2 rfl (cf c) (Tryd.isAgg3 _) _ HCN.out ?_)
            refine Kx.region_x HB (fun i => false) (by kernel_rfl) ?_
            refine Kx.tk 0 rfl ?_
            refine Kx.tk 1 rfl ?_
            refine anyW_call (i := 2) (v := ?v2_3) (f := ?g2_3) (args := ?s2_3) (a' := ?a2_3) (by first | exact Kx.bears_x | exact bears_u | assumption) rfl (by kernel_rfl) (by kernel_rfl) (by kernel_rfl) (fun _ _ _ h => h) (by kernel_rfl) ?c2_3 ?w2_3 ?y2_3 ?f2_3 ?r2_3
            case w2_3 => kernel_rfl
            case y2_3 => (intro W hW; go_simp; first | (refine ⟨?_, ?_⟩ <;> with_reducible rfl) | with_reducible rfl)
            case c2_3 => (intro W hW; refine Calls.mono (HH.out W) ?_; rintro e w_ ⟨rfl, hb_⟩; refine ⟨?_, by first | exact hb_ | exact hb_ ▸ Below.refl _ _⟩; with_reducible rfl)
            case f2_3 => (go_simp; try with_reducible rfl)
            refine Kx.tk 3 rfl ?_
            refine Kx.tk 4 rfl ?_
            refine Kx.tk 5 rfl ?_
            refine Kx.tk 6 rfl ?_
            refine Kx.tk 7 rfl ?_
            refine anyW_take (i := 8) (v := ?v8_4) (a' := ?a8_4) (by first | exact Kx.bears_x | exact bears_u | assumption) rfl (by kernel_rfl) (by kernel_rfl) (by kernel_rfl) (fun _ _ _ h => h) (by kernel_rfl) ?w8_4 ?y8_4 ?f8_4 ?r8_4
            case w8_4 => kernel_rfl
            case y8_4 => (intro W hW; first | (refine Eq.trans (Kx.tells_load1_x (v := .slice (some ad) n c.tc) hW b2 5 rfl (cf c) inferInstance (Tryd.isAgg22 _) HTA.out) ?_; with_reducible rfl))
            case f8_4 => (go_simp; try with_reducible rfl)
            refine Kx.tk 9 rfl ?_
            refine Kx.tk 10 rfl ?_
            refine anyW_take (i := 11) (v := ?v11_5) (a' := ?a11_5) (by first | exact Kx.bears_x | exact bears_u | assumption) rfl (by kernel_rfl) (by kernel_rfl) (by kernel_rfl) (fun _ _ _ h => h) (by kernel_rfl) ?w11_5 ?y11_5 ?f11_5 ?r11_5
            case w11_5 => kernel_rfl
            case y11_5 => (intro W hW; first | (refine Eq.trans (tells_cell (v := .int .i64 a) (ad.add k) rfl (Tryd.isAgg3 _) (hW.old H1.out)) ?_; with_reducible rfl))
            case f11_5 => (go_simp; try with_reducible rfl)
            refine Kx.tk 12 rfl ?_
            refine anyW_take (i := 13) (v := ?v13_6) (a' := ?a13_6) (by first | exact Kx.bears_x | exact bears_u | assumption) rfl (by kernel_rfl) (by kernel_rfl) (by kernel_rfl) (fun _ _ _ h => h) (by kernel_rfl) ?w13_6 ?y13_6 ?f13_6 ?r13_6
            case w13_6 => kernel_rfl
            case y13_6 => (intro W hW; first | (refine Eq.trans (Kx.tells_load1_x (v := .slice (some ad) n c.tc) hW b2 5 rfl (cf c) inferInstance (Tryd.isAgg22 _) HTA.out) ?_; with_reducible rfl))
            case f13_6 => (go_simp; try with_reducible rfl)
            refine Kx.tk 14 rfl ?_
            refine Kx.tk 15 rfl ?_
            refine anyW_take (i := 16) (v := ?v16_7) (a' := ?a16_7) (by first | exact Kx.bears_x | exact bears_u | assumption) rfl (by kernel_rfl) (by kernel_rfl) (by kernel_rfl) (fun _ _ _ h => h) (by kernel_rfl) ?w16_7 ?y16_7 ?f16_7 ?r16_7
            case w16_7 => kernel_rfl
            case y16_7 => (intro W hW; first | (refine Eq.trans (tells_cell (v := .int .i64 b) (ad.add q) rfl (Tryd.isAgg3 _) (hW.old H2.out)) ?_; with_reducible rfl))
            case f16_7 => (go_simp; try with_reducible rfl)
            refine Kx.tk 17 rfl ?_
            refine Kx.tk 18 rfl ?_
            refine Kx.tk 19 rfl ?_
            refine anyW_done (by kernel_rfl) ?_
            clear HB
            intro w_ HB_
            have HB := Lib.hid HB_
            clear HB_
            go_wp2_with fail
            go_roundg (gk - 1)
            case measure => omega
            case rel => exact ⟨k + 1, by omega, by rw [HE.out], by go_num, HB⟩
          · have HE : Hid (Gm.bestTo ti m (k + 1) = (q : Int)) := Lib.hid (by rw [HS.out, if_neg]; rintro ⟨-, h | h⟩; exact absurd h (by omega); exact hless (by rwa [Int.toNat_natCast] at h))
            have d6 : decide (ti.getD k 0 < ti.getD q 0) = false := decide_eq_false hless
            generalize ti.getD k 0 = a at *
            generalize ti.getD q 0 = b at *
            clear HS hless
            go_wp2_with ((with_reducible refine Kx.loads_gate ?_); refine Kx.wpList_load1_x HB rfl _ _ rfl b2 rfl (cf c) (Tryd.isAgg3 _) _ HCN.out ?_)
            refine Kx.region_x HB (fun i => false) (by kernel_rfl) ?_
            refine Kx.tk 0 rfl ?_
            refine Kx.tk 1 rfl ?_
            refine anyW_call (i := 2) (v := ?v2_8) (f := ?g2_8) (args := ?s2_8) (a' := ?a2_8) (by first | exact Kx.bears_x | exact bears_u | assumption) rfl (by kernel_rfl) (by kernel_rfl) (by kernel_rfl) (fun _ _ _ h => h) (by kernel_rfl) ?c2_8 ?w2_8 ?y2_8 ?f2_8 ?r2_8
            case w2_8 => kernel_rfl
            case y2_8 => (intro W hW; go_simp; first | (refine ⟨?_, ?_⟩ <;> with_reducible rfl) | with_reducible rfl)
            case c2_8 => (intro W hW; refine Calls.mono (HH.out W) ?_; rintro e w_ ⟨rfl, hb_⟩; refine ⟨?_, by first | exact hb_ | exact hb_ ▸ Below.refl _ _⟩; with_reducible rfl)
            case f2_8 => (go_simp; try with_reducible rfl)
            refine Kx.tk 3 rfl ?_
            refine Kx.tk 4 rfl ?_
            refine Kx.tk 5 rfl ?_
            refine Kx.tk 6 rfl ?_
            refine Kx.tk 7 rfl ?_
            refine anyW_take (i := 8) (v := ?v8_9) (a' := ?a8_9) (by first | exact Kx.bears_x | exact bears_u | assumption) rfl (by kernel_rfl) (by kernel_rfl) (by kernel_rfl) (fun _ _ _ h => h) (by kernel_rfl) ?w8_9 ?y8_9 ?f8_9 ?r8_9
            case w8_9 => kernel_rfl
            case y8_9 => (intro W hW; first | (refine Eq.trans (Kx.tells_load1_x (v := .slice (some ad) n c.tc) hW b2 5 rfl (cf c) inferInstance (Tryd.isAgg22 _) HTA.out) ?_; with_reducible rfl))
            case f8_9 => (go_simp; try with_reducible rfl)
            refine Kx.tk 9 rfl ?_
            refine Kx.tk 10 rfl ?_
            refine anyW_take (i := 11) (v := ?v11_10) (a' := ?a11_10) (by first | exact Kx.bears_x | exact bears_u | assumption) rfl (by kernel_rfl) (by kernel_rfl) (by kernel_rfl) (fun _ _ _ h => h) (by kernel_rfl) ?w11_10 ?y11_10 ?f11_10 ?r11_10
            case w11_10 => kernel_rfl
            case y11_10 => (intro W hW; first | (refine Eq.trans (tells_cell (v := .int .i64 a) (ad.add k) rfl (Tryd.isAgg3 _) (hW.old H1.out)) ?_; with_reducible rfl))
            case f11_10 => (go_simp; try with_reducible rfl)
            refine Kx.tk 12 rfl ?_
            refine anyW_take (i := 13) (v := ?v13_11) (a' := ?a13_11) (by first | exact Kx.bears_x | exact bears_u | assumption) rfl (by kernel_rfl) (by kernel_rfl) (by kernel_rfl) (fun _ _ _ h => h) (by kernel_rfl) ?w13_11 ?y13_11 ?f13_11 ?r13_11
            case w13_11 => kernel_rfl
            case y13_11 => (intro W hW; first | (refine Eq.trans (Kx.tells_load1_x (v := .slice (some ad) n c.tc) hW b2 5 rfl (cf c) inferInstance (Tryd.isAgg22 _) HTA.out) ?_; with_reducible rfl))
            case f13_11 => (go_simp; try with_reducible rfl)
            refine Kx.tk 14 rfl ?_
            refine Kx.tk 15 rfl ?_
            refine anyW_take (i := 16) (v := ?v16_12) (a' := ?a16_12) (by first | exact Kx.bears_x | exact bears_u | assumption) rfl (by kernel_rfl) (by kernel_rfl) (by kernel_rfl) (fun _ _ _ h => h) (by kernel_rfl) ?w16_12 ?y16_12 ?f16_12 ?r16_12
            case w16_12 => kernel_rfl
            case y16_12 => (intro W hW; first | (refine Eq.trans (tells_cell (v := .int .i64 b) (ad.add q) rfl (Tryd.isAgg3 _) (hW.old H2.out)) ?_; with_reducible rfl))
            case f16_12 => (go_simp; try with_reducible rfl)
            refine Kx.tk 17 rfl ?_
            refine Kx.tk 18 rfl ?_
            refine Kx.tk 19 rfl ?_
            refine anyW_done (by kernel_rfl) ?_
            clear HB
            intro w_ HB_
            have HB := Lib.hid HB_
            clear HB_
            go_wp2_with fail
            go_roundg (gk - 1)
            case measure => omega
            case rel => exact ⟨k + 1, by omega, by rw [HE.out], by go_num, HB⟩
    · obtain rfl : k = n := by omega
      have d0 : decide ((k : Int) < (k : Int)) = false := by simp
      go_wp2_with ((with_reducible refine Kx.loads_gate ?_); refine Kx.wpList_load1_x HB rfl _ _ rfl b2 rfl (cf c) (Tryd.isAgg3 _) _ HCN.out ?_)
      go_ret
      exact ⟨rfl, HB.out.below⟩
end Go.Proofs.YtpbogacodhjlfaaDoor
