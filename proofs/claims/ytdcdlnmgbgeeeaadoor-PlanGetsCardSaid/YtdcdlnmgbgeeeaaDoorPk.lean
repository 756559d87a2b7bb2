/- The live question. -/
import Derived.Test.YtdcdlnmgbgeeeaaDoorPi
namespace Go.Proofs.YtdcdlnmgbgeeeaaDoor
open Go.RowKit Go.Shelf

namespace Pm
/-- the plan that the live question writes -/
def hx : Pl := ⟨0, 1, 0, 2, 100, 0, 0, 0, 0, 0, [], []⟩
theorem hx_ok : hx.Ok := ⟨⟨by decide, by decide⟩, ⟨by decide, by decide⟩, ⟨by decide, by decide⟩, ⟨by decide, by decide⟩, ⟨by decide, by decide⟩, ⟨by decide, by decide⟩, ⟨by decide, by decide⟩, ⟨by decide, by decide⟩,
  ⟨by decide, by decide⟩, ⟨by decide, by decide⟩, (fun _ h => absurd h List.not_mem_nil), (fun _ h => absurd h List.not_mem_nil)⟩
theorem hx_right : hx.right = true := by
  refine ask_yes ⟨fun k hk => ?_, ⟨by decide, fun _ h => absurd h List.not_mem_nil⟩, ⟨by decide, fun _ h => absurd h List.not_mem_nil⟩, fun k h => absurd h (Nat.not_lt_zero _)⟩
  match k, hk with
  | 0, _ => exact ⟨by decide, by decide⟩
  | 1, _ => exact ⟨by decide, by decide⟩
  | 2, _ => exact ⟨by decide, by decide⟩
  | 3, _ => exact ⟨by decide, by decide⟩
  | 4, _ => exact ⟨by decide, by decide⟩
  | 5, _ => exact ⟨by decide, by decide⟩
  | 6, _ => exact ⟨by decide, by decide⟩
  | 7, _ => exact ⟨by decide, by decide⟩
  | 8, _ => exact ⟨by decide, by decide⟩
  | 9, _ => exact ⟨by decide, by decide⟩
theorem hx_put : hx.put.2 = 0 := by rw [Pl.put_ok hx_right]
theorem hx_one : hx.names 1 = true := ask_yes ⟨by decide, .inl rfl⟩
theorem hx_none : hx.names 0 = false := ask_no (by decide)
theorem get_nil : get [] = (zero, 41) := get_none (get3_err0 (by decide))
end Pm

/-- a whole value read by an operation whose guard holds -/
theorem wpList_load_on {P : Program} {ops : Array Oper} {rest : List Oper} {op : Oper} {a : Act} {w : World} {Q : Exit → Act → World → Prop} (ty : TypeId) (x : Operand) (ho : op.op = .load ty x)
    (b o : Nat) (hx : a.eval x = .pointer (some ⟨b, o, none⟩)) (cs : List Value) (d : TypeDesc) (hc : w.rangeAt b o cs) (hu : P.underlying ty = some d) (hd : d.isRow = true) (hi : (P.info? ty).map (·.size) = some cs.length)
    (hn : Region.wanted op (yielded ops a.tmps) = true) (h : wpList P ops Q rest (a.put op.dst (.agg cs.toArray)) w) : wpList P ops Q (op :: rest) a w :=
  wpList_step fun K hK => by
    simp only [hn, if_true]
    exact wp_load_mid ty x ho b o hx cs d hc hu hd hi (hK _ _ h)

set_option maxRecDepth 100000 in
set_option maxHeartbeats 4000000 in
theorem head_any (w : World) (ht : Tab w) : Calls Tryd.prog 10 #[] w fun e w' => e = .returned (.bool true) ∧ Below w.heap.size w w' := by
  have hbx := Bx.new w Pm.hx none 0 0 none 0 0 26
  have hb1 := Lib.hid ((Below.refl w.heap.size w).alloc (Nat.le_refl _) (.cells (pvs Pm.hx none 0 0 none 0 0).toArray 26))
  have hz1 : (w.alloc (.cells (pvs Pm.hx none 0 0 none 0 0).toArray 26)).heap.size = w.heap.size + 1 := World.size_alloc ..
  have hpa : PlAt (w.alloc (.cells (pvs Pm.hx none 0 0 none 0 0).toArray 26)) 0 Pm.hx none 0 0 none 0 0 := ⟨Pm.hx_ok, Rd.nil _ _ _, rfl, Nat.le_refl _, Nat.zero_le _, Rd.nil _ _ _, rfl, Nat.le_refl _, Nat.zero_le _⟩
  have hP := Lib.hid (Put_any Pm.hx none 0 0 none 0 0 0 (w.alloc (.cells (pvs Pm.hx none 0 0 none 0 0).toArray 26)) hpa (Nat.zero_le _) (ht.below hb1.out (Nat.le_refl _)))
  rw [Pm.hx_put] at hP
  have HG := Lib.hid (Pm.get_put Pm.hx_ok Pm.hx_right)
  have HBY := Lib.hid (Pm.put_byte Pm.hx_ok)
  generalize Pm.hx.put.1 = b at *
  have HT := Lib.hid (ht.below hb1.out (Nat.le_refl _))
  have HBX := Lib.hid hbx
  have HPA := Lib.hid hpa
  have HZ1 := Lib.hid hz1
  clear ht hbx hpa hz1
  go_enter Tryd.func10, Tryd.ntmps10
  go_wp2_with (first | (refine wpList_load_mid rfl 26 _ rfl w.heap.size 0 rfl (pvs Pm.hx none 0 0 none 0 0) _ HBX.out Tryd.underlying26 rfl info_plan ?_) | (go_at_call 11; fail))
  refine hP.out.mono ?_
  rintro e w2 ⟨v2, rfl, hown2, hb2⟩
  obtain ⟨A2, c2, rfl, hcp2, hcm2, hrd2⟩ := own_view hown2
  have hT2 := Lib.hid (HT.out.below hb2 (Nat.le_refl _))
  rw [HZ1.out] at hb2
  have HB2 := Lib.hid hb2
  have HGE := Lib.hid (Get_any A2 b.length c2 w2.heap.size b w2 hrd2 rfl hcp2 hcm2 (Nat.le_refl _) HBY.out hT2.out)
  rw [HG.out] at HGE
  clear hown2 hb2 hrd2 hP
  go_wp2_with (go_at_call 15; fail)
  refine HGE.out.mono ?_
  rintro e w3 ⟨D1, m1, d1, D2, m2, d2, rfl, hpa3, hb3⟩
  have HB3 := Lib.hid (HB2.out.trans (hb3.mono (by have := HB2.out.size; rw [HZ1.out] at this; exact this)))
  have hz3 : w.heap.size + 1 ≤ w3.heap.size := by have := HB3.out.size; rw [HZ1.out] at this; exact this
  have hT3 := Lib.hid (hT2.out.below hb3 (Nat.le_refl _))
  have HPA3 := Lib.hid hpa3
  have hbx4 := Lib.hid (Bx.new w3 Pm.hx D1 m1 d1 D2 m2 d2 26)
  have HB4 := Lib.hid (HB3.out.alloc hz3 (.cells (pvs Pm.hx D1 m1 d1 D2 m2 d2).toArray 26))
  have hk4 : Hid (Below w3.heap.size w3 (w3.alloc (.cells (pvs Pm.hx D1 m1 d1 D2 m2 d2).toArray 26))) := (Below.refl _ _).alloc (Nat.le_refl _) _
  have hz4 : Hid ((w3.alloc (.cells (pvs Pm.hx D1 m1 d1 D2 m2 d2).toArray 26)).heap.size = w3.heap.size + 1) := World.size_alloc ..
  have HGN := Lib.hid (Get_any none 0 0 0 [] (w3.alloc (.cells (pvs Pm.hx D1 m1 d1 D2 m2 d2).toArray 26)) (Rd.nil _ _ _) rfl (Nat.le_refl _) (Nat.zero_le _) (Nat.zero_le _) (fun _ h => absurd h List.not_mem_nil) (hT3.out.below hk4.out (Nat.le_refl _)))
  rw [Pm.get_nil] at HGN
  clear hpa3 hb3 HGE hT2
  go_wp2_with (first | (refine wpList_store_new rfl 26 _ _ rfl _ (pvs Pm.hx D1 m1 d1 D2 m2 d2).toArray rfl rfl info_plan rfl (pvs_one _ _ _ _ _ _ _) ?_) | (go_at_call 15; fail))
  refine HGN.out.mono ?_
  rintro e w5 ⟨E1, p1, q1, E2, p2, q2, rfl, -, hb5⟩
  rw [hz4.out] at hb5
  have HB5 := Lib.hid (HB4.out.trans (hb5.mono (by omega)))
  have HX5 := Lib.hid (hbx4.out.below hb5 (Nat.lt_succ_self _))
  have hz5 := hb5.size
  rw [hz4.out] at hz5
  have hk5 := Lib.hid (hk4.out.trans (hb5.mono (Nat.le_succ _)))
  have HPA5 := Lib.hid (HPA3.out.below hk5.out (Nat.le_refl _))
  clear hb5 HGN hT3 HB4 hk4 hz4 hbx4 HB3
  have HB6 := Lib.hid (HB5.out.alloc (by omega) (.cells (pvs Pm.zero E1 p1 q1 E2 p2 q2).toArray 26))
  have hk6 : Hid (Below w5.heap.size w5 (w5.alloc (.cells (pvs Pm.zero E1 p1 q1 E2 p2 q2).toArray 26))) := (Below.refl _ _).alloc (Nat.le_refl _) _
  have hz6 : Hid (w5.heap.size ≤ (w5.alloc (.cells (pvs Pm.zero E1 p1 q1 E2 p2 q2).toArray 26)).heap.size) := by show _ ≤ _; rw [World.size_alloc]; omega
  have HX6 := Lib.hid (HX5.out.below hk6.out (by omega))
  have HX0 := Lib.hid (HBX.out.below HB6.out (Nat.lt_succ_self _))
  have HPA6 := Lib.hid (HPA5.out.below hk6.out (by omega))
  have f1 := HX6.out.at 1 rfl
  have hN1 := Lib.hid (fun W => Names_any Pm.hx none 0 0 none 0 0 1 W)
  have hN0 := Lib.hid (fun W => Names_any Pm.hx none 0 0 none 0 0 0 W)
  rw [Pm.hx_one] at hN1
  rw [Pm.hx_none] at hN0
  have e1 : Pm.hx.t = 1 := rfl
  rw [e1] at f1
  clear e1
  go_wp2_with (first | (refine wpList_store_new rfl 26 _ _ rfl _ (pvs Pm.zero E1 p1 q1 E2 p2 q2).toArray rfl rfl info_plan rfl (pvs_one _ _ _ _ _ _ _) ?_) | (refine wpList_load_on 26 _ rfl w.heap.size 0 rfl (pvs Pm.hx none 0 0 none 0 0) _ HX0.out Tryd.underlying26 rfl info_plan (by kernel_rfl) ?_) | (go_at_call 18; fail))
  refine (hN1.out _).mono ?_
  rintro e w7 ⟨rfl, hb7⟩
  have HB7 := Lib.hid (HB6.out.trans (hb7.mono (by have := hz6.out; omega)))
  have hk7 := Lib.hid (hk6.out.trans (hb7.mono hz6.out))
  have HX7 := Lib.hid (HBX.out.below HB7.out (Nat.lt_succ_self _))
  have hz7 := Nat.le_trans hz6.out hb7.size
  clear hb7 HB6 HX0 hN1 hk6 hz6 f1
  go_wp2_with (first | (refine wpList_load_on 26 _ rfl w.heap.size 0 rfl (pvs Pm.hx none 0 0 none 0 0) _ HX7.out Tryd.underlying26 rfl info_plan (by kernel_rfl) ?_) | (go_at_call 18; fail))
  refine (hN0.out _).mono ?_
  rintro e w8 ⟨rfl, hb8⟩
  have HB8 := Lib.hid (HB7.out.trans (hb8.mono (by omega)))
  have hk8 := Lib.hid (hk7.out.trans (hb8.mono hz7))
  have HX8 := Lib.hid (HBX.out.below HB8.out (Nat.lt_succ_self _))
  have HX48 := Lib.hid (HX5.out.below hk8.out (by omega))
  have hz8 := Nat.le_trans hz7 hb8.size
  have HS := Lib.hid (Same_p_any Pm.hx Pm.hx none 0 0 none 0 0 0 D1 m1 d1 D2 m2 d2 w3.heap.size w8 (HPA.out.below (HB8.out) (Nat.zero_le _)) (HPA5.out.below hk8.out (by omega)) (Nat.zero_le _) (by omega))
  rw [show Pm.same Pm.hx Pm.hx = true from Pm.ask_yes rfl] at HS
  clear hb8 HB7 HX7 hN0 hk7 HPA6 HPA5 HX5 HX6
  go_wp2_with (first | (refine wpList_load_on 26 _ rfl w.heap.size 0 rfl (pvs Pm.hx none 0 0 none 0 0) _ HX8.out Tryd.underlying26 rfl info_plan (by kernel_rfl) ?_) | (refine wpList_load_on 26 _ rfl w3.heap.size 0 rfl (pvs Pm.hx D1 m1 d1 D2 m2 d2) _ HX48.out Tryd.underlying26 rfl info_plan (by kernel_rfl) ?_) | (go_at_call 20; fail))
  refine HS.out.mono ?_
  rintro e w9 ⟨rfl, hb9⟩
  have HB9 := hb1.out.trans ((HB8.out.trans (hb9.mono (by omega))).mono (Nat.le_succ _))
  go_wp2
  go_ret
  exact ⟨rfl, HB9⟩
end Go.Proofs.YtdcdlnmgbgeeeaaDoor
