/- Sums of times, bounded: the program's and the document's. -/
import Derived.Test.YtijbdkeefaaeeaaKitX
import Derived.Test.YtijbdkeefaaeeaaKitCf
import Derived.Test.YtijbdkeefaaeeaaPm
import Derived.Test.YtijbdkeefaaeeaaBK
import Derived.WalkMore
namespace Go.Proofs.Ytijbdkeefaaeeaa
open Go.RowKit Go.Shelf Km Kx Kc

set_option maxRecDepth 100000 in
theorem Bound_any (n : Int) (w : World) : Calls Try.prog 17 #[.int .i64 n] w fun e w' => e = .returned (.int .i64 (Pm.bd n)) ∧ Below w.heap.size w w' := by
  go_enter Try.func17, Try.ntmps17
  go_wp2
  all_goals
    go_ret
    refine ⟨?_, Below.refl _ _⟩
    show Ending.returned (Value.int IntKind.i64 _) = _
    congr 2
    unfold Pm.bd
    split <;> (try split) <;> omega

theorem sum_take (l : List Int) (k : Nat) {t : Int} (h : l[k]? = some t) : Pm.sum (l.take (k + 1)) = Pm.add (Pm.sum (l.take k)) t := by
  have : l.take (k + 1) = l.take k ++ [t] := by rw [List.take_add_one, h]; rfl
  rw [this, Pm.sum_snoc]

set_option maxRecDepth 100000 in
theorem sum_any (A : Option Addr) (n cap B : Nat) (l : List Int) (w : World) (hr : Rd w B A (i64s l)) (hn : l.length = n) (hm : n ≤ 8388607) :
    Calls Try.prog 15 #[.slice A n cap] w fun e w' => e = .returned (.int .i64 (Pm.sum l)) ∧ Below w.heap.size w w' := by
  have HB := Lib.hid (Bxs.start w)
  have HR := Lib.hid hr
  have HN := Lib.hid hn
  clear hr hn
  go_enter Try.func15, Try.ntmps15
  go_wp2
  go_loopg [3, 8] n (fun gh sx ix wr => ∃ k : Nat, gh + k = n ∧ sx = .int .i64 (Pm.sum (l.take k)) ∧ ix = .int .i64 (k : Int) ∧ Hid (Bxs w wr []))
  case atStart => exact ⟨0, by omega, rfl, rfl, HB⟩
  case round =>
    clear HB
    obtain ⟨k, hk, rfl, rfl, HB⟩ := hrel
    by_cases hlt : k < n
    · obtain ⟨t, ht⟩ : ∃ t, l[k]? = some t := ⟨l[k]'(by rw [HN.out]; exact hlt), List.getElem?_eq_getElem _⟩
      obtain ⟨ad, rfl, -, hc⟩ := HR.out k (.int .i64 t) (by unfold i64s; rw [List.getElem?_map, ht]; rfl)
      have HC := Lib.hid hc
      have HS := Lib.hid (sum_take l k ht)
      have d3 : (k : Int) < (n : Int) := by omega
      have hs := Pm.sum_in (l.take k)
      obtain ⟨s1, s2⟩ := hs
      have ht2 := Pm.bd_in t
      obtain ⟨t1, t2⟩ := ht2
      clear hc ht
      generalize Pm.sum (l.take k) = x at *
      obtain ⟨b0, h0⟩ : ∃ b0 : Int, (if t < 0 then 0 else t) = b0 := ⟨_, rfl⟩
      obtain ⟨b1, h1⟩ : ∃ b1 : Int, (if 1099511627776 < b0 then 1099511627776 else b0) = b1 := ⟨_, rfl⟩
      have hb : Pm.bd t = b1 := by unfold Pm.bd; rw [h0, h1]
      rw [hb] at t1 t2
      obtain ⟨z, h2⟩ : ∃ z : Int, (if 1099511627776 < x + b1 then 1099511627776 else x + b1) = z := ⟨_, rfl⟩
      have HZ := Lib.hid (show Pm.add x t = z by unfold Pm.add; rw [hb, h2])
      clear hb
      have hw : IntKind.i64.wrap (x + b1) = x + b1 := by rw [IntKind.wrap_i64]; omega
      go_wp2_with (first | ((with_reducible refine Kx.absorb HB ?_); clear HB; intro w_ HB) | ((with_reducible refine Kx.box_gate ?_); first | (refine Kx.wpList_boxa_x HB rfl _ _ rfl _ rfl ?_; clear HB; intro b_ w_ HB; refine Kx.framed ?_ (by simp only [Act.put, List.setIfInBounds_toArray, List.set_cons_succ, List.set_cons_zero] <;> rfl)) | (refine Kx.wpList_boxt_x HB rfl _ _ rfl _ rfl rfl ?_; clear HB; intro b_ w_ HB; refine Kx.framed ?_ (by simp only [Act.put, List.setIfInBounds_toArray, List.set_cons_succ, List.set_cons_zero] <;> rfl)) | (refine Kx.wpList_box1_x HB rfl _ _ rfl _ rfl rfl ?_; clear HB; intro b_ w_ HB; refine Kx.framed ?_ (by simp only [Act.put, List.setIfInBounds_toArray, List.set_cons_succ, List.set_cons_zero] <;> rfl))) | ((with_reducible refine Kx.alloc_gate ?_); first | (refine Kx.wpList_alloca_x HB rfl _ rfl _ (Try.zeroValue23 _) ?_; clear HB; intro b_ w_ HB; refine Kx.framed ?_ (by simp only [Act.put, List.setIfInBounds_toArray, List.set_cons_succ, List.set_cons_zero] <;> rfl)) | (refine Kx.wpList_alloc1_x HB rfl _ rfl _ (Try.zeroValue4 _) rfl ?_; clear HB; intro b_ w_ HB; refine Kx.framed ?_ (by simp only [Act.put, List.setIfInBounds_toArray, List.set_cons_succ, List.set_cons_zero] <;> rfl)) | (refine Kx.wpList_alloc1_x HB rfl _ rfl _ (Try.zeroValue3 _) rfl ?_; clear HB; intro b_ w_ HB; refine Kx.framed ?_ (by simp only [Act.put, List.setIfInBounds_toArray, List.set_cons_succ, List.set_cons_zero] <;> rfl)) | (refine Kx.wpList_alloc1_x HB rfl _ rfl _ (Try.zeroValue2 _) rfl ?_; clear HB; intro b_ w_ HB; refine Kx.framed ?_ (by simp only [Act.put, List.setIfInBounds_toArray, List.set_cons_succ, List.set_cons_zero] <;> rfl))) | ((with_reducible refine Kx.loads_gate ?_); first | (refine Kx.wpList_load1_x HB rfl _ _ rfl _ rfl _ (Try.isAgg4 _) _ rfl (Kx.framed ?_ (by simp only [Act.put, List.setIfInBounds_toArray, List.set_cons_succ, List.set_cons_zero] <;> rfl))) | (refine Kx.wpList_load1_x HB rfl _ _ rfl _ rfl _ (Try.isAgg3 _) _ rfl (Kx.framed ?_ (by simp only [Act.put, List.setIfInBounds_toArray, List.set_cons_succ, List.set_cons_zero] <;> rfl))) | (refine Kx.wpList_load1_x HB rfl _ _ rfl _ rfl _ (Try.isAgg2 _) _ rfl (Kx.framed ?_ (by simp only [Act.put, List.setIfInBounds_toArray, List.set_cons_succ, List.set_cons_zero] <;> rfl))) | (refine Kx.wpList_load_x HB rfl _ _ rfl _ rfl _ _ (Try.isAgg23 _) (Try.sizeOf23 _) _ (by first | exact Kx.whole (by rfl) | (simp <;> rfl)) (by rfl) (Kx.framed ?_ (by simp only [Act.put, List.setIfInBounds_toArray, List.set_cons_succ, List.set_cons_zero] <;> rfl))) | (refine Kx.wpList_old_x HB rfl _ _ rfl _ rfl (Try.isAgg4 _) _ HC.out (Kx.framed ?_ (by simp only [Act.put, List.setIfInBounds_toArray, List.set_cons_succ, List.set_cons_zero] <;> rfl))) | (refine Kx.wpList_old_x HB rfl _ _ rfl _ rfl (Try.isAgg3 _) _ HC.out (Kx.framed ?_ (by simp only [Act.put, List.setIfInBounds_toArray, List.set_cons_succ, List.set_cons_zero] <;> rfl))) | (refine Kx.wpList_old_x HB rfl _ _ rfl _ rfl (Try.isAgg2 _) _ HC.out (Kx.framed ?_ (by simp only [Act.put, List.setIfInBounds_toArray, List.set_cons_succ, List.set_cons_zero] <;> rfl)))) | ((with_reducible refine Kx.loadg_gate ?_); first | (refine Kx.wpList_loadg_x HB _ _ rfl _ rfl _ (Try.isAgg4 _) _ rfl rfl (Kx.framed ?_ (by simp only [Act.put, List.setIfInBounds_toArray, List.set_cons_succ, List.set_cons_zero] <;> rfl))) | (refine Kx.wpList_loadg_x HB _ _ rfl _ rfl _ (Try.isAgg3 _) _ rfl rfl (Kx.framed ?_ (by simp only [Act.put, List.setIfInBounds_toArray, List.set_cons_succ, List.set_cons_zero] <;> rfl))) | (refine Kx.wpList_loadg_x HB _ _ rfl _ rfl _ (Try.isAgg2 _) _ rfl rfl (Kx.framed ?_ (by simp only [Act.put, List.setIfInBounds_toArray, List.set_cons_succ, List.set_cons_zero] <;> rfl))) | (refine Kx.wpList_loadga_x HB _ _ rfl _ rfl _ _ (Try.isAgg23 _) (Try.sizeOf23 _) _ (by first | exact Kx.whole (by rfl) | (simp <;> rfl)) (by rfl) rfl (Kx.framed ?_ (by simp only [Act.put, List.setIfInBounds_toArray, List.set_cons_succ, List.set_cons_zero] <;> rfl))) | (refine Kx.wpList_oldg_x HB _ _ rfl _ rfl (Try.isAgg4 _) _ HC.out rfl (Kx.framed ?_ (by simp only [Act.put, List.setIfInBounds_toArray, List.set_cons_succ, List.set_cons_zero] <;> rfl))) | (refine Kx.wpList_oldg_x HB _ _ rfl _ rfl (Try.isAgg3 _) _ HC.out rfl (Kx.framed ?_ (by simp only [Act.put, List.setIfInBounds_toArray, List.set_cons_succ, List.set_cons_zero] <;> rfl))) | (refine Kx.wpList_oldg_x HB _ _ rfl _ rfl (Try.isAgg2 _) _ HC.out rfl (Kx.framed ?_ (by simp only [Act.put, List.setIfInBounds_toArray, List.set_cons_succ, List.set_cons_zero] <;> rfl)))) | ((with_reducible refine Kx.store_gate ?_); first | (refine Kx.wpList_storewa_x HB rfl rfl _ _ _ rfl _ rfl _ rfl _ (by rfl) (by simp <;> rfl) (by rfl) ?_; clear HB; intro w_ HB) | (refine Kx.wpList_storea_x HB rfl rfl _ _ _ rfl _ rfl _ rfl _ _ (by simp [Kx.splice] <;> rfl) (by simp) (by simp <;> rfl) (by rfl) ?_; clear HB; intro w_ HB) | (refine Kx.wpList_storec_x HB rfl rfl _ _ _ rfl _ rfl rfl _ _ (by simp <;> rfl) (by simp) (by simp <;> rfl) ?_; clear HB; intro w_ HB) | (refine Kx.wpList_storet_x HB rfl rfl _ _ _ rfl _ rfl _ rfl rfl _ _ (by simp <;> rfl) (by simp) (by simp <;> rfl) ?_; clear HB; intro w_ HB) | (refine Kx.wpList_store1_x HB rfl rfl _ _ _ rfl _ rfl _ rfl rfl _ _ (by simp <;> rfl) (by simp) (by simp <;> rfl) ?_; clear HB; intro w_ HB)))
      go_roundg (gk - 1)
      case measure => omega
      case rel => exact ⟨k + 1, by omega, by rw [HS.out, HZ.out], by go_num, HB⟩
    · obtain rfl : k = n := by omega
      have d0 : decide ((k : Int) < (k : Int)) = false := by simp
      have e : l.take k = l := List.take_of_length_le (by rw [HN.out]; exact Nat.le_refl _)
      rw [e]
      clear e
      go_wp2
      go_ret
      exact ⟨rfl, HB.out.below⟩
end Go.Proofs.Ytijbdkeefaaeeaa
