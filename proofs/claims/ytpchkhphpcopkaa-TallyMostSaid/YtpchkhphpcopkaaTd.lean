/- A copy of votes; where an observer's first one stands; one put in: the program's. -/
import Derived.Test.YtpchkhphpcopkaaTa
import Derived.Test.YtpchkhphpcopkaaBK
import Derived.Lib.SliceRun
namespace Go.Proofs.Ytpchkhphpcopkaa
open Go.RowKit Go.Shelf Km Kx

set_option maxRecDepth 100000 in
set_option maxHeartbeats 1000000 in
theorem Clone_any (A : Option Addr) (n cap B : Nat) (l : List Tm.Vt) (w : World) (hr : Rd w B A (vvs l)) (hB : B ≤ w.heap.size) (hn : l.length = n) (hm : n ≤ 100000) :
    Calls Try.prog 16 #[.slice A n cap] w fun e w' => ∃ A' c', e = .returned (.slice A' n c') ∧ Below w.heap.size w w' ∧ w'.ownsRow w.heap.size 25 3 (.slice A' n c') n (vvs l) := by
  have HB := Lib.hid (Bxs.start w)
  have HR := Lib.hid (hr.more hB)
  have HN := Lib.hid hn
  cases A with
  | none =>
    have hl : l = [] := by
      cases l with
      | nil => rfl
      | cons v l => obtain ⟨ad, e, _⟩ := hr 0 (.int .i64 v.o) rfl; cases e
    subst hl
    subst hn
    have hnl := fun W => Lib.run_eql_slice_nil (P := Try.prog) W 22 25 none 0 cap 0 0 Try.underlying22
    clear hr HR HN
    go_enter Try.func16, Try.ntmps16
    go_wp2_with fail
    go_ret
    exact ⟨none, 0, rfl, Below.refl _ _, World.ownsRow_nil _ _ _ _⟩
  | some ad =>
    have hnl := fun W => Lib.run_eql_slice_nil (P := Try.prog) W 22 25 (some ad) n cap 0 0 Try.underlying22
    clear hr hn hB
    go_enter Try.func16, Try.ntmps16
    go_wp2_with (first | ((with_reducible refine Kx.alloced_gate ?_); refine Kx.absorb_row 0 3 rfl (by decide) HB ?_; clear HB; intro w_ HB) | (at_builtin; first | (refine Kx.wpList_app_x HB rfl _ _ 22 rfl _ _ _ rfl 24 25 3 _ rfl Try.underlying22 (by kernel_rfl) (by decide) _ _ _ rfl _ (vvs l) (HR.out.below HB.out.below) (by (first | (rw [vvs_len, HN.out]) | exact vvs_cells l | (unfold maxLen; omega) | omega)) (by (first | (rw [vvs_len, HN.out]) | exact vvs_cells l | (unfold maxLen; omega) | omega)) (by (first | (rw [vvs_len, HN.out]) | exact vvs_cells l | (unfold maxLen; omega) | omega)) (by (first | (rw [vvs_len, HN.out]) | exact vvs_cells l | (unfold maxLen; omega) | omega)) ?_; clear HB; intro A_ c_ w_ hl_ hm_ HB; refine Kx.framed ?_ (by simp only [Act.put, List.setIfInBounds_toArray, List.set_cons_succ, List.set_cons_zero] <;> rfl)) | (refine Kx.wpList_appn_x HB rfl _ _ 22 rfl rfl 24 25 3 Try.underlying22 (by kernel_rfl) (by decide) _ _ _ rfl _ (vvs l) (HR.out.below HB.out.below) (by (first | (rw [vvs_len, HN.out]) | exact vvs_cells l | (unfold maxLen; omega) | omega)) (by (first | (rw [vvs_len, HN.out]) | exact vvs_cells l | (unfold maxLen; omega) | omega)) (by (first | (rw [vvs_len, HN.out]) | exact vvs_cells l | (unfold maxLen; omega) | omega)) (by (first | (rw [vvs_len, HN.out]) | exact vvs_cells l | (unfold maxLen; omega) | omega)) ?_; clear HB; intro A_ c_ w_ hl_ hm_ HB; refine Kx.framed ?_ (by simp only [Act.put, List.setIfInBounds_toArray, List.set_cons_succ, List.set_cons_zero] <;> rfl))))
    go_ret
    have := (HB.out.rows _ (List.mem_cons_self ..)).1
    refine ⟨A_, c_, by simp, HB.out.below, ?_⟩
    simpa [Rw.own] using this

/-- whose vote it is -/
theorem whose_any (x : Tm.Vt) (vb : Nat) (o : Int) (w : World) (hc : w.cell? ⟨vb, 0, none⟩ = some (.int .i64 o)) :
    Calls Try.prog 18 #[.agg (vv x).toArray, .pointer (some ⟨vb, 0, none⟩)] w fun e w' => e = .returned (.bool (decide (x.o = o))) ∧ Below w.heap.size w w' := by
  have HB := Lib.hid (Bxs.start w)
  have HC := Lib.hid hc
  clear hc
  obtain ⟨q, u, a⟩ := x
  dsimp only [vv]
  by_cases h : q = o
  · subst h
    rw [decide_eq_true rfl]
    go_enter Try.func18, Try.ntmps18
    go_wp2_with (first | ((with_reducible refine Kx.absorb HB ?_); clear HB; intro w_ HB) | ((with_reducible refine Kx.box_gate ?_); first | (refine Kx.wpList_boxa_x HB rfl _ _ rfl _ rfl ?_; clear HB; intro b_ w_ HB; refine Kx.framed ?_ (by simp only [Act.put, List.setIfInBounds_toArray, List.set_cons_succ, List.set_cons_zero] <;> rfl)) | (refine Kx.wpList_boxt_x HB rfl _ _ rfl _ rfl rfl ?_; clear HB; intro b_ w_ HB; refine Kx.framed ?_ (by simp only [Act.put, List.setIfInBounds_toArray, List.set_cons_succ, List.set_cons_zero] <;> rfl)) | (refine Kx.wpList_box1_x HB rfl _ _ rfl _ rfl rfl ?_; clear HB; intro b_ w_ HB; refine Kx.framed ?_ (by simp only [Act.put, List.setIfInBounds_toArray, List.set_cons_succ, List.set_cons_zero] <;> rfl))) | ((with_reducible refine Kx.alloc_gate ?_); first | (refine Kx.wpList_alloca_x HB rfl _ rfl _ (Try.zeroValue25 _) ?_; clear HB; intro b_ w_ HB; refine Kx.framed ?_ (by simp only [Act.put, List.setIfInBounds_toArray, List.set_cons_succ, List.set_cons_zero] <;> rfl)) | (refine Kx.wpList_alloc1_x HB rfl _ rfl _ (Try.zeroValue3 _) rfl ?_; clear HB; intro b_ w_ HB; refine Kx.framed ?_ (by simp only [Act.put, List.setIfInBounds_toArray, List.set_cons_succ, List.set_cons_zero] <;> rfl))) | ((with_reducible refine Kx.loads_gate ?_); first | (refine Kx.wpList_load1_x HB rfl _ _ rfl _ rfl _ (Try.isAgg3 _) _ rfl (Kx.framed ?_ (by simp only [Act.put, List.setIfInBounds_toArray, List.set_cons_succ, List.set_cons_zero] <;> rfl))) | (refine Kx.wpList_load_x HB rfl _ _ rfl _ rfl _ _ (Try.isAgg25 _) (Try.sizeOf25 _) _ (by first | exact Kx.whole (by rfl) | (simp <;> rfl)) (by rfl) (Kx.framed ?_ (by simp only [Act.put, List.setIfInBounds_toArray, List.set_cons_succ, List.set_cons_zero] <;> rfl))) | (refine Kx.wpList_old_x HB rfl _ _ rfl _ rfl (Try.isAgg3 _) _ HC.out (Kx.framed ?_ (by simp only [Act.put, List.setIfInBounds_toArray, List.set_cons_succ, List.set_cons_zero] <;> rfl)))) | ((with_reducible refine Kx.loadg_gate ?_); first | (refine Kx.wpList_loadg_x HB _ _ rfl _ rfl _ (Try.isAgg3 _) _ rfl rfl (Kx.framed ?_ (by simp only [Act.put, List.setIfInBounds_toArray, List.set_cons_succ, List.set_cons_zero] <;> rfl))) | (refine Kx.wpList_loadga_x HB _ _ rfl _ rfl _ _ (Try.isAgg25 _) (Try.sizeOf25 _) _ (by first | exact Kx.whole (by rfl) | (simp <;> rfl)) (by rfl) rfl (Kx.framed ?_ (by simp only [Act.put, List.setIfInBounds_toArray, List.set_cons_succ, List.set_cons_zero] <;> rfl))) | (refine Kx.wpList_oldg_x HB _ _ rfl _ rfl (Try.isAgg3 _) _ HC.out rfl (Kx.framed ?_ (by simp only [Act.put, List.setIfInBounds_toArray, List.set_cons_succ, List.set_cons_zero] <;> rfl)))) | ((with_reducible refine Kx.store_gate ?_); first | (refine Kx.wpList_storewa_x HB rfl rfl _ _ _ rfl _ rfl _ rfl _ (by rfl) (by simp <;> rfl) (by rfl) ?_; clear HB; intro w_ HB) | (refine Kx.wpList_storea_x HB rfl rfl _ _ _ rfl _ rfl _ rfl _ _ (by simp [Kx.splice] <;> rfl) (by simp) (by simp <;> rfl) (by rfl) ?_; clear HB; intro w_ HB) | (refine Kx.wpList_storec_x HB rfl rfl _ _ _ rfl _ rfl rfl _ _ (by simp <;> rfl) (by simp) (by simp <;> rfl) ?_; clear HB; intro w_ HB) | (refine Kx.wpList_storet_x HB rfl rfl _ _ _ rfl _ rfl _ rfl rfl _ _ (by simp <;> rfl) (by simp) (by simp <;> rfl) ?_; clear HB; intro w_ HB) | (refine Kx.wpList_store1_x HB rfl rfl _ _ _ rfl _ rfl _ rfl rfl _ _ (by simp <;> rfl) (by simp) (by simp <;> rfl) ?_; clear HB; intro w_ HB)))
    go_ret
    exact ⟨by simp, HB.out.below⟩
  · have d1 : (q == o) = false := by simp [h]
    rw [decide_eq_false h]
    go_enter Try.func18, Try.ntmps18
    go_wp2_with (first | ((with_reducible refine Kx.absorb HB ?_); clear HB; intro w_ HB) | ((with_reducible refine Kx.box_gate ?_); first | (refine Kx.wpList_boxa_x HB rfl _ _ rfl _ rfl ?_; clear HB; intro b_ w_ HB; refine Kx.framed ?_ (by simp only [Act.put, List.setIfInBounds_toArray, List.set_cons_succ, List.set_cons_zero] <;> rfl)) | (refine Kx.wpList_boxt_x HB rfl _ _ rfl _ rfl rfl ?_; clear HB; intro b_ w_ HB; refine Kx.framed ?_ (by simp only [Act.put, List.setIfInBounds_toArray, List.set_cons_succ, List.set_cons_zero] <;> rfl)) | (refine Kx.wpList_box1_x HB rfl _ _ rfl _ rfl rfl ?_; clear HB; intro b_ w_ HB; refine Kx.framed ?_ (by simp only [Act.put, List.setIfInBounds_toArray, List.set_cons_succ, List.set_cons_zero] <;> rfl))) | ((with_reducible refine Kx.alloc_gate ?_); first | (refine Kx.wpList_alloca_x HB rfl _ rfl _ (Try.zeroValue25 _) ?_; clear HB; intro b_ w_ HB; refine Kx.framed ?_ (by simp only [Act.put, List.setIfInBounds_toArray, List.set_cons_succ, List.set_cons_zero] <;> rfl)) | (refine Kx.wpList_alloc1_x HB rfl _ rfl _ (Try.zeroValue3 _) rfl ?_; clear HB; intro b_ w_ HB; refine Kx.framed ?_ (by simp only [Act.put, List.setIfInBounds_toArray, List.set_cons_succ, List.set_cons_zero] <;> rfl))) | ((with_reducible refine Kx.loads_gate ?_); first | (refine Kx.wpList_load1_x HB rfl _ _ rfl _ rfl _ (Try.isAgg3 _) _ rfl (Kx.framed ?_ (by simp only [Act.put, List.setIfInBounds_toArray, List.set_cons_succ, List.set_cons_zero] <;> rfl))) | (refine Kx.wpList_load_x HB rfl _ _ rfl _ rfl _ _ (Try.isAgg25 _) (Try.sizeOf25 _) _ (by first | exact Kx.whole (by rfl) | (simp <;> rfl)) (by rfl) (Kx.framed ?_ (by simp only [Act.put, List.setIfInBounds_toArray, List.set_cons_succ, List.set_cons_zero] <;> rfl))) | (refine Kx.wpList_old_x HB rfl _ _ rfl _ rfl (Try.isAgg3 _) _ HC.out (Kx.framed ?_ (by simp only [Act.put, List.setIfInBounds_toArray, List.set_cons_succ, List.set_cons_zero] <;> rfl)))) | ((with_reducible refine Kx.loadg_gate ?_); first | (refine Kx.wpList_loadg_x HB _ _ rfl _ rfl _ (Try.isAgg3 _) _ rfl rfl (Kx.framed ?_ (by simp only [Act.put, List.setIfInBounds_toArray, List.set_cons_succ, List.set_cons_zero] <;> rfl))) | (refine Kx.wpList_loadga_x HB _ _ rfl _ rfl _ _ (Try.isAgg25 _) (Try.sizeOf25 _) _ (by first | exact Kx.whole (by rfl) | (simp <;> rfl)) (by rfl) rfl (Kx.framed ?_ (by simp only [Act.put, List.setIfInBounds_toArray, List.set_cons_succ, List.set_cons_zero] <;> rfl))) | (refine Kx.wpList_oldg_x HB _ _ rfl _ rfl (Try.isAgg3 _) _ HC.out rfl (Kx.framed ?_ (by simp only [Act.put, List.setIfInBounds_toArray, List.set_cons_succ, List.set_cons_zero] <;> rfl)))) | ((with_reducible refine Kx.store_gate ?_); first | (refine Kx.wpList_storewa_x HB rfl rfl _ _ _ rfl _ rfl _ rfl _ (by rfl) (by simp <;> rfl) (by rfl) ?_; clear HB; intro w_ HB) | (refine Kx.wpList_storea_x HB rfl rfl _ _ _ rfl _ rfl _ rfl _ _ (by simp [Kx.splice] <;> rfl) (by simp) (by simp <;> rfl) (by rfl) ?_; clear HB; intro w_ HB) | (refine Kx.wpList_storec_x HB rfl rfl _ _ _ rfl _ rfl rfl _ _ (by simp <;> rfl) (by simp) (by simp <;> rfl) ?_; clear HB; intro w_ HB) | (refine Kx.wpList_storet_x HB rfl rfl _ _ _ rfl _ rfl _ rfl rfl _ _ (by simp <;> rfl) (by simp) (by simp <;> rfl) ?_; clear HB; intro w_ HB) | (refine Kx.wpList_store1_x HB rfl rfl _ _ _ rfl _ rfl _ rfl rfl _ _ (by simp <;> rfl) (by simp) (by simp <;> rfl) ?_; clear HB; intro w_ HB)))
    go_ret
    exact ⟨by simp, HB.out.below⟩

/-- where the first one stands, or -1 -/
def at_ (l : List Tm.Vt) (o : Int) : Int := if Tm.idx l o < l.length then (Tm.idx l o : Int) else -1
set_option maxRecDepth 100000 in
set_option maxHeartbeats 1000000 in
theorem Index_any (A : Option Addr) (n cap B : Nat) (l : List Tm.Vt) (vb : Nat) (o : Int) (w : World) (hr : Rd w B A (vvs l)) (hB : B ≤ w.heap.size) (hn : l.length = n) (hm : n ≤ 100000) (hc : w.cell? ⟨vb, 0, none⟩ = some (.int .i64 o)) :
    Calls Try.prog 17 #[.slice A n cap, .func (.func 18) #[] #[.pointer (some ⟨vb, 0, none⟩)]] w fun e w' => e = .returned (.int .i64 (at_ l o)) ∧ Below w.heap.size w w' := by
  have HB := Lib.hid (Bxs.start w)
  have HR := Lib.hid (hr.more hB)
  have HN := Lib.hid hn
  have HV := Lib.hid hc
  clear hr hn hB hc
  have hi : (Try.prog.info? 25).map (·.size) = some 3 := by kernel_rfl
  go_enter Try.func17, Try.ntmps17
  go_wp2_with fail
  go_loopg [8] n (fun gh ix wr => ∃ k : Nat, gh + k = n ∧ ix = .int .i64 (k : Int) ∧ Hid (Bxs w wr []) ∧ Hid (∀ (j : Nat) (x : Tm.Vt), j < k → l[j]? = some x → x.o ≠ o))
  case atStart => exact ⟨0, by omega, rfl, HB, Lib.hid (fun j x hj => by omega)⟩
  case round =>
    clear HB
    obtain ⟨k, hk, rfl, HB, HI⟩ := hrel
    by_cases hlt : k < n
    · obtain ⟨x, hx⟩ : ∃ x, l[k]? = some x := ⟨l[k]'(by rw [HN.out]; exact hlt), List.getElem?_eq_getElem _⟩
      obtain ⟨ad, rfl, hab, hc⟩ := HR.out.vts hx
      have HC : Hid (∀ j v, (vv x)[j]? = some v → wr.cell? ((ad.add (k * 3)).add j) = some v) := Lib.hid (fun j v hv => (HB.out.below.cell (by rw [addr_add_block, addr_add_block]; omega)).trans (hc j v hv))
      have HX := Lib.hid hx
      have d3 : (k : Int) < (n : Int) := by omega
      clear hc hx hab
      by_cases ho : x.o = o
      · have HO := Lib.hid ho
        have e1 : decide (x.o = o) = true := decide_eq_true ho
        have HS : Hid (∀ W, W.cell? ⟨vb, 0, none⟩ = some (.int .i64 o) → Calls Try.prog 18 #[.agg (vv x).toArray, .pointer (some ⟨vb, 0, none⟩)] W fun e w' => e = .returned (.bool true) ∧ Below W.heap.size W w') := Lib.hid (fun W hW => by have := whose_any x vb o W hW; rwa [e1] at this)
        clear ho e1
        go_wp2_with (first | (go_at_call 18; refine Calls.mono (HS.out _ (HB.out.old HV.out)) ?_; rintro e w_ ⟨rfl, hb_⟩; replace HB := Lib.hid (HB.out.call hb_); clear hb_) | ((with_reducible refine wpList_gate ?_); (refine wpList_load_any rfl 25 _ rfl _ rfl (vv x) _ HC.out Try.underlying25 rfl hi ?_)))
        go_ret
        refine ⟨?_, HB.out.below⟩
        have e2 : Tm.idx l o = k := Tm.idx_is HX.out HO.out HI.out
        have e3 : at_ l o = (k : Int) := by unfold at_; rw [e2, if_pos (by rw [HN.out]; exact hlt)]
        rw [e3]; rfl
      · have HO := Lib.hid ho
        have e1 : decide (x.o = o) = false := decide_eq_false ho
        have HS : Hid (∀ W, W.cell? ⟨vb, 0, none⟩ = some (.int .i64 o) → Calls Try.prog 18 #[.agg (vv x).toArray, .pointer (some ⟨vb, 0, none⟩)] W fun e w' => e = .returned (.bool false) ∧ Below W.heap.size W w') := Lib.hid (fun W hW => by have := whose_any x vb o W hW; rwa [e1] at this)
        clear ho e1
        go_wp2_with (first | (go_at_call 18; refine Calls.mono (HS.out _ (HB.out.old HV.out)) ?_; rintro e w_ ⟨rfl, hb_⟩; replace HB := Lib.hid (HB.out.call hb_); clear hb_) | ((with_reducible refine wpList_gate ?_); (refine wpList_load_any rfl 25 _ rfl _ rfl (vv x) _ HC.out Try.underlying25 rfl hi ?_)))
        go_roundg (gk - 1)
        case measure => omega
        case rel => exact ⟨k + 1, by omega, by go_num, HB, Lib.hid (fun j y hj hy => by
          rcases Nat.lt_or_ge j k with h | h
          · exact HI.out j y h hy
          · obtain rfl : j = k := by omega
            rw [HX.out] at hy; cases hy; exact HO.out)⟩
    · obtain rfl : k = n := by omega
      have d0 : decide ((k : Int) < (k : Int)) = false := by simp
      go_wp2_with fail
      go_ret
      refine ⟨?_, HB.out.below⟩
      have e2 : Tm.idx l o = l.length := Tm.idx_none (fun j x hx => HI.out j x (by have := (List.getElem?_eq_some_iff.1 hx).1; rw [HN.out] at this; exact this) hx)
      have e3 : at_ l o = -1 := by unfold at_; rw [e2, if_neg (Nat.lt_irrefl _)]
      rw [e3]; rfl
end Go.Proofs.Ytpchkhphpcopkaa
