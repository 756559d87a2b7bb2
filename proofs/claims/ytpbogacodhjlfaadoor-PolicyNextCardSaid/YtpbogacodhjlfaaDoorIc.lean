/- The best of some targets: the program's. -/
import Derived.Test.YtpbogacodhjlfaaDoorIb
namespace Go.Proofs.YtpbogacodhjlfaaDoor
open Go.RowKit Go.Shelf Km Kx Kc
attribute [local go_sem] Oper.semAt_some

theorem bx_below {W W' : World} {B : Nat} {t : TypeId} {v : Value} (h : Boxed W B t v) (hb : Below W.heap.size W W') : Boxed W' B t v := (hb.block _ h.lt).trans h
theorem bx_others {W W' : World} {B : Nat} {t : TypeId} {v : Value} (h : Boxed W B t v) {row : Option Nat} (hg : W.grownBy W' row) (hr : ∀ r, row = some r → ∃ o : Obj, W.heap[r]? = some o ∧ o.isCells = false) : Boxed W' B t v :=
  h.kept hg fun e => by
    obtain ⟨o, ho, hc⟩ := hr B e.symm
    rw [show W.heap[B]? = _ from h] at ho
    cases ho
    cases hc
/-- between two rounds: the boxes of the tiers and of what was found -/
def InvB {n : Nat} (bk : Nat) (w : World) (s : Value) (ti : List Int) (pre : List (Fin n)) (W : World) : Prop :=
  Boxed W bk 22 s ∧ (∃ f, f = (valsT pre).foldl (Gm.bestStep ti) (-1) ∧ (f = -1 ∨ ∃ q : Nat, q < n ∧ f = (q : Int)) ∧ Boxed W (bk + 1) 3 (.int .i64 f)) ∧ Below bk w W
theorem InvB.own {n : Nat} (bk B : Nat) (w : World) (s : Value) (ti : List Int) (hB : bk ≤ B) : OwnFrom B (InvB (n := n) bk w s ti) := fun _ _ _ _ ⟨h1, ⟨f, h2, h3, h4⟩, h6⟩ hg hr =>
  ⟨bx_others h1 hg (fun r e => (hr r e).2), ⟨f, h2, h3, bx_others h4 hg (fun r e => (hr r e).2)⟩, h6.grown hg (by have := h1.lt; omega) (fun r e => by have := (hr r e).1; omega)⟩
theorem step_in {n : Nat} {ti : List Int} {f : Int} {t : Nat} (ht : t < n) (hf : f = -1 ∨ ∃ q : Nat, q < n ∧ f = (q : Int)) : Gm.bestStep ti f t = -1 ∨ ∃ q : Nat, q < n ∧ Gm.bestStep ti f t = (q : Int) := by
  unfold Gm.bestStep
  split
  · exact .inr ⟨t, ht, rfl⟩
  · exact hf

theorem drewN_keeps (W : World) (n : Nat) : KeepsOthers W (W.drewN n) := ⟨Nat.le_refl _, fun _ _ h _ => h⟩
theorem set_post {n bk B : Nat} {w W : World} {s : Value} {ti : List Int} {pre : List (Fin n)} {t : Nat} (ht : t < n) (_ : bk ≤ B) {f : Int} (i0 : Boxed W bk 22 s) (i1 : Boxed W (bk + 1) 3 (.int .i64 f)) (i2 : Below bk w W) (nq : Nat) (v : Int)
    (he : Gm.bestStep ti ((valsT pre).foldl (Gm.bestStep ti) (-1)) t = v) (hv : v = (t : Int) := by rfl) :
    KeepsFrom B W ((W.drewN nq).setCell ⟨bk + 1, 0, none⟩ (.int .i64 v)) ∧ Below bk W ((W.drewN nq).setCell ⟨bk + 1, 0, none⟩ (.int .i64 v)) ∧ InvB bk w s ti (pre ++ [⟨t, ht⟩]) ((W.drewN nq).setCell ⟨bk + 1, 0, none⟩ (.int .i64 v)) := by
  have hbe : Below bk W ((W.drewN nq).setCell ⟨bk + 1, 0, none⟩ (.int .i64 v)) := (below_drawn (Below.refl bk W) nq).setCell (p := ⟨bk + 1, 0, none⟩) (by dsimp only; omega) _
  have j0 : Boxed (W.drewN nq) bk 22 s := i0
  have j1 : Boxed (W.drewN nq) (bk + 1) 3 (.int .i64 f) := i1
  exact ⟨((drewN_keeps W nq).trans (KeepsOthers.setCell (W.drewN nq) _ _)).from _, hbe, j0.other (by omega) _, ⟨v, by rw [valsT_snoc, List.foldl_append]; exact he.symm, .inr ⟨t, ht, hv⟩, j1.set _⟩, i2.trans hbe⟩
theorem stay_post {n bk B : Nat} {w W : World} {s : Value} {ti : List Int} {pre : List (Fin n)} {t q : Nat} {ht : t < n} (i0 : Boxed W bk 22 s) (hq : q < n) (i1 : Boxed W (bk + 1) 3 (.int .i64 (q : Int))) (i2 : Below bk w W) (nq : Nat)
    (he : (q : Int) = Gm.bestStep ti ((valsT pre).foldl (Gm.bestStep ti) (-1)) t) :
    KeepsFrom B W (W.drewN nq) ∧ Below bk W (W.drewN nq) ∧ InvB bk w s ti (pre ++ [⟨t, ht⟩]) (W.drewN nq) :=
  have hbe : Below bk W (W.drewN nq) := below_drawn (Below.refl bk W) nq
  ⟨(drewN_keeps W nq).from _, hbe, i0, ⟨q, by rw [valsT_snoc, List.foldl_append]; exact he, .inr ⟨q, hq, rfl⟩, i1⟩, i2.trans hbe⟩

set_option maxRecDepth 100000 in
set_option maxHeartbeats 2000000 in
theorem best_in (A : Option Addr) (n cap B : Nat) (ti : List Int) (mask : Nat) (w : World) (hr : Rd w B A (Kc.i64s ti)) (hB : B ≤ w.heap.size) (hl : ti.length = n) (hn : n ≤ 16) (hm : mask < 2 ^ n) (hb : BTab w) :
    CallsIn Fence.wide 4 Tryd.prog 20 #[.slice A n cap, .int .u64 (mask : Int)] w fun e w' => e = .returned (.int .i64 (Gm.bestTo ti mask n)) ∧ Below w.heap.size w w' := by
  have HFOLD := Lib.hid (Gm.best_fold ti mask n)
  refine callsIn_of_wp_marks Tryd.func20 rfl trivial ?_ rfl
  simp only [Tryd.ntmps20, List.size_toArray, List.length_cons, List.length_nil, Nat.reduceAdd, Nat.reduceSub, Array.replicate_succ, Array.replicate_zero, List.push_toArray, List.append_toArray, List.nil_append, List.cons_append]
  gi_wp2_with (gi_at_call 43; fail)
  obtain ⟨bk, hbk⟩ : ∃ bk, bk = w.heap.size := ⟨_, rfl⟩
  have b0 := (Boxed.new w 22 (.slice A n cap)).alloc (.cells #[.int .i64 (-1)] 3)
  have b1 := Boxed.new (w.alloc (.cells #[.slice A n cap] 22)) 3 (.int .i64 (-1))
  have hb2 : Below w.heap.size w ((w.alloc (.cells #[.slice A n cap] 22)).alloc (.cells #[.int .i64 (-1)] 3)) := ((Below.refl _ w).alloc (Nat.le_refl _) _).alloc (by simp) _
  have hs2 : ((w.alloc (.cells #[.slice A n cap] 22)).alloc (.cells #[.int .i64 (-1)] 3)).heap.size = bk + 2 := by simp [hbk]
  simp only [World.size_alloc] at b0 b1
  rw [← hbk] at b0 b1 hb2 hB ⊢
  generalize (w.alloc (.cells #[.slice A n cap] 22)).alloc (.cells #[.int .i64 (-1)] 3) = w2 at *
  refine ⟨trivial, (targets_in _ _ _).mono ?_⟩
  rintro e w4 ⟨rfl, hw4⟩
  have c0 : Boxed w4 bk 22 (.slice A n cap) := by rw [hw4]; exact b0.alloc _
  have c1 : Boxed w4 (bk + 1) 3 (.int .i64 (-1)) := by rw [hw4]; exact b1.alloc _
  have c2 : Boxed w4 (bk + 2) 25 (.int .u64 (mask : Int)) := by have := Boxed.new w2 25 (.int .u64 (mask : Int)); rw [hs2, ← hw4] at this; exact this
  have hb4 : Below bk w w4 := by rw [hw4]; exact hb2.alloc (by omega) _
  have hs4 : w4.heap.size = bk + 3 := by rw [hw4]; simp [hs2]
  have HBK := Lib.hid hbk
  rw [hs2]
  clear hw4 b0 b1 hb2 hbk hs2
  gi_wp2_with fail
  refine wpIn_rangeFunc_ownG rfl (by omega) (gf := 54) (lb := #[.pointer (some ⟨bk + 2, 0, none⟩)]) rfl trivial (enters_of Tryd.func54 (by kernel_rfl) rfl)
    (targets_stops 3 (by omega) n (bk + 2) bk mask (by omega) hm w4 w hb (by have := HBK.out; omega) (by omega) hb4 (by omega) c2.cell) belowK_t (belowK_b (by omega)) (Below.refl _ _) (fun _ => rfl)
    (InvB bk w (.slice A n cap) ti) (fun _ _ _ => False) (InvB.own bk _ w _ ti (by omega)) (fun _ _ _ _ _ hs _ _ => hs)
    ⟨c0, ⟨-1, rfl, .inl rfl, c1⟩, hb4⟩
    (fun x => { tmps := #[.slice A n cap, .int .u64 (mask : Int), .pointer (some ⟨bk, 0, none⟩), undef, .int .i64 0, .pointer (some ⟨bk + 1, 0, none⟩), .int .i64 ((x.val : Nat) : Int), .int .u64 (mask : Int), .func (.func 54) #[] #[.pointer (some ⟨bk + 2, 0, none⟩)], .int .i64 ((x.val : Nat) : Int), undef, undef, undef, undef, undef, undef, undef, undef, undef, undef, undef, undef, undef, undef, undef], defers := [] }) ?assign ?body ?done ?stop
  case stop =>
    rintro D c pre W _ _ h _
    exact h.elim
  case assign =>
    intro l x W K hK
    unfold encT
    gi_wp2
    exact hK
  case body =>
    rintro l pre ⟨t, ht⟩ W ⟨i0, ⟨f, hf, hfi, i1⟩, i2⟩ hlt
    have hc0 := i0.cell
    have hc1 := i1.cell
    have hz1 := i1.frozen
    obtain ⟨ad, rfl, -, hct⟩ := (hr.below (i2.mono hB)).num (k := t) (by omega)
    have d2 : (t : Int) < (n : Int) := by omega
    rcases hfi with rfl | ⟨q, hq, rfl⟩
    · have HE : Hid (Gm.bestStep ti (-1) t = (t : Int)) := Lib.hid (if_pos (.inl rfl))
      have HP := Lib.hid (⟨i0, i1, i2, hf⟩ : _ ∧ _ ∧ _ ∧ _)
      clear i0 i1 i2 hf hct
      gi_wp2_with fail
      refine region_quiet_round (by kernel_rfl) (by kernel_rfl) (by rintro ⟨_, _, h⟩; exact h) (by kernel_rfl) ?_
      repeat (go_big_quiet_step (fail))
      refine wpQuiet_nil ?_
      rintro _ ⟨nq, rfl⟩
      gi_wp2
      obtain ⟨i0, i1, i2, hf⟩ := HP.out
      exact set_post ht (by omega) i0 i1 i2 nq _ (by rw [← hf]; exact HE.out)
    · obtain ⟨ad', e', -, hcq⟩ := (hr.below (i2.mono hB)).num (k := q) (by omega)
      cases e'
      have d3 : (q : Int) < (n : Int) := by omega
      have d4 : ((q : Int) == -1) = false := by rw [beq_eq_false_iff_ne]; omega
      by_cases hless : ti.getD t 0 < ti.getD q 0
      · have HE : Hid (Gm.bestStep ti (q : Int) t = (t : Int)) := Lib.hid (if_pos (.inr (by rw [Int.toNat_natCast]; exact hless)))
        have d5 : decide (ti.getD t 0 < ti.getD q 0) = true := decide_eq_true hless
        have HP := Lib.hid (⟨i0, i1, i2, hf⟩ : _ ∧ _ ∧ _ ∧ _)
        clear i0 i1 i2 hf hless
        generalize ti.getD t 0 = x at *
        generalize ti.getD q 0 = y at *
        gi_wp2_with fail
        refine region_quiet_round (by kernel_rfl) (by kernel_rfl) (by rintro ⟨_, _, h⟩; exact h) (by kernel_rfl) ?_
        repeat (go_big_quiet_step (fail))
        refine wpQuiet_nil ?_
        rintro _ ⟨nq, rfl⟩
        gi_wp2
        obtain ⟨i0, i1, i2, hf⟩ := HP.out
        exact set_post ht (by omega) i0 i1 i2 nq _ (by rw [← hf]; exact HE.out)
      · have HE : Hid (Gm.bestStep ti (q : Int) t = (q : Int)) := Lib.hid (if_neg (by rintro (h | h); exact absurd h (by omega); exact hless (by rwa [Int.toNat_natCast] at h)))
        have d5 : decide (ti.getD t 0 < ti.getD q 0) = false := decide_eq_false hless
        have HP := Lib.hid (⟨i0, i1, i2, hf⟩ : _ ∧ _ ∧ _ ∧ _)
        clear i0 i1 i2 hf hless
        generalize ti.getD t 0 = x at *
        generalize ti.getD q 0 = y at *
        gi_wp2_with fail
        refine region_quiet_round (by kernel_rfl) (by kernel_rfl) (by rintro ⟨_, _, h⟩; exact h) (by kernel_rfl) ?_
        repeat (go_big_quiet_step (fail))
        refine wpQuiet_nil ?_
        rintro _ ⟨nq, rfl⟩
        gi_wp2
        obtain ⟨i0, i1, i2, hf⟩ := HP.out
        exact stay_post i0 hq i1 i2 nq (by rw [← hf]; exact HE.out.symm)
  case done =>
    rintro D ys W hD hys ⟨i0, ⟨f, hf, -, i1⟩, i2⟩ hK
    have hc1 := i1.cell
    have HF := Lib.hid hf
    have HI := Lib.hid i2
    have hlt := i1.lt
    clear i0 i1 i2
    gi_wp2
    refine ⟨by simp, .inl ⟨_, _, rfl, run_takeDeferred hK, ?_⟩⟩
    refine ⟨_, results_tmp rfl _ _ _, ?_, ?_⟩
    · rw [← HFOLD.out, ← hys, ← HF.out]; rfl
    · rw [← HBK.out]
      exact HI.out.grown (grownBy_putObj' W D (.deferred none)) (by omega) (fun r e => by cases e; omega)
end Go.Proofs.YtpbogacodhjlfaaDoor
