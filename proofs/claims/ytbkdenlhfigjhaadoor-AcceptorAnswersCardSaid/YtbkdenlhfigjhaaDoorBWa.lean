import Derived.Test.YtbkdenlhfigjhaaDoorProg
import Derived.Test.YtbkdenlhfigjhaaDoorBWm
import Derived.Test.YtbkdenlhfigjhaaDoorBK
import Derived.Lib.Hide
import Derived.WalkSpells
import Derived.WalkLawsBesides
import Derived.Deep.LoopGhost
import Derived.BigQuiet
import Derived.Deep.QuietTactic
import Derived.Lib.SliceRun
namespace Go.Proofs.YtbkdenlhfigjhaaDoor
open Go.RowKit Go.Shelf
attribute [local go_sem] Oper.semAt_some

theorem ret_u64 {a b : Int} (h : a = b) : Ending.returned (.int .u64 a) = .returned (.int .u64 b) := by rw [h]
theorem ret_i64 {a b : Int} (h : a = b) : Ending.returned (.int .i64 a) = .returned (.int .i64 b) := by rw [h]

set_option maxHeartbeats 400000 in
theorem fold_any (n : Int) (w : World) (h0 : -9223372036854775808 ≤ n) (h1 : n ≤ 9223372036854775807) :
    Calls Tryd.prog 87 #[.int .i64 n] w fun e w' => e = .returned (.int .u64 (Wm.fold n)) ∧ w = w' := by
  by_cases hn : n < 0
  · go_enter Tryd.func87, Tryd.ntmps87
    go_wp2
    go_ret
    exact ⟨ret_u64 (Wm.fold_neg hn), rfl⟩
  · go_enter Tryd.func87, Tryd.ntmps87
    go_wp2
    go_ret
    exact ⟨ret_u64 (Wm.fold_pos (by omega)), rfl⟩

set_option maxHeartbeats 1000000 in
/-- digits(u): u lies in a box; the function value holds the box. -/
theorem digits_in (F : Fence) (n : Nat) (hF : F.fn 86) (hro : F.round = none) (u : Int) (w : World) :
    CallsIn F n Tryd.prog 86 #[.int .u64 u] w fun e w' => e = .returned (.func (.func 89) #[] #[.pointer (some ⟨w.heap.size, 0, none⟩)]) ∧ w' = w.alloc (.cells #[.int .u64 u] 33) := by
  refine callsIn_of_wp Tryd.func86 rfl hF ?_ hro
  simp only [Tryd.ntmps86, List.size_toArray, List.length_cons, List.length_nil, Nat.reduceAdd, Nat.reduceSub, Array.replicate_succ, Array.replicate_zero, List.push_toArray, List.append_toArray, List.nil_append, List.cons_append]
  gi_wp2
  go_ret
  exact ⟨rfl, rfl⟩

/-- what the iterator does by itself: it stores into its own box -/
def boxMv (Bu : Nat) (A B : World) : Prop := ∃ v, B = A.setCell ⟨Bu, 0, none⟩ (.int .u64 v)
/-- what a round leaves as it is: the box -/
def boxKp (Bu : Nat) (A B : World) : Prop := ∀ u, Boxed A Bu 33 u → Boxed B Bu 33 u

/-- the number in the box, for the loop's measure -/
def boxNat (Bu : Nat) (W : World) : Nat := match W.cell? ⟨Bu, 0, none⟩ with | some v => (intOf v).toNat | none => 0
theorem boxNat_eq {Bu : Nat} {W : World} {u : Int} (h : Boxed W Bu 33 (.int .u64 u)) : boxNat Bu W = u.toNat := by
  unfold boxNat; rw [h.cell]; rfl

set_option maxRecDepth 100000 in
set_option maxHeartbeats 1000000 in
theorem digits1_in (F : Fence) (n : Nat) (hF : F.fn 89) (hro : F.round = none) (hn : 1 ≤ n) (l Bu : Nat) (J Jx : List (Int × Bool) → World → Prop)
    (hJM : ∀ s A B, J s A → boxMv Bu A B → J s B)
    (hY : ∀ pre x A, J pre A → pre.length < 10 → YieldAt F (n - 1) Tryd.prog l #[.int .u8 x.1, .bool x.2] A fun e B =>
      (e = .returned (.bool true) ∧ J (pre ++ [x]) B ∧ boxKp Bu A B) ∨ (e = .returned (.bool false) ∧ Jx (pre ++ [x]) B))
    (u : Int) (W : World) (h0 : 0 ≤ u) (h1 : u ≤ 18446744073709551615) (hB : Boxed W Bu 33 (.int .u64 u)) (hJ : J [] W) :
    CallsIn F n Tryd.prog 89 #[.func (.yield l) #[] #[], .pointer (some ⟨Bu, 0, none⟩)] W fun e W' => (∃ v, e = .returned v) ∧
      ((∃ ys, ys = Wm.digs 9 u ∧ J ys W') ∨ (∃ ys, True ∧ Jx ys W')) := by
  refine callsIn_of_wp Tryd.func89 rfl hF ?_ hro
  simp only [Tryd.ntmps89, List.size_toArray, List.length_cons, List.length_nil, Nat.reduceAdd, Nat.reduceSub, Array.replicate_succ, Array.replicate_zero, List.push_toArray, List.append_toArray, List.nil_append, List.cons_append]
  have HP := Lib.hid (Wm.lt_pow9 h1)
  gi_wp2
  gi_loopw [] (fun wr => ∃ (pre : List (Int × Bool)) (j : Nat) (v : Int), Hid (Wm.digs 9 u = pre ++ Wm.digs j v) ∧ 0 ≤ v ∧ v ≤ 18446744073709551615 ∧ Hid (v < 128 ^ (j + 1)) ∧ pre.length + j ≤ 9 ∧ Boxed wr Bu 33 (.int .u64 v) ∧ J pre wr)
    (fun wr => boxNat Bu wr)
  case atStart =>
    exact ⟨[], 9, u, Lib.hid rfl, h0, h1, HP, by simp, hB, hJ⟩
  case round =>
    obtain ⟨pre, j, v, hE, hv0, hv1, hP, hpj, hBx, hJs⟩ := hrel
    have hc := hBx.cell
    have hf := hBx.frozen
    by_cases hlt : v < 128
    · obtain ⟨fn, tmps, assign, body, hy, hR⟩ := hY pre (v, true) wr hJs (by omega)
      dsimp only at hy
      gi_wp2
      refine hR.mono ?_
      rintro e W3 (⟨rfl, hJ3, hk3⟩ | ⟨rfl, hJx3⟩)
      · gi_wp2
        go_end0
        exact ⟨⟨_, rfl⟩, .inl ⟨_, rfl, by rw [hE.out, Wm.digs_last hlt]; exact hJ3⟩⟩
      · gi_wp2
        go_end0
        exact ⟨⟨_, rfl⟩, .inr ⟨_, trivial, hJx3⟩⟩
    · obtain ⟨fn, tmps, assign, body, hy, hR⟩ := hY pre (v % 128, false) wr hJs (by omega)
      dsimp only at hy
      gi_wp2
      refine hR.mono ?_
      rintro e W3 (⟨rfl, hJ3, hk3⟩ | ⟨rfl, hJx3⟩)
      · have hB3 := hk3 _ hBx
        have hc3 := hB3.cell
        have hf3 := hB3.frozen
        obtain ⟨j, rfl⟩ : ∃ i, j = i + 1 := by
          cases j with
          | zero => have := hP.out; simp at this; omega
          | succ i => exact ⟨i, rfl⟩
        have hB4 := hB3.set (.int .u64 (v / 128))
        gi_wp2
        go_roundw
        case rel =>
          exact ⟨pre ++ [(v % 128, false)], j, v / 128, Lib.hid (by rw [hE.out, Wm.digs_more (by omega), List.append_assoc]; rfl), by omega, by omega, Lib.hid (Wm.lt_pow hP.out), by simp; omega, hB4, hJM _ _ _ hJ3 ⟨_, rfl⟩⟩
        case measure => rw [boxNat_eq hB4, boxNat_eq hBx]; omega
      · gi_wp2
        refine bodyPost_ret (results_none rfl _ _ _) rfl ?_
        exact ⟨⟨_, rfl⟩, .inr ⟨_, trivial, hJx3⟩⟩

theorem digits_seq (F : Fence) (n : Nat) (hF : F.fn 89) (hro : F.round = none) (hn : 1 ≤ n) (Bu : Nat) (u : Int) (w : World) (h0 : 0 ≤ u) (h1 : u ≤ 18446744073709551615)
    (hlt : Bu < w.heap.size) (hB : Boxed w Bu 33 (.int .u64 u)) :
    SeqM F n Tryd.prog 89 #[.pointer (some ⟨Bu, 0, none⟩)] (fun x : Int × Bool => #[.int .u8 x.1, .bool x.2]) (boxMv Bu) (boxKp Bu)
      (fun ys => ys = Wm.digs 9 u) (fun _ => True) 10 w := fun l J Jx W hW hJM _ hY hJ =>
  digits1_in F n hF hro hn l Bu J Jx hJM hY u W h0 h1 ((hW.block Bu hlt).trans hB) hJ


set_option maxRecDepth 100000 in
set_option maxHeartbeats 2000000 in
theorem PutInt_in (F : Fence) (n : Nat) (hF : F.fn 83) (hFf : F.fn 87) (hFd : F.fn 86) (hFd1 : F.fn 89) (hro : F.round = none) (hn : 3 ≤ n)
    (k : Int) (w : World) (h0 : -9223372036854775808 ≤ k) (h1 : k ≤ 9223372036854775807) (hfold : CallsIn F (n - 1) Tryd.prog 87 #[.int .i64 k] (w.alloc (.cells #[.slice none 0 0] 37)) fun e w' => e = .returned (.int .u64 (Wm.fold k)) ∧ (w.alloc (.cells #[.slice none 0 0] 37)) = w') :
    CallsIn F n Tryd.prog 83 #[.int .i64 k] w fun e W' => ∃ v, e = .returned v ∧ W'.ownsRow w.heap.size 5 1 v (Wm.pint k).length ((Wm.pint k).map (Value.int .u8)) ∧ Below w.heap.size w W' := by
  have hn1 : 1 ≤ n := by omega
  obtain ⟨i0, hi, hz0, hz1, hz2⟩ := info_parts info_u8
  refine callsIn_of_wp_marks Tryd.func83 rfl hF ?_ hro
  simp only [Tryd.ntmps83, List.size_toArray, List.length_cons, List.length_nil, Nat.reduceAdd, Nat.reduceSub, Array.replicate_succ, Array.replicate_zero, List.push_toArray, List.append_toArray, List.nil_append, List.cons_append]
  gi_wp2_with (first | (gi_at_call 87; refine hfold.mono ?_; rintro e w' ⟨rfl, rfl⟩) | (gi_at_call 86; refine (digits_in F (n - 1) hFd hro _ _).mono ?_; rintro e w' ⟨rfl, rfl⟩))
  have hlo := Wm.fold_lo h0 h1
  have bO := Boxed.new w 37 (.slice none 0 0)
  have bN := Boxed.new (w.alloc (.cells #[.slice none 0 0] 37)) 33 (.int .u64 (Wm.fold k))
  rw [World.size_alloc] at bN
  have hB0 : Below w.heap.size w ((w.alloc (.cells #[.slice none 0 0] 37)).alloc (.cells #[.int .u64 (Wm.fold k)] 33)) := ((Below.refl _ w).alloc (Nat.le_refl _) _).alloc (by simp) _
  refine wpIn_rangeFunc_moves hro hn1 (gf := 89) (lb := #[.pointer (some ⟨w.heap.size + 1, 0, none⟩)]) rfl hFd1 (enters_of Tryd.func89 (by kernel_rfl) rfl)
    (digits_seq F (n - 1) hFd1 hro (by omega) (w.heap.size + 1) (Wm.fold k) _ hlo.1 hlo.2 (by simp) bN) (Below.refl _ _) (fun _ => rfl)
    (by rintro A B ⟨v, rfl⟩ i o hi ho hc
        exact (KeepsOthers.setCell A ⟨w.heap.size + 1, 0, none⟩ (.int .u64 v)).same i o ho hc)
    (fun A B C h1 h2 u hu => h2 u (h1 u hu))
    (by intro A i o o' hi ho hc u hu
        exact hu.kept (grownBy_putObj' A i o') (by simp at hi; intro e; cases e; omega))
    (fun pre W => (∃ v, Boxed W w.heap.size 37 v ∧ W.ownsRow w.heap.size 5 1 v (pre.map Wm.byteOf).length ((pre.map Wm.byteOf).map (Value.int .u8)) ∧ True) ∧ ((∃ u, Boxed W (w.heap.size + 1) 33 u) ∧ Below w.heap.size w W))
    (fun _ _ _ => False)
    (OwnFrom.and (Own.from (holdsRow_own w.heap.size w.heap.size 37 5 1 (fun (pre : List (Int × Bool)) => (pre.map Wm.byteOf).length) (fun pre => (pre.map Wm.byteOf).map (Value.int .u8)) (fun _ _ => True)) _)
      (OwnFrom.and (fun _ A B row hs hg hr => by
        obtain ⟨u, hu⟩ := hs
        exact ⟨u, hu.kept hg (fun e => by obtain ⟨_, o, ho, hc⟩ := hr _ e.symm; rw [show A.heap[_]? = _ from hu] at ho; cases ho; cases hc)⟩) (ownFrom_below (Nat.le_refl _) (by simp; omega))))
    (fun _ _ _ _ _ hs _ _ => hs)
    (by rintro s A B ⟨⟨v, hv, hr, _⟩, ⟨u, hu⟩, hb⟩ ⟨y, rfl⟩
        have hne : some (w.heap.size + 1) ≠ v.ownBlock := hu.not_row (by decide) hr
        exact ⟨⟨v, hv.other (by omega) _, hr.kept (grownBy_setCell' A _ _) (.inr hne.symm), trivial⟩, ⟨_, hu.set _⟩, hb.setCell (p := ⟨w.heap.size + 1, 0, none⟩) (by simp) _⟩)
    (fun _ _ _ _ h _ => h)
    ⟨⟨_, bO.alloc _, World.ownsRow_nil _ _ _ _, trivial⟩, ⟨_, bN⟩, hB0⟩
    (fun x => { tmps := #[.int .i64 k, undef, .slice none 0 0, .pointer (some ⟨w.heap.size, 0, none⟩), .int .u8 x.1, .bool x.2, .int .i64 k, .int .u64 (Wm.fold k), .func (.func 89) #[] #[.pointer (some ⟨w.heap.size + 1, 0, none⟩)], .int .u8 x.1, .bool x.2, undef, undef, undef, undef, undef, undef, undef, undef, undef], defers := [] }) ?assign ?body ?done ?stop
  case assign =>
    intro l x W K hK
    gi_wp2
    exact hK
  case body =>
    rintro l pre ⟨d, b⟩ W ⟨⟨v, hv, hrow, _⟩, ⟨u, hu⟩, hB⟩ hlen
    have hc := hv.cell
    have hpl : (pre.map Wm.byteOf).length < 10 := by simpa using hlen
    have hne : some (w.heap.size + 1) ≠ v.ownBlock := hu.not_row (by decide) hrow
    cases b
    · gi_wp2_with (gi_at_builtin; refine wpListIn_append_own _ rfl _ _ 37 rfl w.heap.size 5 i0 (.int .u8 0) 1 1 Tryd.underlying37 hi hz0 hz1 hz2 rfl (by decide) _ _ _ rfl (hrow.alloc _) ⟨W.heap.size, 0, none⟩ 1 1 [.int .u8 (IntKind.u8.wrap (d + 128))] rfl rfl (cell_one_new _ _ _) (by simp [Value.oneCell']) (by unfold maxLen; omega) (by omega) (by have := hB.size; simp; omega) ?_; intro v' w1 hown' hgrow _; obtain ⟨g', cap', rfl⟩ := ownsRow_succ hown'; obtain ⟨hv1, hv2, hr2, hk2, hb2⟩ := hv.appended (by decide) hrow hB.size (Nat.le_refl _) hown' hgrow; have hc1 := hv1.cell; have hf1 := hv1.frozen)
      rw [List.length_map] at hv2 hr2 hk2 hb2
      exact ⟨hk2.from _, fun u2 hu2 => ((hu2.alloc _).kept hgrow (hu2.not_row (by decide) hrow)).other (by omega) _, ⟨⟨_, hv2, by simpa [Wm.byteOf] using hr2, trivial⟩, ⟨u, ((hu.alloc _).kept hgrow hne).other (by omega) _⟩, hB.trans hb2⟩⟩
    · gi_wp2_with (gi_at_builtin; refine wpListIn_append_own _ rfl _ _ 37 rfl w.heap.size 5 i0 (.int .u8 0) 1 1 Tryd.underlying37 hi hz0 hz1 hz2 rfl (by decide) _ _ _ rfl (hrow.alloc _) ⟨W.heap.size, 0, none⟩ 1 1 [.int .u8 d] rfl rfl (cell_one_new _ _ _) (by simp [Value.oneCell']) (by unfold maxLen; omega) (by omega) (by have := hB.size; simp; omega) ?_; intro v' w1 hown' hgrow _; obtain ⟨g', cap', rfl⟩ := ownsRow_succ hown'; obtain ⟨hv1, hv2, hr2, hk2, hb2⟩ := hv.appended (by decide) hrow hB.size (Nat.le_refl _) hown' hgrow; have hc1 := hv1.cell; have hf1 := hv1.frozen)
      rw [List.length_map] at hv2 hr2 hk2 hb2
      exact ⟨hk2.from _, fun u2 hu2 => ((hu2.alloc _).kept hgrow (hu2.not_row (by decide) hrow)).other (by omega) _, ⟨⟨_, hv2, by simpa [Wm.byteOf] using hr2, trivial⟩, ⟨u, ((hu.alloc _).kept hgrow hne).other (by omega) _⟩, hB.trans hb2⟩⟩
  case done =>
    rintro D ys W hD rfl ⟨⟨v, hv, hrow, _⟩, _, hB⟩ hK
    have hc := hv.cell
    gi_wp2
    refine ⟨by simp, .inl ⟨_, _, rfl, run_takeDeferred hK, ?_⟩⟩
    rw [Wm.pint_digs] at hrow
    exact ⟨_, results_tmp rfl _ _ _, v, rfl, ownsRow_putObj hrow _ hK rfl, hB.trans (belowK_b (w := w) (Nat.le_refl _) W D _ _ (by simp at hD; omega) hK rfl rfl)⟩
  case stop =>
    rintro D c pre W _ _ h _
    exact h.elim
end Go.Proofs.YtbkdenlhfigjhaaDoor

namespace Go.Proofs.YtbkdenlhfigjhaaDoor
open Go.RowKit Go.Shelf

end Go.Proofs.YtbkdenlhfigjhaaDoor

namespace Go.Proofs.YtbkdenlhfigjhaaDoor
open Go.RowKit Go.Shelf

theorem ret3_i64 {a b c a' b' c' : Int} (h1 : a = a') (h2 : b = b') (h3 : c = c') :
    Ending.returned (.tuple #[.int .i64 a, .int .i64 b, .int .i64 c]) = .returned (.tuple #[.int .i64 a', .int .i64 b', .int .i64 c']) := by rw [h1, h2, h3]

end Go.Proofs.YtbkdenlhfigjhaaDoor

namespace Go.Proofs.YtbkdenlhfigjhaaDoor
open Go.RowKit Go.Shelf

end Go.Proofs.YtbkdenlhfigjhaaDoor

namespace Go.Proofs.YtbkdenlhfigjhaaDoor
open Go.RowKit Go.Shelf

theorem PutInt_any (k : Int) (w : World) (h0 : -9223372036854775808 ≤ k) (h1 : k ≤ 9223372036854775807) :
    Calls Tryd.prog 83 #[.int .i64 k] w fun e W' => ∃ v, e = .returned v ∧ W'.ownsRow w.heap.size 5 1 v (Wm.pint k).length ((Wm.pint k).map (Value.int .u8)) ∧ Below w.heap.size w W' :=
  callsIn_wide.1 (PutInt_in Fence.wide 3 trivial trivial trivial trivial rfl (by omega) k w h0 h1 (callsIn_wide.2 (fold_any k _ h0 h1)))

end Go.Proofs.YtbkdenlhfigjhaaDoor

namespace Go.Proofs.YtbkdenlhfigjhaaDoor
open Go.RowKit Go.Shelf

/-- the numbers xs as values -/
abbrev i64s (xs : List Int) : List Value := xs.map (Value.int .i64)


theorem take_step {α : Type} {l m : List α} {k : Nat} {x : α} (h : l.take k = m.take k) (hx : l[k]? = some x) (hy : m[k]? = some x) : l.take (k + 1) = m.take (k + 1) := by
  rw [List.take_add_one, List.take_add_one, h, hx, hy]


set_option maxRecDepth 100000 in
set_option maxHeartbeats 1000000 in
theorem Same_any (A1 A2 : Option Addr) (n1 n2 c1 c2 B1 B2 : Nat) (xs ys : List Int) (w : World) (hx : Rd w B1 A1 (i64s xs)) (hy : Rd w B2 A2 (i64s ys)) (hn1 : xs.length = n1) (hn2 : ys.length = n2)
    (hm1 : n1 ≤ maxLen) :
    Calls Tryd.prog 43 #[.slice A1 n1 c1, .slice A2 n2 c2] w fun e w' => e = .returned (.bool (decide (xs = ys))) ∧ ∃ n, w' = w.drewN n := by
  unfold maxLen at hm1
  by_cases hne : n1 = n2
  · subst hne
    go_enter Tryd.func43, Tryd.ntmps43
    go_wp2
    go_loopw [5] (fun ix wr => ∃ (k : Nat) (nd : Nat), ix = .int .i64 (k : Int) ∧ k ≤ n1 ∧ Hid (xs.take k = ys.take k) ∧ Hid (wr = w.drewN nd)) (fun ix _ => n1 - (intOf ix).toNat)
    case atStart => exact ⟨0, 0, rfl, by omega, Lib.hid rfl, Lib.hid rfl⟩
    case round =>
      obtain ⟨k, nd, rfl, hk, hT, hW⟩ := hrel
      have hx' : Rd wr B1 A1 (i64s xs) := by rw [hW.out]; exact hx
      have hy' : Rd wr B2 A2 (i64s ys) := by rw [hW.out]; exact hy
      by_cases hlt : k < n1
      · obtain ⟨x, hxk⟩ : ∃ x, xs[k]? = some x := ⟨xs[k], List.getElem?_eq_getElem (by omega)⟩
        obtain ⟨y, hyk⟩ : ∃ y, ys[k]? = some y := ⟨ys[k], List.getElem?_eq_getElem (by omega)⟩
        obtain ⟨ad1, rfl, _, hc1⟩ := hx'.getU hxk
        obtain ⟨ad2, rfl, _, hc2⟩ := hy'.getU hyk
        have HX := Lib.hid hxk
        have HY := Lib.hid hyk
        clear hxk hyk hx hy hx' hy'
        have hr : decide ((k : Int) < (n1 : Int)) = true := by simp; omega
        by_cases hxy : x = y
        · subst hxy
          go_wp2_with fail
          go_quiet (fail)
          go_wp2
          go_roundw
          case rel => exact ⟨k + 1, nd + _, by go_num, by omega, Lib.hid (take_step hT.out HX.out HY.out), Lib.hid (by rw [hW.out, World.drewN_drewN])⟩
          case measure => simp [intOf]; omega
        · have hb : (x != y) = true := by rw [bne_iff_ne]; exact hxy
          have hne : xs ≠ ys := by
            intro e
            have h1 := HX.out
            rw [e, HY.out] at h1
            exact hxy (by injection h1 with h1; exact h1.symm)
          have HE := Lib.hid (show decide (xs = ys) = false by simpa using hne)
          clear hne hxy
          go_wp2_with fail
          go_quiet (fail)
          go_wp2
          go_ret
          exact ⟨ret_bool HE.out.symm, nd + _, by rw [hW.out, World.drewN_drewN]⟩
      · have HE : Hid (decide (xs = ys) = true) := by
          have h := hT.out
          rw [List.take_of_length_le (by omega), List.take_of_length_le (by omega)] at h
          exact Lib.hid (by simpa using h)
        clear hx hy hx' hy'
        go_wp2
        go_ret
        exact ⟨ret_bool HE.out.symm, nd, hW.out⟩
  · have HE : Hid (decide (xs = ys) = false) := by
      have : xs ≠ ys := by intro e; apply hne; rw [← hn1, ← hn2, e]
      exact Lib.hid (by simpa using this)
    have hb : ((n1 : Int) != (n2 : Int)) = true := by rw [bne_iff_ne]; omega
    clear hx hy
    go_enter Tryd.func43, Tryd.ntmps43
    go_wp2
    go_ret
    exact ⟨ret_bool HE.out.symm, 0, rfl⟩
end Go.Proofs.YtbkdenlhfigjhaaDoor

namespace Go.Proofs.YtbkdenlhfigjhaaDoor
open Go.RowKit Go.Shelf

/-- a test of a number that is not decided -/
theorem beq_or (a b : Int) : ((a == b) = true ∧ a = b) ∨ ((a == b) = false ∧ a ≠ b) := by
  by_cases h : a = b
  · exact .inl ⟨by simpa using h, h⟩
  · exact .inr ⟨by simpa using h, h⟩

end Go.Proofs.YtbkdenlhfigjhaaDoor
