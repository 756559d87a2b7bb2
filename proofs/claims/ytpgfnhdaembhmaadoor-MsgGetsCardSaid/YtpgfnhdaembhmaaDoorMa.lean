/- A message's value, in a box and out of it; its numbers; whether a node is one; whether its plan is right: the program's. -/
import Derived.Test.YtpgfnhdaembhmaaDoorMm
import Derived.Test.YtpgfnhdaembhmaaDoorKitF
import Derived.Test.YtpgfnhdaembhmaaDoorBPb
namespace Go.Proofs.YtpgfnhdaembhmaaDoor
open Go.RowKit Go.Shelf

/-- where a message's five slices lie -/
structure Lo where
  A1 : Option Addr
  n1 : Nat
  c1 : Nat
  A2 : Option Addr
  n2 : Nat
  c2 : Nat
  A3 : Option Addr
  n3 : Nat
  c3 : Nat
  A4 : Option Addr
  n4 : Nat
  c4 : Nat
  A5 : Option Addr
  n5 : Nat
  c5 : Nat
def Lo.zero : Lo := ⟨none, 0, 0, none, 0, 0, none, 0, 0, none, 0, 0, none, 0, 0⟩

/-- a message's value, cell by cell -/
def mvs (x : Mm.Ms) (l : Lo) : List Value :=
  [.int .i64 x.k, .int .i64 x.f, .int .i64 x.t, .int .i64 x.e, .int .i64 x.b, .int .i64 x.a, .int .i64 x.n, .int .i64 x.ti, .int .u64 x.up, .int .i64 x.co, .bool x.has] ++
    (pvs x.plan l.A1 l.n1 l.c1 l.A2 l.n2 l.c2 ++ [.slice l.A3 l.n3 l.c3, .slice l.A4 l.n4 l.c4, .slice l.A5 l.n5 l.c5])
def mv (x : Mm.Ms) (l : Lo) : Value := .agg (mvs x l).toArray
theorem mvs_len (x : Mm.Ms) (l : Lo) : (mvs x l).length = 26 := rfl

/-- a message's slices lie where its value says -/
structure MsAt (w : World) (B : Nat) (x : Mm.Ms) (l : Lo) : Prop where
  ok : x.Ok
  pl : PlAt w B x.plan l.A1 l.n1 l.c1 l.A2 l.n2 l.c2
  r3 : Rd w B l.A3 (i64s x.id)
  l3 : x.id.length = l.n3
  c3 : l.n3 ≤ l.c3
  m3 : l.c3 ≤ maxLen
  r4 : Rd w B l.A4 (u8s x.se)
  l4 : x.se.length = l.n4
  c4 : l.n4 ≤ l.c4
  m4 : l.c4 ≤ maxLen
  r5 : Rd w B l.A5 (u8s x.pa)
  l5 : x.pa.length = l.n5
  c5 : l.n5 ≤ l.c5
  m5 : l.c5 ≤ maxLen
theorem MsAt.below {w w' : World} {B B' : Nat} {x : Mm.Ms} {l : Lo} (h : MsAt w B x l) (hb : Below B' w w') (hB : B ≤ B') : MsAt w' B x l :=
  ⟨h.ok, h.pl.below hb hB, h.r3.below (hb.mono hB), h.l3, h.c3, h.m3, h.r4.below (hb.mono hB), h.l4, h.c4, h.m4, h.r5.below (hb.mono hB), h.l5, h.c5, h.m5⟩
theorem MsAt.more {w : World} {B B' : Nat} {x : Mm.Ms} {l : Lo} (h : MsAt w B x l) (hB : B ≤ B') : MsAt w B' x l :=
  ⟨h.ok, h.pl.more hB, h.r3.more hB, h.l3, h.c3, h.m3, h.r4.more hB, h.l4, h.c4, h.m4, h.r5.more hB, h.l5, h.c5, h.m5⟩
theorem PlAt.zero (w : World) (B : Nat) : PlAt w B Pm.zero none 0 0 none 0 0 := ⟨Pm.ok_zero, Rd.nil _ _ _, rfl, Nat.le_refl _, Nat.zero_le _, Rd.nil _ _ _, rfl, Nat.le_refl _, Nat.zero_le _⟩
theorem MsAt.zero (w : World) (B : Nat) : MsAt w B Mm.zero Lo.zero :=
  ⟨Mm.ok_zero, PlAt.zero w B, Rd.nil _ _ _, rfl, Nat.le_refl _, Nat.zero_le _, Rd.nil _ _ _, rfl, Nat.le_refl _, Nat.zero_le _, Rd.nil _ _ _, rfl, Nat.le_refl _, Nat.zero_le _⟩

/-- a part of what lies in a row -/
theorem range_part {w : World} {b o : Nat} {xs ys zs : List Value} (h : w.rangeAt b o (xs ++ (ys ++ zs))) : w.rangeAt b (o + xs.length) ys := fun j v hv => by
  have hj := (List.getElem?_eq_some_iff.1 hv).1
  have := h (xs.length + j) v (by rw [List.getElem?_append_right (Nat.le_add_right _ _), Nat.add_sub_cancel_left, List.getElem?_append_left hj]; exact hv)
  rw [← Nat.add_assoc] at this
  exact this
theorem range_below {w w' : World} {b o B : Nat} {cs : List Value} (h : w.rangeAt b o cs) (hb : Below B w w') (hB : b < B) : w'.rangeAt b o cs := fun j v hv => by
  rw [hb.cell (by exact hB)]; exact h j v hv
theorem range_new (w : World) (cs : List Value) (t : TypeId) : (w.alloc (.cells cs.toArray t)).rangeAt w.heap.size 0 cs := fun j v hv => by
  obtain ⟨ad, e, _, hc⟩ := (Rd.new w (w.heap.size + 1) cs t (0, 0) (by omega)) j v hv
  cases e
  rw [Addr.add_mid] at hc
  exact hc
theorem range_at {w : World} {b : Nat} {cs : List Value} (h : w.rangeAt b 0 cs) (j : Nat) {v : Value} (hv : cs[j]? = some v) : w.cell? ⟨b, j, none⟩ = some v := by
  have := h j v hv
  rwa [Nat.zero_add] at this

/-- a message in a block of its own -/
def Mx (w : World) (b : Nat) (x : Mm.Ms) (l : Lo) : Prop := w.rangeAt b 0 (mvs x l)
section
variable {w w' : World} {b : Nat} {x : Mm.Ms} {l : Lo}
theorem Mx.at (h : Mx w b x l) (j : Nat) {v : Value} (hv : (mvs x l)[j]? = some v) : w.cell? ⟨b, j, none⟩ = some v := range_at h j hv
theorem Mx.below {B : Nat} (h : Mx w b x l) (hb : Below B w w') (hB : b < B) : Mx w' b x l := range_below h hb hB
theorem Mx.new (w : World) (x : Mm.Ms) (l : Lo) (t : TypeId) : Mx (w.alloc (.cells (mvs x l).toArray t)) w.heap.size x l := range_new w _ t
theorem Mx.plan (h : Mx w b x l) : w.rangeAt b 11 (pvs x.plan l.A1 l.n1 l.c1 l.A2 l.n2 l.c2) := by
  have := range_part h
  rwa [Nat.zero_add] at this
theorem Mx.id (h : Mx w b x l) : w.cell? ⟨b, 23, none⟩ = some (.slice l.A3 l.n3 l.c3) := h.at 23 rfl
theorem Mx.se (h : Mx w b x l) : w.cell? ⟨b, 24, none⟩ = some (.slice l.A4 l.n4 l.c4) := h.at 24 rfl
theorem Mx.pa (h : Mx w b x l) : w.cell? ⟨b, 25, none⟩ = some (.slice l.A5 l.n5 l.c5) := h.at 25 rfl
end
theorem mid_block (w : World) (o o' : Obj) {b : Nat} (h : b = w.heap.size) : ((w.alloc o).alloc o').heap[b]? = some o := by
  subst h
  rw [Below.heap_alloc _ _ _ (by rw [World.size_alloc]; omega)]
  exact World.alloc_heap_new w o
theorem info_msg : (Tryd.prog.info? 30).map (·.size) = some 26 := by kernel_rfl
theorem info_mnums : (Tryd.prog.info? 49).map (·.size) = some 10 := by kernel_rfl
theorem info_mv (x : Mm.Ms) (l : Lo) : (Tryd.prog.info? 30).map (·.size) = some (mvs x l).length := info_msg

set_option maxRecDepth 100000 in
theorem isNode_any (n : Int) (w : World) : Calls Tryd.prog 32 #[.int .i64 n] w fun e w' => e = .returned (.bool (Pm.ask (Mm.Nd n))) ∧ w' = w := by
  by_cases h1 : 0 ≤ n
  · by_cases h2 : n ≤ 255
    · go_enter Tryd.func32, Tryd.ntmps32
      go_wp2
      go_ret
      exact ⟨ret_bool (by rw [Pm.ask_yes (show Mm.Nd n from ⟨h1, h2⟩)]), rfl⟩
    · go_enter Tryd.func32, Tryd.ntmps32
      go_wp2
      go_ret
      exact ⟨ret_bool (by rw [Pm.ask_no (fun h : Mm.Nd n => by have := h.2; omega)]), rfl⟩
  · go_enter Tryd.func32, Tryd.ntmps32
    go_wp2
    go_ret
    exact ⟨ret_bool (by rw [Pm.ask_no (fun h : Mm.Nd n => by have := h.1; omega)]), rfl⟩

set_option maxRecDepth 100000 in
set_option maxHeartbeats 1000000 in
theorem rightPlan_any (x : Mm.Ms) (l : Lo) (B : Nat) (w : World) (hp : MsAt w B x l) (hB : B ≤ w.heap.size) (ht : Tab w) :
    Calls Tryd.prog 33 #[mv x l] w fun e w' => e = .returned (.bool x.pright) ∧ Below w.heap.size w w' := by
  have hx1 := Mx.new w x l 30
  have hb1 : Hid (Below w.heap.size w (w.alloc (.cells (mvs x l).toArray 30))) := (Below.refl _ w).alloc (Nat.le_refl _) _
  have hz1 : w.heap.size ≤ (w.alloc (.cells (mvs x l).toArray 30)).heap.size := by rw [World.size_alloc]; omega
  have HPL := Lib.hid hx1.plan
  have k10 := hx1.at 10 rfl
  have HR := Lib.hid (Right_any x.plan _ _ _ _ _ _ B _ (hp.pl.below hb1.out hB) (Nat.le_trans hB hz1) (ht.below hb1.out (Nat.le_refl _)))
  have HS := Lib.hid (Same_p_any x.plan Pm.zero _ _ _ _ _ _ B none 0 0 none 0 0 0 _ (hp.pl.below hb1.out hB) (PlAt.zero _ 0) (Nat.le_trans hB hz1) (Nat.zero_le _))
  have HZ := Lib.hid hz1
  unfold mv
  generalize mvs x l = L at *
  clear hx1 hz1
  have HE : Hid (x.pright = if x.has then x.plan.right else Pm.same x.plan Pm.zero) := rfl
  generalize x.pright = pr at *
  generalize x.has = hh at *
  cases hh
  · go_enter Tryd.func33, Tryd.ntmps33
    go_wp2_with (first | (refine wpList_load_mid rfl 27 _ rfl w.heap.size 11 rfl _ _ HPL.out Tryd.underlying27 rfl info_plan ?_) | (go_at_call 53; refine HS.out.mono ?_; rintro e w2 ⟨rfl, hb2⟩))
    go_ret
    exact ⟨ret_bool HE.out.symm, hb1.out.trans (hb2.mono HZ.out)⟩
  · go_enter Tryd.func33, Tryd.ntmps33
    go_wp2_with (first | (refine wpList_load_mid rfl 27 _ rfl w.heap.size 11 rfl _ _ HPL.out Tryd.underlying27 rfl info_plan ?_) | (go_at_call 63; refine HR.out.mono ?_; rintro e w2 ⟨rfl, hb2⟩))
    go_ret
    exact ⟨ret_bool HE.out.symm, hb1.out.trans (hb2.mono HZ.out)⟩

set_option maxRecDepth 100000 in
set_option maxHeartbeats 1000000 in
theorem mnums_any (x : Mm.Ms) (l : Lo) (w : World) (hx : x.Ok) :
    Calls Tryd.prog 24 #[mv x l] w fun e w' => e = .returned (.agg (i64s x.nums).toArray) ∧ Below w.heap.size w w' := by
  have HE : Hid (i64s x.nums = [.int .i64 x.f, .int .i64 x.t, .int .i64 x.e, .int .i64 x.b, .int .i64 x.a, .int .i64 x.n, .int .i64 x.ti, .int .i64 (wrap64 x.up), .int .i64 x.co, .int .i64 (Mm.one x.has)]) := by
    rw [sgw hx.up]; exact Lib.hid rfl
  clear hx
  unfold mv mvs pvs
  simp only [List.cons_append, List.nil_append]
  generalize x.has = hh at *
  cases hh
  · go_enter Tryd.func24, Tryd.ntmps24
    go_wp2
    refine bodyPost_ret (results_cell_row rfl _ _ (w.heap.size + 1) _ _ (0, 0) _ rfl (mid_block _ _ _ (by simp)) Tryd.underlying49 rfl info_mnums) rfl ?_
    rw [HE.out]
    exact ⟨rfl, ((((Below.refl _ w).alloc (Nat.le_refl _) _).alloc (by simp) _).alloc (by simp; omega) _)⟩
  · go_enter Tryd.func24, Tryd.ntmps24
    go_wp2
    refine bodyPost_ret (results_cell_row rfl _ _ (w.heap.size + 1) _ _ (0, 0) _ rfl (mid_block _ _ _ (by simp)) Tryd.underlying49 rfl info_mnums) rfl ?_
    rw [HE.out]
    exact ⟨rfl, ((((Below.refl _ w).alloc (Nat.le_refl _) _).alloc (by simp) _).alloc (by simp; omega) _)⟩
end Go.Proofs.YtpgfnhdaembhmaaDoor
