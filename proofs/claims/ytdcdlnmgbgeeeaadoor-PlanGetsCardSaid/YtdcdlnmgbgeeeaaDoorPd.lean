/- A plan in a box; whether it is right; lists of another type; what it names. -/
import Derived.Test.YtdcdlnmgbgeeeaaDoorPc
namespace Go.Proofs.YtdcdlnmgbgeeeaaDoor
open Go.RowKit Go.Shelf

/-- a plan's value, cell by cell -/
def pvs (x : Pm.Pl) (A : Option Addr) (n c : Nat) (A' : Option Addr) (n' c' : Nat) : List Value :=
  [.int .i64 x.e, .int .i64 x.t, .int .i64 x.p, .int .i64 x.s, .int .i64 x.c, .int .i64 x.st, .int .i64 x.si, .int .i64 x.ra, .int .u64 x.up, .int .u64 x.su, .slice A n c, .slice A' n' c']
theorem pv_eq (x : Pm.Pl) (A : Option Addr) (n c : Nat) (A' : Option Addr) (n' c' : Nat) : pv x A n c A' n' c' = .agg (pvs x A n c A' n' c').toArray := rfl

/-- a plan's lists lie where its value says -/
structure PlAt (w : World) (B : Nat) (x : Pm.Pl) (A : Option Addr) (n c : Nat) (A' : Option Addr) (n' c' : Nat) : Prop where
  ok : x.Ok
  r1 : Rd w B A (i64s x.pen)
  l1 : x.pen.length = n
  c1 : n ≤ c
  m1 : c ≤ maxLen
  r2 : Rd w B A' (i64s x.ch)
  l2 : x.ch.length = n'
  c2 : n' ≤ c'
  m2 : c' ≤ maxLen
theorem PlAt.below {w w' : World} {B B' : Nat} {x : Pm.Pl} {A : Option Addr} {n c : Nat} {A' : Option Addr} {n' c' : Nat} (h : PlAt w B x A n c A' n' c') (hb : Below B' w w') (hB : B ≤ B') : PlAt w' B x A n c A' n' c' :=
  ⟨h.ok, h.r1.below (hb.mono hB), h.l1, h.c1, h.m1, h.r2.below (hb.mono hB), h.l2, h.c2, h.m2⟩
theorem PlAt.more {w : World} {B B' : Nat} {x : Pm.Pl} {A : Option Addr} {n c : Nat} {A' : Option Addr} {n' c' : Nat} (h : PlAt w B x A n c A' n' c') (hB : B ≤ B') : PlAt w B' x A n c A' n' c' :=
  ⟨h.ok, h.r1.more hB, h.l1, h.c1, h.m1, h.r2.more hB, h.l2, h.c2, h.m2⟩

/-- a plan in a block of its own -/
def Bx (w : World) (b : Nat) (x : Pm.Pl) (A : Option Addr) (n c : Nat) (A' : Option Addr) (n' c' : Nat) : Prop := w.rangeAt b 0 (pvs x A n c A' n' c')
section
variable {w w' : World} {b : Nat} {x : Pm.Pl} {A : Option Addr} {n c : Nat} {A' : Option Addr} {n' c' : Nat}
theorem Bx.at (h : Bx w b x A n c A' n' c') (j : Nat) {v : Value} (hv : (pvs x A n c A' n' c')[j]? = some v) : w.cell? ⟨b, j, none⟩ = some v := by
  have := h j v hv
  rwa [Nat.zero_add] at this
theorem Bx.pen (h : Bx w b x A n c A' n' c') : w.cell? ⟨b, 10, none⟩ = some (.slice A n c) := h.at 10 rfl
theorem Bx.ch (h : Bx w b x A n c A' n' c') : w.cell? ⟨b, 11, none⟩ = some (.slice A' n' c') := h.at 11 rfl
theorem Bx.below {B : Nat} (h : Bx w b x A n c A' n' c') (hb : Below B w w') (hB : b < B) : Bx w' b x A n c A' n' c' := fun j v hv => by
  rw [hb.cell (by exact hB)]; exact h j v hv
theorem Bx.drewN (h : Bx w b x A n c A' n' c') (k : Nat) : Bx (w.drewN k) b x A n c A' n' c' := h
theorem Bx.new (w : World) (x : Pm.Pl) (A : Option Addr) (n c : Nat) (A' : Option Addr) (n' c' : Nat) (t : TypeId) : Bx (w.alloc (.cells (pvs x A n c A' n' c').toArray t)) w.heap.size x A n c A' n' c' := fun j v hv => by
  have := (Rd.new w (w.heap.size + 1) (pvs x A n c A' n' c') t (0, 0) (by omega)) j v hv
  obtain ⟨ad, e, _, hc⟩ := this
  cases e
  rw [Addr.add_mid] at hc
  exact hc
end

theorem info_plan : (Tryd.prog.info? 26).map (·.size) = some 12 := by kernel_rfl

theorem exec_load {P : Program} {a : Act} {o : Oper} {w : World} (ty : TypeId) (x : Operand) (ho : o.op = .load ty x) (b : Nat) (hx : a.eval x = .pointer (some ⟨b, 0, none⟩)) (cs : List Value) (d : TypeDesc) (hr : w.rangeAt b 0 cs)
    (hu : P.underlying ty = some d) (hd : d.isRow = true) (hi : (P.info? ty).map (·.size) = some cs.length) : (execOp a.eval o).run P w = .ok (.value (.agg cs.toArray)) w := by
  unfold execOp
  simp only [ho, hx, Instr.loadAt, Instr.sureAddr, Sem.run_bind, Sem.run_pure, Result.andThen_ok, run_loadVar_mid w b 0 ty cs d hr hu hd hi]

set_option maxRecDepth 100000 in
set_option maxHeartbeats 4000000 in
theorem Right_any (x : Pm.Pl) (A : Option Addr) (n c : Nat) (A' : Option Addr) (n' c' : Nat) (B : Nat) (w : World) (hp : PlAt w B x A n c A' n' c') (hB : B ≤ w.heap.size) (ht : Tab w) :
    Calls Tryd.prog 13 #[pv x A n c A' n' c'] w fun e w' => e = .returned (.bool x.right) ∧ Below w.heap.size w w' := by
  have HP := Lib.hid hp
  have HT := Lib.hid ht
  have hx1 := Lib.hid (Bx.new w x A n c A' n' c' 26)
  have hb1 : Hid (Below w.heap.size w (w.alloc (.cells (pvs x A n c A' n' c').toArray 26))) := (Below.refl _ w).alloc (Nat.le_refl _) _
  clear hp ht
  rw [pv_eq]
  have HNU := Lib.hid (fun W => numbersOf_any x A n c A' n' c' W HP.out.ok)
  rw [pv_eq] at HNU
  have HX := Lib.hid (fun (W : World) (h : Below (w.heap.size + 1) (w.alloc (.cells (pvs x A n c A' n' c').toArray 26)) W) => (hx1.out.below h (Nat.lt_succ_self _) : Bx W w.heap.size x A n c A' n' c'))
  have HR : Hid (∀ (W : World), Below (w.heap.size + 1) (w.alloc (.cells (pvs x A n c A' n' c').toArray 26)) W → W.rangeAt w.heap.size 0 (pvs x A n c A' n' c')) := HX.out
  have hz1 : (w.alloc (.cells (pvs x A n c A' n' c').toArray 26)).heap.size = w.heap.size + 1 := World.size_alloc ..
  have hlen : (pvs x A n c A' n' c').length = 12 := rfl
  generalize pvs x A n c A' n' c' = L at *
  clear hx1
  go_enter Tryd.func13, Tryd.ntmps13
  go_wp2_with fail
  refine region_C (fun W => Below (w.heap.size + 1) (w.alloc (.cells L.toArray 26)) W) (by kernel_rfl) ?_
  have hC : Below (w.heap.size + 1) (w.alloc (.cells L.toArray 26)) (w.alloc (.cells L.toArray 26)).drew := (Below.refl _ _).drew
  refine anyC_take (i := 0) (v := ?v0_90) (a' := ?a0_90) rfl (by kernel_rfl) (by kernel_rfl) (by kernel_rfl) (fun _ _ _ h => h) hC ?w0_90 ?y0_90 ?f0_90 ?r0_90
  case w0_90 => kernel_rfl
  case y0_90 => (intro W hW; exact by refine exec_load 26 (.tmp 1) ?_ w.heap.size ?_ L _ (HR.out _ hW) Tryd.underlying26 rfl (by rw [hlen]; exact info_plan) <;> rfl)
  case f0_90 => (go_simp; try with_reducible rfl)
  refine anyC_take (i := 2) (v := ?v2_91) (a' := ?a2_91) rfl (by kernel_rfl) (by kernel_rfl) (by kernel_rfl) (fun _ _ _ h => h) hC ?w2_91 ?y2_91 ?f2_91 ?r2_91
  case w2_91 => kernel_rfl
  case y2_91 => (intro w hC; go_simp; try with_reducible rfl)
  case f2_91 => (go_simp; try with_reducible rfl)
  refine anyC_take (i := 4) (v := ?v4_92) (a' := ?a4_92) rfl (by kernel_rfl) (by kernel_rfl) (by kernel_rfl) (fun _ _ _ h => h) hC ?w4_92 ?y4_92 ?f4_92 ?r4_92
  case w4_92 => kernel_rfl
  case y4_92 => (intro w hC; go_simp; try with_reducible rfl)
  case f4_92 => (go_simp; try with_reducible rfl)
  refine anyC_take (i := 3) (v := ?v3_93) (a' := ?a3_93) rfl (by kernel_rfl) (by kernel_rfl) (by kernel_rfl) (fun _ _ _ h => h) hC ?w3_93 ?y3_93 ?f3_93 ?r3_93
  case w3_93 => kernel_rfl
  case y3_93 => (intro w hC; have h4 := (HX.out w hC).pen; go_simp; try with_reducible rfl)
  case f3_93 => (go_simp; try with_reducible rfl)
  refine anyC_take (i := 5) (v := ?v5_94) (a' := ?a5_94) rfl (by kernel_rfl) (by kernel_rfl) (by kernel_rfl) (fun _ _ _ h => h) hC ?w5_94 ?y5_94 ?f5_94 ?r5_94
  case w5_94 => kernel_rfl
  case y5_94 => (intro w hC; have h4 := (HX.out w hC).ch; go_simp; try with_reducible rfl)
  case f5_94 => (go_simp; try with_reducible rfl)
  refine anyC_one (i := 1) rfl (by kernel_rfl) (by kernel_rfl) (fun K hK => ?_)
  go_simp
  refine (HNU.out _).mono ?_
  rintro e w2 ⟨rfl, hb2⟩
  have hC2 : Below (w.heap.size + 1) (w.alloc (.cells L.toArray 26)) w2 := hC.trans (hb2.mono (by simp))
  refine hK _ _ ⟨hC2, ?_⟩
  refine anyC_one (i := 6) rfl (by kernel_rfl) (by kernel_rfl) (fun K hK => ?_)
  go_simp
  have hb3 := hb1.out.trans (hC2.mono (Nat.le_succ _))
  refine (rightI_any x.nums A A' n n' c c' B x.pen x.ch w2 rfl (HP.out.r1.below (hb3.mono hB)) HP.out.l1 (Nat.le_trans HP.out.c1 HP.out.m1) (HP.out.r2.below (hb3.mono hB)) HP.out.l2 (Nat.le_trans HP.out.c2 HP.out.m2) (Nat.le_trans hB hb3.size) (HT.out.below hb3 (Nat.le_refl _))).mono ?_
  rintro e w4 ⟨rfl, hb4⟩
  have hC4 : Below (w.heap.size + 1) (w.alloc (.cells L.toArray 26)) w4 := hC2.trans (hb4.mono (by have := hC2.size; rw [hz1] at this; exact this))
  refine hK _ _ ⟨hC4, ?_⟩
  refine anyC_take (i := 7) (v := ?v7_95) (a' := ?a7_95) rfl (by kernel_rfl) (by kernel_rfl) (by kernel_rfl) (fun _ _ _ h => h) hC4 ?w7_95 ?y7_95 ?f7_95 ?r7_95
  case w7_95 => kernel_rfl
  case y7_95 => (intro w hC; go_simp; try with_reducible rfl)
  case f7_95 => (go_simp; try with_reducible rfl)
  refine anyC_done (by kernel_rfl) ?_
  go_wp2
  go_ret
  exact ⟨rfl, hb1.out.trans (hC4.mono (Nat.le_succ _))⟩
end Go.Proofs.YtdcdlnmgbgeeeaaDoor
