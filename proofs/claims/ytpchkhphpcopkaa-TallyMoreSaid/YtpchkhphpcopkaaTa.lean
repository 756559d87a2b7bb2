/- Votes in memory; a row that a call makes, among boxes; an element of a row of the call's own read, and stored into. -/
import Derived.Test.YtpchkhphpcopkaaKitX
import Derived.Test.YtpchkhphpcopkaaKitL
import Derived.Test.YtpchkhphpcopkaaTm
import Derived.Deep.Onto
import Derived.Maps.OwnOps
import Derived.Maps.OwnSet
namespace Go.Proofs.Ytpchkhphpcopkaa
open Go.RowKit Go.Shelf Km Kx

/-- a vote's cells -/
def vv (v : Tm.Vt) : List Value := [.int .i64 v.o, .int .u64 (v.u : Int), .int .i64 v.a]
def vvs : List Tm.Vt → List Value
  | [] => []
  | v :: l => vv v ++ vvs l
theorem vvs_nil : vvs [] = [] := rfl
theorem vvs_cons (v : Tm.Vt) (l : List Tm.Vt) : vvs (v :: l) = .int .i64 v.o :: .int .u64 (v.u : Int) :: .int .i64 v.a :: vvs l := rfl
theorem vvs_len (l : List Tm.Vt) : (vvs l).length = l.length * 3 := by
  induction l with
  | nil => rfl
  | cons v l ih => rw [vvs_cons, List.length_cons, List.length_cons, List.length_cons, ih, List.length_cons]; omega
theorem vvs_app (a b : List Tm.Vt) : vvs (a ++ b) = vvs a ++ vvs b := by
  induction a with
  | nil => rfl
  | cons v a ih => rw [List.cons_append, vvs_cons, vvs_cons, ih]; rfl
theorem vvs_one (v : Tm.Vt) : vvs [v] = vv v := rfl
theorem vvs_drop (l : List Tm.Vt) (k : Nat) : (vvs l).drop (k * 3) = vvs (l.drop k) := by
  induction k generalizing l with
  | zero => rfl
  | succ k ih =>
    cases l with
    | nil => simp [vvs_nil]
    | cons v l => rw [show (k + 1) * 3 = k * 3 + 3 by omega, vvs_cons, List.drop_succ_cons, List.drop_succ_cons, List.drop_succ_cons, ih, List.drop_succ_cons]
theorem vvs_take (l : List Tm.Vt) (k : Nat) : (vvs l).take (k * 3) = vvs (l.take k) := by
  induction k generalizing l with
  | zero => simp [vvs_nil]
  | succ k ih =>
    cases l with
    | nil => simp [vvs_nil]
    | cons v l => rw [show (k + 1) * 3 = k * 3 + 3 by omega, vvs_cons, List.take_succ_cons, List.take_succ_cons, List.take_succ_cons, ih, List.take_succ_cons, vvs_cons]
theorem vvs_get {l : List Tm.Vt} {k : Nat} {v : Tm.Vt} (h : l[k]? = some v) : ∀ j u, (vv v)[j]? = some u → (vvs l)[k * 3 + j]? = some u := by
  intro j u hj
  have h2 : vvs (l.drop k) = vv v ++ vvs (l.drop (k + 1)) := by
    obtain ⟨hk, rfl⟩ := List.getElem?_eq_some_iff.1 h
    rw [List.drop_eq_getElem_cons hk]; rfl
  rw [← List.getElem?_drop, vvs_drop, h2, List.getElem?_append_left (List.getElem?_eq_some_iff.1 hj).1]
  exact hj
theorem vvs_cells (l : List Tm.Vt) : ∀ u ∈ vvs l, u.oneCell' = true := by
  induction l with
  | nil => intro u hu; cases hu
  | cons v l ih =>
    intro u hu
    rw [vvs_cons] at hu
    rcases List.mem_cons.1 hu with rfl | hu
    · rfl
    rcases List.mem_cons.1 hu with rfl | hu
    · rfl
    rcases List.mem_cons.1 hu with rfl | hu
    · rfl
    exact ih u hu
theorem vvs_splice {l : List Tm.Vt} {k : Nat} (v : Tm.Vt) (h : k < l.length) : splice (vvs l) (k * 3) (vv v) = vvs (l.set k v) := by
  unfold splice
  rw [vvs_take, show k * 3 + (vv v).length = (k + 1) * 3 by show k * 3 + 3 = _; omega, vvs_drop, List.set_eq_take_append_cons_drop, if_pos h, vvs_app]; rfl

def in64 (x : Int) : Prop := -9223372036854775808 ≤ x ∧ x ≤ 9223372036854775807
/-- the numbers are within their kinds -/
def Wv (v : Tm.Vt) : Prop := in64 v.o ∧ v.u < 18446744073709551616 ∧ in64 v.a
def Wl (l : List Tm.Vt) : Prop := ∀ v ∈ l, Wv v
theorem wf_in {x : Int} (h : in64 x) : (Lit.int .i64 x).wf = true := by
  unfold in64 at h
  have h1 : IntKind.i64.min = -9223372036854775808 := rfl
  have h2 : IntKind.i64.max = 9223372036854775807 := rfl
  simp [Lit.wf, h1, h2]
  omega

theorem Rd.vts {w : World} {B : Nat} {A : Option Addr} {l : List Tm.Vt} (h : Rd w B A (vvs l)) {k : Nat} {v : Tm.Vt} (hk : l[k]? = some v) :
    ∃ ad, A = some ad ∧ ad.block < B ∧ ∀ j u, (vv v)[j]? = some u → w.cell? ((ad.add (k * 3)).add j) = some u := by
  obtain ⟨ad, e, hb, hc⟩ := h (k * 3) _ (vvs_get hk 0 _ rfl)
  refine ⟨ad, e, hb, fun j u hv => ?_⟩
  obtain ⟨ad', e', _, hc'⟩ := h (k * 3 + j) u (vvs_get hk j u hv)
  rw [e] at e'
  cases e'
  rw [addr_add_add]
  exact hc'

/-- a call that makes a row and hands it back -/
theorem Kx.Bxs.callRow {w0 w w' : World} {l : List (Nat × List Value)} {r : List Rw} (h : Bxs w0 w l r) (hb : Below w.heap.size w w') {A : Option Addr} {n cap k : Nat} {e : TypeId} {xs : List Value} (hy : w'.ownsRow w.heap.size e k (.slice A n cap) n xs) : Bxs w0 w' l (⟨A, cap, e, k, n, xs⟩ :: r) := by
  have h2 := h.call hb
  have hlt : ∀ g, (Value.slice A n cap).ownBlock = some g → w.heap.size ≤ g := fun g hg => (hy.lt g hg).1
  refine ⟨h2.below, h2.nodup, h2.each, fun x hx => ?_, List.pairwise_cons.2 ⟨fun x hx g e q => ?_, h2.apart⟩⟩
  · rcases List.mem_cons.1 hx with rfl | hx
    · exact ⟨World.ownsRow.mono hy h.size, fun p hp e => by have := (h.each p hp).2.1; have := hlt _ e; omega⟩
    · exact h2.rows x hx
  · have h3 := hlt g e
    have h4 := ((h.rows x hx).1.lt q).2
    omega
/-- what is stored into a row of the call's own -/
theorem Kx.Rw.own.stored {x : Rw} {w0 w : World} (h : x.own w0 w) {g : Nat} (hA : x.A = some ⟨g, 0, none⟩) (o : Nat) (cs : List Value) :
    ∃ ys, (o + cs.length ≤ x.xs.length → ys = splice x.xs o cs) ∧ Rw.own ⟨x.A, x.cap, x.e, x.k, x.n, ys⟩ w0 (w.setCells g o cs) ∧ w.grownBy (w.setCells g o cs) (some g) := by
  obtain ⟨A, cap, e, k, n, xs⟩ := x
  dsimp only at hA
  subst hA
  induction cs generalizing w o xs with
  | nil => exact ⟨xs, fun q => by unfold splice; simp, h, World.grownBy.refl _ _⟩
  | cons u cs ih =>
    have h1 := World.ownsRow.stored h o u
    obtain ⟨ys, e1, e2, e3⟩ := ih (w := w.setCell ⟨g, o, none⟩ u) (o + 1) (xs.set o u) h1.1
    refine ⟨ys, fun q => ?_, e2, h1.2.trans e3⟩
    dsimp only at e1 q ⊢
    rw [List.length_cons] at q
    rw [e1 (by rw [List.length_set]; omega)]
    unfold splice
    rw [List.take_set, List.drop_set_of_lt (by omega), List.length_cons, show o + 1 + cs.length = o + (cs.length + 1) by omega, List.take_add_one, List.getElem?_eq_getElem (show o < xs.length by omega)]
    rw [List.set_append_right _ _ (by rw [List.length_take]; omega), List.length_take, show o - min o xs.length = 0 by omega]
    simp
theorem Kx.Bxs.rowSet {w0 w : World} {l : List (Nat × List Value)} {r r' : List Rw} {g cap k n o : Nat} {e : TypeId} {xs cs : List Value} (h : Bxs w0 w l r) (ht : RowTo ⟨some ⟨g, 0, none⟩, cap, e, k, n, xs⟩ ⟨some ⟨g, 0, none⟩, cap, e, k, n, splice xs o cs⟩ r r') (ho : o + cs.length ≤ xs.length) : Bxs w0 (w.setCells g o cs) l r' := by
  have hx := h.rows _ ht.mem
  obtain ⟨ys, e1, e2, e3⟩ := Rw.own.stored hx.1 rfl o cs
  rw [e1 ho] at e2
  exact h.rowTo ht e3 e2 (.inl rfl)
theorem Kx.Rw.own.there {x : Rw} {w0 w : World} (h : x.own w0 w) {g : Nat} (hA : x.A = some ⟨g, 0, none⟩) (o n : Nat) (hn : o + n ≤ x.xs.length) : w.there g o n := by
  obtain ⟨A, cap, e, k, m, xs⟩ := x
  dsimp only at hA hn
  subst hA
  intro j hj
  have hl : xs.length = m * k := h.1
  have h2 := World.ownsRow.cellAt h (o + j) (by dsimp only; rw [← hl]; omega)
  dsimp only at h2
  refine ⟨?_, World.ownsRow.frozenAt h (o + j)⟩
  rw [h2, List.getElem?_eq_getElem (by omega)]; rfl
theorem store_gate2 {P : Program} {ops : Array Oper} {rest : List Oper} {a : Act} {w : World} {Q : Exit → Act → World → Prop} {d : Option Tmp} {t ty : TypeId} {x y : Operand} {pos : String} {af : Array Edge} (h : wpList P ops Q (Oper.mk d (.store t x y) ty pos af none :: rest) a w) : wpList P ops Q (Oper.mk d (.store t x y) ty pos af none :: rest) a w := h
/-- a struct stored into a row of the call's own -/
theorem wpList_storeRow_x {P : Program} {ops : Array Oper} {rest : List Oper} {op : Oper} {a : Act} {w w0 : World} {l : List (Nat × List Value)} {r r' : List Rw} {Q : Exit → Act → World → Prop} (hB : Hid (Bxs w0 w l r)) (hgd : op.guard = none) (hd : op.dst = none) (ty : TypeId) (x y : Operand) (ho : op.op = .store ty x y)
    (g o : Nat) (hx : a.eval x = .pointer (some ⟨g, o, none⟩)) (cs : List Value) (hy : a.eval y = .agg cs.toArray) {cap k n : Nat} {e : TypeId} {xs ys : List Value} (ht : RowTo ⟨some ⟨g, 0, none⟩, cap, e, k, n, xs⟩ ⟨some ⟨g, 0, none⟩, cap, e, k, n, ys⟩ r r') (hys : splice xs o cs = ys) (hl : o + cs.length ≤ xs.length)
    (hS : (sizeOf ty).run P w = .ok cs.length w) (h1 : cs.all (·.oneCell') = true)
    (h : ∀ w', Hid (Bxs w0 w' l r') → wpList P ops Q rest a w') : wpList P ops Q (op :: rest) a w :=
  wpList_plain hgd fun K hK => by
    subst hys
    have hown := (hB.out.rows _ ht.mem).1
    unfold Oper.wp execOp
    simp only [ho, hx, hy, Instr.storeAt, Instr.sureAddr, Sem.run_bind, Sem.run_pure, Result.andThen_ok, run_storeVar_x w g o ty (.agg cs.toArray) cs rfl (Rw.own.there hown rfl o cs.length hl) (info_of hS) h1]
    have := hK _ _ (h _ (Lib.hid (hB.out.rowSet ht hl)))
    show K (a.put op.dst undef) _
    rw [hd]
    exact this
/-- an element's cells, of a row of the call's own -/
theorem Kx.Bxs.rowCells {w0 w : World} {l : List (Nat × List Value)} {r : List Rw} {A : Option Addr} {x : Rw} (h : Bxs w0 w l r) [hm : InR A x r] {ls : List Tm.Vt} (hx : x.xs = vvs ls) {k : Nat} {v : Tm.Vt} (hk : ls[k]? = some v) :
    ∃ ad, A = some ad ∧ ∀ j u, (vv v)[j]? = some u → w.cell? ((ad.add (k * 3)).add j) = some u := by
  have h1 := h.rowRd (A := A)
  rw [hx] at h1
  obtain ⟨ad, e, _, hc⟩ := h1.vts hk
  exact ⟨ad, e, hc⟩
end Go.Proofs.Ytpchkhphpcopkaa
