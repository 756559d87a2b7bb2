/- A region that draws its order and holds a call whose answer the world decides (an address that the call makes), beside an allocation: both orders. No program in it. -/
import Derived.Test.YtponpgcpmlcdpaaKitY
namespace Go.Proofs.Ytponpgcpmlcdpaa
open Go Go.RowKit Go.Shelf Km Kx

section
variable {P : Program} {ops : Array Oper} {md : Region.Mode} {Q : Exit → Act → World → Prop} {C : World → Prop} {D : Nat → Bool}
/-- operation i taken now, and what follows -/
def AtW (P : Program) (md : Region.Mode) (ops : Array Oper) (Q : Exit → Act → World → Prop) (C : World → Prop) (D : Nat → Bool) (n : Nat) (listed : Array Bool) (S : Act → World → Prop) (i : Nat) : Prop :=
  ∃ S', Bears S' ∧ (D i = true ∨ ∀ a w, S' a w → C w) ∧ (∀ a w, S a w → wpOp P ops Q i S' a w) ∧ anyW P md ops Q C D n (listed.setIfInBounds i true) S'
theorem anyW_at {i : Nat} {listed : Array Bool} {S : Act → World → Prop} {n : Nat} (hr : Region.ready md ops listed = [i]) (h : AtW P md ops Q C D n listed S i) : anyW P md ops Q C D (n + 1) listed S :=
  ⟨fun e => (by rw [hr] at e; cases e), fun j hj => by
    rw [hr, List.mem_singleton] at hj
    subst hj; exact h⟩
theorem anyW_two {i j : Nat} {listed : Array Bool} {S : Act → World → Prop} {n : Nat} (hr : Region.ready md ops listed = [i, j]) (h1 : AtW P md ops Q C D n listed S i) (h2 : AtW P md ops Q C D n listed S j) : anyW P md ops Q C D (n + 1) listed S :=
  ⟨fun e => (by rw [hr] at e; cases e), fun q hq => by
    rw [hr] at hq
    rcases List.mem_cons.1 hq with rfl | hq
    · exact h1
    · rw [List.mem_singleton] at hq
      subst hq; exact h2⟩
/-- a call that answers one of v y, in a world of C' y -/
theorem AtW.call {α : Type} (y0 : α) (v : α → Value) (C' : α → World → Prop) {i : Nat} {oi : Oper} {listed : Array Bool} {a : Act} {n : Nat} {f : FuncId} {args : Array Value} (hb : ∀ y, BearsC (C' y)) (hs : ∀ y w, C' y w → C w)
    (hi : ops[i]? = some oi) (hn : Region.wanted oi (yielded ops a.tmps) = true) (d : Nat) (hdst : oi.dst = some d) (hE : ∀ w, C w → (execOp a.eval oi).run P w = .ok (.enter f args) w)
    (hc : ∀ w, C w → Calls P f args w fun en w' => ∃ y, en = .returned (v y) ∧ C' y w')
    (h : ∀ y, anyW P md ops Q (C' y) D n (listed.setIfInBounds i true) (At (a.put (some d) (v y)) (C' y))) : AtW P md ops Q C D n listed (At a C) i :=
  ⟨fun a' w' => ∃ y, At (a.put (some d) (v y)) (C' y) a' w', fun _ _ _ ⟨y, q, q2⟩ hw => ⟨y, q, hb y _ _ q2 hw⟩, .inr fun _ _ ⟨y, _, q⟩ => hs y _ q, fun a' w k => by
      obtain ⟨rfl, k⟩ := k
      simp only [wpOp, hi, hn, if_true]
      refine .inl ?_
      unfold Oper.wp
      rw [hE w k]
      simp only [Oper.upon]
      refine (hc w k).mono ?_
      rintro en w'' ⟨y, rfl, hy⟩
      exact ⟨y, by rw [hdst], hy⟩, anyW_union y0 fun y => anyW_wider (hs y) (h y)⟩
/-- an allocation -/
theorem AtW.alloc {w0 : World} {l : List (Nat × List Value)} {r : List Rw} {F : Fz} {i : Nat} {oi : Oper} {listed : Array Bool} {a : Act} {n : Nat} (hi : ops[i]? = some oi) (hn : Region.wanted oi (yielded ops a.tmps) = true)
    (d : Nat) (hdst : oi.dst = some d) (ty : TypeId) (ho : oi.op = .alloc ty) (cs : List Value) (hz : ∀ w, (zeroValue ty).run P w = .ok (.agg cs.toArray) w)
    (h : ∀ b, anyW P md ops Q (fun w' => Bxs w0 w' ((b, cs) :: l) r F) D n (listed.setIfInBounds i true) (At (a.put (some d) (.pointer (some ⟨b, 0, none⟩))) (fun w' => Bxs w0 w' ((b, cs) :: l) r F))) :
    AtW P md ops Q (fun w' => Bxs w0 w' l r F) D n listed (At a (fun w' => Bxs w0 w' l r F)) i :=
  ⟨fun a' w' => ∃ b : Nat, At (a.put (some d) (.pointer (some ⟨b, 0, none⟩))) (fun w' => Bxs w0 w' ((b, cs) :: l) r F) a' w', fun _ _ _ ⟨b, k, k2⟩ hb => ⟨b, k, k2.call hb⟩, .inr fun _ _ ⟨_, _, k⟩ => k.tail, fun a' w k => by
      obtain ⟨rfl, k⟩ := k
      simp only [wpOp, hi, hn, if_true]
      exact .inl (wp_alloc_x k ty ho _ cs (hz w) rfl fun b _ hw' => ⟨b, by rw [hdst], hw'⟩), anyW_union 0 fun b => anyW_wider (fun _ k => k.tail) (h b)⟩
end
/-- two rows that a call hands back -/
theorem Kx.Bxs.stayNew2 {w0 w w' : World} {l : List (Nat × List Value)} {r : List Rw} {F G : Fz} (h : Bxs w0 w l r F) (hb : Below w.heap.size w w') {A A2 : Option Addr} {xs ys : List Value} (hn : New w w' G A xs) (hn2 : New w w' G A2 ys) (hG : ∀ q ∈ G, q ∈ F) : Bxs w0 w' l r ((A, xs) :: (A2, ys) :: F) := by
  have h1 := h.stayNew hb hn hG
  have h2 := h.stayNew hb hn2 hG
  refine ⟨h1.below, h1.nodup, h1.each, h1.rows, h1.apart, fun q hq => ?_⟩
  rcases List.mem_cons.1 hq with rfl | hq
  · exact h1.stay _ (List.mem_cons_self ..)
  · exact h2.stay q hq
theorem Kx.Bxs.newHead {w0 w : World} {l : List (Nat × List Value)} {r : List Rw} {F G : Fz} {x : Rw} (h : Bxs w0 w l (x :: r) F) : New w0 w G x.A x.xs := by
  obtain ⟨A, cap, e, k, n, xs⟩ := x
  exact h.newRow (A := A)
theorem Kx.bears_c {w0 : World} {l : List (Nat × List Value)} {r : List Rw} {F : Fz} (R : Prop) : BearsC (fun w' => Bxs w0 w' l r F ∧ R) := fun _ _ h hb => ⟨h.1.call hb, h.2⟩

/-! a slice of one struct, written out -/
theorem fold_fill (l : List Value) : ∀ (m : Nat) (z : Array Value), m + l.length ≤ z.size →
    ((l.zipIdx m).foldl (fun cs x => cs.setIfInBounds (0 + x.2) x.1) z).size = z.size ∧ ∀ i, ((l.zipIdx m).foldl (fun cs x => cs.setIfInBounds (0 + x.2) x.1) z)[i]? = if m ≤ i ∧ i < m + l.length then l[i - m]? else z[i]? := by
  induction l with
  | nil => intro m z _; exact ⟨rfl, fun i => by rw [if_neg (by rw [List.length_nil]; omega)]; rfl⟩
  | cons c l ih =>
    intro m z h
    rw [List.length_cons] at h
    obtain ⟨h1, h2⟩ := ih (m + 1) (z.setIfInBounds (0 + m) c) (by rw [Array.size_setIfInBounds]; omega)
    rw [List.zipIdx_cons, List.foldl_cons]
    refine ⟨h1.trans (Array.size_setIfInBounds ..), fun i => ?_⟩
    rw [h2 i, List.length_cons]
    by_cases e : i = m
    · subst e
      rw [if_neg (by omega), if_pos (by omega), Nat.zero_add, Array.getElem?_setIfInBounds_self_of_lt (by omega), Nat.sub_self]; rfl
    · by_cases h3 : m + 1 ≤ i ∧ i < m + 1 + l.length
      · rw [if_pos h3, if_pos (by omega), show i - m = i - (m + 1) + 1 by omega]; rfl
      · rw [if_neg h3, if_neg (by omega), Nat.zero_add, Array.getElem?_setIfInBounds_ne (Ne.symm e)]
theorem fill_one (l : List Value) (z : Array Value) (h : l.length = z.size) : (l.zipIdx.foldl (fun cs x => cs.setIfInBounds (0 + x.2) x.1) z) = l.toArray := by
  obtain ⟨h1, h2⟩ := fold_fill l 0 z (by omega)
  apply Array.ext_getElem?
  intro i
  rw [h2 i]
  by_cases hi : i < l.length
  · rw [if_pos (by omega)]; simp
  · rw [if_neg (by omega), Array.getElem?_eq_none (by omega), Array.getElem?_eq_none (by simp; omega)]
theorem slice1_gate {P : Program} {ops : Array Oper} {rest : List Oper} {a : Act} {w : World} {Q : Exit → Act → World → Prop} {d : Option Tmp} {t ty : TypeId} {x : Operand} {pos : String} {af : Array Edge} (h : wpList P ops Q (Oper.mk d (.buildSlice t 1 #[(0, x)]) ty pos af none :: rest) a w) : wpList P ops Q (Oper.mk d (.buildSlice t 1 #[(0, x)]) ty pos af none :: rest) a w := h
theorem run_slice1 {P : Program} (w : World) (t e : TypeId) (z : Value) (cs : List Value) (hu : P.underlying t = some (.slice e)) (hS : (sizeOf e).run P w = .ok cs.length w) (hZ : (zeroValue e).run P w = .ok z w) (h0 : 0 < cs.length) (h1 : cs.length ≤ 65536) :
    (Instr.buildSlice t 1 #[(0, .agg cs.toArray)]).run P w = .ok (.slice (some ⟨w.heap.size, 0, none⟩) 1 1) (w.alloc (.cells cs.toArray e)) := by
  have hf : ∀ Z : Array Value, Z.size = cs.length → Instr.fill (fun i => some (i * cs.length, cs.length)) Z [(0, .agg cs.toArray)] = some cs.toArray := fun Z hZ => by
    have h5 := fill_one cs Z hZ.symm
    have h6 : (Value.agg cs.toArray).cells = cs.toArray := rfl
    unfold Instr.fill
    simp only [Nat.zero_mul, h6, List.size_toArray, ne_eq, not_true_eq_false, Bool.false_eq_true, hZ, Nat.zero_add, Nat.lt_irrefl, gt_iff_lt, decide_false, Bool.or_self, if_false]
    unfold Instr.fill
    simp only [Nat.zero_add] at h5
    simpa using h5
  have h2 : ¬ 1 * cs.length > 2 ^ 24 := by omega
  have h3 : ¬ 1 * cs.length = 0 := by omega
  have h4 := hf ((Array.range (1 * cs.length)).map (z.cells[· % z.cells.size]!)) (by simp)
  simp only [Instr.buildSlice, Sem.run_bind, run_underlying hu, Result.andThen_ok, hS, h2, h3, if_false, hZ, Sem.run_pure, h4, newRow]
  rfl
section
variable {P : Program} {ops : Array Oper} {rest : List Oper} {op : Oper} {a : Act} {w w0 : World} {l : List (Nat × List Value)} {r : List Rw} {F : Fz} {Q : Exit → Act → World → Prop}
theorem wp_slice1 (hgd : op.guard = none) (t e : TypeId) (x : Operand) (ho : op.op = .buildSlice t 1 #[(0, x)]) (cs : List Value) (hx : a.eval x = .agg cs.toArray) (z : Value) (hu : P.underlying t = some (.slice e)) (hS : (sizeOf e).run P w = .ok cs.length w) (hZ : (zeroValue e).run P w = .ok z w) (h0 : 0 < cs.length) (h1 : cs.length ≤ 65536)
    (h : wpList P ops Q rest (a.put op.dst (.slice (some ⟨w.heap.size, 0, none⟩) 1 1)) (w.alloc (.cells cs.toArray e))) : wpList P ops Q (op :: rest) a w :=
  wpList_plain hgd fun K hK => by
    unfold Oper.wp execOp
    simp only [ho, List.map_toArray, List.map_cons, List.map_nil, hx, Sem.run_bind, run_slice1 w t e z cs hu hS hZ h0 h1, Result.andThen_ok, Sem.run_pure]
    exact hK _ _ h
/-- .. a row, to be appended to -/
theorem wpList_slice1r_x (hB : Hid (Bxs w0 w l r F)) (hgd : op.guard = none) (t e : TypeId) (x : Operand) (ho : op.op = .buildSlice t 1 #[(0, x)]) (k : Nat) (cs : List Value) (hx : a.eval x = .agg cs.toArray) (hk : cs.length = k) (z : Value) (hu : P.underlying t = some (.slice e)) (hS : (sizeOf e).run P w = .ok k w) (hZ : (zeroValue e).run P w = .ok z w) (h0 : 0 < k) (h1 : k ≤ 65536)
    (h : ∀ g w', Hid (Bxs w0 w' l (⟨some ⟨g, 0, none⟩, 1, e, k, 1, cs⟩ :: r) F) → wpList P ops Q rest (a.put op.dst (.slice (some ⟨g, 0, none⟩) 1 1)) w') : wpList P ops Q (op :: rest) a w := by
  subst hk
  exact wp_slice1 hgd t e x ho cs hx z hu hS hZ h0 h1 (h _ _ (Lib.hid (hB.out.row (World.grownBy_alloc w _ none) (World.ownsRow_lit w cs.toArray 1 hB.out.size (by unfold maxLen; omega) (by simp)) (.inr rfl))))
/-- .. a box -/
theorem wpList_slice1b_x (hB : Hid (Bxs w0 w l r F)) (hgd : op.guard = none) (t e : TypeId) (x : Operand) (ho : op.op = .buildSlice t 1 #[(0, x)]) (k : Nat) (cs : List Value) (hx : a.eval x = .agg cs.toArray) (hk : cs.length = k) (z : Value) (hu : P.underlying t = some (.slice e)) (hS : (sizeOf e).run P w = .ok k w) (hZ : (zeroValue e).run P w = .ok z w) (h0 : 0 < k) (h1 : k ≤ 65536)
    (h : ∀ g w', Hid (Bxs w0 w' ((g, cs) :: l) r F) → wpList P ops Q rest (a.put op.dst (.slice (some ⟨g, 0, none⟩) 1 1)) w') : wpList P ops Q (op :: rest) a w := by
  subst hk
  exact wp_slice1 hgd t e x ho cs hx z hu hS hZ h0 h1 (h _ _ (Lib.hid (hB.out.alloc cs e)))
end
/-! a variable that is made, and stored into at any time: the worlds in which it holds k cells -/
def Cu (w0 : World) (b k : Nat) (l : List (Nat × List Value)) (r : List Rw) (F : Fz) : World → Prop := fun w' => ∃ cs : List Value, cs.length = k ∧ Bxs w0 w' ((b, cs) :: l) r F
theorem bears_u {w0 : World} {b k : Nat} {l : List (Nat × List Value)} {r : List Rw} {F : Fz} : BearsC (Cu w0 b k l r F) := fun _ _ ⟨cs, e, h⟩ hb => ⟨cs, e, h.call hb⟩
section
variable {P : Program} {ops : Array Oper} {md : Region.Mode} {Q : Exit → Act → World → Prop} {D : Nat → Bool} {w0 : World} {l : List (Nat × List Value)} {r : List Rw} {F : Fz} {i : Nat} {oi : Oper} {listed : Array Bool} {a : Act} {n : Nat}
theorem AtW.allocU (hi : ops[i]? = some oi) (hn : Region.wanted oi (yielded ops a.tmps) = true) (d : Nat) (hdst : oi.dst = some d) (ty : TypeId) (ho : oi.op = .alloc ty) (k : Nat) (cs : List Value) (hk : cs.length = k) (hz : ∀ w, (zeroValue ty).run P w = .ok (.agg cs.toArray) w)
    (h : ∀ b, anyW P md ops Q (Cu w0 b k l r F) D n (listed.setIfInBounds i true) (At (a.put (some d) (.pointer (some ⟨b, 0, none⟩))) (Cu w0 b k l r F))) :
    AtW P md ops Q (fun w' => Bxs w0 w' l r F) D n listed (At a (fun w' => Bxs w0 w' l r F)) i :=
  ⟨fun a' w' => ∃ b : Nat, At (a.put (some d) (.pointer (some ⟨b, 0, none⟩))) (Cu w0 b k l r F) a' w', fun _ _ _ ⟨b, q, q2⟩ hb => ⟨b, q, bears_u _ _ q2 hb⟩, .inr fun _ _ ⟨_, _, _, _, q⟩ => q.tail, fun a' w q => by
      obtain ⟨rfl, q⟩ := q
      simp only [wpOp, hi, hn, if_true]
      exact .inl (wp_alloc_x q ty ho _ cs (hz w) rfl fun b _ hw' => ⟨b, by rw [hdst], cs, hk, hw'⟩), anyW_union 0 fun b => anyW_wider (fun _ ⟨_, _, q⟩ => q.tail) (h b)⟩
/-- the store, when it alone is left -/
theorem anyW_storeU (hi : ops[i]? = some oi) (hr : Region.ready md ops listed = [i]) (hn : Region.wanted oi (yielded ops a.tmps) = true) (hdst : oi.dst = none) (ty : TypeId) (x y : Operand) (ho : oi.op = .store ty x y) (b k : Nat) (hx : a.eval x = .pointer (some ⟨b, 0, none⟩)) (cs : List Value) (hy : a.eval y = .agg cs.toArray) (hk : cs.length = k)
    (hS : ∀ w, (sizeOf ty).run P w = .ok k w) (h1 : cs.all (·.oneCell') = true)
    (h : anyW P md ops Q (fun w' => Bxs w0 w' ((b, cs) :: l) r F) D n (listed.setIfInBounds i true) (At a (fun w' => Bxs w0 w' ((b, cs) :: l) r F))) : anyW P md ops Q (Cu w0 b k l r F) D (n + 1) listed (At a (Cu w0 b k l r F)) :=
  anyW_one (At a (fun w' => Bxs w0 w' ((b, cs) :: l) r F)) (At.bears bears_x) hi hr hn (.inr fun _ _ q => ⟨cs, hk, q.2⟩)
    (fun w hw => by
      obtain ⟨old, ho2, hw⟩ := hw
      exact wp_store_x hw ty x y ho b hx _ hy cs rfl old (by rw [splice_whole (hk.trans ho2.symm)]; exact .head _) (by omega) (by rw [hk]; exact hS w) h1 fun _ hw' => ⟨by rw [hdst]; rfl, hw'⟩) (anyW_wider (fun _ q => ⟨cs, hk, q⟩) h)
end
/-! a struct written out, where the guard holds -/
theorem buildg_gate {P : Program} {ops : Array Oper} {rest : List Oper} {a : Act} {w : World} {Q : Exit → Act → World → Prop} {d : Option Tmp} {t ty : TypeId} {x : Array (Nat × Operand)} {pos : String} {af : Array Edge} {g : Nat × Bool} (h : wpList P ops Q (Oper.mk d (.build t x) ty pos af (some g) :: rest) a w) : wpList P ops Q (Oper.mk d (.build t x) ty pos af (some g) :: rest) a w := h
theorem wpList_buildg {P : Program} {w : World} {ops : Array Oper} {rest : List Oper} {o : Oper} {a : Act} {Q : Exit → Act → World → Prop} (t : TypeId) (parts : Array (Nat × Operand)) (ho : o.op = .build t parts)
    (vs : Array (Nat × Value)) (hv : (parts.map fun p => (p.1, a.eval p.2)) = vs) (cells : Array Value) (hb : P.built t vs.toList = some cells) (hn : Region.wanted o (yielded ops a.tmps) = true) (h : wpList P ops Q rest (a.put o.dst (.agg cells)) w) : wpList P ops Q (o :: rest) a w :=
  wpList_step fun K hK => by
    simp only [hn, if_true]
    unfold Oper.wp execOp
    simp only [ho]
    have hr := run_build (P := P) w t vs cells hb
    have hv' : (parts.map fun (i, x) => (i, a.eval x)) = vs := hv
    rw [hv', Sem.run_bind, hr]
    exact hK _ _ h
end Go.Proofs.Ytponpgcpmlcdpaa
