/- More on boxes: a row that a call makes and hands back; an element of a row of the call's own stored into; what lay there before, one block of it turned (a map of the call's own); cells read from anywhere; a region's last operations; single bits of a mask. No program in it. -/
import Derived.Test.YtponpgcpmlcdpaaKitX
import Derived.Test.YtponpgcpmlcdpaaKitL
import Derived.Test.YtponpgcpmlcdpaaBK
import Derived.Deep.Onto
import Derived.Laws.BitsAllLaws
namespace Go.Proofs.Ytponpgcpmlcdpaa
open Go.RowKit Go.Shelf Km Kx

/-- a call that makes a row and hands it back -/
theorem Kx.Bxs.callRow {w0 w w' : World} {l : List (Nat × List Value)} {r : List Rw} {F : Fz} (h : Bxs w0 w l r F) (hb : Below w.heap.size w w') {A : Option Addr} {n cap k : Nat} {e : TypeId} {xs : List Value} (hy : w'.ownsRow w.heap.size e k (.slice A n cap) n xs) : Bxs w0 w' l (⟨A, cap, e, k, n, xs⟩ :: r) F := by
  have h2 := h.call hb
  have hlt : ∀ g, (Value.slice A n cap).ownBlock = some g → w.heap.size ≤ g := fun g hg => (hy.lt g hg).1
  refine ⟨h2.below, h2.nodup, h2.each, fun x hx => ?_, List.pairwise_cons.2 ⟨fun x hx g e q => ?_, h2.apart⟩, fun q hq => (h.stay q hq).to fun g g1 g2 g3 => ⟨hb.block g g1, Nat.lt_of_lt_of_le g1 hb.size, g2, fun z hz => by
    rcases List.mem_cons.1 hz with rfl | hz
    · intro e; have := hlt g e; omega
    · exact g3 z hz⟩⟩
  · rcases List.mem_cons.1 hx with rfl | hx
    · exact ⟨World.ownsRow.mono hy h.size, fun p hp e => by have := (h.each p hp).2.1; have := hlt _ e; omega⟩
    · exact h2.rows x hx
  · have h3 := hlt g e
    have h4 := ((h.rows x hx).1.lt q).2
    omega
/-- what is stored into a row of the call's own -/
theorem Kx.Rw.own.stored {x : Rw} {w0 w : World} (h : x.own w0 w) {g : Nat} (hA : x.A = some ⟨g, 0, none⟩) (o : Nat) (cs : List Value) :
    ∃ ys, (o + cs.length ≤ x.xs.length → ys = splice x.xs o cs) ∧ Rw.own ⟨x.A, x.cap, x.e, x.k, x.n, ys⟩ w0 (w.setCells g o cs) ∧ w.grownBy (w.setCells g o cs) (some g) := by
  obtain ⟨A, cap, e, k, n, xs⟩ := x
  dsimp only at hA
  subst hA
  induction cs generalizing w o xs with
  | nil => exact ⟨xs, fun q => by unfold splice; simp, h, World.grownBy.refl _ _⟩
  | cons u cs ih =>
    have h1 := World.ownsRow.stored h o u
    obtain ⟨ys, e1, e2, e3⟩ := ih (w := w.setCell ⟨g, o, none⟩ u) (o + 1) (xs.set o u) h1.1
    refine ⟨ys, fun q => ?_, e2, h1.2.trans e3⟩
    dsimp only at e1 q ⊢
    rw [List.length_cons] at q
    rw [e1 (by rw [List.length_set]; omega)]
    unfold splice
    rw [List.take_set, List.drop_set_of_lt (by omega), List.length_cons, show o + 1 + cs.length = o + (cs.length + 1) by omega, List.take_add_one, List.getElem?_eq_getElem (show o < xs.length by omega)]
    rw [List.set_append_right _ _ (by rw [List.length_take]; omega), List.length_take, show o - min o xs.length = 0 by omega]
    simp
theorem Kx.Bxs.rowSet {w0 w : World} {l : List (Nat × List Value)} {r r' : List Rw} {F : Fz} {g cap k n o : Nat} {e : TypeId} {xs cs : List Value} (h : Bxs w0 w l r F) (ht : RowTo ⟨some ⟨g, 0, none⟩, cap, e, k, n, xs⟩ ⟨some ⟨g, 0, none⟩, cap, e, k, n, splice xs o cs⟩ r r') (ho : o + cs.length ≤ xs.length) : Bxs w0 (w.setCells g o cs) l r' F := by
  have hx := h.rows _ ht.mem
  obtain ⟨ys, e1, e2, e3⟩ := Rw.own.stored hx.1 rfl o cs
  rw [e1 ho] at e2
  exact h.rowTo ht e3 e2 (.inl rfl)
theorem Kx.Rw.own.there {x : Rw} {w0 w : World} (h : x.own w0 w) {g : Nat} (hA : x.A = some ⟨g, 0, none⟩) (o n : Nat) (hn : o + n ≤ x.xs.length) : w.there g o n := by
  obtain ⟨A, cap, e, k, m, xs⟩ := x
  dsimp only at hA hn
  subst hA
  intro j hj
  have hl : xs.length = m * k := h.1
  have h2 := World.ownsRow.cellAt h (o + j) (by dsimp only; rw [← hl]; omega)
  dsimp only at h2
  refine ⟨?_, World.ownsRow.frozenAt h (o + j)⟩
  rw [h2, List.getElem?_eq_getElem (by omega)]; rfl
/-- a struct stored into a row of the call's own -/
theorem wpList_storeRow_x {P : Program} {ops : Array Oper} {rest : List Oper} {op : Oper} {a : Act} {w w0 : World} {l : List (Nat × List Value)} {r r' : List Rw} {F : Fz} {Q : Exit → Act → World → Prop} (hB : Hid (Bxs w0 w l r F)) (hgd : op.guard = none) (hd : op.dst = none) (ty : TypeId) (x y : Operand) (ho : op.op = .store ty x y)
    (g o : Nat) (hx : a.eval x = .pointer (some ⟨g, o, none⟩)) (cs : List Value) (hy : a.eval y = .agg cs.toArray) {cap k n : Nat} {e : TypeId} {xs ys : List Value} (ht : RowTo ⟨some ⟨g, 0, none⟩, cap, e, k, n, xs⟩ ⟨some ⟨g, 0, none⟩, cap, e, k, n, ys⟩ r r') (hys : splice xs o cs = ys) (hl : o + cs.length ≤ xs.length)
    (hS : (sizeOf ty).run P w = .ok cs.length w) (h1 : cs.all (·.oneCell') = true)
    (h : ∀ w', Hid (Bxs w0 w' l r' F) → wpList P ops Q rest a w') : wpList P ops Q (op :: rest) a w :=
  wpList_plain hgd fun K hK => by
    subst hys
    have hown := (hB.out.rows _ ht.mem).1
    unfold Oper.wp execOp
    simp only [ho, hx, hy, Instr.storeAt, Instr.sureAddr, Sem.run_bind, Sem.run_pure, Result.andThen_ok, run_storeVar_x w g o ty (.agg cs.toArray) cs rfl (Rw.own.there hown rfl o cs.length hl) (info_of hS) h1]
    have := hK _ _ (h _ (Lib.hid (hB.out.rowSet ht hl)))
    show K (a.put op.dst undef) _
    rw [hd]
    exact this
/-- what reads alone, when it alone is ready -/
theorem anyW_last {P : Program} {ops : Array Oper} {md : Region.Mode} {Q : Exit → Act → World → Prop} {C : World → Prop} {D : Nat → Bool} {i : Nat} {oi : Oper} {v : Value} {listed : Array Bool} {a a' : Act} {n : Nat} (hC : BearsC C) (hi : ops[i]? = some oi) (hr : Region.ready md ops listed = [i])
    (hn : Region.wanted oi (yielded ops a.tmps) = true) (hy : ∀ w, C w → (execOp a.eval oi).run P w = .ok (.value v) w) (ha : a.put oi.dst v = a')
    (h : anyW P md ops Q C D n (listed.setIfInBounds i true) (At a' C)) : anyW P md ops Q C D (n + 1) listed (At a C) :=
  anyW_one (At a' C) (At.bears hC) hi hr hn (.inr fun _ _ k => k.2) (fun w hw => by unfold Oper.wp; rw [hy w hw]; exact ⟨ha, hw⟩) h
/-- a call that makes a row and hands it back, when it alone is ready -/
theorem anyW_callRow_x {P : Program} {ops : Array Oper} {md : Region.Mode} {Q : Exit → Act → World → Prop} {D : Nat → Bool} {w0 : World} {l : List (Nat × List Value)} {r : List Rw} {F : Fz} {i : Nat} {oi : Oper} {listed : Array Bool} {a : Act} {n : Nat} {f : FuncId} {args : Array Value} (m k : Nat) (e : TypeId) (xs : List Value)
    (hi : ops[i]? = some oi) (hr : Region.ready md ops listed = [i]) (hn : Region.wanted oi (yielded ops a.tmps) = true) (d : Nat) (hdst : oi.dst = some d) (hE : ∀ w, Bxs w0 w l r F → (execOp a.eval oi).run P w = .ok (.enter f args) w)
    (hc : ∀ w, Bxs w0 w l r F → Calls P f args w fun en w' => ∃ A' c', en = .returned (.slice A' m c') ∧ Below w.heap.size w w' ∧ w'.ownsRow w.heap.size e k (.slice A' m c') m xs)
    (h : ∀ A' c', anyW P md ops Q (fun w' => Bxs w0 w' l (⟨A', c', e, k, m, xs⟩ :: r) F) D n (listed.setIfInBounds i true) (At (a.put (some d) (.slice A' m c')) (fun w' => Bxs w0 w' l (⟨A', c', e, k, m, xs⟩ :: r) F))) :
    anyW P md ops Q (fun w' => Bxs w0 w' l r F) D (n + 1) listed (At a (fun w' => Bxs w0 w' l r F)) :=
  anyW_one (fun a' w' => ∃ p : Option Addr × Nat, At (a.put (some d) (.slice p.1 m p.2)) (fun w' => Bxs w0 w' l (⟨p.1, p.2, e, k, m, xs⟩ :: r) F) a' w') (fun _ _ _ ⟨p, q, q2⟩ hb => ⟨p, q, q2.call hb⟩) hi hr hn (.inr fun _ _ ⟨_, _, q⟩ => q.rowTail)
    (fun w hw => by
      unfold Oper.wp
      rw [hE w hw]
      simp only [Oper.upon]
      refine (hc w hw).mono ?_
      rintro en w'' ⟨A', c', rfl, hb, ho⟩
      exact ⟨(A', c'), by rw [hdst], hw.callRow hb ho⟩)
    (anyW_union ((none, 0) : Option Addr × Nat) fun p => anyW_wider (fun _ q => q.rowTail) (h p.1 p.2))
/-- one cell from anywhere, as a region that draws asks it -/
theorem tells_cell {P : Program} {w : World} {f : Operand → Value} {d : Option Tmp} {ty t2 : TypeId} {x : Operand} {pos : String} {af : Array Edge} {g : Option (Nat × Bool)} {v : Value} (ad : Addr) (hx : f x = .pointer (some ad))
    (hA : (isAgg ty).run P w = .ok false w) (hc : w.cell? ad = some v) : (execOp f (Oper.mk d (.load ty x) t2 pos af g)).run P w = .ok (.value v) w := by
  unfold execOp
  simp only [hx, Instr.loadAt, Instr.sureAddr, Sem.run_bind, Sem.run_pure, Result.andThen_ok, run_loadVar_one w ad ty v hc (row_of hA)]
/-- a whole value from anywhere, where the guard holds -/
theorem wpList_loadg_any {P : Program} {ops : Array Oper} {rest : List Oper} {op : Oper} {a : Act} {w : World} {Q : Exit → Act → World → Prop} (ty : TypeId) (x : Operand) (ho : op.op = .load ty x)
    (ad : Addr) (hx : a.eval x = .pointer (some ad)) (cs : List Value) (d : TypeDesc) (hc : ∀ j v, cs[j]? = some v → w.cell? (ad.add j) = some v) (hu : P.underlying ty = some d) (hd : d.isRow = true) (hi : (P.info? ty).map (·.size) = some cs.length) (hn : Region.wanted op (yielded ops a.tmps) = true)
    (h : wpList P ops Q rest (a.put op.dst (.agg cs.toArray)) w) : wpList P ops Q (op :: rest) a w :=
  wpList_step fun _ hK => by
    have hl : (loadCells ad cs.length).run P w = .ok cs.toArray w := run_loadCells_list (P := P) w ad cs hc
    have hv : (loadVar ty ad).run P w = .ok (.agg cs.toArray) w := by
      cases hq : P.info? ty with
      | none => simp [hq] at hi
      | some i =>
        have hs : i.size = cs.length := by simpa [hq] using hi
        have hagg : (isAgg ty).run P w = .ok true w := by
          unfold isAgg
          rw [Sem.run_bind, run_underlying hu w]
          cases d <;> simp_all
        simp [loadVar, Sem.run_bind, hagg, sizeOf, typeInfo, hq, hs, hl]
    simp only [hn, if_true]
    unfold Oper.wp execOp
    simp only [ho, hx, Instr.loadAt, Instr.sureAddr, Sem.run_bind, Sem.run_pure, Result.andThen_ok, hv]
    exact hK _ _ h
/-- one cell from anywhere, where the guard holds -/
theorem wpList_loadg_cell {P : Program} {ops : Array Oper} {rest : List Oper} {op : Oper} {a : Act} {w : World} {Q : Exit → Act → World → Prop} (ty : TypeId) (x : Operand) (ho : op.op = .load ty x) (ad : Addr) (hx : a.eval x = .pointer (some ad)) (hA : (isAgg ty).run P w = .ok false w) (v' : Value) (hc : w.cell? ad = some v') (hn : Region.wanted op (yielded ops a.tmps) = true)
    (h : wpList P ops Q rest (a.put op.dst v') w) : wpList P ops Q (op :: rest) a w :=
  wpList_step fun K hK => by
    simp only [hn, if_true]
    unfold Oper.wp execOp
    simp only [ho, hx, Instr.loadAt, Instr.sureAddr, Sem.run_bind, Sem.run_pure, Result.andThen_ok, run_loadVar_one w ad ty v' hc (row_of hA)]
    exact hK _ _ h
/-- what lay there before, with one block of it turned -/
theorem Kx.Bxs.rebase {w1 W W' : World} {l : List (Nat × List Value)} {bm : Nat} (h : Bxs w1 W l) (hg : W.grownBy W' (some bm)) (hb : bm < w1.heap.size) :
    ∃ w2 : World, w2.heap.size = w1.heap.size ∧ Bxs w2 W' l ∧ w2.heap[bm]? = W'.heap[bm]? ∧ w1.grownBy w2 (some bm) := by
  have hlt : bm < W'.heap.size := Nat.lt_of_lt_of_le hb (Nat.le_trans h.size hg.size)
  obtain ⟨o, ho⟩ : ∃ o, W'.heap[bm]? = some o := ⟨_, Array.getElem?_eq_getElem hlt⟩
  have hs : ({ w1 with heap := w1.heap.setIfInBounds bm o } : World).heap[bm]? = W'.heap[bm]? := by
    show (w1.heap.setIfInBounds bm o)[bm]? = _
    rw [Array.getElem?_setIfInBounds_self_of_lt hb, ho]
  have hn : ∀ k, k ≠ bm → ({ w1 with heap := w1.heap.setIfInBounds bm o } : World).heap[k]? = w1.heap[k]? := fun k hk => by
    show (w1.heap.setIfInBounds bm o)[k]? = _
    rw [Array.getElem?_setIfInBounds_ne (Ne.symm hk)]
  refine ⟨{ w1 with heap := w1.heap.setIfInBounds bm o }, by simp, ⟨⟨hg.os.trans h.below.os, hg.tape.trans h.below.tape, hg.output.trans h.below.output, ?_, fun k hk => ?_⟩, h.nodup, fun p hp => ?_, (fun _ hp => absurd hp List.not_mem_nil), List.Pairwise.nil, (fun _ hq => absurd hq List.not_mem_nil)⟩, hs, rfl, rfl, rfl, ?_, fun k _ hk => hn k (fun e => hk (by rw [e]))⟩
  · show (w1.heap.setIfInBounds bm o).size ≤ _
    rw [Array.size_setIfInBounds]
    exact Nat.le_trans h.size hg.size
  · have hk' : k < w1.heap.size := by
      have : k < (w1.heap.setIfInBounds bm o).size := hk
      rwa [Array.size_setIfInBounds] at this
    by_cases e : k = bm
    · subst e; exact hs.symm
    · rw [hn k e, hg.block k (Nat.lt_of_lt_of_le hk' h.size) (fun q => e (Option.some.inj q)), h.below.block k hk']
  · obtain ⟨h1, h2, h3, h4⟩ := h.each p hp
    have hbl : W'.heap[p.1]? = W.heap[p.1]? := hg.block _ h2 (fun q => by have := Option.some.inj q; omega)
    refine ⟨by show (w1.heap.setIfInBounds bm o).size ≤ _; rw [Array.size_setIfInBounds]; exact h1, Nat.lt_of_lt_of_le h2 hg.size, fun j v hv => (World.cell?_of_block hbl).trans (h3 j v hv), fun j hj => ⟨by rw [World.cell?_of_block hbl]; exact (h4 j hj).1, by rw [World.frozen?_of_block hbl]; exact (h4 j hj).2⟩⟩
  · show _ ≤ (w1.heap.setIfInBounds bm o).size
    rw [Array.size_setIfInBounds]
    exact Nat.le_refl _
/-- one bit -/
theorem bit_of {u : Nat} (hu : u < 18446744073709551616) (k : Nat) : bits BinOp.and IntKind.u64 ((u : Int) / 2 ^ k) 1 = ((u.testBit k).toNat : Int) := by
  have e : ((u : Int) / 2 ^ k) = ((u / 2 ^ k : Nat) : Int) := by simp
  have hd : u.testBit k = decide (u / 2 ^ k % 2 = 1) := Nat.testBit_eq_decide_div_mod_eq
  have hle : u / 2 ^ k ≤ u := Nat.div_le_self _ _
  generalize u / 2 ^ k = q at *
  rw [e, and_one_u64 _ (by omega) (by omega), hd]
  have h2 : q % 2 = 0 ∨ q % 2 = 1 := by omega
  rcases h2 with h | h <;> rw [h] <;> simp <;> omega
/-- one bit more -/
theorem or_bit {m k : Nat} (hm : m < 18446744073709551616) (hk : k < 64) : bits BinOp.or IntKind.u64 (m : Int) (IntKind.u64.wrap (2 ^ k)) = ((m ||| 2 ^ k : Nat) : Int) := by
  have e : ((2 : Int) ^ k) = ((2 ^ k : Nat) : Int) := by simp
  have hp : 2 ^ k < 18446744073709551616 := by
    rw [show (18446744073709551616 : Nat) = 2 ^ 64 from rfl]; exact Nat.pow_lt_pow_right (by decide) hk
  generalize 2 ^ k = q at *
  rw [e]
  have hw : IntKind.u64.wrap (q : Int) = (q : Int) := by rw [IntKind.wrap_u64]; omega
  rw [hw, u64_or _ _ (by omega) (by omega) (by omega) (by omega)]
  simp
theorem pow_small {k : Nat} (hk : k < 64) : 2 ^ k < 18446744073709551616 := by
  rw [show (18446744073709551616 : Nat) = 2 ^ 64 from rfl]; exact Nat.pow_lt_pow_right (by decide) hk
theorem and_pow (u k : Nat) : u &&& 2 ^ k = if u.testBit k = true then 2 ^ k else 0 := by
  apply Nat.eq_of_testBit_eq
  intro j
  rw [Nat.testBit_and, Nat.testBit_two_pow]
  by_cases e : k = j
  · subst e
    rw [decide_eq_true rfl, Bool.and_true]
    split
    · rename_i h; rw [h, Nat.testBit_two_pow_self]
    · rename_i h; rw [Nat.zero_testBit]; simpa using h
  · rw [decide_eq_false e, Bool.and_false]
    split
    · rw [Nat.testBit_two_pow, decide_eq_false e]
    · rw [Nat.zero_testBit]
/-- a bit of a mask, asked -/
theorem bit_asked {k : Nat} (hk : k < 64) : ∃ X : Nat, 0 < X ∧ IntKind.u64.wrap ((2 : Int) ^ k) = (X : Int) ∧ ∀ u : Nat, u < 18446744073709551616 → (u.testBit k = true → bits BinOp.and IntKind.u64 (u : Int) (X : Int) = (X : Int)) ∧ (u.testBit k = false → bits BinOp.and IntKind.u64 (u : Int) (X : Int) = 0) := by
  have e : ((2 : Int) ^ k) = ((2 ^ k : Nat) : Int) := by simp
  refine ⟨2 ^ k, Nat.two_pow_pos k, ?_, fun u hu => ?_⟩
  · have := pow_small hk
    rw [e]
    generalize 2 ^ k = q at *
    rw [IntKind.wrap_u64]; omega
  · rw [u64_and_nat u (2 ^ k) hu (pow_small hk), and_pow]
    exact ⟨fun h => by rw [if_pos h], fun h => by rw [h]; rfl⟩
theorem wf_one {k : IntKind} {lo hi a : Int} (h1 : k.min = lo) (h2 : k.max = hi) (h : (Lit.int k a).wf = true) : lo ≤ a ∧ a ≤ hi := by
  simp [Lit.wf, h1, h2] at h; exact h
end Go.Proofs.Ytponpgcpmlcdpaa
