/- A region that draws its order, within a round of a range over an iterator: told as outside of one. No program in it. -/
import Derived.Test.YtbkdenlhfigjhaaDoorKX
import Derived.Test.YtbkdenlhfigjhaaDoorBK
import Derived.OrdersIn
import Derived.TacticsIn
import Derived.RangeFuncCalls
import Derived.BigQuiet
import Derived.OwnWalk
namespace Go.Proofs.YtbkdenlhfigjhaaDoor
open Go Go.RowKit
section
variable {P : Program} {ops : Array Oper} {md : Region.Mode} {Q : Exit → Act → World → Prop}

theorem callsIn_round {l n : Nat} {f : FuncId} {args : Array Value} {w : World} {R : Ending → World → Prop} (h : Calls P f args w R) : CallsIn (Fence.wide.inRound l) n P f args w R :=
  CallsIn.inRound l (callsIn_wide.2 h)
theorem rowsIn_round {l n : Nat} {row : String} {args : Array Value} {w : World} {R : Value → World → Prop} (h : Rows P row args w R) : RowsIn (Fence.wide.inRound l) n P row args w R := fun c cs _ => by
  obtain ⟨v, w', r, s⟩ := h c cs
  refine ⟨v, w', r, ?_⟩
  rw [fenced_inRound]
  exact stepsIn_wide.2 s
theorem operIn_round {l n : Nat} {o : Oper} {a : Act} {w : World} {K : Act → World → Prop} (hd : ∀ c, o.op ≠ .defer c) (h : o.wp P a w K Q) : o.wpIn (Fence.wide.inRound l) n P a w K Q := by
  refine ⟨fun _ _ => trivial, ?_⟩
  have he : Oper.semAt (Fence.wide.inRound l).round a.eval o = execOp a.eval o := Oper.semAt_eq _ _ _ hd
  rw [he]
  unfold Oper.wp at h
  cases hr : (execOp a.eval o).run P w with
  | halt x w' =>
    rw [hr] at h
    cases x <;> first | exact h | exact h.elim
  | ok t w' =>
    rw [hr] at h
    cases t with
    | value v => exact h
    | skip => exact h
    | defer d => exact h
    | enter f args => exact ⟨fun q => (by cases q), callsIn_round (h.mono fun e w'' k => by cases e <;> exact k)⟩
    | row r args => exact ⟨fun q => (by cases q), rowsIn_round h⟩
    | round l f tmps assign body => exact h.elim
    | _ => exact h.elim
theorem wpOpIn_round {l n i : Nat} {a : Act} {w : World} {K : Act → World → Prop} (hd : ∀ o, ops[i]? = some o → ∀ c, o.op ≠ .defer c) (hL : ¬ LetsOut Q) (h : wpOp P ops Q i K a w) : wpOpIn (Fence.wide.inRound l) n P ops Q i K a w := by
  unfold wpOp at h
  unfold wpOpIn
  cases ho : ops[i]? with
  | none => rw [ho] at h; exact h
  | some o =>
    rw [ho] at h
    dsimp only at h ⊢
    split
    · rename_i hw
      rw [if_pos hw] at h
      rcases h with h | h
      · exact operIn_round (hd o ho) h
      · exact absurd h.2 hL
    · rename_i hw
      rw [if_neg hw] at h
      exact ⟨fun _ _ => trivial, h⟩
theorem wpAnyIn_round {l m : Nat} (hd : ∀ (i : Nat) (o : Oper), ops[i]? = some o → ∀ c, o.op ≠ .defer c) (hL : ¬ LetsOut Q) : ∀ (n : Nat) (listed : Array Bool) (a : Act) (w : World), wpAny P md ops Q n listed a w → wpAnyIn (Fence.wide.inRound l) m P md ops Q n listed a w
  | 0, _, _, _, h => h
  | n + 1, _, _, _, h => ⟨h.1, fun i hi => wpOpIn_mono (fun a' w' k => wpAnyIn_round hd hL n _ a' w' k) (wpOpIn_round (hd i) hL (h.2 i hi))⟩
/-- no operation of them is a defer statement -/
def noDefer (ops : Array Oper) : Bool := ops.all fun o => match o.op with | .defer _ => false | _ => true
theorem noDefer_spec (h : noDefer ops = true) (i : Nat) (o : Oper) (hi : ops[i]? = some o) (c : Call) : o.op ≠ .defer c := by
  intro e
  unfold noDefer at h
  rw [Array.all_eq_true] at h
  obtain ⟨hlt, rfl⟩ := Array.getElem?_eq_some_iff.1 hi
  have := h i hlt
  rw [e] at this
  cases this
theorem region_round {l m id : Nat} {a : Act} {w : World} (hm : P.follows .mixedOrders = true) (hd : noDefer ops = true) (hL : ¬ LetsOut Q) (h : wpAny P .any ops Q ops.size (Array.replicate ops.size false) a w.drew) :
    (Code.region id ops true).wpIn (Fence.wide.inRound l) m P Q a w :=
  wpIn_region_any hm (wpAnyIn_round (noDefer_spec hd) hL _ _ _ _ h)
theorem region_E_round {l m id : Nat} {a : Act} {w : World} (C : World → Prop) (D : Nat → Bool) (hm : P.follows .mixedOrders = true) (hd : noDefer ops = true) (hL : ¬ LetsOut Q)
    (h : anyE P .any ops Q C D ops.size (Array.replicate ops.size false) a w.drew) : (Code.region id ops true).wpIn (Fence.wide.inRound l) m P Q a w :=
  region_round hm hd hL (any_of_E _ _ _ _ h)
/-- a region that only reads, as 'go_quiet' walks it -/
theorem region_quiet_round {l m id : Nat} {a : Act} {w : World} {lst : List Oper} (hm : P.follows .mixedOrders = true) (hd : noDefer lst.toArray = true) (hL : ¬ LetsOut Q) (hB : Region.lexB .any lst.toArray = true)
    (h : wpQuiet P lst.toArray (fun w' => ∃ n, w' = w.drewN n) (fun a' => ∀ w', (∃ n, w' = w.drewN n) → Q .normal a' w') lst a) : (Code.region id lst.toArray true).wpIn (Fence.wide.inRound l) m P Q a w := by
  refine region_round hm hd hL ?_
  simp only [Region.lexB, Bool.and_eq_true] at hB
  refine wpAny_of_quiet (C := fun w' => ∃ n, w' = w.drewN n) (Q := fun a' => ∀ w', (∃ n, w' = w.drewN n) → Q .normal a' w') (fun _ w' hw' h => h w' hw') _ _ _ _ ⟨1, rfl⟩ ?_
  have := wpAnyQ_lex (C := fun w' => ∃ n, w' = w.drewN n) (md := .any) hB.1 lst.toArray.toList 0 (Array.replicate lst.toArray.size false) a (by simp) (by simpa using hB.2) (by simpa using h)
  simpa using this
end
/-- left without a panic -/
def noPanic (Q : Exit → Act → World → Prop) : Exit → Act → World → Prop
  | .panic _, _, _ => False
  | .outgrown, _, _ => False
  | .normal, a, w => Q .normal a w
  | .ret, a, w => Q .ret a w
  | .exit id, a, w => Q (.exit id) a w
  | .goto t, a, w => Q (.goto t) a w
theorem noPanic_le {Q : Exit → Act → World → Prop} : ∀ e a w, noPanic Q e a w → Q e a w
  | .panic _, _, _ => fun h => h.elim
  | .outgrown, _, _ => fun h => h.elim
  | .normal, _, _ => id
  | .ret, _, _ => id
  | .exit _, _, _ => id
  | .goto _, _, _ => id
namespace Kx
open Km
section
variable {P : Program} {ops : Array Oper} {md : Region.Mode} {Q : Exit → Act → World → Prop} {D : Nat → Bool} {w0 : World} {l : List (Nat × List Value)} {r : List Rw} {F : Fz} {a : Act}
/-- a slice written out, when it alone is ready -/
theorem anyW_build_x {i m d : Nat} {oi : Oper} {listed : Array Bool} {n : Nat} {cs : List Value} {t : TypeId} (hi : ops[i]? = some oi) (hr : Region.ready md ops listed = [i]) (hn : Region.wanted oi (yielded ops a.tmps) = true) (hdst : oi.dst = some d)
    (hrun : ∀ w : World, (execOp a.eval oi).run P w = .ok (.value (.slice (some ⟨w.heap.size, 0, none⟩) m m)) (w.alloc (.cells cs.toArray t)))
    (h : ∀ b, anyW P md ops Q (fun w' => Bxs w0 w' ((b, cs) :: l) r F) D n (listed.setIfInBounds i true) (At (a.put (some d) (.slice (some ⟨b, 0, none⟩) m m)) (fun w' => Bxs w0 w' ((b, cs) :: l) r F))) :
    anyW P md ops Q (fun w' => Bxs w0 w' l r F) D (n + 1) listed (At a (fun w' => Bxs w0 w' l r F)) :=
  anyW_one (fun a' w' => ∃ b : Nat, At (a.put (some d) (.slice (some ⟨b, 0, none⟩) m m)) (fun w' => Bxs w0 w' ((b, cs) :: l) r F) a' w') (fun _ _ _ ⟨b, k, k2⟩ hb => ⟨b, k, k2.call hb⟩) hi hr hn (.inr fun _ _ ⟨_, _, k⟩ => k.tail)
    (fun w hw => by
      unfold Oper.wp
      rw [hrun w]
      exact ⟨_, by rw [hdst], hw.alloc cs t⟩) (anyW_union 0 fun b => anyW_wider (fun _ k => k.tail) (h b))
/-- one cell stored into a row of the call's own, when the store alone is ready -/
theorem anyW_storeRow_x {l' : List (Nat × List Value)} {r' : List Rw} {i : Nat} {oi : Oper} {listed : Array Bool} {n : Nat} {C : World → Prop} (hl' : l' = l) (hi : ops[i]? = some oi) (hr : Region.ready md ops listed = [i]) (hn : Region.wanted oi (yielded ops a.tmps) = true) (hd : D i = true) (hdst : oi.dst = none)
    (ty : TypeId) (x y : Operand) (ho : oi.op = .store ty x y) (g o : Nat) (hx : a.eval x = .pointer (some ⟨g, o, none⟩)) (v : Value) (hy : a.eval y = v) (h1 : v.oneCell' = true) {cap k m : Nat} {e : TypeId} {xs ys : List Value}
    (ht : RowTo ⟨some ⟨g, 0, none⟩, cap, e, k, m, xs⟩ ⟨some ⟨g, 0, none⟩, cap, e, k, m, ys⟩ r r') (hys : xs.set o v = ys) (hl : o < xs.length) (hS : ∀ w, (sizeOf ty).run P w = .ok 1 w)
    (h : anyW P md ops Q C D n (listed.setIfInBounds i true) (At a (fun w' => Bxs w0 w' l' r' F))) : anyW P md ops Q C D (n + 1) listed (At a (fun w' => Bxs w0 w' l r F)) := by
  subst hl'
  refine anyW_one (At a (fun w' => Bxs w0 w' l' r' F)) (At.bears bears_x) hi hr hn (.inl hd) (fun w hw => ?_) h
  have hsp : splice xs o [v] = ys := by rw [← hys, List.set_eq_take_append_cons_drop, if_pos hl]; rfl
  have hown := (hw.rows _ ht.mem).1
  unfold Oper.wp execOp
  simp only [ho, hx, hy, Instr.storeAt, Instr.sureAddr, Sem.run_bind, Sem.run_pure, Result.andThen_ok, run_storeVar_x w g o ty v [v] (cells_one h1) (Rw.own.there hown rfl o 1 (by show o + 1 ≤ xs.length; omega)) (info_of (hS w)) (by simp [h1])]
  refine ⟨by rw [hdst]; rfl, ?_⟩
  subst hsp
  exact hw.rowSet ht (by show o + 1 ≤ xs.length; omega)
end
section
variable {P : Program} {ops : Array Oper} {rest : List Oper} {op : Oper} {a : Act} {w w0 : World} {l : List (Nat × List Value)} {r : List Rw} {F : Fz} {Q : Exit → Act → World → Prop}
/-- a slice made, of so many elements: a row of the call's own in a block that has no other name -/
theorem wpList_make_g (hB : Hid (Bxs w0 w l r F)) (hg : op.guard = none) (x c : Operand) (t : TypeId) (hop : op.op = Op.makeSlice t x c) (e : TypeId) (i : TypeInfo) (z : Value) (size : Nat) (h1 : P.underlying t = some (.slice e)) (h2 : P.info? e = some i) (h3 : i.zero = some z) (h4 : i.size = size)
    (kl kc : IntKind) (L C : Int) (n : Nat) (hl : a.eval x = .int kl L) (hc : a.eval c = .int kc C) (hL : L = (n : Int)) (hC : C = (n : Int)) (b2 : i.bytes * n ≤ 281474976710656) (b3 : n ≤ maxLen)
    (h : ∀ g w', Hid (Bxs w0 w' l (⟨some ⟨g, 0, none⟩, n, e, size, n, (madeCells z.cells (n * size)).toList⟩ :: r) F) → wpList P ops Q rest (a.put op.dst (.slice (some ⟨g, 0, none⟩) n n)) w') : wpList P ops Q (op :: rest) a w :=
  wpList_make_full w hg x c t hop w0.heap.size e i z size h1 h2 h3 h4 kl kc L C n hl hc hL hC b2 b3 hB.out.size fun _ hown hgrow =>
    h _ _ (Lib.hid (hB.out.row hgrow (y := ⟨some ⟨_, 0, none⟩, n, e, size, n, (madeCells z.cells (n * size)).toList⟩) hown (.inr rfl)))
end
/-- what is no cells may turn -/
theorem Bxs.others {w0 w w' : World} {l : List (Nat × List Value)} {r : List Rw} {F : Fz} {row : Option Nat} (h : Bxs w0 w l r F) (hg : w.grownBy w' row) (hr : ∀ g, row = some g → w0.heap.size ≤ g ∧ ∃ o : Obj, w.heap[g]? = some o ∧ o.isCells = false) : Bxs w0 w' l r F := by
  have cells : ∀ g c t fz, w.heap[g]? = some (Obj.cells c t fz) → row ≠ some g := fun g c t fz e er => by
    obtain ⟨-, o, ho, hc⟩ := hr g er
    rw [e] at ho
    cases ho
    cases hc
  have cellOf : ∀ {ad : Addr} {v : Value}, w.cell? ad = some v → ∃ c t fz, w.heap[ad.block]? = some (Obj.cells c t fz) := fun {ad v} e => by
    unfold World.cell? at e
    split at e
    · rename_i c t fz e1; exact ⟨c, t, fz, e1⟩
    · cases e
  refine ⟨h.below.grown hg h.size (fun g e => (hr g e).1), h.nodup, fun p hp => ?_, fun x hx => ⟨(h.rows x hx).1.kept hg (fun g e q => ?_), (h.rows x hx).2⟩, h.apart, fun q hq j u hj => ?_⟩
  · obtain ⟨h1, h2, h3, h4⟩ := h.each p hp
    by_cases he : p.2 = []
    · refine ⟨h1, Nat.lt_of_lt_of_le h2 hg.size, ?_, ?_⟩
      · rw [he]; exact fun j v hv => (by cases hv)
      · rw [he]; exact fun j hj => absurd hj (Nat.not_lt_zero _)
    · obtain ⟨v, hv⟩ : ∃ v, p.2[0]? = some v := by
        cases hq : p.2 with
        | nil => exact absurd hq he
        | cons a t => exact ⟨a, rfl⟩
      obtain ⟨c, t, fz, e⟩ := cellOf (h3 0 v hv)
      have hb : w'.heap[p.1]? = w.heap[p.1]? := hg.block _ h2 (fun e2 => cells _ _ _ _ e e2.symm)
      exact ⟨h1, Nat.lt_of_lt_of_le h2 hg.size, fun j v hv => (World.cell?_of_block hb).trans (h3 j v hv), fun j hj => ⟨by rw [World.cell?_of_block hb]; exact (h4 j hj).1, by rw [World.frozen?_of_block hb]; exact (h4 j hj).2⟩⟩
  · have hx := (h.rows _ hx).1
    rcases hx.2 with ⟨e1, -⟩ | ⟨g', cap, cur, e1, -, hgb, -⟩
    · unfold Rw.blk at e
      rw [e1] at e
      cases e
    · unfold Rw.blk at e
      rw [e1] at e
      cases e
      exact cells _ _ _ _ hgb q
  · obtain ⟨ad, e, h1, h2, h3, h4⟩ := h.stay q hq j u hj
    obtain ⟨c, t, fz, e2⟩ := cellOf h2
    rw [addr_block] at e2
    have hb : w'.heap[ad.block]? = w.heap[ad.block]? := hg.block _ h1 (fun e3 => cells _ _ _ _ e2 e3.symm)
    exact ⟨ad, e, Nat.lt_of_lt_of_le h1 hg.size, by rw [World.cell?_of_block (show w'.heap[(ad.add j).block]? = w.heap[(ad.add j).block]? by rw [addr_block]; exact hb)]; exact h2, h3, h4⟩
end Kx
end Go.Proofs.YtbkdenlhfigjhaaDoor

/- An append to a slice without room, that is another's: a new row. No program in it. -/
namespace Go.Proofs.YtbkdenlhfigjhaaDoor
open Go.RowKit Go.Shelf Km Kx

/-- the cut [k:n:n] of a slice of n elements -/
theorem run_cut_tail {P : Program} {t e : TypeId} (ht : P.underlying t = some (.slice e)) (he : ∀ w, (sizeOf e).run P w = .ok 1 w) (A : Option Addr) (n cap k : Nat) (hk : k ≤ n) (hn : n ≤ cap) (w : World) :
    (Instr.slice t (.slice A n cap) (some (.int .i64 (k : Int))) (some (.int .i64 (n : Int))) (some (.int .i64 (n : Int)))).run P w = .ok (.slice (cutA A k n) (n - k) (n - k)) w := by
  have he' : P.elem t = e := by simp [Program.elem, ht]
  rw [run_slice_lhm (P := P) w t A n cap (by rw [he']; exact ht) .i64 .i64 .i64 (k : Int) (n : Int) (n : Int) (by omega) (by omega) (by omega) (by omega), he', he]
  unfold cutA
  simp [Result.andThen, sliced]

theorem run_app_full {P : Program} (w : World) (base : Nat) (t ty e : TypeId) (i : TypeInfo) (z : Value) (bytes : Nat) (ht : P.underlying t = some (.slice e)) (hi : P.info? e = some i) (hz : i.zero = some z) (hsize : i.size = 1) (hby : i.bytes = bytes) (hzs : z.cells.size = 1)
    (S : Option Addr) (k : Nat) (olds : List Value) (hlo : olds.length = k) (B : Nat) (hr : Rd w B S olds) (b : Addr) (c : Nat) (v : Value) (hv : w.cell? (b.add 0) = some v) (hk : k ≤ 1000) (hb8 : bytes ≤ 1024) (hbase : base ≤ w.heap.size) :
    ∃ c' w', (Builtin.append_ #[t, t] ty #[.slice S k k, .slice (some b) 1 c]).run P w = .ok (.slice (some ⟨w.heap.size, 0, none⟩) (k + 1) c') w' ∧ w'.ownsRow base e 1 (.slice (some ⟨w.heap.size, 0, none⟩) (k + 1) c') (k + 1) (olds ++ [v]) ∧ w.grownBy w' none := by
  subst hby
  have hnews : ∀ j u, [v][j]? = some u → w.cell? (b.add j) = some u := fun j u hj => by
    cases j with
    | zero => cases hj; exact hv
    | succ j => cases hj
  have hm : k + 1 ≤ maxLen := by unfold maxLen; omega
  have hbytes : (k + 1) * i.bytes ≤ 140737488355328 := Nat.le_trans (Nat.mul_le_mul (show k + 1 ≤ 1001 by omega) hb8) (by decide)
  have hge := grownCap_ge w (k + 1) k e
  have hcm : grownCap w (k + 1) k e ≤ maxLen := grownCap_le_maxLen w (k + 1) k e hm
  have hlen : (olds ++ [v]).length = k + 1 := by rw [List.length_append, hlo]; rfl
  cases S with
  | none =>
    have hk0 : olds = [] := by
      cases olds with
      | nil => rfl
      | cons u l => obtain ⟨ad, e, _⟩ := hr 0 u rfl; cases e
    subst hk0
    have hk0 : k = 0 := hlo.symm
    subst hk0
    have hrun := run_append_nil (P := P) w t ty e i z ht hi hz b 1 c [v] (by rw [hsize]; rfl) hnews (by omega) (by omega) (by omega)
    refine ⟨_, _, hrun, ⟨by rw [hlen], .inr ⟨w.heap.size, _, _, rfl, hbase, heap_alloc_new w.drew _, hge, hcm, ?_, ?_⟩⟩, ⟨rfl, rfl, rfl, by simp, fun k hk _ => heap_alloc_old w.drew _ k hk⟩⟩
    · simp only [Array.size_append, List.size_toArray, size_zeroCells, hzs, List.length_singleton]
      show 1 + (grownCap w (0 + 1) 0 e - 1) * 1 = grownCap w (0 + 1) 0 e * 1
      omega
    · simp
  | some ad =>
    have holds : ∀ j u, olds[j]? = some u → w.cell? (ad.add j) = some u := fun j u hj => by
      obtain ⟨ad', e, _, hc⟩ := hr j u hj
      cases e
      exact hc
    have hrun := run_append_grow (P := P) w t ty e i z ht hi hz ad k k olds (by rw [hsize, hlo, Nat.mul_one]) holds b 1 c [v] (by rw [hsize]; rfl) hnews (by omega) (by omega) (growslice_fits (by omega) hbytes)
    refine ⟨_, _, hrun, ⟨by rw [hlen, Nat.mul_one], .inr ⟨w.heap.size, _, _, rfl, hbase, heap_alloc_new w.drew _, hge, hcm, ?_, ?_⟩⟩, ⟨rfl, rfl, rfl, by simp, fun k hk _ => heap_alloc_old w.drew _ k hk⟩⟩
    · simp only [Array.size_append, List.size_toArray, size_zeroCells, hzs, List.length_singleton, hlo]
      omega
    · simp only [Array.toList_append, List.append_assoc]
      rw [← List.append_assoc, Nat.mul_one, ← hlen]
      exact List.take_left
section
variable {P : Program} {ops : Array Oper} {md : Region.Mode} {Q : Exit → Act → World → Prop} {D : Nat → Bool} {w0 : World} {l : List (Nat × List Value)} {r : List Rw} {F : Fz} {a : Act}
/-- .. when it alone is ready; what is appended lies in a box -/
theorem Kx.anyW_appFull_x {i d : Nat} {oi : Oper} {listed : Array Bool} {n : Nat} (hi : ops[i]? = some oi) (hr : Region.ready md ops listed = [i]) (hn : Region.wanted oi (yielded ops a.tmps) = true) (hdst : oi.dst = some d)
    (s x : Operand) (t : TypeId) (ho : oi.op = .call { callee := .builtin .append, args := #[s, x], argTypes := #[t, t] }) (e : TypeId) (it : TypeInfo) (z : Value) (bytes : Nat) (ht : P.underlying t = some (.slice e)) (hit : P.info? e = some it) (hz : it.zero = some z) (hsize : it.size = 1) (hby : it.bytes = bytes) (hzs : z.cells.size = 1)
    (S : Option Addr) (k : Nat) (hs : a.eval s = .slice S k k) (olds : List Value) (hlo : olds.length = k) (hrd : ∀ w', Bxs w0 w' l r F → Rd w' w'.heap.size S olds) (b c : Nat) (v : Value) (hx : a.eval x = .slice (some ⟨b, 0, none⟩) 1 c) [hm : InL b [v] l] (hk : k ≤ 1000) (hb8 : bytes ≤ 1024)
    (h : ∀ g c', anyW P md ops Q (fun w' => Bxs w0 w' l (⟨some ⟨g, 0, none⟩, c', e, 1, k + 1, olds ++ [v]⟩ :: r) F) D n (listed.setIfInBounds i true) (At (a.put (some d) (.slice (some ⟨g, 0, none⟩) (k + 1) c')) (fun w' => Bxs w0 w' l (⟨some ⟨g, 0, none⟩, c', e, 1, k + 1, olds ++ [v]⟩ :: r) F))) :
    anyW P md ops Q (fun w' => Bxs w0 w' l r F) D (n + 1) listed (At a (fun w' => Bxs w0 w' l r F)) :=
  anyW_one (fun a' w' => ∃ p : Nat × Nat, At (a.put (some d) (.slice (some ⟨p.1, 0, none⟩) (k + 1) p.2)) (fun w' => Bxs w0 w' l (⟨some ⟨p.1, 0, none⟩, p.2, e, 1, k + 1, olds ++ [v]⟩ :: r) F) a' w') (fun _ _ _ ⟨p, q, q2⟩ hb => ⟨p, q, q2.call hb⟩) hi hr hn (.inr fun _ _ ⟨_, _, q⟩ => q.rowTail)
    (fun w hw => by
      obtain ⟨c', w', hrun, hown, hgr⟩ := run_app_full (P := P) w w0.heap.size t oi.type e it z bytes ht hit hz hsize hby hzs S k olds hlo w.heap.size (hrd w hw) ⟨b, 0, none⟩ c v (by rw [Addr.add_mid]; exact hw.cell hm.mem rfl) hk hb8 hw.size
      unfold Oper.wp execOp
      simp only [ho, resolve, invoke, builtin, Sem.run_bind, Sem.run_pure, Result.andThen_ok, List.map_toArray, List.map_cons, List.map_nil, hs, hx, hrun]
      exact ⟨(w.heap.size, c'), by rw [hdst], hw.row hgr (y := ⟨some ⟨w.heap.size, 0, none⟩, c', e, 1, k + 1, olds ++ [v]⟩) hown (.inr rfl)⟩)
    (anyW_union ((0, 0) : Nat × Nat) fun p => anyW_wider (fun _ q => q.rowTail) (h p.1 p.2))
end
end Go.Proofs.YtbkdenlhfigjhaaDoor
