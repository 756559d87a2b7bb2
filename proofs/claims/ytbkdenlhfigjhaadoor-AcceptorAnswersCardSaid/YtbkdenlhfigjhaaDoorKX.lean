/- The steps over boxes (KitX) in short form: what a type is comes by instances, what is computed by itself. So a walk's text stays short. -/
import Derived.Test.YtbkdenlhfigjhaaDoorKitX
import Derived.Test.YtbkdenlhfigjhaaDoorKitM
import Derived.Test.YtbkdenlhfigjhaaDoorBK
import Derived.Deep.Onto
import Derived.Laws.BitsAllLaws
import Derived.OpenShut
import Derived.ChangeOld
import Derived.ChangeAt
import Derived.Deep.Fields
import Derived.Deep.Matrix
namespace Go.Proofs.YtbkdenlhfigjhaaDoor.Kx
open Go.RowKit Go.Shelf
set_option linter.unusedVariables false

/-- a type of one cell -/
class OneC (P : Program) (ty : TypeId) : Prop where
  out : ∀ w, (isAgg ty).run P w = .ok false w
/-- a type of several cells -/
class AggC (P : Program) (ty : TypeId) (n : outParam Nat) : Prop where
  agg : ∀ w, (isAgg ty).run P w = .ok true w
  size : ∀ w, (sizeOf ty).run P w = .ok n w
class ZAgg (P : Program) (ty : TypeId) (cs : outParam (List Value)) : Prop where
  out : ∀ w, (zeroValue ty).run P w = .ok (.agg cs.toArray) w
class ZOne (P : Program) (ty : TypeId) (z : outParam Value) : Prop where
  out : ∀ w, (zeroValue ty).run P w = .ok z w

section
variable {P : Program} {ops : Array Oper} {rest : List Oper} {op : Oper} {a a' : Act} {w w0 : World} {l l' : List (Nat × List Value)} {r r' : List Rw} {F : Fz} {Q : Exit → Act → World → Prop}
variable {ty t2 : TypeId} {x y : Operand} {pos : String} {af : Array Edge} {d : Option Tmp} {b o : Nat} {cs old new : List Value} {v : Value} {g : Nat × Bool}

theorem fr (h : wpList P ops Q rest a' w) (ha : a.put d v = a' := by simp only [Act.put, List.setIfInBounds_toArray, List.set_cons_succ, List.set_cons_zero] <;> rfl) : wpList P ops Q rest (a.put d v) w := ha ▸ h

theorem boxa (hB : Hid (Bxs w0 w l r F)) (hx : a.eval x = .agg cs.toArray)
    (h : ∀ b w', Hid (Bxs w0 w' ((b, cs) :: l) r F) → wpList P ops Q rest (a.put d (.pointer (some ⟨b, 0, none⟩))) w') : wpList P ops Q (Oper.mk d (.box ty x) t2 pos af none :: rest) a w := wpList_boxa_x hB rfl _ _ rfl cs hx h
theorem boxt {k : Nat} (hB : Hid (Bxs w0 w l r F)) (hx : a.tmps[k]? = some v) (hv : v.oneCell' = true)
    (h : ∀ b w', Hid (Bxs w0 w' ((b, [v]) :: l) r F) → wpList P ops Q rest (a.put d (.pointer (some ⟨b, 0, none⟩))) w') : wpList P ops Q (Oper.mk d (.box ty (.tmp k)) t2 pos af none :: rest) a w := wpList_boxt_x hB rfl _ _ rfl v hx hv h
theorem box1 (hB : Hid (Bxs w0 w l r F)) (hx : a.eval x = v) (hv : v.oneCell' = true)
    (h : ∀ b w', Hid (Bxs w0 w' ((b, [v]) :: l) r F) → wpList P ops Q rest (a.put d (.pointer (some ⟨b, 0, none⟩))) w') : wpList P ops Q (Oper.mk d (.box ty x) t2 pos af none :: rest) a w := wpList_box1_x hB rfl _ _ rfl v hx hv h
theorem ala [hz : ZAgg P ty cs] (hB : Hid (Bxs w0 w l r F))
    (h : ∀ b w', Hid (Bxs w0 w' ((b, cs) :: l) r F) → wpList P ops Q rest (a.put d (.pointer (some ⟨b, 0, none⟩))) w') : wpList P ops Q (Oper.mk d (.alloc ty) t2 pos af none :: rest) a w := wpList_alloca_x hB rfl _ rfl cs (hz.out w) h
theorem al1 [hz : ZOne P ty v] (hB : Hid (Bxs w0 w l r F))
    (h : ∀ b w', Hid (Bxs w0 w' ((b, [v]) :: l) r F) → wpList P ops Q rest (a.put d (.pointer (some ⟨b, 0, none⟩))) w') (hv : v.oneCell' = true := by rfl) : wpList P ops Q (Oper.mk d (.alloc ty) t2 pos af none :: rest) a w := wpList_alloc1_x hB rfl _ rfl v (hz.out w) hv h

theorem l1 [hA : OneC P ty] (hB : Hid (Bxs w0 w l r F)) (hx : a.eval x = .pointer (some ⟨b, o, none⟩)) [hm : InL b cs l] (hv : cs[o]? = some v) (h : wpList P ops Q rest a' w)
    (ha : a.put d v = a' := by simp only [Act.put, List.setIfInBounds_toArray, List.set_cons_succ, List.set_cons_zero] <;> rfl) : wpList P ops Q (Oper.mk d (.load ty x) t2 pos af none :: rest) a w :=
  wpList_load1_x hB rfl _ _ rfl b hx cs (hA.out w) v hv (framed h ha)
theorem la {n : Nat} [hA : AggC P ty n] (hB : Hid (Bxs w0 w l r F)) (hx : a.eval x = .pointer (some ⟨b, o, none⟩)) [hm : InL b cs l] (h : wpList P ops Q rest a' w)
    (hms : (cs.drop o).take n = new := by first | exact Kx.whole (by rfl) | (simp <;> rfl)) (hn : new.length = n := by rfl)
    (ha : a.put d (.agg new.toArray) = a' := by simp only [Act.put, List.setIfInBounds_toArray, List.set_cons_succ, List.set_cons_zero] <;> rfl) : wpList P ops Q (Oper.mk d (.load ty x) t2 pos af none :: rest) a w :=
  wpList_load_x hB rfl _ _ rfl b hx cs n (hA.agg w) (hA.size w) new hms hn (framed h ha)
theorem lo {ad : Addr} [hA : OneC P ty] (hB : Hid (Bxs w0 w l r F)) (hx : a.eval x = .pointer (some ad)) (hc : w0.cell? ad = some v) (h : wpList P ops Q rest a' w)
    (ha : a.put d v = a' := by simp only [Act.put, List.setIfInBounds_toArray, List.set_cons_succ, List.set_cons_zero] <;> rfl) : wpList P ops Q (Oper.mk d (.load ty x) t2 pos af none :: rest) a w :=
  wpList_old_x hB rfl _ _ rfl ad hx (hA.out w) v hc (framed h ha)
theorem l1g [hA : OneC P ty] (hB : Hid (Bxs w0 w l r F)) (hx : a.eval x = .pointer (some ⟨b, o, none⟩)) [hm : InL b cs l] (hv : cs[o]? = some v) (hn : Region.wanted (Oper.mk d (.load ty x) t2 pos af (some g)) (yielded ops a.tmps) = true) (h : wpList P ops Q rest a' w)
    (ha : a.put d v = a' := by simp only [Act.put, List.setIfInBounds_toArray, List.set_cons_succ, List.set_cons_zero] <;> rfl) : wpList P ops Q (Oper.mk d (.load ty x) t2 pos af (some g) :: rest) a w :=
  wpList_loadg_x hB _ _ rfl b hx cs (hA.out w) v hv hn (framed h ha)
theorem lag {n : Nat} [hA : AggC P ty n] (hB : Hid (Bxs w0 w l r F)) (hx : a.eval x = .pointer (some ⟨b, o, none⟩)) [hm : InL b cs l] (hg : Region.wanted (Oper.mk d (.load ty x) t2 pos af (some g)) (yielded ops a.tmps) = true) (h : wpList P ops Q rest a' w)
    (hms : (cs.drop o).take n = new := by first | exact Kx.whole (by rfl) | (simp <;> rfl)) (hn : new.length = n := by rfl)
    (ha : a.put d (.agg new.toArray) = a' := by simp only [Act.put, List.setIfInBounds_toArray, List.set_cons_succ, List.set_cons_zero] <;> rfl) : wpList P ops Q (Oper.mk d (.load ty x) t2 pos af (some g) :: rest) a w :=
  wpList_loadga_x hB _ _ rfl b hx cs n (hA.agg w) (hA.size w) new hms hn hg (framed h ha)
theorem log {ad : Addr} [hA : OneC P ty] (hB : Hid (Bxs w0 w l r F)) (hx : a.eval x = .pointer (some ad)) (hc : w0.cell? ad = some v) (hn : Region.wanted (Oper.mk d (.load ty x) t2 pos af (some g)) (yielded ops a.tmps) = true) (h : wpList P ops Q rest a' w)
    (ha : a.put d v = a' := by simp only [Act.put, List.setIfInBounds_toArray, List.set_cons_succ, List.set_cons_zero] <;> rfl) : wpList P ops Q (Oper.mk d (.load ty x) t2 pos af (some g) :: rest) a w :=
  wpList_oldg_x hB _ _ rfl ad hx (hA.out w) v hc hn (framed h ha)

theorem stwa (hB : Hid (Bxs w0 w l r F)) (hx : a.eval x = .pointer (some ⟨b, 0, none⟩)) (hy : a.eval y = .agg cs.toArray) [hs : SetL b cs l old l'] (h : ∀ w', Hid (Bxs w0 w' l' r F) → wpList P ops Q rest a w')
    (hl : cs.length = old.length := by rfl) (hS : (sizeOf ty).run P w = .ok cs.length w := by simp <;> rfl) (h1 : cs.all (·.oneCell') = true := by rfl) : wpList P ops Q (Oper.mk none (.store ty x y) t2 pos af none :: rest) a w :=
  wpList_storewa_x hB rfl rfl _ _ _ rfl b hx cs hy old hl hS h1 h
theorem sta (hB : Hid (Bxs w0 w l r F)) (hx : a.eval x = .pointer (some ⟨b, o, none⟩)) (hy : a.eval y = .agg cs.toArray) [hs : SetL b new l old l'] (h : ∀ w', Hid (Bxs w0 w' l' r F) → wpList P ops Q rest a w')
    (hnew : splice old o cs = new := by simp [Kx.splice] <;> rfl) (hl : o + cs.length ≤ old.length := by simp) (hS : (sizeOf ty).run P w = .ok cs.length w := by simp <;> rfl) (h1 : cs.all (·.oneCell') = true := by rfl) : wpList P ops Q (Oper.mk none (.store ty x y) t2 pos af none :: rest) a w :=
  wpList_storea_x hB rfl rfl _ _ _ rfl b hx cs hy old new hnew hl hS h1 h
theorem stc (hB : Hid (Bxs w0 w l r F)) (hx : a.eval x = .pointer (some ⟨b, o, none⟩)) (h1 : v.oneCell' = true) [hs : SetL b new l old l'] (h : ∀ w', Hid (Bxs w0 w' l' r F) → wpList P ops Q rest a w')
    (hnew : old.set o v = new := by simp <;> rfl) (hl : o < old.length := by simp) (hS : (sizeOf ty).run P w = .ok 1 w := by simp <;> rfl) : wpList P ops Q (Oper.mk none (.store ty x (.const v)) t2 pos af none :: rest) a w :=
  wpList_storec_x hB rfl rfl _ _ _ rfl b hx h1 old new hnew hl hS h
theorem stt {k : Nat} (hB : Hid (Bxs w0 w l r F)) (hx : a.eval x = .pointer (some ⟨b, o, none⟩)) (hy : a.tmps[k]? = some v) (h1 : v.oneCell' = true) [hs : SetL b new l old l'] (h : ∀ w', Hid (Bxs w0 w' l' r F) → wpList P ops Q rest a w')
    (hnew : old.set o v = new := by simp <;> rfl) (hl : o < old.length := by simp) (hS : (sizeOf ty).run P w = .ok 1 w := by simp <;> rfl) : wpList P ops Q (Oper.mk none (.store ty x (.tmp k)) t2 pos af none :: rest) a w :=
  wpList_storet_x hB rfl rfl _ _ _ rfl b hx v hy h1 old new hnew hl hS h
theorem st1 (hB : Hid (Bxs w0 w l r F)) (hx : a.eval x = .pointer (some ⟨b, o, none⟩)) (hy : a.eval y = v) (h1 : v.oneCell' = true) [hs : SetL b new l old l'] (h : ∀ w', Hid (Bxs w0 w' l' r F) → wpList P ops Q rest a w')
    (hnew : old.set o v = new := by simp <;> rfl) (hl : o < old.length := by simp) (hS : (sizeOf ty).run P w = .ok 1 w := by simp <;> rfl) : wpList P ops Q (Oper.mk none (.store ty x y) t2 pos af none :: rest) a w :=
  wpList_store1_x hB rfl rfl _ _ _ rfl b hx v hy h1 old new hnew hl hS h
end

section
variable {P : Program} {ops : Array Oper} {md : Region.Mode} {Q : Exit → Act → World → Prop} {C : World → Prop} {D : Nat → Bool} {i n : Nat} {oi : Oper} {v : Value} {listed : Array Bool} {a a' : Act}
/-- KitW's steps, what they ask by itself -/
theorem tk (i : Nat) {oi : Oper} (hi : ops[i]? = some oi) (h : anyW P md ops Q C D n (listed.setIfInBounds i true) (At a' C))
    (hC : BearsC C := by first | exact Kx.bears_x | exact bears_u | assumption) (hs : Region.noSelect ops = true := by kernel_rfl) (hf : Region.free md ops listed i = true := by kernel_rfl) (hr : (Region.ready md ops listed).contains i = true := by kernel_rfl)
    (hwt : waits md ops D i = true := by kernel_rfl) (hn : Region.wanted oi (yielded ops a.tmps) = true := by kernel_rfl) (hy : ∀ w, C w → (execOp a.eval oi).run P w = .ok (.value v) w := by (intro w hC; go_simp; try with_reducible rfl))
    (ha : a.put oi.dst v = a' := by (go_simp; try with_reducible rfl)) (hQ : ∀ c a w, Q (.panic c) (a.put oi.dst v) w → Q (.panic c) a w := by exact fun _ _ _ h => h) : anyW P md ops Q C D (n + 1) listed (At a C) :=
  anyW_take hC hi hs hf hr hQ hwt hn hy ha h
theorem sk (i : Nat) {oi : Oper} (hi : ops[i]? = some oi) (h : anyW P md ops Q C D n (listed.setIfInBounds i true) (At a' C))
    (hC : BearsC C := by first | exact Kx.bears_x | exact bears_u | assumption) (hs : Region.noSelect ops = true := by kernel_rfl) (hf : Region.free md ops listed i = true := by kernel_rfl) (hr : (Region.ready md ops listed).contains i = true := by kernel_rfl)
    (hwt : waits md ops D i = true := by kernel_rfl) (hn : Region.wanted oi (yielded ops a.tmps) = false := by kernel_rfl)
    (ha : a.put oi.dst undef = a' := by (go_simp; try with_reducible rfl)) (hQ : ∀ c a w, Q (.panic c) (a.put oi.dst undef) w → Q (.panic c) a w := by exact fun _ _ _ h => h) : anyW P md ops Q C D (n + 1) listed (At a C) :=
  anyW_skip hC hi hs hf hr hQ hwt hn ha h
end
section
variable {P : Program} {ops : Array Oper} {md : Region.Mode} {Q : Exit → Act → World → Prop} {D : Nat → Bool} {n : Nat} {v : Value} {listed : Array Bool} {a a' : Act}
variable {w0 : World} {l : List (Nat × List Value)} {r : List Rw} {F : Fz} {ty t2 : TypeId} {x : Operand} {pos : String} {af : Array Edge} {d : Option Tmp} {b o : Nat} {cs new : List Value} {g : Option (Nat × Bool)}
/-- readings of boxes, in a region that draws -/
theorem xl1 (i : Nat) (hi : ops[i]? = some (Oper.mk d (.load ty x) t2 pos af g)) [hA : OneC P ty] (hx : a.eval x = .pointer (some ⟨b, o, none⟩)) [hm : InL b cs l] (hv : cs[o]? = some v)
    (h : anyW P md ops Q (fun w' => Bxs w0 w' l r F) D n (listed.setIfInBounds i true) (At a' (fun w' => Bxs w0 w' l r F)))
    (hs : Region.noSelect ops = true := by kernel_rfl) (hf : Region.free md ops listed i = true := by kernel_rfl) (hr : (Region.ready md ops listed).contains i = true := by kernel_rfl)
    (hwt : waits md ops D i = true := by kernel_rfl) (hn : Region.wanted (Oper.mk d (.load ty x) t2 pos af g) (yielded ops a.tmps) = true := by kernel_rfl)
    (ha : a.put d v = a' := by (go_simp; try with_reducible rfl)) (hQ : ∀ c a w, Q (.panic c) (a.put d v) w → Q (.panic c) a w := by exact fun _ _ _ h => h) : anyW P md ops Q (fun w' => Bxs w0 w' l r F) D (n + 1) listed (At a (fun w' => Bxs w0 w' l r F)) :=
  anyW_take (i := i) bears_x hi hs hf hr hQ hwt hn (fun w hw => tells_load1_x hw b o hx cs hm (hA.out w) hv) ha h
theorem xlo (i : Nat) {ad : Addr} (hi : ops[i]? = some (Oper.mk d (.load ty x) t2 pos af g)) [hA : OneC P ty] (hx : a.eval x = .pointer (some ad)) (hv : w0.cell? ad = some v)
    (h : anyW P md ops Q (fun w' => Bxs w0 w' l r F) D n (listed.setIfInBounds i true) (At a' (fun w' => Bxs w0 w' l r F)))
    (hs : Region.noSelect ops = true := by kernel_rfl) (hf : Region.free md ops listed i = true := by kernel_rfl) (hr : (Region.ready md ops listed).contains i = true := by kernel_rfl)
    (hwt : waits md ops D i = true := by kernel_rfl) (hn : Region.wanted (Oper.mk d (.load ty x) t2 pos af g) (yielded ops a.tmps) = true := by kernel_rfl)
    (ha : a.put d v = a' := by (go_simp; try with_reducible rfl)) (hQ : ∀ c a w, Q (.panic c) (a.put d v) w → Q (.panic c) a w := by exact fun _ _ _ h => h) : anyW P md ops Q (fun w' => Bxs w0 w' l r F) D (n + 1) listed (At a (fun w' => Bxs w0 w' l r F)) :=
  anyW_take (i := i) bears_x hi hs hf hr hQ hwt hn (fun w hw => tells_old_x hw ad hx (hA.out w) hv) ha h
theorem xla (i : Nat) {m : Nat} (hi : ops[i]? = some (Oper.mk d (.load ty x) t2 pos af g)) [hA : AggC P ty m] (hx : a.eval x = .pointer (some ⟨b, o, none⟩)) [hm : InL b cs l]
    (h : anyW P md ops Q (fun w' => Bxs w0 w' l r F) D n (listed.setIfInBounds i true) (At a' (fun w' => Bxs w0 w' l r F)))
    (hms : (cs.drop o).take m = new := by first | exact Kx.whole (by rfl) | (simp <;> rfl)) (hk : new.length = m := by rfl)
    (hs : Region.noSelect ops = true := by kernel_rfl) (hf : Region.free md ops listed i = true := by kernel_rfl) (hr : (Region.ready md ops listed).contains i = true := by kernel_rfl)
    (hwt : waits md ops D i = true := by kernel_rfl) (hn : Region.wanted (Oper.mk d (.load ty x) t2 pos af g) (yielded ops a.tmps) = true := by kernel_rfl)
    (ha : a.put d (.agg new.toArray) = a' := by (go_simp; try with_reducible rfl)) (hQ : ∀ c a w, Q (.panic c) (a.put d (.agg new.toArray)) w → Q (.panic c) a w := by exact fun _ _ _ h => h) : anyW P md ops Q (fun w' => Bxs w0 w' l r F) D (n + 1) listed (At a (fun w' => Bxs w0 w' l r F)) :=
  anyW_take (i := i) bears_x hi hs hf hr hQ hwt hn (fun w hw => tells_load_x hw b o hx cs hm m (hA.agg w) (hA.size w) new hms hk rfl) ha h
end
end Go.Proofs.YtbkdenlhfigjhaaDoor.Kx

/- A struct's whole value loaded from anywhere (stands in journal/LPlays as well). No program in it. -/
namespace Go.Proofs.YtbkdenlhfigjhaaDoor
open Go.RowKit Go.Shelf Km

/-- a whole value from anywhere -/
theorem wpList_load_any {P : Program} {ops : Array Oper} {rest : List Oper} {op : Oper} {a : Act} {w : World} {Q : Exit → Act → World → Prop} (hgd : op.guard = none) (ty : TypeId) (x : Operand) (ho : op.op = .load ty x)
    (ad : Addr) (hx : a.eval x = .pointer (some ad)) (cs : List Value) (d : TypeDesc) (hc : ∀ j v, cs[j]? = some v → w.cell? (ad.add j) = some v) (hu : P.underlying ty = some d) (hd : d.isRow = true) (hi : (P.info? ty).map (·.size) = some cs.length)
    (h : wpList P ops Q rest (a.put op.dst (.agg cs.toArray)) w) : wpList P ops Q (op :: rest) a w :=
  wpList_plain hgd fun _ hK => by
    have hl : (loadCells ad cs.length).run P w = .ok cs.toArray w := run_loadCells_list (P := P) w ad cs hc
    have hv : (loadVar ty ad).run P w = .ok (.agg cs.toArray) w := by
      cases hq : P.info? ty with
      | none => simp [hq] at hi
      | some i =>
        have hs : i.size = cs.length := by simpa [hq] using hi
        have hagg : (isAgg ty).run P w = .ok true w := by
          unfold isAgg
          rw [Sem.run_bind, run_underlying hu w]
          cases d <;> simp_all
        simp [loadVar, Sem.run_bind, hagg, sizeOf, typeInfo, hq, hs, hl]
    unfold Oper.wp execOp
    simp only [ho, hx, Instr.loadAt, Instr.sureAddr, Sem.run_bind, Sem.run_pure, Result.andThen_ok, hv]
    exact hK _ _ h

end Go.Proofs.YtbkdenlhfigjhaaDoor

/- More on boxes: a row that a call makes and hands back; an element of a row of the call's own stored into; what lay there before, one block of it turned (a map of the call's own); cells read from anywhere; a region's last operations; single bits of a mask. No program in it. -/
namespace Go.Proofs.YtbkdenlhfigjhaaDoor
open Go.RowKit Go.Shelf Km Kx

/-- a call that makes a row and hands it back -/
theorem Kx.Bxs.callRow {w0 w w' : World} {l : List (Nat × List Value)} {r : List Rw} {F : Fz} (h : Bxs w0 w l r F) (hb : Below w.heap.size w w') {A : Option Addr} {n cap k : Nat} {e : TypeId} {xs : List Value} (hy : w'.ownsRow w.heap.size e k (.slice A n cap) n xs) : Bxs w0 w' l (⟨A, cap, e, k, n, xs⟩ :: r) F := by
  have h2 := h.call hb
  have hlt : ∀ g, (Value.slice A n cap).ownBlock = some g → w.heap.size ≤ g := fun g hg => (hy.lt g hg).1
  refine ⟨h2.below, h2.nodup, h2.each, fun x hx => ?_, List.pairwise_cons.2 ⟨fun x hx g e q => ?_, h2.apart⟩, fun q hq => (h.stay q hq).to fun g g1 g2 g3 => ⟨hb.block g g1, Nat.lt_of_lt_of_le g1 hb.size, g2, fun z hz => by
    rcases List.mem_cons.1 hz with rfl | hz
    · intro e; have := hlt g e; omega
    · exact g3 z hz⟩⟩
  · rcases List.mem_cons.1 hx with rfl | hx
    · exact ⟨World.ownsRow.mono hy h.size, fun p hp e => by have := (h.each p hp).2.1; have := hlt _ e; omega⟩
    · exact h2.rows x hx
  · have h3 := hlt g e
    have h4 := ((h.rows x hx).1.lt q).2
    omega
/-- what is stored into a row of the call's own -/
theorem Kx.Rw.own.stored {x : Rw} {w0 w : World} (h : x.own w0 w) {g : Nat} (hA : x.A = some ⟨g, 0, none⟩) (o : Nat) (cs : List Value) :
    ∃ ys, (o + cs.length ≤ x.xs.length → ys = splice x.xs o cs) ∧ Rw.own ⟨x.A, x.cap, x.e, x.k, x.n, ys⟩ w0 (w.setCells g o cs) ∧ w.grownBy (w.setCells g o cs) (some g) := by
  obtain ⟨A, cap, e, k, n, xs⟩ := x
  dsimp only at hA
  subst hA
  induction cs generalizing w o xs with
  | nil => exact ⟨xs, fun q => by unfold splice; simp, h, World.grownBy.refl _ _⟩
  | cons u cs ih =>
    have h1 := World.ownsRow.stored h o u
    obtain ⟨ys, e1, e2, e3⟩ := ih (w := w.setCell ⟨g, o, none⟩ u) (o + 1) (xs.set o u) h1.1
    refine ⟨ys, fun q => ?_, e2, h1.2.trans e3⟩
    dsimp only at e1 q ⊢
    rw [List.length_cons] at q
    rw [e1 (by rw [List.length_set]; omega)]
    unfold splice
    rw [List.take_set, List.drop_set_of_lt (by omega), List.length_cons, show o + 1 + cs.length = o + (cs.length + 1) by omega, List.take_add_one, List.getElem?_eq_getElem (show o < xs.length by omega)]
    rw [List.set_append_right _ _ (by rw [List.length_take]; omega), List.length_take, show o - min o xs.length = 0 by omega]
    simp
theorem Kx.Bxs.rowSet {w0 w : World} {l : List (Nat × List Value)} {r r' : List Rw} {F : Fz} {g cap k n o : Nat} {e : TypeId} {xs cs : List Value} (h : Bxs w0 w l r F) (ht : RowTo ⟨some ⟨g, 0, none⟩, cap, e, k, n, xs⟩ ⟨some ⟨g, 0, none⟩, cap, e, k, n, splice xs o cs⟩ r r') (ho : o + cs.length ≤ xs.length) : Bxs w0 (w.setCells g o cs) l r' F := by
  have hx := h.rows _ ht.mem
  obtain ⟨ys, e1, e2, e3⟩ := Rw.own.stored hx.1 rfl o cs
  rw [e1 ho] at e2
  exact h.rowTo ht e3 e2 (.inl rfl)
theorem Kx.Rw.own.there {x : Rw} {w0 w : World} (h : x.own w0 w) {g : Nat} (hA : x.A = some ⟨g, 0, none⟩) (o n : Nat) (hn : o + n ≤ x.xs.length) : w.there g o n := by
  obtain ⟨A, cap, e, k, m, xs⟩ := x
  dsimp only at hA hn
  subst hA
  intro j hj
  have hl : xs.length = m * k := h.1
  have h2 := World.ownsRow.cellAt h (o + j) (by dsimp only; rw [← hl]; omega)
  dsimp only at h2
  refine ⟨?_, World.ownsRow.frozenAt h (o + j)⟩
  rw [h2, List.getElem?_eq_getElem (by omega)]; rfl
/-- a struct stored into a row of the call's own -/
theorem wpList_storeRow_x {P : Program} {ops : Array Oper} {rest : List Oper} {op : Oper} {a : Act} {w w0 : World} {l : List (Nat × List Value)} {r r' : List Rw} {F : Fz} {Q : Exit → Act → World → Prop} (hB : Hid (Bxs w0 w l r F)) (hgd : op.guard = none) (hd : op.dst = none) (ty : TypeId) (x y : Operand) (ho : op.op = .store ty x y)
    (g o : Nat) (hx : a.eval x = .pointer (some ⟨g, o, none⟩)) (cs : List Value) (hy : a.eval y = .agg cs.toArray) {cap k n : Nat} {e : TypeId} {xs ys : List Value} (ht : RowTo ⟨some ⟨g, 0, none⟩, cap, e, k, n, xs⟩ ⟨some ⟨g, 0, none⟩, cap, e, k, n, ys⟩ r r') (hys : splice xs o cs = ys) (hl : o + cs.length ≤ xs.length)
    (hS : (sizeOf ty).run P w = .ok cs.length w) (h1 : cs.all (·.oneCell') = true)
    (h : ∀ w', Hid (Bxs w0 w' l r' F) → wpList P ops Q rest a w') : wpList P ops Q (op :: rest) a w :=
  wpList_plain hgd fun K hK => by
    subst hys
    have hown := (hB.out.rows _ ht.mem).1
    unfold Oper.wp execOp
    simp only [ho, hx, hy, Instr.storeAt, Instr.sureAddr, Sem.run_bind, Sem.run_pure, Result.andThen_ok, run_storeVar_x w g o ty (.agg cs.toArray) cs rfl (Rw.own.there hown rfl o cs.length hl) (info_of hS) h1]
    have := hK _ _ (h _ (Lib.hid (hB.out.rowSet ht hl)))
    show K (a.put op.dst undef) _
    rw [hd]
    exact this
/-- what reads alone, when it alone is ready -/
theorem anyW_last {P : Program} {ops : Array Oper} {md : Region.Mode} {Q : Exit → Act → World → Prop} {C : World → Prop} {D : Nat → Bool} {i : Nat} {oi : Oper} {v : Value} {listed : Array Bool} {a a' : Act} {n : Nat} (hC : BearsC C) (hi : ops[i]? = some oi) (hr : Region.ready md ops listed = [i])
    (hn : Region.wanted oi (yielded ops a.tmps) = true) (hy : ∀ w, C w → (execOp a.eval oi).run P w = .ok (.value v) w) (ha : a.put oi.dst v = a')
    (h : anyW P md ops Q C D n (listed.setIfInBounds i true) (At a' C)) : anyW P md ops Q C D (n + 1) listed (At a C) :=
  anyW_one (At a' C) (At.bears hC) hi hr hn (.inr fun _ _ k => k.2) (fun w hw => by unfold Oper.wp; rw [hy w hw]; exact ⟨ha, hw⟩) h
/-- a call that makes a row and hands it back, when it alone is ready -/
theorem anyW_callRow_x {P : Program} {ops : Array Oper} {md : Region.Mode} {Q : Exit → Act → World → Prop} {D : Nat → Bool} {w0 : World} {l : List (Nat × List Value)} {r : List Rw} {F : Fz} {i : Nat} {oi : Oper} {listed : Array Bool} {a : Act} {n : Nat} {f : FuncId} {args : Array Value} (m k : Nat) (e : TypeId) (xs : List Value)
    (hi : ops[i]? = some oi) (hr : Region.ready md ops listed = [i]) (hn : Region.wanted oi (yielded ops a.tmps) = true) (d : Nat) (hdst : oi.dst = some d) (hE : ∀ w, Bxs w0 w l r F → (execOp a.eval oi).run P w = .ok (.enter f args) w)
    (hc : ∀ w, Bxs w0 w l r F → Calls P f args w fun en w' => ∃ A' c', en = .returned (.slice A' m c') ∧ Below w.heap.size w w' ∧ w'.ownsRow w.heap.size e k (.slice A' m c') m xs)
    (h : ∀ A' c', anyW P md ops Q (fun w' => Bxs w0 w' l (⟨A', c', e, k, m, xs⟩ :: r) F) D n (listed.setIfInBounds i true) (At (a.put (some d) (.slice A' m c')) (fun w' => Bxs w0 w' l (⟨A', c', e, k, m, xs⟩ :: r) F))) :
    anyW P md ops Q (fun w' => Bxs w0 w' l r F) D (n + 1) listed (At a (fun w' => Bxs w0 w' l r F)) :=
  anyW_one (fun a' w' => ∃ p : Option Addr × Nat, At (a.put (some d) (.slice p.1 m p.2)) (fun w' => Bxs w0 w' l (⟨p.1, p.2, e, k, m, xs⟩ :: r) F) a' w') (fun _ _ _ ⟨p, q, q2⟩ hb => ⟨p, q, q2.call hb⟩) hi hr hn (.inr fun _ _ ⟨_, _, q⟩ => q.rowTail)
    (fun w hw => by
      unfold Oper.wp
      rw [hE w hw]
      simp only [Oper.upon]
      refine (hc w hw).mono ?_
      rintro en w'' ⟨A', c', rfl, hb, ho⟩
      exact ⟨(A', c'), by rw [hdst], hw.callRow hb ho⟩)
    (anyW_union ((none, 0) : Option Addr × Nat) fun p => anyW_wider (fun _ q => q.rowTail) (h p.1 p.2))
/-- one cell from anywhere, as a region that draws asks it -/
theorem tells_cell {P : Program} {w : World} {f : Operand → Value} {d : Option Tmp} {ty t2 : TypeId} {x : Operand} {pos : String} {af : Array Edge} {g : Option (Nat × Bool)} {v : Value} (ad : Addr) (hx : f x = .pointer (some ad))
    (hA : (isAgg ty).run P w = .ok false w) (hc : w.cell? ad = some v) : (execOp f (Oper.mk d (.load ty x) t2 pos af g)).run P w = .ok (.value v) w := by
  unfold execOp
  simp only [hx, Instr.loadAt, Instr.sureAddr, Sem.run_bind, Sem.run_pure, Result.andThen_ok, run_loadVar_one w ad ty v hc (row_of hA)]
/-- a whole value from anywhere, where the guard holds -/
theorem wpList_loadg_any {P : Program} {ops : Array Oper} {rest : List Oper} {op : Oper} {a : Act} {w : World} {Q : Exit → Act → World → Prop} (ty : TypeId) (x : Operand) (ho : op.op = .load ty x)
    (ad : Addr) (hx : a.eval x = .pointer (some ad)) (cs : List Value) (d : TypeDesc) (hc : ∀ j v, cs[j]? = some v → w.cell? (ad.add j) = some v) (hu : P.underlying ty = some d) (hd : d.isRow = true) (hi : (P.info? ty).map (·.size) = some cs.length) (hn : Region.wanted op (yielded ops a.tmps) = true)
    (h : wpList P ops Q rest (a.put op.dst (.agg cs.toArray)) w) : wpList P ops Q (op :: rest) a w :=
  wpList_step fun _ hK => by
    have hl : (loadCells ad cs.length).run P w = .ok cs.toArray w := run_loadCells_list (P := P) w ad cs hc
    have hv : (loadVar ty ad).run P w = .ok (.agg cs.toArray) w := by
      cases hq : P.info? ty with
      | none => simp [hq] at hi
      | some i =>
        have hs : i.size = cs.length := by simpa [hq] using hi
        have hagg : (isAgg ty).run P w = .ok true w := by
          unfold isAgg
          rw [Sem.run_bind, run_underlying hu w]
          cases d <;> simp_all
        simp [loadVar, Sem.run_bind, hagg, sizeOf, typeInfo, hq, hs, hl]
    simp only [hn, if_true]
    unfold Oper.wp execOp
    simp only [ho, hx, Instr.loadAt, Instr.sureAddr, Sem.run_bind, Sem.run_pure, Result.andThen_ok, hv]
    exact hK _ _ h
/-- one cell from anywhere, where the guard holds -/
theorem wpList_loadg_cell {P : Program} {ops : Array Oper} {rest : List Oper} {op : Oper} {a : Act} {w : World} {Q : Exit → Act → World → Prop} (ty : TypeId) (x : Operand) (ho : op.op = .load ty x) (ad : Addr) (hx : a.eval x = .pointer (some ad)) (hA : (isAgg ty).run P w = .ok false w) (v' : Value) (hc : w.cell? ad = some v') (hn : Region.wanted op (yielded ops a.tmps) = true)
    (h : wpList P ops Q rest (a.put op.dst v') w) : wpList P ops Q (op :: rest) a w :=
  wpList_step fun K hK => by
    simp only [hn, if_true]
    unfold Oper.wp execOp
    simp only [ho, hx, Instr.loadAt, Instr.sureAddr, Sem.run_bind, Sem.run_pure, Result.andThen_ok, run_loadVar_one w ad ty v' hc (row_of hA)]
    exact hK _ _ h
/-- what lay there before, with one block of it turned -/
theorem Kx.Bxs.rebase {w1 W W' : World} {l : List (Nat × List Value)} {bm : Nat} (h : Bxs w1 W l) (hg : W.grownBy W' (some bm)) (hb : bm < w1.heap.size) :
    ∃ w2 : World, w2.heap.size = w1.heap.size ∧ Bxs w2 W' l ∧ w2.heap[bm]? = W'.heap[bm]? ∧ w1.grownBy w2 (some bm) := by
  have hlt : bm < W'.heap.size := Nat.lt_of_lt_of_le hb (Nat.le_trans h.size hg.size)
  obtain ⟨o, ho⟩ : ∃ o, W'.heap[bm]? = some o := ⟨_, Array.getElem?_eq_getElem hlt⟩
  have hs : ({ w1 with heap := w1.heap.setIfInBounds bm o } : World).heap[bm]? = W'.heap[bm]? := by
    show (w1.heap.setIfInBounds bm o)[bm]? = _
    rw [Array.getElem?_setIfInBounds_self_of_lt hb, ho]
  have hn : ∀ k, k ≠ bm → ({ w1 with heap := w1.heap.setIfInBounds bm o } : World).heap[k]? = w1.heap[k]? := fun k hk => by
    show (w1.heap.setIfInBounds bm o)[k]? = _
    rw [Array.getElem?_setIfInBounds_ne (Ne.symm hk)]
  refine ⟨{ w1 with heap := w1.heap.setIfInBounds bm o }, by simp, ⟨⟨hg.os.trans h.below.os, hg.tape.trans h.below.tape, hg.output.trans h.below.output, ?_, fun k hk => ?_⟩, h.nodup, fun p hp => ?_, (fun _ hp => absurd hp List.not_mem_nil), List.Pairwise.nil, (fun _ hq => absurd hq List.not_mem_nil)⟩, hs, rfl, rfl, rfl, ?_, fun k _ hk => hn k (fun e => hk (by rw [e]))⟩
  · show (w1.heap.setIfInBounds bm o).size ≤ _
    rw [Array.size_setIfInBounds]
    exact Nat.le_trans h.size hg.size
  · have hk' : k < w1.heap.size := by
      have : k < (w1.heap.setIfInBounds bm o).size := hk
      rwa [Array.size_setIfInBounds] at this
    by_cases e : k = bm
    · subst e; exact hs.symm
    · rw [hn k e, hg.block k (Nat.lt_of_lt_of_le hk' h.size) (fun q => e (Option.some.inj q)), h.below.block k hk']
  · obtain ⟨h1, h2, h3, h4⟩ := h.each p hp
    have hbl : W'.heap[p.1]? = W.heap[p.1]? := hg.block _ h2 (fun q => by have := Option.some.inj q; omega)
    refine ⟨by show (w1.heap.setIfInBounds bm o).size ≤ _; rw [Array.size_setIfInBounds]; exact h1, Nat.lt_of_lt_of_le h2 hg.size, fun j v hv => (World.cell?_of_block hbl).trans (h3 j v hv), fun j hj => ⟨by rw [World.cell?_of_block hbl]; exact (h4 j hj).1, by rw [World.frozen?_of_block hbl]; exact (h4 j hj).2⟩⟩
  · show _ ≤ (w1.heap.setIfInBounds bm o).size
    rw [Array.size_setIfInBounds]
    exact Nat.le_refl _
/-- one bit -/
theorem bit_of {u : Nat} (hu : u < 18446744073709551616) (k : Nat) : bits BinOp.and IntKind.u64 ((u : Int) / 2 ^ k) 1 = ((u.testBit k).toNat : Int) := by
  have e : ((u : Int) / 2 ^ k) = ((u / 2 ^ k : Nat) : Int) := by simp
  have hd : u.testBit k = decide (u / 2 ^ k % 2 = 1) := Nat.testBit_eq_decide_div_mod_eq
  have hle : u / 2 ^ k ≤ u := Nat.div_le_self _ _
  generalize u / 2 ^ k = q at *
  rw [e, and_one_u64 _ (by omega) (by omega), hd]
  have h2 : q % 2 = 0 ∨ q % 2 = 1 := by omega
  rcases h2 with h | h <;> rw [h] <;> simp <;> omega
/-- one bit more -/
theorem or_bit {m k : Nat} (hm : m < 18446744073709551616) (hk : k < 64) : bits BinOp.or IntKind.u64 (m : Int) (IntKind.u64.wrap (2 ^ k)) = ((m ||| 2 ^ k : Nat) : Int) := by
  have e : ((2 : Int) ^ k) = ((2 ^ k : Nat) : Int) := by simp
  have hp : 2 ^ k < 18446744073709551616 := by
    rw [show (18446744073709551616 : Nat) = 2 ^ 64 from rfl]; exact Nat.pow_lt_pow_right (by decide) hk
  generalize 2 ^ k = q at *
  rw [e]
  have hw : IntKind.u64.wrap (q : Int) = (q : Int) := by rw [IntKind.wrap_u64]; omega
  rw [hw, u64_or _ _ (by omega) (by omega) (by omega) (by omega)]
  simp
theorem pow_small {k : Nat} (hk : k < 64) : 2 ^ k < 18446744073709551616 := by
  rw [show (18446744073709551616 : Nat) = 2 ^ 64 from rfl]; exact Nat.pow_lt_pow_right (by decide) hk
theorem and_pow (u k : Nat) : u &&& 2 ^ k = if u.testBit k = true then 2 ^ k else 0 := by
  apply Nat.eq_of_testBit_eq
  intro j
  rw [Nat.testBit_and, Nat.testBit_two_pow]
  by_cases e : k = j
  · subst e
    rw [decide_eq_true rfl, Bool.and_true]
    split
    · rename_i h; rw [h, Nat.testBit_two_pow_self]
    · rename_i h; rw [Nat.zero_testBit]; simpa using h
  · rw [decide_eq_false e, Bool.and_false]
    split
    · rw [Nat.testBit_two_pow, decide_eq_false e]
    · rw [Nat.zero_testBit]
/-- a bit of a mask, asked -/
theorem bit_asked {k : Nat} (hk : k < 64) : ∃ X : Nat, 0 < X ∧ IntKind.u64.wrap ((2 : Int) ^ k) = (X : Int) ∧ ∀ u : Nat, u < 18446744073709551616 → (u.testBit k = true → bits BinOp.and IntKind.u64 (u : Int) (X : Int) = (X : Int)) ∧ (u.testBit k = false → bits BinOp.and IntKind.u64 (u : Int) (X : Int) = 0) := by
  have e : ((2 : Int) ^ k) = ((2 ^ k : Nat) : Int) := by simp
  refine ⟨2 ^ k, Nat.two_pow_pos k, ?_, fun u hu => ?_⟩
  · have := pow_small hk
    rw [e]
    generalize 2 ^ k = q at *
    rw [IntKind.wrap_u64]; omega
  · rw [u64_and_nat u (2 ^ k) hu (pow_small hk), and_pow]
    exact ⟨fun h => by rw [if_pos h], fun h => by rw [h]; rfl⟩
theorem wf_one {k : IntKind} {lo hi a : Int} (h1 : k.min = lo) (h2 : k.max = hi) (h : (Lit.int k a).wf = true) : lo ≤ a ∧ a ≤ hi := by
  simp [Lit.wf, h1, h2] at h; exact h
end Go.Proofs.YtbkdenlhfigjhaaDoor

/- Rows of structs, flat: elements of k cells each. No program in it. -/
namespace Go.Proofs.YtbkdenlhfigjhaaDoor.Kt
open Go.RowKit Km Kx

section
variable {α : Type} {f : α → List Value} {k : Nat}
def cat (f : α → List Value) (l : List α) : List Value := l.flatMap f
theorem cat_nil : cat f [] = [] := rfl
theorem cat_cons (a : α) (l : List α) : cat f (a :: l) = f a ++ cat f l := rfl
theorem cat_one (a : α) : cat f [a] = f a := by show f a ++ [] = f a; rw [List.append_nil]
theorem cat_app (a b : List α) : cat f (a ++ b) = cat f a ++ cat f b := List.flatMap_append
theorem cat_len (hf : ∀ a, (f a).length = k) (l : List α) : (cat f l).length = l.length * k := by
  induction l with
  | nil => simp [cat]
  | cons a l ih => rw [cat_cons, List.length_append, hf, ih, List.length_cons, Nat.succ_mul]; omega
theorem cat_drop (hf : ∀ a, (f a).length = k) (l : List α) (i : Nat) : (cat f l).drop (i * k) = cat f (l.drop i) := by
  induction i generalizing l with
  | zero => simp
  | succ i ih =>
    cases l with
    | nil => simp [cat]
    | cons a l => rw [Nat.succ_mul, Nat.add_comm, cat_cons, List.drop_succ_cons, ← ih, ← List.drop_drop]; congr 1; rw [← hf a, List.drop_left]
theorem cat_get (hf : ∀ a, (f a).length = k) {l : List α} {i : Nat} {a : α} (h : l[i]? = some a) {j : Nat} {u : Value} (hj : (f a)[j]? = some u) : (cat f l)[i * k + j]? = some u := by
  have h2 : cat f (l.drop i) = f a ++ cat f (l.drop (i + 1)) := by
    obtain ⟨hk, rfl⟩ := List.getElem?_eq_some_iff.1 h
    rw [List.drop_eq_getElem_cons hk]; rfl
  rw [← List.getElem?_drop, cat_drop hf, h2, List.getElem?_append_left (List.getElem?_eq_some_iff.1 hj).1]
  exact hj
theorem cat_at (hf : ∀ a, (f a).length = k) (hk : 0 < k) {l : List α} {j : Nat} {u : Value} (h : (cat f l)[j]? = some u) : ∃ a, l[j / k]? = some a ∧ (f a)[j % k]? = some u := by
  have hj : j < l.length * k := by have := (List.getElem?_eq_some_iff.1 h).1; rwa [cat_len hf] at this
  have hd : j / k < l.length := (Nat.div_lt_iff_lt_mul hk).2 hj
  refine ⟨l[j / k], List.getElem?_eq_getElem hd, ?_⟩
  have hm : j % k < k := Nat.mod_lt _ hk
  obtain ⟨x, hx⟩ : ∃ x, (f l[j / k])[j % k]? = some x := ⟨(f l[j / k])[j % k]'(by rw [hf]; exact hm), List.getElem?_eq_getElem _⟩
  have h3 := cat_get hf (List.getElem?_eq_getElem hd) hx
  rw [Nat.div_add_mod' j k] at h3
  rw [h3] at h
  rw [hx, h]
theorem cat_cells (h1 : ∀ a, ∀ u ∈ f a, u.oneCell' = true) (l : List α) : ∀ u ∈ cat f l, u.oneCell' = true := fun u hu => by
  obtain ⟨a, _, ha⟩ := List.mem_flatMap.1 hu
  exact h1 a u ha
/-- one cell of one element, in memory -/
theorem Rd.part {w : World} {B : Nat} {A : Option Addr} {l : List α} (hf : ∀ a, (f a).length = k) (hr : Rd w B A (cat f l)) {i : Nat} {a : α} (h : l[i]? = some a) (hk : 0 < k) : ∃ ad, A = some ad ∧ ad.block < B ∧ ∀ j u, (f a)[j]? = some u → w.cell? (ad.add (i * k + j)) = some u := by
  obtain ⟨u, hu⟩ : ∃ u, (f a)[0]? = some u := ⟨(f a)[0]'(by rw [hf]; exact hk), List.getElem?_eq_getElem _⟩
  obtain ⟨ad, e, hb, -⟩ := hr _ _ (cat_get hf h hu)
  refine ⟨ad, e, hb, fun j u hj => ?_⟩
  obtain ⟨ad', e', _, hc⟩ := hr _ _ (cat_get hf h hj)
  rw [e] at e'
  cases e'
  exact hc
end
end Go.Proofs.YtbkdenlhfigjhaaDoor.Kt

/- A region that draws its order and holds a call whose answer the world decides (an address that the call makes), beside an allocation: both orders. No program in it. -/
namespace Go.Proofs.YtbkdenlhfigjhaaDoor
open Go Go.RowKit Go.Shelf Km Kx

section
variable {P : Program} {ops : Array Oper} {md : Region.Mode} {Q : Exit → Act → World → Prop} {C : World → Prop} {D : Nat → Bool}
/-- operation i taken now, and what follows -/
def AtW (P : Program) (md : Region.Mode) (ops : Array Oper) (Q : Exit → Act → World → Prop) (C : World → Prop) (D : Nat → Bool) (n : Nat) (listed : Array Bool) (S : Act → World → Prop) (i : Nat) : Prop :=
  ∃ S', Bears S' ∧ (D i = true ∨ ∀ a w, S' a w → C w) ∧ (∀ a w, S a w → wpOp P ops Q i S' a w) ∧ anyW P md ops Q C D n (listed.setIfInBounds i true) S'
theorem anyW_at {i : Nat} {listed : Array Bool} {S : Act → World → Prop} {n : Nat} (hr : Region.ready md ops listed = [i]) (h : AtW P md ops Q C D n listed S i) : anyW P md ops Q C D (n + 1) listed S :=
  ⟨fun e => (by rw [hr] at e; cases e), fun j hj => by
    rw [hr, List.mem_singleton] at hj
    subst hj; exact h⟩
theorem anyW_two {i j : Nat} {listed : Array Bool} {S : Act → World → Prop} {n : Nat} (hr : Region.ready md ops listed = [i, j]) (h1 : AtW P md ops Q C D n listed S i) (h2 : AtW P md ops Q C D n listed S j) : anyW P md ops Q C D (n + 1) listed S :=
  ⟨fun e => (by rw [hr] at e; cases e), fun q hq => by
    rw [hr] at hq
    rcases List.mem_cons.1 hq with rfl | hq
    · exact h1
    · rw [List.mem_singleton] at hq
      subst hq; exact h2⟩
/-- a call that answers one of v y, in a world of C' y -/
theorem AtW.call {α : Type} (y0 : α) (v : α → Value) (C' : α → World → Prop) {i : Nat} {oi : Oper} {listed : Array Bool} {a : Act} {n : Nat} {f : FuncId} {args : Array Value} (hb : ∀ y, BearsC (C' y)) (hs : ∀ y w, C' y w → C w)
    (hi : ops[i]? = some oi) (hn : Region.wanted oi (yielded ops a.tmps) = true) (d : Nat) (hdst : oi.dst = some d) (hE : ∀ w, C w → (execOp a.eval oi).run P w = .ok (.enter f args) w)
    (hc : ∀ w, C w → Calls P f args w fun en w' => ∃ y, en = .returned (v y) ∧ C' y w')
    (h : ∀ y, anyW P md ops Q (C' y) D n (listed.setIfInBounds i true) (At (a.put (some d) (v y)) (C' y))) : AtW P md ops Q C D n listed (At a C) i :=
  ⟨fun a' w' => ∃ y, At (a.put (some d) (v y)) (C' y) a' w', fun _ _ _ ⟨y, q, q2⟩ hw => ⟨y, q, hb y _ _ q2 hw⟩, .inr fun _ _ ⟨y, _, q⟩ => hs y _ q, fun a' w k => by
      obtain ⟨rfl, k⟩ := k
      simp only [wpOp, hi, hn, if_true]
      refine .inl ?_
      unfold Oper.wp
      rw [hE w k]
      simp only [Oper.upon]
      refine (hc w k).mono ?_
      rintro en w'' ⟨y, rfl, hy⟩
      exact ⟨y, by rw [hdst], hy⟩, anyW_union y0 fun y => anyW_wider (hs y) (h y)⟩
/-- an allocation -/
theorem AtW.alloc {w0 : World} {l : List (Nat × List Value)} {r : List Rw} {F : Fz} {i : Nat} {oi : Oper} {listed : Array Bool} {a : Act} {n : Nat} (hi : ops[i]? = some oi) (hn : Region.wanted oi (yielded ops a.tmps) = true)
    (d : Nat) (hdst : oi.dst = some d) (ty : TypeId) (ho : oi.op = .alloc ty) (cs : List Value) (hz : ∀ w, (zeroValue ty).run P w = .ok (.agg cs.toArray) w)
    (h : ∀ b, anyW P md ops Q (fun w' => Bxs w0 w' ((b, cs) :: l) r F) D n (listed.setIfInBounds i true) (At (a.put (some d) (.pointer (some ⟨b, 0, none⟩))) (fun w' => Bxs w0 w' ((b, cs) :: l) r F))) :
    AtW P md ops Q (fun w' => Bxs w0 w' l r F) D n listed (At a (fun w' => Bxs w0 w' l r F)) i :=
  ⟨fun a' w' => ∃ b : Nat, At (a.put (some d) (.pointer (some ⟨b, 0, none⟩))) (fun w' => Bxs w0 w' ((b, cs) :: l) r F) a' w', fun _ _ _ ⟨b, k, k2⟩ hb => ⟨b, k, k2.call hb⟩, .inr fun _ _ ⟨_, _, k⟩ => k.tail, fun a' w k => by
      obtain ⟨rfl, k⟩ := k
      simp only [wpOp, hi, hn, if_true]
      exact .inl (wp_alloc_x k ty ho _ cs (hz w) rfl fun b _ hw' => ⟨b, by rw [hdst], hw'⟩), anyW_union 0 fun b => anyW_wider (fun _ k => k.tail) (h b)⟩
end
/-- two rows that a call hands back -/
theorem Kx.Bxs.stayNew2 {w0 w w' : World} {l : List (Nat × List Value)} {r : List Rw} {F G : Fz} (h : Bxs w0 w l r F) (hb : Below w.heap.size w w') {A A2 : Option Addr} {xs ys : List Value} (hn : New w w' G A xs) (hn2 : New w w' G A2 ys) (hG : ∀ q ∈ G, q ∈ F) : Bxs w0 w' l r ((A, xs) :: (A2, ys) :: F) := by
  have h1 := h.stayNew hb hn hG
  have h2 := h.stayNew hb hn2 hG
  refine ⟨h1.below, h1.nodup, h1.each, h1.rows, h1.apart, fun q hq => ?_⟩
  rcases List.mem_cons.1 hq with rfl | hq
  · exact h1.stay _ (List.mem_cons_self ..)
  · exact h2.stay q hq
theorem Kx.Bxs.newHead {w0 w : World} {l : List (Nat × List Value)} {r : List Rw} {F G : Fz} {x : Rw} (h : Bxs w0 w l (x :: r) F) : New w0 w G x.A x.xs := by
  obtain ⟨A, cap, e, k, n, xs⟩ := x
  exact h.newRow (A := A)
theorem Kx.bears_c {w0 : World} {l : List (Nat × List Value)} {r : List Rw} {F : Fz} (R : Prop) : BearsC (fun w' => Bxs w0 w' l r F ∧ R) := fun _ _ h hb => ⟨h.1.call hb, h.2⟩

/-! a slice of one struct, written out -/
theorem fold_fill (l : List Value) : ∀ (m : Nat) (z : Array Value), m + l.length ≤ z.size →
    ((l.zipIdx m).foldl (fun cs x => cs.setIfInBounds (0 + x.2) x.1) z).size = z.size ∧ ∀ i, ((l.zipIdx m).foldl (fun cs x => cs.setIfInBounds (0 + x.2) x.1) z)[i]? = if m ≤ i ∧ i < m + l.length then l[i - m]? else z[i]? := by
  induction l with
  | nil => intro m z _; exact ⟨rfl, fun i => by rw [if_neg (by rw [List.length_nil]; omega)]; rfl⟩
  | cons c l ih =>
    intro m z h
    rw [List.length_cons] at h
    obtain ⟨h1, h2⟩ := ih (m + 1) (z.setIfInBounds (0 + m) c) (by rw [Array.size_setIfInBounds]; omega)
    rw [List.zipIdx_cons, List.foldl_cons]
    refine ⟨h1.trans (Array.size_setIfInBounds ..), fun i => ?_⟩
    rw [h2 i, List.length_cons]
    by_cases e : i = m
    · subst e
      rw [if_neg (by omega), if_pos (by omega), Nat.zero_add, Array.getElem?_setIfInBounds_self_of_lt (by omega), Nat.sub_self]; rfl
    · by_cases h3 : m + 1 ≤ i ∧ i < m + 1 + l.length
      · rw [if_pos h3, if_pos (by omega), show i - m = i - (m + 1) + 1 by omega]; rfl
      · rw [if_neg h3, if_neg (by omega), Nat.zero_add, Array.getElem?_setIfInBounds_ne (Ne.symm e)]
theorem fill_one (l : List Value) (z : Array Value) (h : l.length = z.size) : (l.zipIdx.foldl (fun cs x => cs.setIfInBounds (0 + x.2) x.1) z) = l.toArray := by
  obtain ⟨h1, h2⟩ := fold_fill l 0 z (by omega)
  apply Array.ext_getElem?
  intro i
  rw [h2 i]
  by_cases hi : i < l.length
  · rw [if_pos (by omega)]; simp
  · rw [if_neg (by omega), Array.getElem?_eq_none (by omega), Array.getElem?_eq_none (by simp; omega)]
theorem slice1_gate {P : Program} {ops : Array Oper} {rest : List Oper} {a : Act} {w : World} {Q : Exit → Act → World → Prop} {d : Option Tmp} {t ty : TypeId} {x : Operand} {pos : String} {af : Array Edge} (h : wpList P ops Q (Oper.mk d (.buildSlice t 1 #[(0, x)]) ty pos af none :: rest) a w) : wpList P ops Q (Oper.mk d (.buildSlice t 1 #[(0, x)]) ty pos af none :: rest) a w := h
theorem run_slice1 {P : Program} (w : World) (t e : TypeId) (z : Value) (cs : List Value) (hu : P.underlying t = some (.slice e)) (hS : (sizeOf e).run P w = .ok cs.length w) (hZ : (zeroValue e).run P w = .ok z w) (h0 : 0 < cs.length) (h1 : cs.length ≤ 65536) :
    (Instr.buildSlice t 1 #[(0, .agg cs.toArray)]).run P w = .ok (.slice (some ⟨w.heap.size, 0, none⟩) 1 1) (w.alloc (.cells cs.toArray e)) := by
  have hf : ∀ Z : Array Value, Z.size = cs.length → Instr.fill (fun i => some (i * cs.length, cs.length)) Z [(0, .agg cs.toArray)] = some cs.toArray := fun Z hZ => by
    have h5 := fill_one cs Z hZ.symm
    have h6 : (Value.agg cs.toArray).cells = cs.toArray := rfl
    unfold Instr.fill
    simp only [Nat.zero_mul, h6, List.size_toArray, ne_eq, not_true_eq_false, Bool.false_eq_true, hZ, Nat.zero_add, Nat.lt_irrefl, gt_iff_lt, decide_false, Bool.or_self, if_false]
    unfold Instr.fill
    simp only [Nat.zero_add] at h5
    simpa using h5
  have h2 : ¬ 1 * cs.length > 2 ^ 24 := by omega
  have h3 : ¬ 1 * cs.length = 0 := by omega
  have h4 := hf ((Array.range (1 * cs.length)).map (z.cells[· % z.cells.size]!)) (by simp)
  simp only [Instr.buildSlice, Sem.run_bind, run_underlying hu, Result.andThen_ok, hS, h2, h3, if_false, hZ, Sem.run_pure, h4, newRow]
  rfl
section
variable {P : Program} {ops : Array Oper} {rest : List Oper} {op : Oper} {a : Act} {w w0 : World} {l : List (Nat × List Value)} {r : List Rw} {F : Fz} {Q : Exit → Act → World → Prop}
theorem wp_slice1 (hgd : op.guard = none) (t e : TypeId) (x : Operand) (ho : op.op = .buildSlice t 1 #[(0, x)]) (cs : List Value) (hx : a.eval x = .agg cs.toArray) (z : Value) (hu : P.underlying t = some (.slice e)) (hS : (sizeOf e).run P w = .ok cs.length w) (hZ : (zeroValue e).run P w = .ok z w) (h0 : 0 < cs.length) (h1 : cs.length ≤ 65536)
    (h : wpList P ops Q rest (a.put op.dst (.slice (some ⟨w.heap.size, 0, none⟩) 1 1)) (w.alloc (.cells cs.toArray e))) : wpList P ops Q (op :: rest) a w :=
  wpList_plain hgd fun K hK => by
    unfold Oper.wp execOp
    simp only [ho, List.map_toArray, List.map_cons, List.map_nil, hx, Sem.run_bind, run_slice1 w t e z cs hu hS hZ h0 h1, Result.andThen_ok, Sem.run_pure]
    exact hK _ _ h
/-- .. a row, to be appended to -/
theorem wpList_slice1r_x (hB : Hid (Bxs w0 w l r F)) (hgd : op.guard = none) (t e : TypeId) (x : Operand) (ho : op.op = .buildSlice t 1 #[(0, x)]) (k : Nat) (cs : List Value) (hx : a.eval x = .agg cs.toArray) (hk : cs.length = k) (z : Value) (hu : P.underlying t = some (.slice e)) (hS : (sizeOf e).run P w = .ok k w) (hZ : (zeroValue e).run P w = .ok z w) (h0 : 0 < k) (h1 : k ≤ 65536)
    (h : ∀ g w', Hid (Bxs w0 w' l (⟨some ⟨g, 0, none⟩, 1, e, k, 1, cs⟩ :: r) F) → wpList P ops Q rest (a.put op.dst (.slice (some ⟨g, 0, none⟩) 1 1)) w') : wpList P ops Q (op :: rest) a w := by
  subst hk
  exact wp_slice1 hgd t e x ho cs hx z hu hS hZ h0 h1 (h _ _ (Lib.hid (hB.out.row (World.grownBy_alloc w _ none) (World.ownsRow_lit w cs.toArray 1 hB.out.size (by unfold maxLen; omega) (by simp)) (.inr rfl))))
/-- .. a box -/
theorem wpList_slice1b_x (hB : Hid (Bxs w0 w l r F)) (hgd : op.guard = none) (t e : TypeId) (x : Operand) (ho : op.op = .buildSlice t 1 #[(0, x)]) (k : Nat) (cs : List Value) (hx : a.eval x = .agg cs.toArray) (hk : cs.length = k) (z : Value) (hu : P.underlying t = some (.slice e)) (hS : (sizeOf e).run P w = .ok k w) (hZ : (zeroValue e).run P w = .ok z w) (h0 : 0 < k) (h1 : k ≤ 65536)
    (h : ∀ g w', Hid (Bxs w0 w' ((g, cs) :: l) r F) → wpList P ops Q rest (a.put op.dst (.slice (some ⟨g, 0, none⟩) 1 1)) w') : wpList P ops Q (op :: rest) a w := by
  subst hk
  exact wp_slice1 hgd t e x ho cs hx z hu hS hZ h0 h1 (h _ _ (Lib.hid (hB.out.alloc cs e)))
end
/-! a variable that is made, and stored into at any time: the worlds in which it holds k cells -/
def Cu (w0 : World) (b k : Nat) (l : List (Nat × List Value)) (r : List Rw) (F : Fz) : World → Prop := fun w' => ∃ cs : List Value, cs.length = k ∧ Bxs w0 w' ((b, cs) :: l) r F
theorem bears_u {w0 : World} {b k : Nat} {l : List (Nat × List Value)} {r : List Rw} {F : Fz} : BearsC (Cu w0 b k l r F) := fun _ _ ⟨cs, e, h⟩ hb => ⟨cs, e, h.call hb⟩
section
variable {P : Program} {ops : Array Oper} {md : Region.Mode} {Q : Exit → Act → World → Prop} {D : Nat → Bool} {w0 : World} {l : List (Nat × List Value)} {r : List Rw} {F : Fz} {i : Nat} {oi : Oper} {listed : Array Bool} {a : Act} {n : Nat}
theorem AtW.allocU (hi : ops[i]? = some oi) (hn : Region.wanted oi (yielded ops a.tmps) = true) (d : Nat) (hdst : oi.dst = some d) (ty : TypeId) (ho : oi.op = .alloc ty) (k : Nat) (cs : List Value) (hk : cs.length = k) (hz : ∀ w, (zeroValue ty).run P w = .ok (.agg cs.toArray) w)
    (h : ∀ b, anyW P md ops Q (Cu w0 b k l r F) D n (listed.setIfInBounds i true) (At (a.put (some d) (.pointer (some ⟨b, 0, none⟩))) (Cu w0 b k l r F))) :
    AtW P md ops Q (fun w' => Bxs w0 w' l r F) D n listed (At a (fun w' => Bxs w0 w' l r F)) i :=
  ⟨fun a' w' => ∃ b : Nat, At (a.put (some d) (.pointer (some ⟨b, 0, none⟩))) (Cu w0 b k l r F) a' w', fun _ _ _ ⟨b, q, q2⟩ hb => ⟨b, q, bears_u _ _ q2 hb⟩, .inr fun _ _ ⟨_, _, _, _, q⟩ => q.tail, fun a' w q => by
      obtain ⟨rfl, q⟩ := q
      simp only [wpOp, hi, hn, if_true]
      exact .inl (wp_alloc_x q ty ho _ cs (hz w) rfl fun b _ hw' => ⟨b, by rw [hdst], cs, hk, hw'⟩), anyW_union 0 fun b => anyW_wider (fun _ ⟨_, _, q⟩ => q.tail) (h b)⟩
/-- the store, when it alone is left -/
theorem anyW_storeU (hi : ops[i]? = some oi) (hr : Region.ready md ops listed = [i]) (hn : Region.wanted oi (yielded ops a.tmps) = true) (hdst : oi.dst = none) (ty : TypeId) (x y : Operand) (ho : oi.op = .store ty x y) (b k : Nat) (hx : a.eval x = .pointer (some ⟨b, 0, none⟩)) (cs : List Value) (hy : a.eval y = .agg cs.toArray) (hk : cs.length = k)
    (hS : ∀ w, (sizeOf ty).run P w = .ok k w) (h1 : cs.all (·.oneCell') = true)
    (h : anyW P md ops Q (fun w' => Bxs w0 w' ((b, cs) :: l) r F) D n (listed.setIfInBounds i true) (At a (fun w' => Bxs w0 w' ((b, cs) :: l) r F))) : anyW P md ops Q (Cu w0 b k l r F) D (n + 1) listed (At a (Cu w0 b k l r F)) :=
  anyW_one (At a (fun w' => Bxs w0 w' ((b, cs) :: l) r F)) (At.bears bears_x) hi hr hn (.inr fun _ _ q => ⟨cs, hk, q.2⟩)
    (fun w hw => by
      obtain ⟨old, ho2, hw⟩ := hw
      exact wp_store_x hw ty x y ho b hx _ hy cs rfl old (by rw [splice_whole (hk.trans ho2.symm)]; exact .head _) (by omega) (by rw [hk]; exact hS w) h1 fun _ hw' => ⟨by rw [hdst]; rfl, hw'⟩) (anyW_wider (fun _ q => ⟨cs, hk, q⟩) h)
end
/-! a struct written out, where the guard holds -/
theorem buildg_gate {P : Program} {ops : Array Oper} {rest : List Oper} {a : Act} {w : World} {Q : Exit → Act → World → Prop} {d : Option Tmp} {t ty : TypeId} {x : Array (Nat × Operand)} {pos : String} {af : Array Edge} {g : Nat × Bool} (h : wpList P ops Q (Oper.mk d (.build t x) ty pos af (some g) :: rest) a w) : wpList P ops Q (Oper.mk d (.build t x) ty pos af (some g) :: rest) a w := h
theorem wpList_buildg {P : Program} {w : World} {ops : Array Oper} {rest : List Oper} {o : Oper} {a : Act} {Q : Exit → Act → World → Prop} (t : TypeId) (parts : Array (Nat × Operand)) (ho : o.op = .build t parts)
    (vs : Array (Nat × Value)) (hv : (parts.map fun p => (p.1, a.eval p.2)) = vs) (cells : Array Value) (hb : P.built t vs.toList = some cells) (hn : Region.wanted o (yielded ops a.tmps) = true) (h : wpList P ops Q rest (a.put o.dst (.agg cells)) w) : wpList P ops Q (o :: rest) a w :=
  wpList_step fun K hK => by
    simp only [hn, if_true]
    unfold Oper.wp execOp
    simp only [ho]
    have hr := run_build (P := P) w t vs cells hb
    have hv' : (parts.map fun (i, x) => (i, a.eval x)) = vs := hv
    rw [hv', Sem.run_bind, hr]
    exact hK _ _ h
end Go.Proofs.YtbkdenlhfigjhaaDoor

/- api.Config in memory, and as an argument. -/
namespace Go.Proofs.YtbkdenlhfigjhaaDoor.Kc
open Go.RowKit Go.Shelf Go.ChangeShapes Go.WideShapes Go.ChangeAt

def in64 (x : Int) : Prop := -9223372036854775808 ≤ x ∧ x ≤ 9223372036854775807
def i64s (zs : List Int) : List Value := zs.map (Value.int .i64)
structure Cf where
  f : Int
  deciders : Int
  targets : Int
  routers : Int
  observers : Int
  ta : Option Addr
  tn : Nat
  tc : Nat
  every : Int
  wait : Int
  rise : Int
  fall : Int
  fresh : Int
  l : Int
  m : Int
  dwell : Int
  d : Int
  w : Int
  b : Int
  hit : Int
  suppress : Int
  reuse : Int
  half : Int
  first : Int
  step : Int
  stepTime : Int
  s : Int
  cap : Int
  span : Int
  room : Int
  tries : Int
  retry : Int
def cf (c : Cf) : List Value := [.int .i64 c.f, .int .i64 c.deciders, .int .i64 c.targets, .int .i64 c.routers, .int .i64 c.observers, .slice c.ta c.tn c.tc,
  .int .i64 c.every, .int .i64 c.wait, .int .i64 c.rise, .int .i64 c.fall, .int .i64 c.fresh, .int .i64 c.l, .int .i64 c.m, .int .i64 c.dwell, .int .i64 c.d, .int .i64 c.w,
  .int .i64 c.b, .int .i64 c.hit, .int .i64 c.suppress, .int .i64 c.reuse, .int .i64 c.half, .int .i64 c.first, .int .i64 c.step, .int .i64 c.stepTime, .int .i64 c.s, .int .i64 c.cap,
  .int .i64 c.span, .int .i64 c.room, .int .i64 c.tries, .int .i64 c.retry]
/-- what holds of one: its numbers, and its list -/
structure CfAt (W : World) (c : Cf) (xs : List Int) : Prop where
  f : in64 c.f
  deciders : in64 c.deciders
  targets : in64 c.targets
  routers : in64 c.routers
  observers : in64 c.observers
  every : in64 c.every
  wait : in64 c.wait
  rise : in64 c.rise
  fall : in64 c.fall
  fresh : in64 c.fresh
  l : in64 c.l
  m : in64 c.m
  dwell : in64 c.dwell
  d : in64 c.d
  w : in64 c.w
  b : in64 c.b
  hit : in64 c.hit
  suppress : in64 c.suppress
  reuse : in64 c.reuse
  half : in64 c.half
  first : in64 c.first
  step : in64 c.step
  stepTime : in64 c.stepTime
  s : in64 c.s
  cap : in64 c.cap
  span : in64 c.span
  room : in64 c.room
  tries : in64 c.tries
  retry : in64 c.retry
  len : xs.length = c.tn
  le : c.tn ≤ c.tc
  max : c.tc ≤ maxLen
  fits : ∀ n ∈ xs, in64 n
  rd : Rd W W.heap.size c.ta (i64s xs)
theorem ints_cell {H : Type} {enc : TypeId × Value → H} {P : Program} {w : World} {base : Nat} {held : Bool} {t e : TypeId} {fuel : Nat} {c : Value} {x : DataW H × List MemPlace} (ht : P.underlying t = some (.slice e)) (he : P.underlying e = some (.int .i64)) (hc : P.cellsOf e = 1)
    (h : DataW.trod enc P w base (fun _ => true) held fuel t [c] = some x) : ∃ (A : Option Addr) (n cap : Nat) (xs : List Int), c = .slice A n cap ∧ Rd w w.heap.size A (i64s xs) ∧ xs.length = n ∧ n ≤ cap ∧ cap ≤ maxLen ∧ ∀ n ∈ xs, in64 n := by
  rcases open_ints ht he hc h with ⟨hcs, _⟩ | ⟨ad, l, c', zs, hcs, _, hl, hm, hz, hx, hcell, hwz⟩
  · cases hcs
    exact ⟨none, 0, 0, [], rfl, Rd.nil _ _ _, rfl, Nat.le_refl _, Nat.zero_le _, (fun _ h => absurd h List.not_mem_nil)⟩
  · cases hcs
    have hr : RowOf .i64 w (some ad) l c' zs := .inr ⟨ad, rfl, hl, hm, by simpa using hz, hcell, hwz⟩
    obtain ⟨xs, h1, h2, h3, h4, h5⟩ := row_rd hr
    exact ⟨some ad, l, c', xs, rfl, h4, h1, h2, h3, fun n hn => wf_i64 (h5 n hn)⟩
set_option maxRecDepth 100000 in
theorem cf_open {H : Type} {enc : TypeId × Value → H} {w : World} {base b0 : Nat} {held : Bool} {r : Reach} {v : Value} {d : DataW H} {p : List MemPlace} (hv : Value.okWide Tryd.prog w r b0 24 v) (h : DataW.Trod enc Tryd.prog w base (fun _ => true) held 24 v d p) :
    ∃ (y : Cf × List Int), v = .agg (cf y.1).toArray ∧ CfAt w y.1 y.2 := by
  have hu := Tryd.underlying24
  obtain ⟨cs, rfl, hsz⟩ := okWide_struct hu hv
  obtain ⟨l⟩ := cs
  have hC : Tryd.prog.cellsOf 24 = 30 := by kernel_rfl
  match l, hsz.trans hC with
  | [c0, c1, c2, c3, c4, c5, c6, c7, c8, c9, c10, c11, c12, c13, c14, c15, c16, c17, c18, c19, c20, c21, c22, c23, c24, c25, c26, c27, c28, c29], _ =>
    obtain ⟨fuel, hf⟩ := h
    obtain ⟨xs, m, _, hx, _, hlen, hg⟩ := DataW.trod_struct hu hf
    have oint64 : Tryd.prog.cellsOf 2 = 1 := by kernel_rfl
    have oint : Tryd.prog.cellsOf 3 = 1 := by kernel_rfl
    have os : Tryd.prog.cellsOf 22 = 1 := by kernel_rfl
    match xs, hlen with
    | [y0, y1, y2, y3, y4, y5, y6, y7, y8, y9, y10, y11, y12, y13, y14, y15, y16, y17, y18, y19, y20, y21, y22, y23, y24, y25, y26, y27, y28, y29], _ =>
      have g0 : DataW.trod enc Tryd.prog w base (fun _ => true) held m 3 [c0] = some y0 := by simpa [Value.cells, oint] using hg 0 _ rfl
      have g1 : DataW.trod enc Tryd.prog w base (fun _ => true) held m 3 [c1] = some y1 := by simpa [Value.cells, oint] using hg 1 _ rfl
      have g2 : DataW.trod enc Tryd.prog w base (fun _ => true) held m 3 [c2] = some y2 := by simpa [Value.cells, oint] using hg 2 _ rfl
      have g3 : DataW.trod enc Tryd.prog w base (fun _ => true) held m 3 [c3] = some y3 := by simpa [Value.cells, oint] using hg 3 _ rfl
      have g4 : DataW.trod enc Tryd.prog w base (fun _ => true) held m 3 [c4] = some y4 := by simpa [Value.cells, oint] using hg 4 _ rfl
      have g5 : DataW.trod enc Tryd.prog w base (fun _ => true) held m 22 [c5] = some y5 := by simpa [Value.cells, os] using hg 5 _ rfl
      have g6 : DataW.trod enc Tryd.prog w base (fun _ => true) held m 2 [c6] = some y6 := by simpa [Value.cells, oint64] using hg 6 _ rfl
      have g7 : DataW.trod enc Tryd.prog w base (fun _ => true) held m 2 [c7] = some y7 := by simpa [Value.cells, oint64] using hg 7 _ rfl
      have g8 : DataW.trod enc Tryd.prog w base (fun _ => true) held m 3 [c8] = some y8 := by simpa [Value.cells, oint] using hg 8 _ rfl
      have g9 : DataW.trod enc Tryd.prog w base (fun _ => true) held m 3 [c9] = some y9 := by simpa [Value.cells, oint] using hg 9 _ rfl
      have g10 : DataW.trod enc Tryd.prog w base (fun _ => true) held m 2 [c10] = some y10 := by simpa [Value.cells, oint64] using hg 10 _ rfl
      have g11 : DataW.trod enc Tryd.prog w base (fun _ => true) held m 2 [c11] = some y11 := by simpa [Value.cells, oint64] using hg 11 _ rfl
      have g12 : DataW.trod enc Tryd.prog w base (fun _ => true) held m 2 [c12] = some y12 := by simpa [Value.cells, oint64] using hg 12 _ rfl
      have g13 : DataW.trod enc Tryd.prog w base (fun _ => true) held m 2 [c13] = some y13 := by simpa [Value.cells, oint64] using hg 13 _ rfl
      have g14 : DataW.trod enc Tryd.prog w base (fun _ => true) held m 2 [c14] = some y14 := by simpa [Value.cells, oint64] using hg 14 _ rfl
      have g15 : DataW.trod enc Tryd.prog w base (fun _ => true) held m 2 [c15] = some y15 := by simpa [Value.cells, oint64] using hg 15 _ rfl
      have g16 : DataW.trod enc Tryd.prog w base (fun _ => true) held m 3 [c16] = some y16 := by simpa [Value.cells, oint] using hg 16 _ rfl
      have g17 : DataW.trod enc Tryd.prog w base (fun _ => true) held m 3 [c17] = some y17 := by simpa [Value.cells, oint] using hg 17 _ rfl
      have g18 : DataW.trod enc Tryd.prog w base (fun _ => true) held m 3 [c18] = some y18 := by simpa [Value.cells, oint] using hg 18 _ rfl
      have g19 : DataW.trod enc Tryd.prog w base (fun _ => true) held m 3 [c19] = some y19 := by simpa [Value.cells, oint] using hg 19 _ rfl
      have g20 : DataW.trod enc Tryd.prog w base (fun _ => true) held m 2 [c20] = some y20 := by simpa [Value.cells, oint64] using hg 20 _ rfl
      have g21 : DataW.trod enc Tryd.prog w base (fun _ => true) held m 3 [c21] = some y21 := by simpa [Value.cells, oint] using hg 21 _ rfl
      have g22 : DataW.trod enc Tryd.prog w base (fun _ => true) held m 3 [c22] = some y22 := by simpa [Value.cells, oint] using hg 22 _ rfl
      have g23 : DataW.trod enc Tryd.prog w base (fun _ => true) held m 2 [c23] = some y23 := by simpa [Value.cells, oint64] using hg 23 _ rfl
      have g24 : DataW.trod enc Tryd.prog w base (fun _ => true) held m 2 [c24] = some y24 := by simpa [Value.cells, oint64] using hg 24 _ rfl
      have g25 : DataW.trod enc Tryd.prog w base (fun _ => true) held m 3 [c25] = some y25 := by simpa [Value.cells, oint] using hg 25 _ rfl
      have g26 : DataW.trod enc Tryd.prog w base (fun _ => true) held m 2 [c26] = some y26 := by simpa [Value.cells, oint64] using hg 26 _ rfl
      have g27 : DataW.trod enc Tryd.prog w base (fun _ => true) held m 3 [c27] = some y27 := by simpa [Value.cells, oint] using hg 27 _ rfl
      have g28 : DataW.trod enc Tryd.prog w base (fun _ => true) held m 3 [c28] = some y28 := by simpa [Value.cells, oint] using hg 28 _ rfl
      have g29 : DataW.trod enc Tryd.prog w base (fun _ => true) held m 2 [c29] = some y29 := by simpa [Value.cells, oint64] using hg 29 _ rfl
      obtain ⟨a0, e0, -, w0⟩ := DataW.trod_int Tryd.underlying3 g0
      obtain ⟨a1, e1, -, w1⟩ := DataW.trod_int Tryd.underlying3 g1
      obtain ⟨a2, e2, -, w2⟩ := DataW.trod_int Tryd.underlying3 g2
      obtain ⟨a3, e3, -, w3⟩ := DataW.trod_int Tryd.underlying3 g3
      obtain ⟨a4, e4, -, w4⟩ := DataW.trod_int Tryd.underlying3 g4
      obtain ⟨A, n, c, z, rfl, r1, l1, q1, m1, f1⟩ := ints_cell Tryd.underlying22 Tryd.underlying3 oint g5
      obtain ⟨a6, e6, -, w6⟩ := DataW.trod_int Tryd.underlying2 g6
      obtain ⟨a7, e7, -, w7⟩ := DataW.trod_int Tryd.underlying2 g7
      obtain ⟨a8, e8, -, w8⟩ := DataW.trod_int Tryd.underlying3 g8
      obtain ⟨a9, e9, -, w9⟩ := DataW.trod_int Tryd.underlying3 g9
      obtain ⟨a10, e10, -, w10⟩ := DataW.trod_int Tryd.underlying2 g10
      obtain ⟨a11, e11, -, w11⟩ := DataW.trod_int Tryd.underlying2 g11
      obtain ⟨a12, e12, -, w12⟩ := DataW.trod_int Tryd.underlying2 g12
      obtain ⟨a13, e13, -, w13⟩ := DataW.trod_int Tryd.underlying2 g13
      obtain ⟨a14, e14, -, w14⟩ := DataW.trod_int Tryd.underlying2 g14
      obtain ⟨a15, e15, -, w15⟩ := DataW.trod_int Tryd.underlying2 g15
      obtain ⟨a16, e16, -, w16⟩ := DataW.trod_int Tryd.underlying3 g16
      obtain ⟨a17, e17, -, w17⟩ := DataW.trod_int Tryd.underlying3 g17
      obtain ⟨a18, e18, -, w18⟩ := DataW.trod_int Tryd.underlying3 g18
      obtain ⟨a19, e19, -, w19⟩ := DataW.trod_int Tryd.underlying3 g19
      obtain ⟨a20, e20, -, w20⟩ := DataW.trod_int Tryd.underlying2 g20
      obtain ⟨a21, e21, -, w21⟩ := DataW.trod_int Tryd.underlying3 g21
      obtain ⟨a22, e22, -, w22⟩ := DataW.trod_int Tryd.underlying3 g22
      obtain ⟨a23, e23, -, w23⟩ := DataW.trod_int Tryd.underlying2 g23
      obtain ⟨a24, e24, -, w24⟩ := DataW.trod_int Tryd.underlying2 g24
      obtain ⟨a25, e25, -, w25⟩ := DataW.trod_int Tryd.underlying3 g25
      obtain ⟨a26, e26, -, w26⟩ := DataW.trod_int Tryd.underlying2 g26
      obtain ⟨a27, e27, -, w27⟩ := DataW.trod_int Tryd.underlying3 g27
      obtain ⟨a28, e28, -, w28⟩ := DataW.trod_int Tryd.underlying3 g28
      obtain ⟨a29, e29, -, w29⟩ := DataW.trod_int Tryd.underlying2 g29
      cases e0; cases e1; cases e2; cases e3; cases e4; cases e6; cases e7; cases e8; cases e9; cases e10; cases e11; cases e12; cases e13; cases e14; cases e15; cases e16; cases e17; cases e18; cases e19; cases e20; cases e21; cases e22; cases e23; cases e24; cases e25; cases e26; cases e27; cases e28; cases e29
      exact ⟨(⟨a0, a1, a2, a3, a4, A, n, c, a6, a7, a8, a9, a10, a11, a12, a13, a14, a15, a16, a17, a18, a19, a20, a21, a22, a23, a24, a25, a26, a27, a28, a29⟩, z), rfl, ⟨wf_i64 w0, wf_i64 w1, wf_i64 w2, wf_i64 w3, wf_i64 w4, wf_i64 w6, wf_i64 w7, wf_i64 w8, wf_i64 w9, wf_i64 w10, wf_i64 w11, wf_i64 w12, wf_i64 w13, wf_i64 w14, wf_i64 w15, wf_i64 w16, wf_i64 w17, wf_i64 w18, wf_i64 w19, wf_i64 w20, wf_i64 w21, wf_i64 w22, wf_i64 w23, wf_i64 w24, wf_i64 w25, wf_i64 w26, wf_i64 w27, wf_i64 w28, wf_i64 w29, l1, q1, m1, f1, r1⟩⟩
end Go.Proofs.YtbkdenlhfigjhaaDoor.Kc
