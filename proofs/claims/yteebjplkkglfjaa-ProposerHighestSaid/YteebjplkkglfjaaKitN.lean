/- The steps over boxes (KitX) in short form: what a type is comes by instances, what is computed by itself. So a walk's text stays short. -/
import Derived.Test.YteebjplkkglfjaaKitX
namespace Go.Proofs.Yteebjplkkglfjaa.Kx
open Go.RowKit Go.Shelf
set_option linter.unusedVariables false

/-- a type of one cell -/
class OneC (P : Program) (ty : TypeId) : Prop where
  out : ∀ w, (isAgg ty).run P w = .ok false w
/-- a type of several cells -/
class AggC (P : Program) (ty : TypeId) (n : outParam Nat) : Prop where
  agg : ∀ w, (isAgg ty).run P w = .ok true w
  size : ∀ w, (sizeOf ty).run P w = .ok n w
class ZAgg (P : Program) (ty : TypeId) (cs : outParam (List Value)) : Prop where
  out : ∀ w, (zeroValue ty).run P w = .ok (.agg cs.toArray) w
class ZOne (P : Program) (ty : TypeId) (z : outParam Value) : Prop where
  out : ∀ w, (zeroValue ty).run P w = .ok z w

section
variable {P : Program} {ops : Array Oper} {rest : List Oper} {op : Oper} {a a' : Act} {w w0 : World} {l l' : List (Nat × List Value)} {r r' : List Rw} {F : Fz} {Q : Exit → Act → World → Prop}
variable {ty t2 : TypeId} {x y : Operand} {pos : String} {af : Array Edge} {d : Option Tmp} {b o : Nat} {cs old new : List Value} {v : Value} {g : Nat × Bool}

theorem fr (h : wpList P ops Q rest a' w) (ha : a.put d v = a' := by simp only [Act.put, List.setIfInBounds_toArray, List.set_cons_succ, List.set_cons_zero] <;> rfl) : wpList P ops Q rest (a.put d v) w := ha ▸ h

theorem boxa (hB : Hid (Bxs w0 w l r F)) (hx : a.eval x = .agg cs.toArray)
    (h : ∀ b w', Hid (Bxs w0 w' ((b, cs) :: l) r F) → wpList P ops Q rest (a.put d (.pointer (some ⟨b, 0, none⟩))) w') : wpList P ops Q (Oper.mk d (.box ty x) t2 pos af none :: rest) a w := wpList_boxa_x hB rfl _ _ rfl cs hx h
theorem boxt {k : Nat} (hB : Hid (Bxs w0 w l r F)) (hx : a.tmps[k]? = some v) (hv : v.oneCell' = true)
    (h : ∀ b w', Hid (Bxs w0 w' ((b, [v]) :: l) r F) → wpList P ops Q rest (a.put d (.pointer (some ⟨b, 0, none⟩))) w') : wpList P ops Q (Oper.mk d (.box ty (.tmp k)) t2 pos af none :: rest) a w := wpList_boxt_x hB rfl _ _ rfl v hx hv h
theorem box1 (hB : Hid (Bxs w0 w l r F)) (hx : a.eval x = v) (hv : v.oneCell' = true)
    (h : ∀ b w', Hid (Bxs w0 w' ((b, [v]) :: l) r F) → wpList P ops Q rest (a.put d (.pointer (some ⟨b, 0, none⟩))) w') : wpList P ops Q (Oper.mk d (.box ty x) t2 pos af none :: rest) a w := wpList_box1_x hB rfl _ _ rfl v hx hv h
theorem ala [hz : ZAgg P ty cs] (hB : Hid (Bxs w0 w l r F))
    (h : ∀ b w', Hid (Bxs w0 w' ((b, cs) :: l) r F) → wpList P ops Q rest (a.put d (.pointer (some ⟨b, 0, none⟩))) w') : wpList P ops Q (Oper.mk d (.alloc ty) t2 pos af none :: rest) a w := wpList_alloca_x hB rfl _ rfl cs (hz.out w) h
theorem al1 [hz : ZOne P ty v] (hB : Hid (Bxs w0 w l r F))
    (h : ∀ b w', Hid (Bxs w0 w' ((b, [v]) :: l) r F) → wpList P ops Q rest (a.put d (.pointer (some ⟨b, 0, none⟩))) w') (hv : v.oneCell' = true := by rfl) : wpList P ops Q (Oper.mk d (.alloc ty) t2 pos af none :: rest) a w := wpList_alloc1_x hB rfl _ rfl v (hz.out w) hv h

theorem l1 [hA : OneC P ty] (hB : Hid (Bxs w0 w l r F)) (hx : a.eval x = .pointer (some ⟨b, o, none⟩)) [hm : InL b cs l] (hv : cs[o]? = some v) (h : wpList P ops Q rest a' w)
    (ha : a.put d v = a' := by simp only [Act.put, List.setIfInBounds_toArray, List.set_cons_succ, List.set_cons_zero] <;> rfl) : wpList P ops Q (Oper.mk d (.load ty x) t2 pos af none :: rest) a w :=
  wpList_load1_x hB rfl _ _ rfl b hx cs (hA.out w) v hv (framed h ha)
theorem la {n : Nat} [hA : AggC P ty n] (hB : Hid (Bxs w0 w l r F)) (hx : a.eval x = .pointer (some ⟨b, o, none⟩)) [hm : InL b cs l] (h : wpList P ops Q rest a' w)
    (hms : (cs.drop o).take n = new := by first | exact Kx.whole (by rfl) | (simp <;> rfl)) (hn : new.length = n := by rfl)
    (ha : a.put d (.agg new.toArray) = a' := by simp only [Act.put, List.setIfInBounds_toArray, List.set_cons_succ, List.set_cons_zero] <;> rfl) : wpList P ops Q (Oper.mk d (.load ty x) t2 pos af none :: rest) a w :=
  wpList_load_x hB rfl _ _ rfl b hx cs n (hA.agg w) (hA.size w) new hms hn (framed h ha)
theorem lo {ad : Addr} [hA : OneC P ty] (hB : Hid (Bxs w0 w l r F)) (hx : a.eval x = .pointer (some ad)) (hc : w0.cell? ad = some v) (h : wpList P ops Q rest a' w)
    (ha : a.put d v = a' := by simp only [Act.put, List.setIfInBounds_toArray, List.set_cons_succ, List.set_cons_zero] <;> rfl) : wpList P ops Q (Oper.mk d (.load ty x) t2 pos af none :: rest) a w :=
  wpList_old_x hB rfl _ _ rfl ad hx (hA.out w) v hc (framed h ha)
theorem l1g [hA : OneC P ty] (hB : Hid (Bxs w0 w l r F)) (hx : a.eval x = .pointer (some ⟨b, o, none⟩)) [hm : InL b cs l] (hv : cs[o]? = some v) (hn : Region.wanted (Oper.mk d (.load ty x) t2 pos af (some g)) (yielded ops a.tmps) = true) (h : wpList P ops Q rest a' w)
    (ha : a.put d v = a' := by simp only [Act.put, List.setIfInBounds_toArray, List.set_cons_succ, List.set_cons_zero] <;> rfl) : wpList P ops Q (Oper.mk d (.load ty x) t2 pos af (some g) :: rest) a w :=
  wpList_loadg_x hB _ _ rfl b hx cs (hA.out w) v hv hn (framed h ha)
theorem lag {n : Nat} [hA : AggC P ty n] (hB : Hid (Bxs w0 w l r F)) (hx : a.eval x = .pointer (some ⟨b, o, none⟩)) [hm : InL b cs l] (hg : Region.wanted (Oper.mk d (.load ty x) t2 pos af (some g)) (yielded ops a.tmps) = true) (h : wpList P ops Q rest a' w)
    (hms : (cs.drop o).take n = new := by first | exact Kx.whole (by rfl) | (simp <;> rfl)) (hn : new.length = n := by rfl)
    (ha : a.put d (.agg new.toArray) = a' := by simp only [Act.put, List.setIfInBounds_toArray, List.set_cons_succ, List.set_cons_zero] <;> rfl) : wpList P ops Q (Oper.mk d (.load ty x) t2 pos af (some g) :: rest) a w :=
  wpList_loadga_x hB _ _ rfl b hx cs n (hA.agg w) (hA.size w) new hms hn hg (framed h ha)
theorem log {ad : Addr} [hA : OneC P ty] (hB : Hid (Bxs w0 w l r F)) (hx : a.eval x = .pointer (some ad)) (hc : w0.cell? ad = some v) (hn : Region.wanted (Oper.mk d (.load ty x) t2 pos af (some g)) (yielded ops a.tmps) = true) (h : wpList P ops Q rest a' w)
    (ha : a.put d v = a' := by simp only [Act.put, List.setIfInBounds_toArray, List.set_cons_succ, List.set_cons_zero] <;> rfl) : wpList P ops Q (Oper.mk d (.load ty x) t2 pos af (some g) :: rest) a w :=
  wpList_oldg_x hB _ _ rfl ad hx (hA.out w) v hc hn (framed h ha)

theorem stwa (hB : Hid (Bxs w0 w l r F)) (hx : a.eval x = .pointer (some ⟨b, 0, none⟩)) (hy : a.eval y = .agg cs.toArray) [hs : SetL b cs l old l'] (h : ∀ w', Hid (Bxs w0 w' l' r F) → wpList P ops Q rest a w')
    (hl : cs.length = old.length := by rfl) (hS : (sizeOf ty).run P w = .ok cs.length w := by simp <;> rfl) (h1 : cs.all (·.oneCell') = true := by rfl) : wpList P ops Q (Oper.mk none (.store ty x y) t2 pos af none :: rest) a w :=
  wpList_storewa_x hB rfl rfl _ _ _ rfl b hx cs hy old hl hS h1 h
theorem sta (hB : Hid (Bxs w0 w l r F)) (hx : a.eval x = .pointer (some ⟨b, o, none⟩)) (hy : a.eval y = .agg cs.toArray) [hs : SetL b new l old l'] (h : ∀ w', Hid (Bxs w0 w' l' r F) → wpList P ops Q rest a w')
    (hnew : splice old o cs = new := by simp [Kx.splice] <;> rfl) (hl : o + cs.length ≤ old.length := by simp) (hS : (sizeOf ty).run P w = .ok cs.length w := by simp <;> rfl) (h1 : cs.all (·.oneCell') = true := by rfl) : wpList P ops Q (Oper.mk none (.store ty x y) t2 pos af none :: rest) a w :=
  wpList_storea_x hB rfl rfl _ _ _ rfl b hx cs hy old new hnew hl hS h1 h
theorem stc (hB : Hid (Bxs w0 w l r F)) (hx : a.eval x = .pointer (some ⟨b, o, none⟩)) (h1 : v.oneCell' = true) [hs : SetL b new l old l'] (h : ∀ w', Hid (Bxs w0 w' l' r F) → wpList P ops Q rest a w')
    (hnew : old.set o v = new := by simp <;> rfl) (hl : o < old.length := by simp) (hS : (sizeOf ty).run P w = .ok 1 w := by simp <;> rfl) : wpList P ops Q (Oper.mk none (.store ty x (.const v)) t2 pos af none :: rest) a w :=
  wpList_storec_x hB rfl rfl _ _ _ rfl b hx h1 old new hnew hl hS h
theorem stt {k : Nat} (hB : Hid (Bxs w0 w l r F)) (hx : a.eval x = .pointer (some ⟨b, o, none⟩)) (hy : a.tmps[k]? = some v) (h1 : v.oneCell' = true) [hs : SetL b new l old l'] (h : ∀ w', Hid (Bxs w0 w' l' r F) → wpList P ops Q rest a w')
    (hnew : old.set o v = new := by simp <;> rfl) (hl : o < old.length := by simp) (hS : (sizeOf ty).run P w = .ok 1 w := by simp <;> rfl) : wpList P ops Q (Oper.mk none (.store ty x (.tmp k)) t2 pos af none :: rest) a w :=
  wpList_storet_x hB rfl rfl _ _ _ rfl b hx v hy h1 old new hnew hl hS h
theorem st1 (hB : Hid (Bxs w0 w l r F)) (hx : a.eval x = .pointer (some ⟨b, o, none⟩)) (hy : a.eval y = v) (h1 : v.oneCell' = true) [hs : SetL b new l old l'] (h : ∀ w', Hid (Bxs w0 w' l' r F) → wpList P ops Q rest a w')
    (hnew : old.set o v = new := by simp <;> rfl) (hl : o < old.length := by simp) (hS : (sizeOf ty).run P w = .ok 1 w := by simp <;> rfl) : wpList P ops Q (Oper.mk none (.store ty x y) t2 pos af none :: rest) a w :=
  wpList_store1_x hB rfl rfl _ _ _ rfl b hx v hy h1 old new hnew hl hS h
end

section
variable {P : Program} {ops : Array Oper} {md : Region.Mode} {Q : Exit → Act → World → Prop} {C : World → Prop} {D : Nat → Bool} {i n : Nat} {oi : Oper} {v : Value} {listed : Array Bool} {a a' : Act}
/-- KitW's steps, what they ask by itself -/
theorem tk (i : Nat) {oi : Oper} (hi : ops[i]? = some oi) (h : anyW P md ops Q C D n (listed.setIfInBounds i true) (At a' C))
    (hC : BearsC C := by first | exact Kx.bears_x | exact bears_u | assumption) (hs : Region.noSelect ops = true := by kernel_rfl) (hf : Region.free md ops listed i = true := by kernel_rfl) (hr : (Region.ready md ops listed).contains i = true := by kernel_rfl)
    (hwt : waits md ops D i = true := by kernel_rfl) (hn : Region.wanted oi (yielded ops a.tmps) = true := by kernel_rfl) (hy : ∀ w, C w → (execOp a.eval oi).run P w = .ok (.value v) w := by (intro w hC; go_simp; try with_reducible rfl))
    (ha : a.put oi.dst v = a' := by (go_simp; try with_reducible rfl)) (hQ : ∀ c a w, Q (.panic c) (a.put oi.dst v) w → Q (.panic c) a w := by exact fun _ _ _ h => h) : anyW P md ops Q C D (n + 1) listed (At a C) :=
  anyW_take hC hi hs hf hr hQ hwt hn hy ha h
theorem sk (i : Nat) {oi : Oper} (hi : ops[i]? = some oi) (h : anyW P md ops Q C D n (listed.setIfInBounds i true) (At a' C))
    (hC : BearsC C := by first | exact Kx.bears_x | exact bears_u | assumption) (hs : Region.noSelect ops = true := by kernel_rfl) (hf : Region.free md ops listed i = true := by kernel_rfl) (hr : (Region.ready md ops listed).contains i = true := by kernel_rfl)
    (hwt : waits md ops D i = true := by kernel_rfl) (hn : Region.wanted oi (yielded ops a.tmps) = false := by kernel_rfl)
    (ha : a.put oi.dst undef = a' := by (go_simp; try with_reducible rfl)) (hQ : ∀ c a w, Q (.panic c) (a.put oi.dst undef) w → Q (.panic c) a w := by exact fun _ _ _ h => h) : anyW P md ops Q C D (n + 1) listed (At a C) :=
  anyW_skip hC hi hs hf hr hQ hwt hn ha h
end
section
variable {P : Program} {ops : Array Oper} {md : Region.Mode} {Q : Exit → Act → World → Prop} {D : Nat → Bool} {n : Nat} {v : Value} {listed : Array Bool} {a a' : Act}
variable {w0 : World} {l : List (Nat × List Value)} {r : List Rw} {F : Fz} {ty t2 : TypeId} {x : Operand} {pos : String} {af : Array Edge} {d : Option Tmp} {b o : Nat} {cs new : List Value} {g : Option (Nat × Bool)}
/-- readings of boxes, in a region that draws -/
theorem xl1 (i : Nat) (hi : ops[i]? = some (Oper.mk d (.load ty x) t2 pos af g)) [hA : OneC P ty] (hx : a.eval x = .pointer (some ⟨b, o, none⟩)) [hm : InL b cs l] (hv : cs[o]? = some v)
    (h : anyW P md ops Q (fun w' => Bxs w0 w' l r F) D n (listed.setIfInBounds i true) (At a' (fun w' => Bxs w0 w' l r F)))
    (hs : Region.noSelect ops = true := by kernel_rfl) (hf : Region.free md ops listed i = true := by kernel_rfl) (hr : (Region.ready md ops listed).contains i = true := by kernel_rfl)
    (hwt : waits md ops D i = true := by kernel_rfl) (hn : Region.wanted (Oper.mk d (.load ty x) t2 pos af g) (yielded ops a.tmps) = true := by kernel_rfl)
    (ha : a.put d v = a' := by (go_simp; try with_reducible rfl)) (hQ : ∀ c a w, Q (.panic c) (a.put d v) w → Q (.panic c) a w := by exact fun _ _ _ h => h) : anyW P md ops Q (fun w' => Bxs w0 w' l r F) D (n + 1) listed (At a (fun w' => Bxs w0 w' l r F)) :=
  anyW_take (i := i) bears_x hi hs hf hr hQ hwt hn (fun w hw => tells_load1_x hw b o hx cs hm (hA.out w) hv) ha h
theorem xlo (i : Nat) {ad : Addr} (hi : ops[i]? = some (Oper.mk d (.load ty x) t2 pos af g)) [hA : OneC P ty] (hx : a.eval x = .pointer (some ad)) (hv : w0.cell? ad = some v)
    (h : anyW P md ops Q (fun w' => Bxs w0 w' l r F) D n (listed.setIfInBounds i true) (At a' (fun w' => Bxs w0 w' l r F)))
    (hs : Region.noSelect ops = true := by kernel_rfl) (hf : Region.free md ops listed i = true := by kernel_rfl) (hr : (Region.ready md ops listed).contains i = true := by kernel_rfl)
    (hwt : waits md ops D i = true := by kernel_rfl) (hn : Region.wanted (Oper.mk d (.load ty x) t2 pos af g) (yielded ops a.tmps) = true := by kernel_rfl)
    (ha : a.put d v = a' := by (go_simp; try with_reducible rfl)) (hQ : ∀ c a w, Q (.panic c) (a.put d v) w → Q (.panic c) a w := by exact fun _ _ _ h => h) : anyW P md ops Q (fun w' => Bxs w0 w' l r F) D (n + 1) listed (At a (fun w' => Bxs w0 w' l r F)) :=
  anyW_take (i := i) bears_x hi hs hf hr hQ hwt hn (fun w hw => tells_old_x hw ad hx (hA.out w) hv) ha h
theorem xla (i : Nat) {m : Nat} (hi : ops[i]? = some (Oper.mk d (.load ty x) t2 pos af g)) [hA : AggC P ty m] (hx : a.eval x = .pointer (some ⟨b, o, none⟩)) [hm : InL b cs l]
    (h : anyW P md ops Q (fun w' => Bxs w0 w' l r F) D n (listed.setIfInBounds i true) (At a' (fun w' => Bxs w0 w' l r F)))
    (hms : (cs.drop o).take m = new := by first | exact Kx.whole (by rfl) | (simp <;> rfl)) (hk : new.length = m := by rfl)
    (hs : Region.noSelect ops = true := by kernel_rfl) (hf : Region.free md ops listed i = true := by kernel_rfl) (hr : (Region.ready md ops listed).contains i = true := by kernel_rfl)
    (hwt : waits md ops D i = true := by kernel_rfl) (hn : Region.wanted (Oper.mk d (.load ty x) t2 pos af g) (yielded ops a.tmps) = true := by kernel_rfl)
    (ha : a.put d (.agg new.toArray) = a' := by (go_simp; try with_reducible rfl)) (hQ : ∀ c a w, Q (.panic c) (a.put d (.agg new.toArray)) w → Q (.panic c) a w := by exact fun _ _ _ h => h) : anyW P md ops Q (fun w' => Bxs w0 w' l r F) D (n + 1) listed (At a (fun w' => Bxs w0 w' l r F)) :=
  anyW_take (i := i) bears_x hi hs hf hr hQ hwt hn (fun w hw => tells_load_x hw b o hx cs hm m (hA.agg w) (hA.size w) new hms hk rfl) ha h
end
end Go.Proofs.Yteebjplkkglfjaa.Kx
