/- What the laws on plans made of one another share: events in memory, a plan of the list, bits. -/
import Derived.Test.YtnljpopjhjcocaaDoorHp
namespace Go.Proofs.YtnljpopjhjcocaaDoor
open Go.RowKit Go.Shelf Km Kx Kc Kt
set_option linter.unusedVariables false

/-- events in memory -/
def EvsAt (w : World) (a : Option Addr) (len cap : Nat) (es : List Ev) : Prop :=
  es.length = len ∧ len ≤ cap ∧ cap ≤ maxLen ∧ (∀ e ∈ es, e.Ok) ∧ Rd w w.heap.size a (cat evc es)
/-- one plan of a list that stays -/
theorem stay_plan {w W : World} {l : List (Nat × List Value)} {r : List Rw} {F : Fz} {A : Option Addr} {ps : List Pt} {i : Nat} {a : Pt} (hB : Bxs w W l r F) (hm : (A, cat Pt.cells ps) ∈ F) {ad : Addr} (hA : A = some ad) (h : ps[i]? = some a) :
    ∀ j u, a.cells[j]? = some u → W.cell? ((ad.add (i * 12)).add j) = some u := fun j u hj => by
  obtain ⟨ad', e, -, hc⟩ := Rd.part Pt.cells_len (hB.stayRdM hm) h (by decide)
  rw [hA] at e
  cases e
  rw [addr_add_add]
  exact hc j u hj
theorem stay_ad {w W : World} {l : List (Nat × List Value)} {r : List Rw} {F : Fz} {A : Option Addr} {ps : List Pt} {p : Pt} (hB : Bxs w W l r F) (hm : (A, cat Pt.cells ps) ∈ F) (hp : p ∈ ps) : ∃ ad, A = some ad := by
  obtain ⟨i, hi⟩ := List.getElem?_of_mem hp
  obtain ⟨ad, e, -⟩ := Rd.part Pt.cells_len (hB.stayRdM hm) hi (by decide)
  exact ⟨ad, e⟩
/-- the list's lists stay too -/
theorem Kx.Bxs.stayAll {w0 w w' : World} {l : List (Nat × List Value)} {r : List Rw} {F : Fz} (h : Bxs w0 w l r F) (hb : Below w.heap.size w w') {A : Option Addr} {ps : List Pt} (hn : New w w' [] A (cat Pt.cells ps)) (hq : ∀ q ∈ fzs ps, New w w' [] q.1 q.2) : Bxs w0 w' l r ((A, cat Pt.cells ps) :: (fzs ps ++ F)) := by
  have h1 := h.stayNew hb hn (fun _ q => by cases q)
  refine ⟨h1.below, h1.nodup, h1.each, h1.rows, h1.apart, fun q hm => ?_⟩
  rcases List.mem_cons.1 hm with rfl | hm
  · exact h1.stay _ (List.mem_cons_self ..)
  · rcases List.mem_append.1 hm with hm | hm
    · exact (h.stayNew hb (hq q hm) (fun _ q => by cases q)).stay _ (List.mem_cons_self ..)
    · exact h1.stay q (List.mem_cons_of_mem _ hm)
/-- what is known of two plans, one behind the other -/
structure Two (c : Cf) (xs : List Int) (a b : Pt) : Prop where
  oka : a.Ok
  okb : b.Ok
  inv : Gm.Inv (gc c xs) a.x
  inv' : Gm.Inv (gc c xs) b.x
  step : Gm.Step (gc c xs) a.x b.x
theorem Pls.two {w : World} {c : Cf} {xs : List Int} {ps : List Pt} {p : Pt} (h : Pls w c xs ps p) (hc : ConfP c xs) (hl : xs.length = c.tn) {k : Nat} {a b : Pt} (ha : ps[k]? = some a) (hb : ps[k + 1]? = some b) : Two c xs a b := by
  have h1 : (ps.map (·.x))[k]? = some a.x := by rw [List.getElem?_map, ha]; rfl
  have h2 : (ps.map (·.x))[k + 1]? = some b.x := by rw [List.getElem?_map, hb]; rfl
  exact ⟨h.ok a (List.mem_of_getElem? ha), h.ok b (List.mem_of_getElem? hb), (Gm.chain_inv (hc.gok hl) h.chain k a.x h1).1, (Gm.chain_inv (hc.gok hl) h.chain (k + 1) b.x h2).1, h.chain.2 k a.x b.x h1 h2⟩
/-- a mask and an index of it, as numbers that count -/
theorem mask_nat {c : Cf} {xs : List Int} (hc : ConfP c xs) {m : Int} (h : 0 ≤ m ∧ m < 2 ^ c.targets.toNat) : ∃ u : Nat, m = (u : Int) ∧ u < 18446744073709551616 ∧ m.toNat = u := by
  have hN := hc.targets
  have h16 := pow_fit (N := c.targets.toNat) (by omega)
  exact ⟨m.toNat, by omega, by omega, rfl⟩
theorem bit_on {u : Nat} (hu : u < 18446744073709551616) {k : Nat} (h : u.testBit k = true) : bits BinOp.and IntKind.u64 ((u : Int) / 2 ^ k) 1 = 1 := by
  have := bit_of hu k
  rw [h] at this
  exact this
theorem bit_off {u : Nat} (hu : u < 18446744073709551616) {k : Nat} (h : u.testBit k = false) : bits BinOp.and IntKind.u64 ((u : Int) / 2 ^ k) 1 = 0 := by
  have := bit_of hu k
  rw [h] at this
  exact this
end Go.Proofs.YtnljpopjhjcocaaDoor
