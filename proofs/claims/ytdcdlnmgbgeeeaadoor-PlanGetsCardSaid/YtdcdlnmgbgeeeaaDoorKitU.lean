/- Slices of bytes and numbers as lists: the small lemmas that all walks share. -/
import Derived.Test.YtdcdlnmgbgeeeaaDoorProg
import Derived.Test.YtdcdlnmgbgeeeaaDoorKit
import Derived.OwnWalk
import Derived.Deep.LoopGhost
import Derived.Deep.QuietTactic
import Derived.BigQuiet
import Derived.WalkSpells
import Derived.WalkLawsBesides
import Derived.Lib.Hide
namespace Go.Proofs.YtdcdlnmgbgeeeaaDoor
open Go.RowKit Go.Shelf

theorem info_u8 : (Tryd.prog.info? 5).map (fun i => (i.zero, i.size, i.bytes)) = some (some (.int .u8 0), 1, 1) := by kernel_rfl

/-- the bytes xs as values -/
abbrev u8s (xs : List Int) : List Value := xs.map (Value.int .u8)

theorem Rd.getU {w : World} {B : Nat} {A : Option Addr} {k : IntKind} {xs : List Int} (h : Rd w B A (xs.map (Value.int k))) {i : Nat} {x : Int} (hx : xs[i]? = some x) : ∃ ad, A = some ad ∧ ad.block < B ∧ w.cell? (ad.add i) = some (.int k x) :=
  h i _ (by rw [List.getElem?_map, hx]; rfl)
theorem Rd.takeU {w : World} {B : Nat} {A : Option Addr} {xs : List Int} (h : Rd w B A (u8s xs)) (n : Nat) : Rd w B A (u8s (xs.take n)) := by
  have := h.take n
  simpa [u8s] using this
theorem Rd.dropU {w : World} {B : Nat} {A : Option Addr} {xs : List Int} (h : Rd w B A (u8s xs)) {k cap : Nat} (hc : xs.length ≤ cap) : Rd w B (Go.Proofs.YtdcdlnmgbgeeeaaDoor.cutA A k cap) (u8s (xs.drop k)) := by
  have := h.cutA (k := k) (cap := cap) (by simpa using hc)
  simpa [u8s] using this
/-- a slice just laid -/
theorem Rd.new (w : World) (B : Nat) (xs : List Value) (t : TypeId) (fr : Nat × Nat) (hB : w.heap.size < B) : Rd (w.alloc (.cells xs.toArray t fr)) B (some ⟨w.heap.size, 0, none⟩) xs := fun j u hj =>
  ⟨_, rfl, hB, World.news_of_block (heap_alloc_new w _) j u (by simpa using hj)⟩

theorem below_drawn {B : Nat} {a w : World} (h : Below B a w) (n : Nat) : Below B a (w.drewN n) := ⟨h.os, h.tape, h.output, h.size, h.block⟩

theorem own_none {w : World} {base : Nat} {e : TypeId} : w.ownsRow base e 1 (.slice none 0 0) ([] : List Int).length (u8s []) := World.ownsRow_nil _ _ _ _

theorem own_below {w w' : World} {base : Nat} {e : TypeId} {v : Value} {n : Nat} {xs : List Value} (h : w.ownsRow base e 1 v n xs) {B : Nat} (hb : Below B w w') (hB : w.heap.size ≤ B) : w'.ownsRow base e 1 v n xs := by
  refine h.kept (row := none) ⟨hb.os, hb.tape, hb.output, hb.size, fun k hk _ => hb.block k (by omega)⟩ ?_
  cases hv : v.ownBlock with
  | none => exact .inl rfl
  | some k => exact .inr (by simp)

theorem own_mono {w : World} {base base' : Nat} {e : TypeId} {v : Value} {n : Nat} {xs : List Value} (h : w.ownsRow base e 1 v n xs) (hb : base' ≤ base) : w.ownsRow base' e 1 v n xs := by
  refine ⟨h.1, ?_⟩
  rcases h.2 with h | ⟨g, cap, cur, hv, hg, r⟩
  · exact .inl h
  · exact .inr ⟨g, cap, cur, hv, by omega, r⟩

theorem own_view {w : World} {base : Nat} {e : TypeId} {v : Value} {n : Nat} {xs : List Value} (h : w.ownsRow base e 1 v n xs) : ∃ A cap, v = .slice A n cap ∧ n ≤ cap ∧ cap ≤ maxLen ∧ Rd w w.heap.size A xs := by
  rcases h.2 with ⟨rfl, rfl⟩ | ⟨g, cap, cur, rfl, _, _, h1, h2, _⟩
  · have : xs = [] := List.eq_nil_of_length_eq_zero (by simpa using h.1)
    subst this
    exact ⟨none, 0, rfl, Nat.le_refl _, Nat.zero_le _, Rd.nil _ _ _⟩
  · exact ⟨_, cap, rfl, h1, h2, Rd.of_own h⟩

theorem cutA_some (ad : Addr) (k cap : Nat) : ∃ ad', cutA (some ad) k cap = some ad' := by
  unfold cutA; split
  · exact ⟨_, rfl⟩
  · exact ⟨_, rfl⟩

theorem u8s_set (ys : List Int) (k : Nat) (y : Int) : (u8s ys).set k (.int .u8 y) = u8s (ys.set k y) := by simp [u8s, List.map_set]

theorem ret_bool {a b : Bool} (h : a = b) : Ending.returned (.bool a) = .returned (.bool b) := by rw [h]

end Go.Proofs.YtdcdlnmgbgeeeaaDoor
