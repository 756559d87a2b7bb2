import Derived.Test.YtponpgcpmlcdpaaGreatDoorKX
import Derived.Test.YtponpgcpmlcdpaaGreatDoorBK
import Derived.OpenShut
import Derived.ChangeOld
import Derived.ChangeAt
import Derived.Deep.Fields
import Derived.Deep.Matrix
import Derived.Deep.DeepHandedRow
namespace Go.Proofs.YtponpgcpmlcdpaaGreatDoor.Ks
open Go.RowKit Go.Shelf Go.ChangeShapes Go.WideShapes Go.ChangeAt Km Kx Kt
def zc4 (x : Int) : Prop := -9223372036854775808 ≤ x ∧ x ≤ 9223372036854775807
def zpe (x : Int) : Prop := 0 ≤ x ∧ x ≤ 18446744073709551615
theorem znj {n : Int} (h : (Lit.int .i64 n).wf = true) : zc4 n := by
 unfold zc4
 simpa [Lit.wf, IntKind.min, IntKind.max, IntKind.signed, IntKind.bits] using h
structure Sl where
 A : Option Addr
 n : Nat
 k : Nat
 xs : List Int
def Sl.val (s : Sl) : Value := .slice s.A s.n s.k
def Sl.nil : Sl := ⟨none, 0, 0, []⟩
structure Sl.At (kd : IntKind) (w : World) (B : Nat) (s : Sl) : Prop where
 rd : Rd w B s.A (s.xs.map (Value.int kd))
 len : s.xs.length = s.n
 le : s.n ≤ s.k
 max : s.k ≤ maxLen
 wf : ∀ v ∈ s.xs, (Lit.int kd v).wf = true
theorem Sl.At.below {kd : IntKind} {w w' : World} {B B' : Nat} {s : Sl} (h : s.At kd w B) (hb : Below B' w w') (hB : B ≤ B') : s.At kd w' B := ⟨h.rd.below (hb.mono hB), h.len, h.le, h.max, h.wf⟩
theorem Sl.At.more {kd : IntKind} {w : World} {B B' : Nat} {s : Sl} (h : s.At kd w B) (hB : B ≤ B') : s.At kd w B' := ⟨h.rd.more hB, h.len, h.le, h.max, h.wf⟩
theorem Sl.zkm (kd : IntKind) (w : World) (B : Nat) : Sl.nil.At kd w B := ⟨Rd.nil _ _ _, rfl, Nat.le_refl _, Nat.zero_le _, fun _ h => by cases h⟩
theorem rows_of {α : Type} [Inhabited α] (f : α → List Value) (F : α → Prop) {k : Nat} (hk : 0 < k) (hf : ∀ a, (f a).length = k) {H : Type} {enc : TypeId × Value → H} {P : Program} {w : World} {base fuel : Nat} {held : Bool} {T E : TypeId} (hT : P.underlying T = some (.slice E)) (hC : P.cellsOf E = k)
  (hE : ∀ fuel cs y, cs.length = k → DataW.trod enc P w base (fun _ => true) held fuel E cs = some y → ∃ a, cs = f a ∧ F a) {a : Option Addr} {len cap : Nat} {x : DataW H × List MemPlace}
  (h : DataW.trod enc P w base (fun _ => true) held fuel T (Value.slice a len cap).cells.toList = some x) :
  ∃ l : List α, l.length = len ∧ len ≤ cap ∧ cap ≤ maxLen ∧ (∀ p ∈ l, F p) ∧ Rd w w.heap.size a (cat f l) := by
 rcases Go.Deep.open_slice hT h with ⟨hcs, _⟩ | ⟨ad, l, c, m, n, D, Pl, hcs, _, hl, hm, hmm, -, hi⟩
 ·simp [Value.cells] at hcs
  obtain ⟨rfl, rfl, rfl⟩ := hcs
  exact ⟨[], rfl, Nat.le_refl _, Nat.zero_le _, (fun p hp => by cases hp), Rd.nil _ _ _⟩
 ·simp [Value.cells] at hcs
  obtain ⟨rfl, rfl, rfl⟩ := hcs
  simp only [if_true] at hmm
  subst hmm
  have each : ∀ i, i < len → ∃ v : α, F v ∧ ad.block < w.heap.size ∧ ∀ j u, (f v)[j]? = some u → w.cell? (ad.add (i * k + j)) = some u := fun i hlt => by
   obtain ⟨cs', q1, q2⟩ := hi i (by omega)
   rw [hC] at q1
   obtain ⟨_, hlen, hat⟩ := World.cells?_some q1
   obtain ⟨v, rfl, hv⟩ := hE _ _ _ hlen q2
   have hc : ∀ j u, (f v)[j]? = some u → w.cell? (ad.add (i * k + j)) = some u := fun j u hj => by
    have hlt3 : j < k := by rw [← hf v]; exact (List.getElem?_eq_some_iff.1 hj).1
    have := hat j (by omega)
    rw [addr_add_add] at this
    obtain ⟨hh, e⟩ := List.getElem?_eq_some_iff.1 hj
    rw [this, ← e]
    exact List.getElem?_eq_getElem hh
   obtain ⟨u, hu⟩ : ∃ u, (f v)[0]? = some u := ⟨(f v)[0]'(by rw [hf]; exact hk), List.getElem?_eq_getElem _⟩
   have h0 := World.block_lt_of_cell? w _ (hc 0 _ hu)
   rw [zb0] at h0
   exact ⟨v, hv, h0, hc⟩
  obtain ⟨y, hy⟩ := Go.Deep.choose_lt each
  refine ⟨(List.range len).map y, by simp, hl, hm, fun p hp => ?_, fun j u hj => ?_⟩
  ·obtain ⟨i, hi, rfl⟩ := List.mem_map.1 hp
   exact (hy i (List.mem_range.1 hi)).1
  ·obtain ⟨v, hv, e⟩ := cat_at hf hk hj
   have hlt : j / k < len := by
    have := (List.getElem?_eq_some_iff.1 hv).1
    simpa using this
   rw [List.getElem?_map, List.getElem?_range hlt] at hv
   simp only [Option.map_some, Option.some.injEq] at hv
   obtain ⟨-, hb, hc⟩ := hy _ hlt
   rw [hv] at hc
   refine ⟨ad, rfl, hb, ?_⟩
   have := hc _ _ e
   rwa [Nat.div_add_mod' j k] at this
end Go.Proofs.YtponpgcpmlcdpaaGreatDoor.Ks
