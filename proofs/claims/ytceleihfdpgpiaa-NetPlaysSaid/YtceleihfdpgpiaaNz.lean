/- Calls of a net, and messages, that came as arguments, as the walks take them. -/
import Derived.Test.YtceleihfdpgpiaaKitZ
import Derived.Deep.Fields
namespace Go.Proofs.Ytceleihfdpgpiaa
open Go.ChangeShapes Go.WideShapes Go.ChangeAt Go.RowKit Kz

/-- a call: which, a body, a number -/
structure Cl where
  what : Int
  body : List Int
  num : Int
/-- calls in memory: three cells each -/
structure ClAt (w : World) (ad : Addr) (i : Nat) (o : Cl) (v : Value) : Prop where
  blk : ad.block < w.heap.size
  c0 : w.cell? (ad.add (i * 3)) = some (.int .i64 o.what)
  c1 : w.cell? ⟨(ad.add (i * 3)).block, (ad.add (i * 3)).off + 1, none⟩ = some v
  c2 : w.cell? ⟨(ad.add (i * 3)).block, (ad.add (i * 3)).off + 2, none⟩ = some (.int .i64 o.num)
  row : Row w v o.body
  w0 : -9223372036854775808 ≤ o.what ∧ o.what ≤ 9223372036854775807
  n0 : -9223372036854775808 ≤ o.num ∧ o.num ≤ 9223372036854775807
def ClsAt (w : World) (a : Option Addr) (len cap : Nat) (os : List Cl) : Prop :=
  os.length = len ∧ len ≤ cap ∧ cap ≤ maxLen ∧ ∀ i o, os[i]? = some o → ∃ ad v, a = some ad ∧ ClAt w ad i o v
theorem ClAt.below {w w' : World} {ad : Addr} {i : Nat} {o : Cl} {v : Value} (h : ClAt w ad i o v) (hb : Below w.heap.size w w') : ClAt w' ad i o v :=
  ⟨Nat.lt_of_lt_of_le h.blk hb.size, (hb.cell (by rw [addr_add_block]; exact h.blk)).trans h.c0, (hb.cell (by dsimp only; rw [addr_add_block]; exact h.blk)).trans h.c1, (hb.cell (by dsimp only; rw [addr_add_block]; exact h.blk)).trans h.c2, h.row.below hb, h.w0, h.n0⟩
theorem ClsAt.below {w w' : World} {a : Option Addr} {len cap : Nat} {os : List Cl} (h : ClsAt w a len cap os) (hb : Below w.heap.size w w') : ClsAt w' a len cap os :=
  ⟨h.1, h.2.1, h.2.2.1, fun i o e => by obtain ⟨ad, v, q1, q2⟩ := h.2.2.2 i o e; exact ⟨ad, v, q1, q2.below hb⟩⟩

theorem call_of {H : Type} {enc : TypeId × Value → H} {w : World} {base fuel : Nat} {held : Bool} {ad : Addr} {i : Nat} {cs : List Value} {y : DataW H × List MemPlace} (hc : w.cells? base (ad.add (i * 3)) 3 = some cs) (h : DataW.trod enc Try.prog w base (fun _ => true) held fuel 32 cs = some y) (hz : Sz Try.prog 32 y.1) :
    ∃ o v, ClAt w ad i o v := by
  obtain ⟨_, hlen, hat⟩ := World.cells?_some hc
  have hu := Try.underlying32
  match cs, hlen with
  | [v0, v1, v2], _ =>
    obtain ⟨xs, m, _, hx, _, hl, hg⟩ := DataW.trod_struct hu h
    have oi : Try.prog.cellsOf 3 = 1 := by kernel_rfl
    have ou : Try.prog.cellsOf 5 = 1 := by kernel_rfl
    have bu : Try.prog.bytesOf 5 = 1 := by kernel_rfl
    have ob : Try.prog.cellsOf 30 = 1 := by kernel_rfl
    match xs, hl with
    | [y0, y1, y2], _ =>
      have g0 : DataW.trod enc Try.prog w base (fun _ => true) held m 3 [v0] = some y0 := by simpa [Value.cells, oi] using hg 0 _ rfl
      have g1 : DataW.trod enc Try.prog w base (fun _ => true) held m 30 [v1] = some y1 := by simpa [Value.cells, ob] using hg 1 _ rfl
      have g2 : DataW.trod enc Try.prog w base (fun _ => true) held m 3 [v2] = some y2 := by simpa [Value.cells, oi] using hg 2 _ rfl
      obtain ⟨a0, e0, -, w0⟩ := DataW.trod_int Try.underlying3 g0
      obtain ⟨a2, e2, -, w2⟩ := DataW.trod_int Try.underlying3 g2
      rw [hx] at hz
      obtain ⟨bs, hr⟩ := row_of Try.underlying30 Try.underlying5 ou bu g1 (hz.struct hu (j := 1) rfl rfl)
      cases e0; cases e2
      have c0 := hat 0 (by omega)
      have c1 := hat 1 (by omega)
      have c2 := hat 2 (by omega)
      rw [Addr.add_zero'] at c0
      rw [Addr.add_succ'] at c1 c2
      have hb := World.block_lt_of_cell? w _ c0
      rw [addr_add_block] at hb
      exact ⟨⟨a0, bs, a2⟩, v1, hb, c0, c1, c2, hr, wf_i64 w0, wf_i64 w2⟩

theorem cls_of {H : Type} {enc : TypeId × Value → H} {w : World} {base fuel : Nat} {held : Bool} {a : Option Addr} {len cap : Nat} {x : DataW H × List MemPlace} (h : DataW.trod enc Try.prog w base (fun _ => true) held fuel 22 (Value.slice a len cap).cells.toList = some x) (hz : Sz Try.prog 22 x.1) :
    ∃ os, ClsAt w a len cap os := by
  have hC : Try.prog.cellsOf 32 = 3 := by kernel_rfl
  have hT := Try.underlying22
  rcases Go.Deep.open_slice hT h with ⟨hcs, _⟩ | ⟨ad, l, c, m, n, D, Pl, hcs, _, hl, hm, hmm, hx, hi⟩
  · simp [Value.cells] at hcs
    obtain ⟨rfl, rfl, rfl⟩ := hcs
    exact ⟨[], rfl, Nat.le_refl _, Nat.zero_le _, fun i o h => by simp at h⟩
  · simp [Value.cells] at hcs
    obtain ⟨rfl, rfl, rfl⟩ := hcs
    simp only [if_true] at hmm
    subst hmm
    rw [hx] at hz
    have each : ∀ i, i < len → ∃ y : Cl × Value, ClAt w ad i y.1 y.2 := fun i hlt => by
      obtain ⟨cs', q1, q2⟩ := hi i (by omega)
      rw [hC] at q1
      obtain ⟨o, v, q3⟩ := call_of q1 q2 ((hz.slice hT).2.1 (D i) (List.mem_map_of_mem (List.mem_range.2 hlt)))
      exact ⟨⟨o, v⟩, q3⟩
    haveI : Inhabited Cl := ⟨⟨0, [], 0⟩⟩
    obtain ⟨y, hy⟩ := Go.Deep.choose_lt each
    refine ⟨(List.range len).map fun i => (y i).1, by simp, hl, hm, fun i o ho => ?_⟩
    have hlt : i < len := by
      have := (List.getElem?_eq_some_iff.1 ho).1
      simpa using this
    rw [List.getElem?_map, List.getElem?_range hlt] at ho
    simp only [Option.map_some, Option.some.injEq] at ho
    subst ho
    exact ⟨ad, _, rfl, hy i hlt⟩
theorem msgs_of {H : Type} {enc : TypeId × Value → H} {w : World} {base fuel : Nat} {held : Bool} {a : Option Addr} {len cap : Nat} {x : DataW H × List MemPlace} (h : DataW.trod enc Try.prog w base (fun _ => true) held fuel 27 (Value.slice a len cap).cells.toList = some x) (hz : Sz Try.prog 27 x.1) :
    ∃ bs, RowsAt w a len cap bs := rows_of Try.underlying27 Try.underlying30 Try.underlying5 (by kernel_rfl) (by kernel_rfl) (by kernel_rfl) h hz
end Go.Proofs.Ytceleihfdpgpiaa
