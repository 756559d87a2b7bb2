/- A message that came as an argument, and the two tables that the row lists, as the walks take them. -/
import Derived.Test.YtpgfnhdaembhmaaDoorMa
import Derived.Test.YtpgfnhdaembhmaaDoorRows
import Derived.ProofKit
import Derived.OpenShut
import Derived.ChangeOld
import Derived.Deep.DeepHandedRow
import Derived.Deep.Fields
import Derived.Lib.LaidTab
import Derived.Lib.LaidU8
namespace Go.Proofs.YtpgfnhdaembhmaaDoor
open Go.ChangeShapes Go.WideShapes Go.ChangeAt Go.RowKit

theorem wf_u64 {n : Int} (h : (Lit.int .u64 n).wf = true) : Pm.U n := by
  unfold Pm.U
  simpa [Lit.wf, IntKind.min, IntKind.max, IntKind.signed, IntKind.bits] using h

theorem ints_cell {H : Type} {enc : TypeId × Value → H} {P : Program} {w : World} {base : Nat} {held : Bool} {t e : TypeId} {fuel : Nat} {c : Value} {x : DataW H × List MemPlace} (ht : P.underlying t = some (.slice e)) (he : P.underlying e = some (.int .i64)) (hc : P.cellsOf e = 1)
    (h : DataW.trod enc P w base (fun _ => true) held fuel t [c] = some x) : ∃ (A : Option Addr) (n cap : Nat) (xs : List Int), c = .slice A n cap ∧ Rd w w.heap.size A (i64s xs) ∧ xs.length = n ∧ n ≤ cap ∧ cap ≤ maxLen ∧ Wm.Fits xs := by
  rcases open_ints ht he hc h with ⟨hcs, _⟩ | ⟨ad, l, c', zs, hcs, _, hl, hm, hz, hx, hcell, hwz⟩
  · cases hcs
    exact ⟨none, 0, 0, [], rfl, Rd.nil _ _ _, rfl, Nat.le_refl _, Nat.zero_le _, (fun _ h => absurd h List.not_mem_nil)⟩
  · cases hcs
    have hr : RowOf .i64 w (some ad) l c' zs := .inr ⟨ad, rfl, hl, hm, by simpa using hz, hcell, hwz⟩
    obtain ⟨xs, h1, h2, h3, h4, h5⟩ := row_rd hr
    exact ⟨some ad, l, c', xs, rfl, h4, h1, h2, h3, fun n hn => wf_i64 (h5 n hn)⟩

theorem bytes_cell {H : Type} {enc : TypeId × Value → H} {P : Program} {w : World} {base : Nat} {held : Bool} {t e : TypeId} {fuel : Nat} {c : Value} {x : DataW H × List MemPlace} (ht : P.underlying t = some (.slice e)) (he : P.underlying e = some (.int .u8)) (hc : P.cellsOf e = 1)
    (h : DataW.trod enc P w base (fun _ => true) held fuel t [c] = some x) : ∃ (A : Option Addr) (n cap : Nat) (xs : List Int), c = .slice A n cap ∧ Rd w w.heap.size A (u8s xs) ∧ xs.length = n ∧ n ≤ cap ∧ cap ≤ maxLen ∧ Fm.By xs := by
  rcases open_ints ht he hc h with ⟨hcs, _⟩ | ⟨ad, l, c', zs, hcs, _, hl, hm, hz, hx, hcell, hwz⟩
  · cases hcs
    exact ⟨none, 0, 0, [], rfl, Rd.nil _ _ _, rfl, Nat.le_refl _, Nat.zero_le _, (fun _ h => absurd h List.not_mem_nil)⟩
  · cases hcs
    have hr : RowOf .u8 w (some ad) l c' zs := .inr ⟨ad, rfl, hl, hm, by simpa using hz, hcell, hwz⟩
    obtain ⟨xs, h1, h2, h3, h4, h5⟩ := row_rd hr
    exact ⟨some ad, l, c', xs, rfl, h4, h1, h2, h3, wf_u8 h5⟩

theorem plan_cells {H : Type} {enc : TypeId × Value → H} {w : World} {base : Nat} {held : Bool} {fuel : Nat} {l : List Value} {y : DataW H × List MemPlace} (hsz : l.length = 12) (hf : DataW.trod enc Tryd.prog w base (fun _ => true) held fuel 27 l = some y) :
    ∃ (x : Pm.Pl) (A : Option Addr) (n c : Nat) (A' : Option Addr) (n' c' : Nat), l = pvs x A n c A' n' c' ∧ PlAt w w.heap.size x A n c A' n' c' := by
  have hu := Tryd.underlying27
  match l, hsz with
  | [c0, c1, c2, c3, c4, c5, c6, c7, c8, c9, c10, c11], _ =>
    obtain ⟨xs, m, _, hx, _, hlen, hg⟩ := DataW.trod_struct hu hf
    have o2 : Tryd.prog.cellsOf 2 = 1 := by kernel_rfl
    have o3 : Tryd.prog.cellsOf 3 = 1 := by kernel_rfl
    have o22 : Tryd.prog.cellsOf 23 = 1 := by kernel_rfl
    have o23 : Tryd.prog.cellsOf 24 = 1 := by kernel_rfl
    have o24 : Tryd.prog.cellsOf 25 = 1 := by kernel_rfl
    match xs, hlen with
    | [y0, y1, y2, y3, y4, y5, y6, y7, y8, y9, y10, y11], _ =>
      have g0 : DataW.trod enc Tryd.prog w base (fun _ => true) held m 2 [c0] = some y0 := by simpa [Value.cells, o2] using hg 0 _ rfl
      have g1 : DataW.trod enc Tryd.prog w base (fun _ => true) held m 3 [c1] = some y1 := by simpa [Value.cells, o3] using hg 1 _ rfl
      have g2 : DataW.trod enc Tryd.prog w base (fun _ => true) held m 3 [c2] = some y2 := by simpa [Value.cells, o3] using hg 2 _ rfl
      have g3 : DataW.trod enc Tryd.prog w base (fun _ => true) held m 3 [c3] = some y3 := by simpa [Value.cells, o3] using hg 3 _ rfl
      have g4 : DataW.trod enc Tryd.prog w base (fun _ => true) held m 3 [c4] = some y4 := by simpa [Value.cells, o3] using hg 4 _ rfl
      have g5 : DataW.trod enc Tryd.prog w base (fun _ => true) held m 2 [c5] = some y5 := by simpa [Value.cells, o2] using hg 5 _ rfl
      have g6 : DataW.trod enc Tryd.prog w base (fun _ => true) held m 2 [c6] = some y6 := by simpa [Value.cells, o2] using hg 6 _ rfl
      have g7 : DataW.trod enc Tryd.prog w base (fun _ => true) held m 2 [c7] = some y7 := by simpa [Value.cells, o2] using hg 7 _ rfl
      have g8 : DataW.trod enc Tryd.prog w base (fun _ => true) held m 23 [c8] = some y8 := by simpa [Value.cells, o22] using hg 8 _ rfl
      have g9 : DataW.trod enc Tryd.prog w base (fun _ => true) held m 23 [c9] = some y9 := by simpa [Value.cells, o22] using hg 9 _ rfl
      have g10 : DataW.trod enc Tryd.prog w base (fun _ => true) held m 24 [c10] = some y10 := by simpa [Value.cells, o23] using hg 10 _ rfl
      have g11 : DataW.trod enc Tryd.prog w base (fun _ => true) held m 25 [c11] = some y11 := by simpa [Value.cells, o24] using hg 11 _ rfl
      obtain ⟨a0, e0, -, w0⟩ := DataW.trod_int Tryd.underlying2 g0
      obtain ⟨a1, e1, -, w1⟩ := DataW.trod_int Tryd.underlying3 g1
      obtain ⟨a2, e2, -, w2⟩ := DataW.trod_int Tryd.underlying3 g2
      obtain ⟨a3, e3, -, w3⟩ := DataW.trod_int Tryd.underlying3 g3
      obtain ⟨a4, e4, -, w4⟩ := DataW.trod_int Tryd.underlying3 g4
      obtain ⟨a5, e5, -, w5⟩ := DataW.trod_int Tryd.underlying2 g5
      obtain ⟨a6, e6, -, w6⟩ := DataW.trod_int Tryd.underlying2 g6
      obtain ⟨a7, e7, -, w7⟩ := DataW.trod_int Tryd.underlying2 g7
      obtain ⟨a8, e8, -, w8⟩ := DataW.trod_int Tryd.underlying23 g8
      obtain ⟨a9, e9, -, w9⟩ := DataW.trod_int Tryd.underlying23 g9
      obtain ⟨A, n, c, pen, rfl, r1, l1, q1, m1, f1⟩ := ints_cell Tryd.underlying24 Tryd.underlying3 o3 g10
      obtain ⟨A', n', c', ch, rfl, r2, l2, q2, m2, f2⟩ := ints_cell Tryd.underlying25 Tryd.underlying2 o2 g11
      cases e0; cases e1; cases e2; cases e3; cases e4; cases e5; cases e6; cases e7; cases e8; cases e9
      exact ⟨⟨a0, a1, a2, a3, a4, a5, a6, a7, a8, a9, pen, ch⟩, A, n, c, A', n', c', rfl,
        ⟨⟨wf_i64 w0, wf_i64 w1, wf_i64 w2, wf_i64 w3, wf_i64 w4, wf_i64 w5, wf_i64 w6, wf_i64 w7, wf_u64 w8, wf_u64 w9, f1, f2⟩, r1, l1, q1, m1, r2, l2, q2, m2⟩⟩

set_option maxRecDepth 100000 in
theorem msg_open {H : Type} {enc : TypeId × Value → H} {w : World} {base b0 : Nat} {held : Bool} {r : Reach} {v : Value} {d : DataW H} {p : List MemPlace} (hv : Value.okWide Tryd.prog w r b0 30 v) (h : DataW.Trod enc Tryd.prog w base (fun _ => true) held 30 v d p) :
    ∃ (x : Mm.Ms) (l : Lo), v = mv x l ∧ MsAt w w.heap.size x l := by
  have hu := Tryd.underlying30
  obtain ⟨cs, rfl, hsz⟩ := okWide_struct hu hv
  obtain ⟨l⟩ := cs
  have hC : Tryd.prog.cellsOf 30 = 26 := by kernel_rfl
  match l, hsz.trans hC with
  | [c0, c1, c2, c3, c4, c5, c6, c7, c8, c9, c10, c11, c12, c13, c14, c15, c16, c17, c18, c19, c20, c21, c22, c23, c24, c25], _ =>
    obtain ⟨fuel, hf⟩ := h
    obtain ⟨xs, m, _, hx, _, hlen, hg⟩ := DataW.trod_struct hu hf
    have oK : Tryd.prog.cellsOf 22 = 1 := by kernel_rfl
    have o2 : Tryd.prog.cellsOf 2 = 1 := by kernel_rfl
    have o3 : Tryd.prog.cellsOf 3 = 1 := by kernel_rfl
    have o22 : Tryd.prog.cellsOf 23 = 1 := by kernel_rfl
    have o4 : Tryd.prog.cellsOf 4 = 1 := by kernel_rfl
    have o24 : Tryd.prog.cellsOf 25 = 1 := by kernel_rfl
    have o28 : Tryd.prog.cellsOf 28 = 1 := by kernel_rfl
    have oP : Tryd.prog.cellsOf 27 = 12 := by kernel_rfl
    have ou : Tryd.prog.cellsOf 5 = 1 := by kernel_rfl
    match xs, hlen with
    | [y0, y1, y2, y3, y4, y5, y6, y7, y8, y9, y10, y11, y12, y13, y14], _ =>
      have g0 : DataW.trod enc Tryd.prog w base (fun _ => true) held m 22 [c0] = some y0 := by simpa [Value.cells, oK] using hg 0 _ rfl
      have g1 : DataW.trod enc Tryd.prog w base (fun _ => true) held m 3 [c1] = some y1 := by simpa [Value.cells, o3] using hg 1 _ rfl
      have g2 : DataW.trod enc Tryd.prog w base (fun _ => true) held m 3 [c2] = some y2 := by simpa [Value.cells, o3] using hg 2 _ rfl
      have g3 : DataW.trod enc Tryd.prog w base (fun _ => true) held m 2 [c3] = some y3 := by simpa [Value.cells, o2] using hg 3 _ rfl
      have g4 : DataW.trod enc Tryd.prog w base (fun _ => true) held m 2 [c4] = some y4 := by simpa [Value.cells, o2] using hg 4 _ rfl
      have g5 : DataW.trod enc Tryd.prog w base (fun _ => true) held m 2 [c5] = some y5 := by simpa [Value.cells, o2] using hg 5 _ rfl
      have g6 : DataW.trod enc Tryd.prog w base (fun _ => true) held m 2 [c6] = some y6 := by simpa [Value.cells, o2] using hg 6 _ rfl
      have g7 : DataW.trod enc Tryd.prog w base (fun _ => true) held m 2 [c7] = some y7 := by simpa [Value.cells, o2] using hg 7 _ rfl
      have g8 : DataW.trod enc Tryd.prog w base (fun _ => true) held m 23 [c8] = some y8 := by simpa [Value.cells, o22] using hg 8 _ rfl
      have g9 : DataW.trod enc Tryd.prog w base (fun _ => true) held m 3 [c9] = some y9 := by simpa [Value.cells, o3] using hg 9 _ rfl
      have g10 : DataW.trod enc Tryd.prog w base (fun _ => true) held m 4 [c10] = some y10 := by simpa [Value.cells, o4] using hg 10 _ rfl
      have g11 : DataW.trod enc Tryd.prog w base (fun _ => true) held m 27 [c11, c12, c13, c14, c15, c16, c17, c18, c19, c20, c21, c22] = some y11 := by simpa [Value.cells, oP] using hg 11 _ rfl
      have g12 : DataW.trod enc Tryd.prog w base (fun _ => true) held m 25 [c23] = some y12 := by simpa [Value.cells, o24] using hg 12 _ rfl
      have g13 : DataW.trod enc Tryd.prog w base (fun _ => true) held m 28 [c24] = some y13 := by simpa [Value.cells, o28] using hg 13 _ rfl
      have g14 : DataW.trod enc Tryd.prog w base (fun _ => true) held m 28 [c25] = some y14 := by simpa [Value.cells, o28] using hg 14 _ rfl
      obtain ⟨a0, e0, -, w0⟩ := DataW.trod_int Tryd.underlying22 g0
      obtain ⟨a1, e1, -, w1⟩ := DataW.trod_int Tryd.underlying3 g1
      obtain ⟨a2, e2, -, w2⟩ := DataW.trod_int Tryd.underlying3 g2
      obtain ⟨a3, e3, -, w3⟩ := DataW.trod_int Tryd.underlying2 g3
      obtain ⟨a4, e4, -, w4⟩ := DataW.trod_int Tryd.underlying2 g4
      obtain ⟨a5, e5, -, w5⟩ := DataW.trod_int Tryd.underlying2 g5
      obtain ⟨a6, e6, -, w6⟩ := DataW.trod_int Tryd.underlying2 g6
      obtain ⟨a7, e7, -, w7⟩ := DataW.trod_int Tryd.underlying2 g7
      obtain ⟨a8, e8, -, w8⟩ := DataW.trod_int Tryd.underlying23 g8
      obtain ⟨a9, e9, -, w9⟩ := DataW.trod_int Tryd.underlying3 g9
      obtain ⟨a10, e10, -⟩ := DataW.trod_bool Tryd.underlying4 g10
      obtain ⟨pl, A1, n1, k1, A2, n2, k2, ep, wp⟩ := plan_cells rfl g11
      obtain ⟨A3, n3, k3, id, rfl, r3, l3, q3, m3, f3⟩ := ints_cell Tryd.underlying25 Tryd.underlying2 o2 g12
      obtain ⟨A4, n4, k4, se, rfl, r4, l4, q4, m4, f4⟩ := bytes_cell Tryd.underlying28 Tryd.underlying5 ou g13
      obtain ⟨A5, n5, k5, pa, rfl, r5, l5, q5, m5, f5⟩ := bytes_cell Tryd.underlying28 Tryd.underlying5 ou g14
      cases e0; cases e1; cases e2; cases e3; cases e4; cases e5; cases e6; cases e7; cases e8; cases e9; cases e10
      unfold pvs at ep
      injection ep with ep0 ep
      injection ep with ep1 ep
      injection ep with ep2 ep
      injection ep with ep3 ep
      injection ep with ep4 ep
      injection ep with ep5 ep
      injection ep with ep6 ep
      injection ep with ep7 ep
      injection ep with ep8 ep
      injection ep with ep9 ep
      injection ep with ep10 ep
      injection ep with ep11 ep
      subst ep0 ep1 ep2 ep3 ep4 ep5 ep6 ep7 ep8 ep9 ep10 ep11
      exact ⟨⟨a0, a1, a2, a3, a4, a5, a6, a7, a8, a9, a10, pl, id, se, pa⟩, ⟨A1, n1, k1, A2, n2, k2, A3, n3, k3, A4, n4, k4, A5, n5, k5⟩, rfl,
        ⟨⟨wf_i64 w0, wf_i64 w1, wf_i64 w2, wf_i64 w3, wf_i64 w4, wf_i64 w5, wf_i64 w6, wf_i64 w7, wf_u64 w8, wf_i64 w9, wp.ok, f3, f4, f5⟩, wp, r3, l3, q3, m3, r4, l4, q4, m4, r5, l5, q5, m5⟩⟩

theorem spans_at {H : Type} {enc : TypeId × Value → H} {w : World} {base : Nat} {sp : Nat → Bool} {held : Bool} {fuel : Nat} {cs : List Value} {p : List MemPlace}
    (h : DataW.trod enc Tryd.prog w base sp held fuel 120 cs = some (Rows.laid_locum_plan_spans, p)) : ∀ k, k < 20 → cs[k]? = some (.int .i64 (spans.getD k 0)) := by
  have c64 : Tryd.prog.cellsOf 119 = 2 := by kernel_rfl
  have c2 : Tryd.prog.cellsOf 2 = 1 := by kernel_rfl
  have el : ∀ i, i < 10 → (cs.drop (i * 2)).take 2 = [.int .i64 (Pm.lows.getD i 0), .int .i64 (Pm.tops.getD i 0)] := by
    intro i hi
    unfold Rows.laid_locum_plan_spans at h
    obtain ⟨f', d, q, hd, ht⟩ := Lib.array_elem Tryd.underlying120 h i hi
    rw [c64] at ht
    have hd' : d = .agg ([Pm.lows.getD i 0, Pm.tops.getD i 0].map fun z => .lit (.int .i64 z)) := by
      match i, hi with
      | 0, _ => exact (Option.some.inj hd).symm
      | 1, _ => exact (Option.some.inj hd).symm
      | 2, _ => exact (Option.some.inj hd).symm
      | 3, _ => exact (Option.some.inj hd).symm
      | 4, _ => exact (Option.some.inj hd).symm
      | 5, _ => exact (Option.some.inj hd).symm
      | 6, _ => exact (Option.some.inj hd).symm
      | 7, _ => exact (Option.some.inj hd).symm
      | 8, _ => exact (Option.some.inj hd).symm
      | 9, _ => exact (Option.some.inj hd).symm
    subst hd'
    exact Lib.ints_of_struct Tryd.underlying119 (fun j f hj => by
      match j, hj with
      | 0, hj => cases hj; exact ⟨Tryd.underlying2, rfl, c2⟩
      | 1, hj => cases hj; exact ⟨Tryd.underlying2, rfl, c2⟩
      | j + 2, hj => exact absurd (Array.getElem?_eq_some_iff.1 hj).1 (by simp)) c64 ht
  have two : ∀ i, i < 10 → cs[i * 2]? = some (.int .i64 (Pm.lows.getD i 0)) ∧ cs[i * 2 + 1]? = some (.int .i64 (Pm.tops.getD i 0)) := fun i hi => by
    have h1 := congrArg (·[0]?) (el i hi)
    have h2 := congrArg (·[1]?) (el i hi)
    simp [List.getElem?_drop] at h1 h2
    exact ⟨by simpa using h1, by simpa using h2⟩
  intro k hk
  match k, hk with
  | 0, _ => exact (two 0 (by omega)).1
  | 1, _ => exact (two 0 (by omega)).2
  | 2, _ => exact (two 1 (by omega)).1
  | 3, _ => exact (two 1 (by omega)).2
  | 4, _ => exact (two 2 (by omega)).1
  | 5, _ => exact (two 2 (by omega)).2
  | 6, _ => exact (two 3 (by omega)).1
  | 7, _ => exact (two 3 (by omega)).2
  | 8, _ => exact (two 4 (by omega)).1
  | 9, _ => exact (two 4 (by omega)).2
  | 10, _ => exact (two 5 (by omega)).1
  | 11, _ => exact (two 5 (by omega)).2
  | 12, _ => exact (two 6 (by omega)).1
  | 13, _ => exact (two 6 (by omega)).2
  | 14, _ => exact (two 7 (by omega)).1
  | 15, _ => exact (two 7 (by omega)).2
  | 16, _ => exact (two 8 (by omega)).1
  | 17, _ => exact (two 8 (by omega)).2
  | 18, _ => exact (two 9 (by omega)).1
  | 19, _ => exact (two 9 (by omega)).2
  | k + 20, hk => exact absurd hk (by omega)

theorem gNum : Tryd.prog.globalNamed "locum/plan.spans" = some 0 := by kernel_rfl
theorem gType : (Tryd.prog.globals[0]?).map (·.type) = some 120 := by kernel_rfl
theorem hNum : Tryd.prog.globalNamed "locum/crc.halves" = some 1 := by kernel_rfl
theorem hType : (Tryd.prog.globals[1]?).map (·.type) = some 126 := by kernel_rfl
theorem hCells : Tryd.prog.cellsOf 126 = 16 := by kernel_rfl
theorem hCell : Tryd.prog.cellsOf 85 = 1 := by kernel_rfl
/-- the row's conditions on the listed variables are the walks' tables -/
theorem tab_of_laid {W : World} (h : laidMet Tryd.prog [("locum/crc.halves", Rows.laid_locum_crc_halves), ("locum/plan.spans", Rows.laid_locum_plan_spans)] W) : Tab W := by
  obtain ⟨ps, ⟨_, _, _, _, _, _, _, _, _, _, hr, _⟩, _⟩ := h
  obtain ⟨g', t', cs, fuel, p, q, hg', ht', hvar, hd, _, _⟩ := hr
  obtain rfl := Option.some.inj (gNum.symm.trans hg')
  obtain rfl := Option.some.inj (gType.symm.trans ht')
  intro k hk
  have h1 := spans_at hd k hk
  have := World.var?_cell gNum hvar k
  rw [this]
  simpa using h1
theorem htab_of_laid {W : World} (h : laidMet Tryd.prog [("locum/crc.halves", Rows.laid_locum_crc_halves), ("locum/plan.spans", Rows.laid_locum_plan_spans)] W) : HTab W :=
  (Lib.tabIs_of_head (zs := Cm.tab) (rest := [("locum/plan.spans", Rows.laid_locum_plan_spans)]) hNum hType Tryd.underlying126 Tryd.underlying85 hCell hCells h).cell hNum
end Go.Proofs.YtpgfnhdaembhmaaDoor
