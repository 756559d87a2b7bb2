/- A plan, and the tables that the rows list, as the walks take them. -/
import Derived.Test.YtpbogacodhjlfaaDoorHz
import Derived.Test.YtpbogacodhjlfaaDoorRows
import Derived.ProofKit
import Derived.OpenShut
import Derived.ChangeOld
import Derived.Deep.DeepHandedRow
import Derived.Deep.Fields
import Derived.Deep.Matrix
import Derived.Lib.LaidTab
import Derived.Lib.LaidU8
namespace Go.Proofs.YtpbogacodhjlfaaDoor
open Go.ChangeShapes Go.WideShapes Go.ChangeAt Go.RowKit Kx Kc Kt

theorem wf_u64 {n : Int} (h : (Lit.int .u64 n).wf = true) : Pm.U n := by
  unfold Pm.U
  simpa [Lit.wf, IntKind.min, IntKind.max, IntKind.signed, IntKind.bits] using h

theorem ints_cell13 {H : Type} {enc : TypeId × Value → H} {P : Program} {w : World} {base : Nat} {held : Bool} {t e : TypeId} {fuel : Nat} {c : Value} {x : DataW H × List MemPlace} (ht : P.underlying t = some (.slice e)) (he : P.underlying e = some (.int .i64)) (hc : P.cellsOf e = 1)
    (h : DataW.trod enc P w base (fun _ => true) held fuel t [c] = some x) : ∃ (A : Option Addr) (n cap : Nat) (xs : List Int), c = .slice A n cap ∧ Rd w w.heap.size A (i64s xs) ∧ xs.length = n ∧ n ≤ cap ∧ cap ≤ maxLen ∧ Wm.Fits xs := by
  rcases open_ints ht he hc h with ⟨hcs, _⟩ | ⟨ad, l, c', zs, hcs, _, hl, hm, hz, hx, hcell, hwz⟩
  · cases hcs
    exact ⟨none, 0, 0, [], rfl, Rd.nil _ _ _, rfl, Nat.le_refl _, Nat.zero_le _, (fun _ h => absurd h List.not_mem_nil)⟩
  · cases hcs
    have hr : RowOf .i64 w (some ad) l c' zs := .inr ⟨ad, rfl, hl, hm, by simpa using hz, hcell, hwz⟩
    obtain ⟨xs, h1, h2, h3, h4, h5⟩ := row_rd hr
    exact ⟨some ad, l, c', xs, rfl, h4, h1, h2, h3, fun n hn => wf_i64 (h5 n hn)⟩

theorem pt_open {H : Type} {enc : TypeId × Value → H} {w : World} {base b0 : Nat} {held : Bool} {r : Reach} {v : Value} {d : DataW H} {p : List MemPlace} (hv : Value.okWide Tryd.prog w r b0 28 v) (h : DataW.Trod enc Tryd.prog w base (fun _ => true) held 28 v d p) :
    ∃ (y : Pt), v = .agg y.cells.toArray ∧ PAt w w.heap.size y.x y.A y.n y.c y.A' y.n' y.c' := by
  have hu := Tryd.underlying28
  obtain ⟨cs, rfl, hsz⟩ := okWide_struct hu hv
  obtain ⟨l⟩ := cs
  have hC : Tryd.prog.cellsOf 28 = 12 := by kernel_rfl
  match l, hsz.trans hC with
  | [c0, c1, c2, c3, c4, c5, c6, c7, c8, c9, c10, c11], _ =>
    obtain ⟨fuel, hf⟩ := h
    obtain ⟨xs, m, _, hx, _, hlen, hg⟩ := DataW.trod_struct hu hf
    have o2 : Tryd.prog.cellsOf 2 = 1 := by kernel_rfl
    have o3 : Tryd.prog.cellsOf 3 = 1 := by kernel_rfl
    have o22 : Tryd.prog.cellsOf 25 = 1 := by kernel_rfl
    have o23 : Tryd.prog.cellsOf 22 = 1 := by kernel_rfl
    have o24 : Tryd.prog.cellsOf 26 = 1 := by kernel_rfl
    match xs, hlen with
    | [y0, y1, y2, y3, y4, y5, y6, y7, y8, y9, y10, y11], _ =>
      have g0 : DataW.trod enc Tryd.prog w base (fun _ => true) held m 2 [c0] = some y0 := by simpa [Value.cells, o2] using hg 0 _ rfl
      have g1 : DataW.trod enc Tryd.prog w base (fun _ => true) held m 3 [c1] = some y1 := by simpa [Value.cells, o3] using hg 1 _ rfl
      have g2 : DataW.trod enc Tryd.prog w base (fun _ => true) held m 3 [c2] = some y2 := by simpa [Value.cells, o3] using hg 2 _ rfl
      have g3 : DataW.trod enc Tryd.prog w base (fun _ => true) held m 3 [c3] = some y3 := by simpa [Value.cells, o3] using hg 3 _ rfl
      have g4 : DataW.trod enc Tryd.prog w base (fun _ => true) held m 3 [c4] = some y4 := by simpa [Value.cells, o3] using hg 4 _ rfl
      have g5 : DataW.trod enc Tryd.prog w base (fun _ => true) held m 2 [c5] = some y5 := by simpa [Value.cells, o2] using hg 5 _ rfl
      have g6 : DataW.trod enc Tryd.prog w base (fun _ => true) held m 2 [c6] = some y6 := by simpa [Value.cells, o2] using hg 6 _ rfl
      have g7 : DataW.trod enc Tryd.prog w base (fun _ => true) held m 2 [c7] = some y7 := by simpa [Value.cells, o2] using hg 7 _ rfl
      have g8 : DataW.trod enc Tryd.prog w base (fun _ => true) held m 25 [c8] = some y8 := by simpa [Value.cells, o22] using hg 8 _ rfl
      have g9 : DataW.trod enc Tryd.prog w base (fun _ => true) held m 25 [c9] = some y9 := by simpa [Value.cells, o22] using hg 9 _ rfl
      have g10 : DataW.trod enc Tryd.prog w base (fun _ => true) held m 22 [c10] = some y10 := by simpa [Value.cells, o23] using hg 10 _ rfl
      have g11 : DataW.trod enc Tryd.prog w base (fun _ => true) held m 26 [c11] = some y11 := by simpa [Value.cells, o24] using hg 11 _ rfl
      obtain ⟨a0, e0, -, w0⟩ := DataW.trod_int Tryd.underlying2 g0
      obtain ⟨a1, e1, -, w1⟩ := DataW.trod_int Tryd.underlying3 g1
      obtain ⟨a2, e2, -, w2⟩ := DataW.trod_int Tryd.underlying3 g2
      obtain ⟨a3, e3, -, w3⟩ := DataW.trod_int Tryd.underlying3 g3
      obtain ⟨a4, e4, -, w4⟩ := DataW.trod_int Tryd.underlying3 g4
      obtain ⟨a5, e5, -, w5⟩ := DataW.trod_int Tryd.underlying2 g5
      obtain ⟨a6, e6, -, w6⟩ := DataW.trod_int Tryd.underlying2 g6
      obtain ⟨a7, e7, -, w7⟩ := DataW.trod_int Tryd.underlying2 g7
      obtain ⟨a8, e8, -, w8⟩ := DataW.trod_int Tryd.underlying25 g8
      obtain ⟨a9, e9, -, w9⟩ := DataW.trod_int Tryd.underlying25 g9
      obtain ⟨A, n, c, pen, rfl, r1, l1, q1, m1, f1⟩ := ints_cell13 Tryd.underlying22 Tryd.underlying3 o3 g10
      obtain ⟨A', n', c', ch, rfl, r2, l2, q2, m2, f2⟩ := ints_cell13 Tryd.underlying26 Tryd.underlying2 o2 g11
      cases e0; cases e1; cases e2; cases e3; cases e4; cases e5; cases e6; cases e7; cases e8; cases e9
      exact ⟨⟨⟨a0, a1, a2, a3, a4, a5, a6, a7, a8, a9, pen, ch⟩, A, n, c, A', n', c'⟩, rfl,
        ⟨⟨wf_i64 w0, wf_i64 w1, wf_i64 w2, wf_i64 w3, wf_i64 w4, wf_i64 w5, wf_i64 w6, wf_i64 w7, wf_u64 w8, wf_u64 w9, f1, f2⟩, r1, r2, q2, l1, l2⟩⟩

theorem spans_at {H : Type} {enc : TypeId × Value → H} {w : World} {base : Nat} {sp : Nat → Bool} {held : Bool} {fuel : Nat} {cs : List Value} {p : List MemPlace}
    (h : DataW.trod enc Tryd.prog w base sp held fuel 79 cs = some (Rows.laid_locum_plan_spans, p)) : ∀ k, k < 20 → cs[k]? = some (.int .i64 (Gm.bnds.getD k 0)) := by
  have c64 : Tryd.prog.cellsOf 78 = 2 := by kernel_rfl
  have c2 : Tryd.prog.cellsOf 2 = 1 := by kernel_rfl
  have el : ∀ i, i < 10 → (cs.drop (i * 2)).take 2 = [.int .i64 (Pm.lows.getD i 0), .int .i64 (Pm.tops.getD i 0)] := by
    intro i hi
    unfold Rows.laid_locum_plan_spans at h
    obtain ⟨f', d, q, hd, ht⟩ := Lib.array_elem Tryd.underlying79 h i hi
    rw [c64] at ht
    have hd' : d = .agg ([Pm.lows.getD i 0, Pm.tops.getD i 0].map fun z => .lit (.int .i64 z)) := by
      match i, hi with
      | 0, _ => exact (Option.some.inj hd).symm
      | 1, _ => exact (Option.some.inj hd).symm
      | 2, _ => exact (Option.some.inj hd).symm
      | 3, _ => exact (Option.some.inj hd).symm
      | 4, _ => exact (Option.some.inj hd).symm
      | 5, _ => exact (Option.some.inj hd).symm
      | 6, _ => exact (Option.some.inj hd).symm
      | 7, _ => exact (Option.some.inj hd).symm
      | 8, _ => exact (Option.some.inj hd).symm
      | 9, _ => exact (Option.some.inj hd).symm
    subst hd'
    exact Lib.ints_of_struct Tryd.underlying78 (fun j f hj => by
      match j, hj with
      | 0, hj => cases hj; exact ⟨Tryd.underlying2, rfl, c2⟩
      | 1, hj => cases hj; exact ⟨Tryd.underlying2, rfl, c2⟩
      | j + 2, hj => exact absurd (Array.getElem?_eq_some_iff.1 hj).1 (by simp)) c64 ht
  have two : ∀ i, i < 10 → cs[i * 2]? = some (.int .i64 (Pm.lows.getD i 0)) ∧ cs[i * 2 + 1]? = some (.int .i64 (Pm.tops.getD i 0)) := fun i hi => by
    have h1 := congrArg (·[0]?) (el i hi)
    have h2 := congrArg (·[1]?) (el i hi)
    simp [List.getElem?_drop] at h1 h2
    exact ⟨by simpa using h1, by simpa using h2⟩
  intro k hk
  match k, hk with
  | 0, _ => exact (two 0 (by omega)).1
  | 1, _ => exact (two 0 (by omega)).2
  | 2, _ => exact (two 1 (by omega)).1
  | 3, _ => exact (two 1 (by omega)).2
  | 4, _ => exact (two 2 (by omega)).1
  | 5, _ => exact (two 2 (by omega)).2
  | 6, _ => exact (two 3 (by omega)).1
  | 7, _ => exact (two 3 (by omega)).2
  | 8, _ => exact (two 4 (by omega)).1
  | 9, _ => exact (two 4 (by omega)).2
  | 10, _ => exact (two 5 (by omega)).1
  | 11, _ => exact (two 5 (by omega)).2
  | 12, _ => exact (two 6 (by omega)).1
  | 13, _ => exact (two 6 (by omega)).2
  | 14, _ => exact (two 7 (by omega)).1
  | 15, _ => exact (two 7 (by omega)).2
  | 16, _ => exact (two 8 (by omega)).1
  | 17, _ => exact (two 8 (by omega)).2
  | 18, _ => exact (two 9 (by omega)).1
  | 19, _ => exact (two 9 (by omega)).2
  | k + 20, hk => exact absurd hk (by omega)

theorem gNumS : Tryd.prog.globalNamed "locum/plan.spans" = some 0 := by kernel_rfl
theorem gTypeS : (Tryd.prog.globals[0]?).map (·.type) = some 79 := by kernel_rfl
theorem gNumD : Tryd.prog.globalNamed "locum/decay.shares" = some 1 := by kernel_rfl
theorem gTypeD : (Tryd.prog.globals[1]?).map (·.type) = some 83 := by kernel_rfl
theorem gCellsD : Tryd.prog.cellsOf 83 = 16 := by kernel_rfl
theorem gCellD : Tryd.prog.cellsOf 2 = 1 := by kernel_rfl
theorem gNumB : Tryd.prog.globalNamed "math/bits.deBruijn64tab" = some 2 := by kernel_rfl
theorem gTypeB : (Tryd.prog.globals[2]?).map (·.type) = some 84 := by kernel_rfl
theorem gCellsB : Tryd.prog.cellsOf 84 = 64 := by kernel_rfl
theorem gCellB : Tryd.prog.cellsOf 5 = 1 := by kernel_rfl
def btab : List Int := [0, 1, 56, 2, 57, 49, 28, 3, 61, 58, 42, 50, 38, 29, 17, 4, 62, 47, 59, 36, 45, 43, 51, 22, 53, 39, 33, 30, 24, 18, 12, 5, 63, 55, 48, 27, 60, 41, 37, 16, 46, 35, 44, 21, 52, 32, 23, 11, 54, 26, 40, 15, 34, 20, 31, 10, 25, 14, 19, 9, 13, 8, 7, 6]
theorem btab_eq : ∀ k, k < 64 → btab.getD k 0 = ((Lib.deBruijn64tab.getD k 0 : Nat) : Int) := by decide +kernel
theorem laidMet_tail {P : Program} {x : String × DataW Unit} {rest : List (String × DataW Unit)} {W : World} (h : laidMet P (x :: rest) W) : laidMet P rest W := by
  obtain ⟨n, d⟩ := x
  obtain ⟨ps, ⟨g', t', cs, fuel, p, q, hg', ht', hvar, hd, hrest, rfl⟩, hnd, hio⟩ := h
  exact ⟨q, hrest, (List.nodup_append.1 hnd).2.1, fun b off hm => hio b off (List.mem_append_right _ hm)⟩
/-- the row's condition on the listed variables is the walks' tables -/
theorem tabs_of {W : World} (h : laidMet Tryd.prog [("math/bits.deBruijn64tab", Rows.laid_math_bits_deBruijn64tab), ("locum/decay.shares", Rows.laid_locum_decay_shares), ("locum/plan.spans", Rows.laid_locum_plan_spans)] W) : Tabs W := by
  refine ⟨?_, ?_, ?_⟩
  · exact (Lib.tabIs_of_head (zs := Dm.tab) (rest := [("locum/plan.spans", Rows.laid_locum_plan_spans)]) gNumD gTypeD Tryd.underlying83 Tryd.underlying2 gCellD gCellsD (laidMet_tail h)).cell gNumD
  · intro k hk
    have := (Lib.tabIs_of_head (zs := btab) (rest := [("locum/decay.shares", Rows.laid_locum_decay_shares), ("locum/plan.spans", Rows.laid_locum_plan_spans)]) gNumB gTypeB Tryd.underlying84 Tryd.underlying5 gCellB gCellsB h).cell gNumB k hk
    rwa [btab_eq k hk] at this
  · obtain ⟨ps, ⟨g', t', cs, fuel, p, q, hg', ht', hvar, hd, _, _⟩, _⟩ := laidMet_tail (laidMet_tail h)
    obtain rfl := Option.some.inj (gNumS.symm.trans hg')
    obtain rfl := Option.some.inj (gTypeS.symm.trans ht')
    intro k hk
    have h1 := spans_at hd k hk
    have := World.var?_cell gNumS hvar k
    rw [this]
    simpa using h1
end Go.Proofs.YtpbogacodhjlfaaDoor
