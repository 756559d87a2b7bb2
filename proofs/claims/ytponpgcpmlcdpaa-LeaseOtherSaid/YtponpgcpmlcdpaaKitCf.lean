/- api.Config in memory, and as an argument. -/
import Derived.Test.YtponpgcpmlcdpaaKitX
import Derived.OpenShut
import Derived.ChangeOld
import Derived.ChangeAt
import Derived.Test.YtponpgcpmlcdpaaBK
import Derived.Deep.Fields
import Derived.Deep.Matrix
namespace Go.Proofs.Ytponpgcpmlcdpaa.Kc
open Go.RowKit Go.Shelf Go.ChangeShapes Go.WideShapes Go.ChangeAt

def in64 (x : Int) : Prop := -9223372036854775808 ≤ x ∧ x ≤ 9223372036854775807
def i64s (zs : List Int) : List Value := zs.map (Value.int .i64)
structure Cf where
  f : Int
  deciders : Int
  targets : Int
  routers : Int
  observers : Int
  ta : Option Addr
  tn : Nat
  tc : Nat
  every : Int
  wait : Int
  rise : Int
  fall : Int
  fresh : Int
  l : Int
  m : Int
  dwell : Int
  d : Int
  w : Int
  b : Int
  hit : Int
  suppress : Int
  reuse : Int
  half : Int
  first : Int
  step : Int
  stepTime : Int
  s : Int
  cap : Int
  span : Int
  room : Int
  tries : Int
  retry : Int
def cf (c : Cf) : List Value := [.int .i64 c.f, .int .i64 c.deciders, .int .i64 c.targets, .int .i64 c.routers, .int .i64 c.observers, .slice c.ta c.tn c.tc,
  .int .i64 c.every, .int .i64 c.wait, .int .i64 c.rise, .int .i64 c.fall, .int .i64 c.fresh, .int .i64 c.l, .int .i64 c.m, .int .i64 c.dwell, .int .i64 c.d, .int .i64 c.w,
  .int .i64 c.b, .int .i64 c.hit, .int .i64 c.suppress, .int .i64 c.reuse, .int .i64 c.half, .int .i64 c.first, .int .i64 c.step, .int .i64 c.stepTime, .int .i64 c.s, .int .i64 c.cap,
  .int .i64 c.span, .int .i64 c.room, .int .i64 c.tries, .int .i64 c.retry]
/-- what holds of one: its numbers, and its list -/
structure CfAt (W : World) (c : Cf) (xs : List Int) : Prop where
  f : in64 c.f
  deciders : in64 c.deciders
  targets : in64 c.targets
  routers : in64 c.routers
  observers : in64 c.observers
  every : in64 c.every
  wait : in64 c.wait
  rise : in64 c.rise
  fall : in64 c.fall
  fresh : in64 c.fresh
  l : in64 c.l
  m : in64 c.m
  dwell : in64 c.dwell
  d : in64 c.d
  w : in64 c.w
  b : in64 c.b
  hit : in64 c.hit
  suppress : in64 c.suppress
  reuse : in64 c.reuse
  half : in64 c.half
  first : in64 c.first
  step : in64 c.step
  stepTime : in64 c.stepTime
  s : in64 c.s
  cap : in64 c.cap
  span : in64 c.span
  room : in64 c.room
  tries : in64 c.tries
  retry : in64 c.retry
  len : xs.length = c.tn
  le : c.tn ≤ c.tc
  max : c.tc ≤ maxLen
  fits : ∀ n ∈ xs, in64 n
  rd : Rd W W.heap.size c.ta (i64s xs)
theorem ints_cell {H : Type} {enc : TypeId × Value → H} {P : Program} {w : World} {base : Nat} {held : Bool} {t e : TypeId} {fuel : Nat} {c : Value} {x : DataW H × List MemPlace} (ht : P.underlying t = some (.slice e)) (he : P.underlying e = some (.int .i64)) (hc : P.cellsOf e = 1)
    (h : DataW.trod enc P w base (fun _ => true) held fuel t [c] = some x) : ∃ (A : Option Addr) (n cap : Nat) (xs : List Int), c = .slice A n cap ∧ Rd w w.heap.size A (i64s xs) ∧ xs.length = n ∧ n ≤ cap ∧ cap ≤ maxLen ∧ ∀ n ∈ xs, in64 n := by
  rcases open_ints ht he hc h with ⟨hcs, _⟩ | ⟨ad, l, c', zs, hcs, _, hl, hm, hz, hx, hcell, hwz⟩
  · cases hcs
    exact ⟨none, 0, 0, [], rfl, Rd.nil _ _ _, rfl, Nat.le_refl _, Nat.zero_le _, (fun _ h => absurd h List.not_mem_nil)⟩
  · cases hcs
    have hr : RowOf .i64 w (some ad) l c' zs := .inr ⟨ad, rfl, hl, hm, by simpa using hz, hcell, hwz⟩
    obtain ⟨xs, h1, h2, h3, h4, h5⟩ := row_rd hr
    exact ⟨some ad, l, c', xs, rfl, h4, h1, h2, h3, fun n hn => wf_i64 (h5 n hn)⟩
set_option maxRecDepth 100000 in
theorem cf_open {H : Type} {enc : TypeId × Value → H} {w : World} {base b0 : Nat} {held : Bool} {r : Reach} {v : Value} {d : DataW H} {p : List MemPlace} (hv : Value.okWide Try.prog w r b0 27 v) (h : DataW.Trod enc Try.prog w base (fun _ => true) held 27 v d p) :
    ∃ (y : Cf × List Int), v = .agg (cf y.1).toArray ∧ CfAt w y.1 y.2 := by
  have hu := Try.underlying27
  obtain ⟨cs, rfl, hsz⟩ := okWide_struct hu hv
  obtain ⟨l⟩ := cs
  have hC : Try.prog.cellsOf 27 = 30 := by kernel_rfl
  match l, hsz.trans hC with
  | [c0, c1, c2, c3, c4, c5, c6, c7, c8, c9, c10, c11, c12, c13, c14, c15, c16, c17, c18, c19, c20, c21, c22, c23, c24, c25, c26, c27, c28, c29], _ =>
    obtain ⟨fuel, hf⟩ := h
    obtain ⟨xs, m, _, hx, _, hlen, hg⟩ := DataW.trod_struct hu hf
    have oint64 : Try.prog.cellsOf 2 = 1 := by kernel_rfl
    have oint : Try.prog.cellsOf 3 = 1 := by kernel_rfl
    have os : Try.prog.cellsOf 25 = 1 := by kernel_rfl
    match xs, hlen with
    | [y0, y1, y2, y3, y4, y5, y6, y7, y8, y9, y10, y11, y12, y13, y14, y15, y16, y17, y18, y19, y20, y21, y22, y23, y24, y25, y26, y27, y28, y29], _ =>
      have g0 : DataW.trod enc Try.prog w base (fun _ => true) held m 3 [c0] = some y0 := by simpa [Value.cells, oint] using hg 0 _ rfl
      have g1 : DataW.trod enc Try.prog w base (fun _ => true) held m 3 [c1] = some y1 := by simpa [Value.cells, oint] using hg 1 _ rfl
      have g2 : DataW.trod enc Try.prog w base (fun _ => true) held m 3 [c2] = some y2 := by simpa [Value.cells, oint] using hg 2 _ rfl
      have g3 : DataW.trod enc Try.prog w base (fun _ => true) held m 3 [c3] = some y3 := by simpa [Value.cells, oint] using hg 3 _ rfl
      have g4 : DataW.trod enc Try.prog w base (fun _ => true) held m 3 [c4] = some y4 := by simpa [Value.cells, oint] using hg 4 _ rfl
      have g5 : DataW.trod enc Try.prog w base (fun _ => true) held m 25 [c5] = some y5 := by simpa [Value.cells, os] using hg 5 _ rfl
      have g6 : DataW.trod enc Try.prog w base (fun _ => true) held m 2 [c6] = some y6 := by simpa [Value.cells, oint64] using hg 6 _ rfl
      have g7 : DataW.trod enc Try.prog w base (fun _ => true) held m 2 [c7] = some y7 := by simpa [Value.cells, oint64] using hg 7 _ rfl
      have g8 : DataW.trod enc Try.prog w base (fun _ => true) held m 3 [c8] = some y8 := by simpa [Value.cells, oint] using hg 8 _ rfl
      have g9 : DataW.trod enc Try.prog w base (fun _ => true) held m 3 [c9] = some y9 := by simpa [Value.cells, oint] using hg 9 _ rfl
      have g10 : DataW.trod enc Try.prog w base (fun _ => true) held m 2 [c10] = some y10 := by simpa [Value.cells, oint64] using hg 10 _ rfl
      have g11 : DataW.trod enc Try.prog w base (fun _ => true) held m 2 [c11] = some y11 := by simpa [Value.cells, oint64] using hg 11 _ rfl
      have g12 : DataW.trod enc Try.prog w base (fun _ => true) held m 2 [c12] = some y12 := by simpa [Value.cells, oint64] using hg 12 _ rfl
      have g13 : DataW.trod enc Try.prog w base (fun _ => true) held m 2 [c13] = some y13 := by simpa [Value.cells, oint64] using hg 13 _ rfl
      have g14 : DataW.trod enc Try.prog w base (fun _ => true) held m 2 [c14] = some y14 := by simpa [Value.cells, oint64] using hg 14 _ rfl
      have g15 : DataW.trod enc Try.prog w base (fun _ => true) held m 2 [c15] = some y15 := by simpa [Value.cells, oint64] using hg 15 _ rfl
      have g16 : DataW.trod enc Try.prog w base (fun _ => true) held m 3 [c16] = some y16 := by simpa [Value.cells, oint] using hg 16 _ rfl
      have g17 : DataW.trod enc Try.prog w base (fun _ => true) held m 3 [c17] = some y17 := by simpa [Value.cells, oint] using hg 17 _ rfl
      have g18 : DataW.trod enc Try.prog w base (fun _ => true) held m 3 [c18] = some y18 := by simpa [Value.cells, oint] using hg 18 _ rfl
      have g19 : DataW.trod enc Try.prog w base (fun _ => true) held m 3 [c19] = some y19 := by simpa [Value.cells, oint] using hg 19 _ rfl
      have g20 : DataW.trod enc Try.prog w base (fun _ => true) held m 2 [c20] = some y20 := by simpa [Value.cells, oint64] using hg 20 _ rfl
      have g21 : DataW.trod enc Try.prog w base (fun _ => true) held m 3 [c21] = some y21 := by simpa [Value.cells, oint] using hg 21 _ rfl
      have g22 : DataW.trod enc Try.prog w base (fun _ => true) held m 3 [c22] = some y22 := by simpa [Value.cells, oint] using hg 22 _ rfl
      have g23 : DataW.trod enc Try.prog w base (fun _ => true) held m 2 [c23] = some y23 := by simpa [Value.cells, oint64] using hg 23 _ rfl
      have g24 : DataW.trod enc Try.prog w base (fun _ => true) held m 2 [c24] = some y24 := by simpa [Value.cells, oint64] using hg 24 _ rfl
      have g25 : DataW.trod enc Try.prog w base (fun _ => true) held m 3 [c25] = some y25 := by simpa [Value.cells, oint] using hg 25 _ rfl
      have g26 : DataW.trod enc Try.prog w base (fun _ => true) held m 2 [c26] = some y26 := by simpa [Value.cells, oint64] using hg 26 _ rfl
      have g27 : DataW.trod enc Try.prog w base (fun _ => true) held m 3 [c27] = some y27 := by simpa [Value.cells, oint] using hg 27 _ rfl
      have g28 : DataW.trod enc Try.prog w base (fun _ => true) held m 3 [c28] = some y28 := by simpa [Value.cells, oint] using hg 28 _ rfl
      have g29 : DataW.trod enc Try.prog w base (fun _ => true) held m 2 [c29] = some y29 := by simpa [Value.cells, oint64] using hg 29 _ rfl
      obtain ⟨a0, e0, -, w0⟩ := DataW.trod_int Try.underlying3 g0
      obtain ⟨a1, e1, -, w1⟩ := DataW.trod_int Try.underlying3 g1
      obtain ⟨a2, e2, -, w2⟩ := DataW.trod_int Try.underlying3 g2
      obtain ⟨a3, e3, -, w3⟩ := DataW.trod_int Try.underlying3 g3
      obtain ⟨a4, e4, -, w4⟩ := DataW.trod_int Try.underlying3 g4
      obtain ⟨A, n, c, z, rfl, r1, l1, q1, m1, f1⟩ := ints_cell Try.underlying25 Try.underlying3 oint g5
      obtain ⟨a6, e6, -, w6⟩ := DataW.trod_int Try.underlying2 g6
      obtain ⟨a7, e7, -, w7⟩ := DataW.trod_int Try.underlying2 g7
      obtain ⟨a8, e8, -, w8⟩ := DataW.trod_int Try.underlying3 g8
      obtain ⟨a9, e9, -, w9⟩ := DataW.trod_int Try.underlying3 g9
      obtain ⟨a10, e10, -, w10⟩ := DataW.trod_int Try.underlying2 g10
      obtain ⟨a11, e11, -, w11⟩ := DataW.trod_int Try.underlying2 g11
      obtain ⟨a12, e12, -, w12⟩ := DataW.trod_int Try.underlying2 g12
      obtain ⟨a13, e13, -, w13⟩ := DataW.trod_int Try.underlying2 g13
      obtain ⟨a14, e14, -, w14⟩ := DataW.trod_int Try.underlying2 g14
      obtain ⟨a15, e15, -, w15⟩ := DataW.trod_int Try.underlying2 g15
      obtain ⟨a16, e16, -, w16⟩ := DataW.trod_int Try.underlying3 g16
      obtain ⟨a17, e17, -, w17⟩ := DataW.trod_int Try.underlying3 g17
      obtain ⟨a18, e18, -, w18⟩ := DataW.trod_int Try.underlying3 g18
      obtain ⟨a19, e19, -, w19⟩ := DataW.trod_int Try.underlying3 g19
      obtain ⟨a20, e20, -, w20⟩ := DataW.trod_int Try.underlying2 g20
      obtain ⟨a21, e21, -, w21⟩ := DataW.trod_int Try.underlying3 g21
      obtain ⟨a22, e22, -, w22⟩ := DataW.trod_int Try.underlying3 g22
      obtain ⟨a23, e23, -, w23⟩ := DataW.trod_int Try.underlying2 g23
      obtain ⟨a24, e24, -, w24⟩ := DataW.trod_int Try.underlying2 g24
      obtain ⟨a25, e25, -, w25⟩ := DataW.trod_int Try.underlying3 g25
      obtain ⟨a26, e26, -, w26⟩ := DataW.trod_int Try.underlying2 g26
      obtain ⟨a27, e27, -, w27⟩ := DataW.trod_int Try.underlying3 g27
      obtain ⟨a28, e28, -, w28⟩ := DataW.trod_int Try.underlying3 g28
      obtain ⟨a29, e29, -, w29⟩ := DataW.trod_int Try.underlying2 g29
      cases e0; cases e1; cases e2; cases e3; cases e4; cases e6; cases e7; cases e8; cases e9; cases e10; cases e11; cases e12; cases e13; cases e14; cases e15; cases e16; cases e17; cases e18; cases e19; cases e20; cases e21; cases e22; cases e23; cases e24; cases e25; cases e26; cases e27; cases e28; cases e29
      exact ⟨(⟨a0, a1, a2, a3, a4, A, n, c, a6, a7, a8, a9, a10, a11, a12, a13, a14, a15, a16, a17, a18, a19, a20, a21, a22, a23, a24, a25, a26, a27, a28, a29⟩, z), rfl, ⟨wf_i64 w0, wf_i64 w1, wf_i64 w2, wf_i64 w3, wf_i64 w4, wf_i64 w6, wf_i64 w7, wf_i64 w8, wf_i64 w9, wf_i64 w10, wf_i64 w11, wf_i64 w12, wf_i64 w13, wf_i64 w14, wf_i64 w15, wf_i64 w16, wf_i64 w17, wf_i64 w18, wf_i64 w19, wf_i64 w20, wf_i64 w21, wf_i64 w22, wf_i64 w23, wf_i64 w24, wf_i64 w25, wf_i64 w26, wf_i64 w27, wf_i64 w28, wf_i64 w29, l1, q1, m1, f1, r1⟩⟩
end Go.Proofs.Ytponpgcpmlcdpaa.Kc
