/- Three lists read one behind the other: the program's. -/
import Derived.Test.YtdcdlnmgbgeeeaaDoorPg
namespace Go.Proofs.YtdcdlnmgbgeeeaaDoor
open Go.RowKit Go.Shelf

theorem grown_set (b : Nat) : ∀ (vs : List Value) (o : Nat) (W : World), W.grownBy (W.setCells b o vs) (some b)
  | [], _, W => ⟨rfl, rfl, rfl, Nat.le_refl _, fun _ _ _ => rfl⟩
  | v :: r, o, W => by
    rw [World.setCells]
    have h1 : W.grownBy (W.setCell ⟨b, o, none⟩ v) (some b) := ⟨rfl, rfl, rfl, (KeepsWalks.setCell W _ v).size, fun k _ hk => Below.heap_setCell _ _ _ k (fun e => hk (by rw [e]))⟩
    exact h1.trans (grown_set b r (o + 1) _)
theorem grown_set1 (b o : Nat) (v : Value) (W : World) : W.grownBy (W.setCell ⟨b, o, none⟩ v) (some b) :=
  ⟨rfl, rfl, rfl, (KeepsWalks.setCell W _ v).size, fun k _ hk => Below.heap_setCell _ _ _ k (fun e => hk (by rw [e]))⟩
theorem own_grown {w w' : World} {base : Nat} {e : TypeId} {v : Value} {n b : Nat} {xs : List Value} (h : w.ownsRow base e 1 v n xs) (hg : w.grownBy w' (some b)) (hb : b < base) : w'.ownsRow base e 1 v n xs := by
  refine h.kept hg ?_
  cases hv : v.ownBlock with
  | none => exact .inl rfl
  | some k => exact .inr (fun e => by injection e with e; have := (h.lt k hv).1; omega)
theorem below_grown {B b : Nat} {w0 w w' : World} (h : Below B w0 w) (hg : w.grownBy w' (some b)) (hb : B ≤ b) (hB : B ≤ w.heap.size) : Below B w0 w' :=
  h.grown hg hB (fun k hk => by injection hk with hk; omega)

namespace Pm
/-- the lists that stand one behind the other from the beginning on, and where the last one ends -/
def Reads (b : List Int) : List (List Int) → Nat → Prop
  | [], to => to = 0
  | [l], to => Wm.rints b 0 = (l, (to : Int), 0)
  | [l, m], to => ∃ n : Nat, Wm.rints b 0 = (l, (n : Int), 0) ∧ Wm.rints b (n : Int) = (m, (to : Int), 0)
  | [l, m, o], to => ∃ n k : Nat, Wm.rints b 0 = (l, (n : Int), 0) ∧ Wm.rints b (n : Int) = (m, (k : Int), 0) ∧ Wm.rints b (k : Int) = (o, (to : Int), 0)
  | _, _ => False
theorem Reads.err {b : List Int} {ls : List (List Int)} {to : Nat} (h : Reads b ls to) (hl : ls.length < 3) (he : (Wm.rints b (to : Int)).2.2 ≠ 0) : get3 b = none := by
  match ls, hl with
  | [], _ => cases h; exact get3_err0 he
  | [l], _ => exact get3_err1 h he
  | [l, m], _ =>
    obtain ⟨n, h0, h1⟩ := h
    exact get3_err2 h0 h1 he
theorem Reads.more {b : List Int} {ls : List (List Int)} {to to' : Nat} {l : List Int} (h : Reads b ls to) (hl : ls.length < 3) (he : Wm.rints b (to : Int) = (l, (to' : Int), 0)) : Reads b (ls ++ [l]) to' := by
  match ls, hl with
  | [], _ => cases h; exact he
  | [m], _ => exact ⟨to, h, he⟩
  | [m, o], _ =>
    obtain ⟨n, h0, h1⟩ := h
    exact ⟨n, to, h0, h1, he⟩
theorem Reads.done {b : List Int} {ls : List (List Int)} {to : Nat} (h : Reads b ls to) (hl : ls.length = 3) : ∃ l m o, ls = [l, m, o] ∧ (to = b.length → get3 b = some (l, m, o)) ∧ (to ≠ b.length → get3 b = none) := by
  match ls, hl with
  | [l, m, o], _ =>
    obtain ⟨n, k, h0, h1, h2⟩ := h
    exact ⟨l, m, o, rfl, fun e => get3_ok h0 h1 h2 e, fun e => get3_more h0 h1 h2 e⟩
end Pm

theorem frozen_new (w : World) (cs : Array Value) (t : TypeId) {b j : Nat} (hb : b = w.heap.size) : (w.alloc (.cells cs t)).frozen? ⟨b, j, none⟩ = false := by
  subst hb
  unfold World.frozen?
  rw [heap_alloc_new]
  simp

/-- three slices in block b; the first ones are rows of their own with these numbers -/
structure Lst (w : World) (b : Nat) (ls : List (List Int)) (vs : List Value) : Prop where
  len : vs.length = 3
  lay : w.rangeAt b 0 vs
  free : ∀ j, j < 3 → w.frozen? ⟨b, j, none⟩ = false
  form : ∀ j, j < 3 → ∃ A n c, vs[j]? = some (.slice A n c)
  own : ∀ (j : Nat) (l : List Int), ls[j]? = some l → ∃ v, vs[j]? = some v ∧ w.ownsRow (b + 1) 2 1 v l.length (i64s l)

theorem frozen_below {B : Nat} {w w' : World} (hb : Below B w w') {a : Addr} (ha : a.block < B) : w'.frozen? a = w.frozen? a := hb.frozen ha

theorem Lst.below {w w' : World} {b : Nat} {ls : List (List Int)} {vs : List Value} (h : Lst w b ls vs) (hb : Below w.heap.size w w') (hlt : b < w.heap.size) : Lst w' b ls vs :=
  ⟨h.len, fun j v hv => by rw [hb.cell (by exact hlt)]; exact h.lay j v hv, fun j hj => by rw [frozen_below hb (by exact hlt)]; exact h.free j hj, h.form,
    fun j l hl => by
      obtain ⟨v, hv, ho⟩ := h.own j l hl
      exact ⟨v, hv, own_below ho hb (Nat.le_refl _)⟩⟩
theorem Lst.other {w w' : World} {b b2 : Nat} {ls : List (List Int)} {vs : List Value} (h : Lst w b ls vs) (hg : w.grownBy w' (some b2)) (hne : b2 < b) (hlt : b < w.heap.size) : Lst w' b ls vs := by
  have hblk : w'.heap[b]? = w.heap[b]? := hg.block b hlt (fun e => by injection e with e; omega)
  exact ⟨h.len, fun j v hv => by rw [World.cell?_of_block hblk]; exact h.lay j v hv, fun j hj => by rw [World.frozen?_of_block hblk]; exact h.free j hj, h.form,
    fun j l hl => by
      obtain ⟨v, hv, ho⟩ := h.own j l hl
      exact ⟨v, hv, own_grown ho hg (by omega)⟩⟩
theorem Lst.cell {w : World} {b : Nat} {ls : List (List Int)} {vs : List Value} (h : Lst w b ls vs) {j : Nat} (hj : j < 3) : ∃ v, w.cell? ⟨b, j, none⟩ = some v := by
  obtain ⟨A, n, c, hv⟩ := h.form j hj
  have := h.lay j _ hv
  rw [Nat.zero_add] at this
  exact ⟨_, this⟩
theorem Lst.set {w : World} {b : Nat} {ls : List (List Int)} {vs : List Value} (h : Lst w b ls vs) {A : Option Addr} {c : Nat} {l : List Int} (hk : ls.length < 3) (ho : w.ownsRow (b + 1) 2 1 (.slice A l.length c) l.length (i64s l)) :
    Lst (w.setCell ⟨b, ls.length, none⟩ (.slice A l.length c)) b (ls ++ [l]) (vs.set ls.length (.slice A l.length c)) := by
  have hg := grown_set1 b ls.length (.slice A l.length c) w
  refine ⟨by rw [List.length_set]; exact h.len, fun j v hv => ?_, fun j hj => by rw [World.frozen?_setCell]; exact h.free j hj, fun j hj => ?_, fun j m hm => ?_⟩
  · rw [List.getElem?_set] at hv
    obtain ⟨u, hu⟩ := h.cell hk
    by_cases e : ls.length = j
    · subst e
      rw [if_pos rfl, if_pos (by rw [h.len]; exact hk)] at hv
      rw [Nat.zero_add, World.cell?_setCell_same _ _ _ hu]
      exact hv
    · rw [if_neg e] at hv
      rw [World.cell?_setCell_other _ _ _ _ (fun q => e (by injection q with _ q; omega))]
      exact h.lay j v hv
  · rw [List.getElem?_set]
    by_cases e : ls.length = j
    · rw [if_pos e, if_pos (by rw [h.len]; exact hk)]; exact ⟨_, _, _, rfl⟩
    · rw [if_neg e]; exact h.form j hj
  · rw [List.getElem?_set]
    by_cases e : ls.length = j
    · subst e
      rw [List.getElem?_append_right (Nat.le_refl _), Nat.sub_self] at hm
      cases hm
      exact ⟨_, by rw [if_pos rfl, if_pos (by rw [h.len]; exact hk)], own_grown ho hg (Nat.lt_succ_self _)⟩
    · have hj : j < (ls ++ [l]).length := (List.getElem?_eq_some_iff.1 hm).1
      rw [List.length_append, List.length_singleton] at hj
      rw [List.getElem?_append_left (by omega)] at hm
      obtain ⟨v, hv, ho'⟩ := h.own j m hm
      exact ⟨v, by rw [if_neg e]; exact hv, own_grown ho' hg (Nat.lt_succ_self _)⟩

theorem info_three : (Tryd.prog.info? 51).map (·.size) = some 3 := by kernel_rfl

/-- what reading three lists gives -/
def Got3 (w0 w : World) (r : Option (List Int × List Int × List Int)) (v0 v1 v2 : Value) : Prop :=
  (∃ A n c, v0 = .slice A n c) ∧ (∃ A n c, v1 = .slice A n c) ∧ (∃ A n c, v2 = .slice A n c) ∧
  ∀ l m o, r = some (l, m, o) → w.ownsRow w0.heap.size 2 1 v0 l.length (i64s l) ∧ w.ownsRow w0.heap.size 2 1 v1 m.length (i64s m) ∧ w.ownsRow w0.heap.size 2 1 v2 o.length (i64s o)

theorem lst_three {w : World} {b : Nat} {ls : List (List Int)} {vs : List Value} (h : Lst w b ls vs) : ∃ v0 v1 v2, vs = [v0, v1, v2] ∧ (∃ A n c, v0 = .slice A n c) ∧ (∃ A n c, v1 = .slice A n c) ∧ (∃ A n c, v2 = .slice A n c) := by
  have hl := h.len
  match vs, hl with
  | [v0, v1, v2], _ =>
    obtain ⟨A0, n0, c0, h0⟩ := h.form 0 (by omega)
    obtain ⟨A1, n1, c1, h1⟩ := h.form 1 (by omega)
    obtain ⟨A2, n2, c2, h2⟩ := h.form 2 (by omega)
    cases h0; cases h1; cases h2
    exact ⟨_, _, _, rfl, ⟨_, _, _, rfl⟩, ⟨_, _, _, rfl⟩, ⟨_, _, _, rfl⟩⟩

theorem results_ct {P : Program} {fn : Func} {p u : Tmp} {ty : TypeId} (h : fn.results = #[.cell p ty, .tmp u]) (tmps : Array Value) (w : World) (b : Nat) (cs : List Value) (d : TypeDesc)
    (hp : tmps.getD p undef = .pointer (some ⟨b, 0, none⟩)) (hr : w.rangeAt b 0 cs) (hu : P.underlying ty = some d) (hd : d.isRow = true) (hi : (P.info? ty).map (·.size) = some cs.length) :
    (results fn tmps).run P w = .ok (.tuple #[.agg cs.toArray, tmps.getD u undef]) w := by
  have hp' : (asAddr (tmps.getD p undef)).run P w = .ok ⟨b, 0, none⟩ w := by rw [hp]; rfl
  rw [results_cell_tmp h, hp', Result.andThen_ok, run_loadVar_mid w b 0 ty cs d hr hu hd hi, Result.andThen_ok]

/-- the end of a reading: the three slices are handed out through the result's own block -/
theorem got_end {w w3 : World} {ls : List (List Int)} {vs : List Value} {r : Option (List Int × List Int × List Int)} (h : Lst w3 (w.heap.size + 1) ls vs) (hb : Below w.heap.size w w3) (hz : w.heap.size + 2 ≤ w3.heap.size)
    (hr : ∀ l m o, r = some (l, m, o) → ls = [l, m, o]) : ∃ v0 v1 v2, vs = [v0, v1, v2] ∧ Got3 w (w3.setCells w.heap.size 0 vs) r v0 v1 v2 ∧ Below w.heap.size w (w3.setCells w.heap.size 0 vs) := by
  obtain ⟨v0, v1, v2, hv, f0, f1, f2⟩ := lst_three h
  have h' := h.other (grown_set w.heap.size vs 0 w3) (Nat.lt_succ_self _) (by omega)
  refine ⟨v0, v1, v2, hv, ⟨f0, f1, f2, fun l m o e => ?_⟩, below_grown hb (grown_set w.heap.size vs 0 w3) (Nat.le_refl _) hb.size⟩
  have e2 := hr l m o e
  subst e2
  subst hv
  obtain ⟨u0, g0, o0⟩ := h'.own 0 l rfl
  obtain ⟨u1, g1, o1⟩ := h'.own 1 m rfl
  obtain ⟨u2, g2, o2⟩ := h'.own 2 o rfl
  cases g0; cases g1; cases g2
  exact ⟨own_mono o0 (by omega), own_mono o1 (by omega), own_mono o2 (by omega)⟩

theorem slices_one {w : World} {b : Nat} {ls : List (List Int)} {vs : List Value} (h : Lst w b ls vs) : vs.toArray.all (·.oneCell') = true := by
  obtain ⟨v0, v1, v2, rfl, ⟨_, _, _, rfl⟩, ⟨_, _, _, rfl⟩, ⟨_, _, _, rfl⟩⟩ := lst_three h
  simp [Value.oneCell']

set_option maxRecDepth 100000 in
set_option maxHeartbeats 4000000 in
theorem threeLists_any (A : Option Addr) (n cap B : Nat) (xs : List Int) (w : World) (hx : Rd w B A (u8s xs)) (hn : xs.length = n) (hnc : n ≤ cap) (hcap : cap ≤ maxLen) (hB : B ≤ w.heap.size) (hb : ∀ x ∈ xs, 0 ≤ x ∧ x ≤ 255) :
    Calls Tryd.prog 27 #[.slice A n cap] w fun e w' => ∃ v0 v1 v2, e = .returned (.tuple #[.agg #[v0, v1, v2], .bool (Pm.get3 xs).isSome]) ∧ Got3 w w' (Pm.get3 xs) v0 v1 v2 ∧ Below w.heap.size w w' := by
  have HX := Lib.hid hx
  have HN := Lib.hid hn
  have HB := Lib.hid hb
  have hcap' := hcap
  unfold maxLen at hcap'
  clear hx hb hn
  go_enter Tryd.func27, Tryd.ntmps27
  go_wp2
  have hb0 : Hid (Below w.heap.size w ((w.alloc (.cells #[.slice none 0 0, .slice none 0 0, .slice none 0 0] 51)).alloc (.cells #[.slice none 0 0, .slice none 0 0, .slice none 0 0] 51))) := ((Below.refl _ w).alloc (Nat.le_refl _) _).alloc (by simp) _
  have hz0 : Hid (w.heap.size + 2 ≤ ((w.alloc (.cells #[.slice none 0 0, .slice none 0 0, .slice none 0 0] 51)).alloc (.cells #[.slice none 0 0, .slice none 0 0, .slice none 0 0] 51)).heap.size) := by
    show _ ≤ _
    rw [World.size_alloc, World.size_alloc]; exact Nat.le_refl _
  have ht0 : Hid (((w.alloc (.cells #[.slice none 0 0, .slice none 0 0, .slice none 0 0] 51)).alloc (.cells #[.slice none 0 0, .slice none 0 0, .slice none 0 0] 51)).there w.heap.size 0 3) := by
    refine World.there_alloc (fun j hj => ?_) _
    match j, hj with
    | 0, _ => exact ⟨by rw [World.cell?_alloc_at (hn := rfl)]; rfl, frozen_new _ _ _ rfl⟩
    | 1, _ => exact ⟨by rw [World.cell?_alloc_at (hn := rfl)]; rfl, frozen_new _ _ _ rfl⟩
    | 2, _ => exact ⟨by rw [World.cell?_alloc_at (hn := rfl)]; rfl, frozen_new _ _ _ rfl⟩
  have hl0 : Hid (Lst ((w.alloc (.cells #[.slice none 0 0, .slice none 0 0, .slice none 0 0] 51)).alloc (.cells #[.slice none 0 0, .slice none 0 0, .slice none 0 0] 51)) (w.heap.size + 1) [] [.slice none 0 0, .slice none 0 0, .slice none 0 0]) := by
    refine ⟨rfl, fun j v hv => ?_, fun j hj => frozen_new _ _ _ (World.size_alloc ..).symm, fun j hj => ?_, fun j l hl => by cases hl⟩
    · have h := Rd.new (w.alloc (.cells #[.slice none 0 0, .slice none 0 0, .slice none 0 0] 51)) (w.heap.size + 2) [.slice none 0 0, .slice none 0 0, .slice none 0 0] 51 (0, 0) (by simp)
      obtain ⟨ad, e, _, hc⟩ := h j v hv
      cases e
      rw [Addr.add_mid, World.size_alloc] at hc
      exact hc
    · match j, hj with
      | 0, _ => exact ⟨_, _, _, rfl⟩
      | 1, _ => exact ⟨_, _, _, rfl⟩
      | 2, _ => exact ⟨_, _, _, rfl⟩
  go_loopw [5, 10] (fun ax ix wr => ∃ (ls : List (List Int)) (vs : List Value) (k to : Nat), ix = .int .i64 (k : Int) ∧ k ≤ 3 ∧ ax = .int .i64 (to : Int) ∧ to ≤ n ∧ Hid (ls.length = k) ∧ Hid (Pm.Reads xs ls to) ∧ Hid (Lst wr (w.heap.size + 1) ls vs) ∧ Hid (wr.there w.heap.size 0 3) ∧ Hid (Below w.heap.size w wr) ∧ Hid (w.heap.size + 2 ≤ wr.heap.size))
    (fun _ ix _ => 3 - (intOf ix).toNat)
  case atStart => exact ⟨[], _, 0, 0, rfl, by omega, rfl, by omega, Lib.hid rfl, Lib.hid rfl, hl0, ht0, hb0, hz0⟩
  case round =>
    obtain ⟨ls, vs, k, to, rfl, hk, rfl, hto, hlk, hR, hL, hT, hBw, hz⟩ := hrel
    clear hb0 hz0 ht0 hl0
    by_cases hlt : k < 3
    · have HI := Lib.hid (Ints_any A n cap B xs (to : Int) wr (HX.out.below (hBw.out.mono hB)) HN.out hnc hcap (Nat.le_trans hB hBw.out.size) HB.out (by omega) (by omega))
      by_cases he : (Wm.rints xs (to : Int)).2.2 = 0
      · obtain ⟨l, to', e0⟩ := Pm.rints_num he HB.out
        obtain ⟨_, _, _, hle, _⟩ := Pm.rints_at e0 HB.out
        rw [HN.out] at hle
        rw [e0] at HI
        have HR2 := Lib.hid (hR.out.more (by rw [hlk.out]; exact hlt) e0)
        clear he e0 hR
        go_wp2_with (go_at_call 41; fail)
        refine HI.out.mono ?_
        rintro e w3 ⟨v3, rfl, hown3, hb3⟩
        obtain ⟨A3, c3, rfl, hcp3, hcm3, -⟩ := own_view hown3
        have hL3 := hL.out.below hb3 (by have := hz.out; omega)
        have hB3 := Lib.hid (hBw.out.trans (hb3.mono hBw.out.size))
        have hT3 : Hid (w3.there w.heap.size 0 3) := fun j hj => by
          obtain ⟨t1, t2⟩ := hT.out j hj
          have hlt : (⟨w.heap.size, 0 + j, none⟩ : Addr).block < wr.heap.size := by have := hz.out; show w.heap.size < _; omega
          exact ⟨by rw [hb3.cell hlt]; exact t1, by rw [hb3.frozen hlt]; exact t2⟩
        have hz3 := Lib.hid (Nat.le_trans hz.out hb3.size)
        obtain ⟨u, hcl⟩ := hL3.cell hlt
        have hfz := hL3.free k hlt
        have hLs := Lib.hid (hL3.set (A := A3) (c := c3) (l := l) (by rw [hlk.out]; exact hlt) (own_mono hown3 (by have := hz.out; omega)))
        rw [hlk.out] at hLs
        have hg := grown_set1 (w.heap.size + 1) k (.slice A3 l.length c3) w3
        have hBs := Lib.hid (below_grown hB3.out hg (by omega) hB3.out.size)
        have hTs : Hid ((w3.setCell ⟨w.heap.size + 1, k, none⟩ (.slice A3 l.length c3)).there w.heap.size 0 3) := World.there_setCells hT3.out (w.heap.size + 1) k [.slice A3 l.length c3]
        have hzs := Lib.hid (Nat.le_trans hz3.out hg.size)
        have hlk2 : Hid ((ls ++ [l]).length = k + 1) := by show _ = _; rw [List.length_append, hlk.out]; rfl
        clear hL3 hg hown3 hb3 HI hL hT hBw hz hcp3
        go_wp2
        go_roundw
        case rel => exact ⟨ls ++ [l], _, k + 1, to', by go_num, by omega, rfl, hle, hlk2, HR2, hLs, hTs, hBs, hzs⟩
        case measure => simp [intOf]; omega
      · have hG := Lib.hid (hR.out.err (by rw [hlk.out]; exact hlt) he)
        generalize Wm.rints xs (to : Int) = q at *
        obtain ⟨q1, q2, q3⟩ := q
        dsimp only at *
        have hq : (q3 != 0) = true := by rw [bne_iff_ne]; exact he
        clear he
        go_wp2_with (go_at_call 41; fail)
        refine HI.out.mono ?_
        rintro e w3 ⟨v3, rfl, -, hb3⟩
        have hL3 := Lib.hid (hL.out.below hb3 (by have := hz.out; omega))
        have hB3 := Lib.hid (hBw.out.trans (hb3.mono hBw.out.size))
        have hT3 : Hid (w3.there w.heap.size 0 3) := fun j hj => by
          obtain ⟨t1, t2⟩ := hT.out j hj
          have hlt : (⟨w.heap.size, 0 + j, none⟩ : Addr).block < wr.heap.size := by have := hz.out; show w.heap.size < _; omega
          exact ⟨by rw [hb3.cell hlt]; exact t1, by rw [hb3.frozen hlt]; exact t2⟩
        have hz3 := Lib.hid (Nat.le_trans hz.out hb3.size)
        obtain ⟨z0, z1, z2, ev, hgot, hbe⟩ := got_end (r := Pm.get3 xs) hL3.out hB3.out hz3.out (fun l m o e => by rw [hG.out] at e; cases e)
        have hvl : Hid ((Tryd.prog.info? 51).map (·.size) = some vs.length) := by rw [hL3.out.len]; exact info_three
        have hone := Lib.hid (slices_one hL3.out)
        have hth : Hid (w3.there w.heap.size 0 vs.toArray.size) := by
          have h1 : vs.toArray.size = 3 := hL3.out.len
          rw [h1]; exact hT3
        have hrng := Lib.hid (World.rangeAt_setCells_same w3 w.heap.size 0 vs (by rw [hL3.out.len]; exact hT3.out))
        have HG := Lib.hid hgot
        have HBE := Lib.hid hbe
        have HEV := Lib.hid ev
        clear hgot hbe ev hb3 HI hL hT hBw hz
        go_wp2_with (first | (refine wpList_load_mid rfl 51 _ rfl (w.heap.size + 1) 0 rfl vs _ hL3.out.lay Tryd.underlying51 rfl hvl.out ?_) | (refine wpList_store_mid rfl 51 _ _ rfl w.heap.size 0 vs.toArray rfl rfl hth.out hvl.out hone.out ?_))
        refine bodyPost_ret (results_ct rfl _ _ w.heap.size vs _ rfl hrng.out Tryd.underlying51 rfl hvl.out) rfl ?_
        exact ⟨z0, z1, z2, by rw [hG.out, HEV.out]; rfl, HG.out, HBE.out⟩
    · obtain rfl : k = 3 := by omega
      obtain ⟨l, m, o, rfl, h1, h2⟩ := hR.out.done hlk.out
      have hr : ∀ l' m' o', Pm.get3 xs = some (l', m', o') → [l, m, o] = [l', m', o'] := fun l' m' o' e => by
        by_cases hto2 : to = xs.length
        · rw [h1 hto2] at e; cases e; rfl
        · rw [h2 hto2] at e; cases e
      obtain ⟨z0, z1, z2, ev, hgot, hbe⟩ := got_end (r := Pm.get3 xs) hL.out hBw.out hz.out hr
      have hvl : Hid ((Tryd.prog.info? 51).map (·.size) = some vs.length) := by rw [hL.out.len]; exact info_three
      have hone := Lib.hid (slices_one hL.out)
      have hth : Hid (wr.there w.heap.size 0 vs.toArray.size) := by
        have h1 : vs.toArray.size = 3 := hL.out.len
        rw [h1]; exact hT
      have hrng := Lib.hid (World.rangeAt_setCells_same wr w.heap.size 0 vs (by rw [hL.out.len]; exact hT.out))
      have HG := Lib.hid hgot
      have HBE := Lib.hid hbe
      have HEV := Lib.hid ev
      have hOK : Hid ((Pm.get3 xs).isSome = ((to : Int) == (n : Int))) := by
        by_cases hto2 : to = xs.length
        · rw [h1 hto2, show ((to : Int) == (n : Int)) = true from by rw [beq_iff_eq, hto2, HN.out]]; exact Lib.hid rfl
        · rw [h2 hto2, show ((to : Int) == (n : Int)) = false from by rw [beq_eq_false_iff_ne]; intro e; apply hto2; rw [HN.out]; omega]; exact Lib.hid rfl
      clear hgot hbe ev h1 h2 hr hR hlk
      go_wp2_with (first | (refine wpList_load_mid rfl 51 _ rfl (w.heap.size + 1) 0 rfl vs _ hL.out.lay Tryd.underlying51 rfl hvl.out ?_) | (refine wpList_store_mid rfl 51 _ _ rfl w.heap.size 0 vs.toArray rfl rfl hth.out hvl.out hone.out ?_))
      refine bodyPost_ret (results_ct rfl _ _ w.heap.size vs _ rfl hrng.out Tryd.underlying51 rfl hvl.out) rfl ?_
      exact ⟨z0, z1, z2, by rw [hOK.out, HEV.out]; rfl, HG.out, HBE.out⟩
end Go.Proofs.YtdcdlnmgbgeeeaaDoor
