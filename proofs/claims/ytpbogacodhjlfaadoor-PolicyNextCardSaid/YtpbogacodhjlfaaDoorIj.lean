/- What is left of the penalties: the program's. -/
import Derived.Test.YtpbogacodhjlfaaDoorIi
import Derived.Test.YtpbogacodhjlfaaDoorKitH
namespace Go.Proofs.YtpbogacodhjlfaaDoor
open Go.RowKit Go.Shelf Km Kx Kc Kt
set_option linter.unusedVariables false
instance : Kx.ZOne Tryd.prog 22 (.slice none 0 0) := ⟨Tryd.zeroValue22⟩
instance : Kx.ZOne Tryd.prog 26 (.slice none 0 0) := ⟨Tryd.zeroValue26⟩
attribute [local go_sem] Oper.semAt_some

namespace Gm
def listed (n : Nat) (f : Nat → Int) : List Int := (List.range n).map f
theorem listed_len (n : Nat) (f : Nat → Int) : (listed n f).length = n := by unfold listed; rw [List.length_map, List.length_range]
theorem listed_get (n : Nat) (f : Nat → Int) {i : Nat} (h : i < n) : (listed n f).getD i 0 = f i := by
  unfold listed
  rw [List.getD_eq_getElem?_getD, List.getElem?_map, List.getElem?_range h]; rfl
theorem listed_congr {n : Nat} {f g : Nat → Int} (h : ∀ i, i < n → f i = g i) : listed n f = listed n g := List.map_congr_left fun i hi => h i (List.mem_range.1 hi)
theorem listed_set (n : Nat) (f : Nat → Int) (k : Nat) (v : Int) : (listed n f).set k v = listed n (fun i => if i = k then v else f i) := by
  apply List.ext_getElem?
  intro i
  rw [List.getElem?_set]
  unfold listed
  rw [List.length_map, List.length_range, List.getElem?_map, List.getElem?_map]
  by_cases hi : i < n
  · rw [List.getElem?_range hi]
    by_cases e : k = i
    · subst e; simp [hi]
    · rw [if_neg e]; simp [Ne.symm e]
  · rw [List.getElem?_eq_none (by rw [List.length_range]; omega)]
    split
    · rw [if_neg (by omega)]; rfl
    · rfl
theorem zeros_listed (n : Nat) : List.replicate n (0 : Int) = listed n (fun _ => 0) := by
  unfold listed
  rw [List.map_const', List.length_range]
/-- one more penalty, in a list -/
def hitIn (h : Int) (l : List Int) (t : Nat) : List Int := l.set t (Dm.hit (l.getD t 0) h)
theorem hits_len (h : Int) (ts : List Nat) : ∀ l : List Int, (ts.foldl (hitIn h) l).length = l.length := by
  induction ts with
  | nil => exact fun _ => rfl
  | cons t ts ih => exact fun l => by rw [List.foldl_cons, ih]; unfold hitIn; exact List.length_set
theorem hits_all (h : Int) (m n : Nat) (f : Nat → Int) : ∀ k, k ≤ n → (bitsTo m k).foldl (hitIn h) (listed n f) = listed n (fun i => if i < k ∧ m.testBit i = true then Dm.hit (f i) h else f i)
  | 0, _ => by
    unfold bitsTo
    exact listed_congr fun i _ => by rw [if_neg (by omega)]
  | k + 1, hk => by
    have ih := hits_all h m n f k (by omega)
    unfold bitsTo at *
    rw [List.range_succ, List.filter_append, List.foldl_append, ih]
    cases hb : m.testBit k with
    | false =>
      rw [show List.filter (fun b => m.testBit b) [k] = [] by simp [hb]]
      refine listed_congr fun i _ => ?_
      by_cases e : i = k
      · subst e; rw [if_neg (by omega), if_neg (by rw [hb]; simp)]
      · have : (i < k ∧ m.testBit i = true) ↔ (i < k + 1 ∧ m.testBit i = true) := by constructor <;> rintro ⟨a, b⟩ <;> exact ⟨by omega, b⟩
        simp only [this]
    | true =>
      rw [show List.filter (fun b => m.testBit b) [k] = [k] by simp [hb]]
      show hitIn h _ k = _
      unfold hitIn
      rw [listed_get n _ (show k < n by omega), if_neg (by omega), listed_set]
      refine listed_congr fun i _ => ?_
      by_cases e : i = k
      · subst e; rw [if_pos rfl, if_pos ⟨by omega, hb⟩]
      · rw [if_neg e]
        have : (i < k ∧ m.testBit i = true) ↔ (i < k + 1 ∧ m.testBit i = true) := by constructor <;> rintro ⟨a, b⟩ <;> exact ⟨by omega, b⟩
        simp only [this]
/-- what is left, without what is added -/
def leftAt (p : Pl) (t half : Int) (i : Nat) : Int := Dm.left (p.pen.getD i 0) (t - p.st) half
theorem pens_listed (c : Gc) (p : Pl) (pu u : Nat) (t : Int) (hp : p.up = (pu : Int)) (hpu : pu < 18446744073709551616) (hu : u < 18446744073709551616) : (bitsTo (andN pu u) c.n).foldl (hitIn c.hit) (listed c.n (leftAt p t c.half)) = pens c p u t := by
  rw [hits_all c.hit (andN pu u) c.n _ c.n (Nat.le_refl _)]
  refine listed_congr fun i hi => ?_
  unfold penAt leftAt
  rw [hp, Int.toNat_natCast, andN_bit hpu hu]
  have : (i < c.n ∧ (pu.testBit i && !u.testBit i) = true) ↔ (pu.testBit i = true ∧ u.testBit i = false) := by
    rw [Bool.and_eq_true, Bool.not_eq_true']
    exact ⟨fun h => h.2, fun h => ⟨hi, h⟩⟩
  simp only [this]
/-- behind k rounds -/
def upTo (k : Nat) (f : Nat → Int) (i : Nat) : Int := if i < k then f i else 0
theorem upTo_zero (n : Nat) (f : Nat → Int) : listed n (upTo 0 f) = List.replicate n 0 := by
  rw [zeros_listed]
  exact listed_congr fun i _ => if_neg (Nat.not_lt_zero _)
theorem upTo_step (n : Nat) (f : Nat → Int) (k : Nat) : (listed n (upTo k f)).set k (f k) = listed n (upTo (k + 1) f) := by
  rw [listed_set]
  refine listed_congr fun i _ => ?_
  unfold upTo
  by_cases e : i = k
  · subst e; rw [if_pos rfl, if_pos (Nat.lt_succ_self _)]
  · rw [if_neg e]
    have : i < k ↔ i < k + 1 := by omega
    simp only [this]
theorem upTo_all (n : Nat) (f : Nat → Int) : listed n (upTo n f) = listed n f := listed_congr fun i hi => if_pos hi
end Gm
theorem i64s_set (l : List Int) (k : Nat) (v : Int) : (Kc.i64s l).set k (.int .i64 v) = Kc.i64s (l.set k v) := by unfold Kc.i64s; exact (List.map_set).symm

/-- the call that hands the iterator back: its box -/
theorem targets_x {w0 w : World} {l : List (Nat × List Value)} {r : List Rw} {F : Fz} (h : Bxs w0 w l r F) (m : Int) :
    Calls Tryd.prog 43 #[.int .u64 m] w fun e w' => ∃ b, e = .returned (.func (.func 54) #[] #[.pointer (some ⟨b, 0, none⟩)]) ∧ Bxs w0 w' ((b, [.int .u64 m]) :: l) r F := by
  refine (callsIn_wide.1 (targets_in 4 m w)).mono ?_
  rintro e w' ⟨rfl, rfl⟩
  exact ⟨_, rfl, h.alloc [.int .u64 m] 25⟩

/-- between two rounds of the second loop -/
def InvP {n : Nat} (w0 : World) (l : List (Nat × List Value)) (g cap : Nat) (h : Int) (L : List Int) (pre : List (Fin n)) (W : World) : Prop :=
  Bxs w0 W l [⟨some ⟨g, 0, none⟩, cap, 3, 1, n, Kc.i64s ((valsT pre).foldl (Gm.hitIn h) L)⟩]
theorem InvP.own {n : Nat} (w0 : World) (l : List (Nat × List Value)) (g cap : Nat) (h : Int) (L : List Int) (B : Nat) (hB : w0.heap.size ≤ B) : OwnFrom B (InvP (n := n) w0 l g cap h L) := fun _ _ _ _ hs hg hr =>
  Bxs.others hs hg (fun g e => ⟨Nat.le_trans hB (hr g e).1, (hr g e).2⟩)

/-- one cell stored into a row of the call's own -/
theorem wp_storeRow_x {P : Program} {op : Oper} {a : Act} {w w0 : World} {l : List (Nat × List Value)} {r r' : List Rw} {F : Fz} {Q : Exit → Act → World → Prop} {K : Act → World → Prop} (hB : Bxs w0 w l r F) (ty : TypeId) (x y : Operand) (ho : op.op = .store ty x y) (hd : op.dst = none)
    (g o : Nat) (hx : a.eval x = .pointer (some ⟨g, o, none⟩)) (v : Value) (hy : a.eval y = v) (h1 : v.oneCell' = true) {cap k m : Nat} {e : TypeId} {xs ys : List Value} (ht : RowTo ⟨some ⟨g, 0, none⟩, cap, e, k, m, xs⟩ ⟨some ⟨g, 0, none⟩, cap, e, k, m, ys⟩ r r') (hys : xs.set o v = ys) (hl : o < xs.length) (hS : (sizeOf ty).run P w = .ok 1 w)
    (h : ∀ w', Bxs w0 w' l r' F → K a w') : op.wp P a w K Q := by
  have hsp : splice xs o [v] = ys := by rw [← hys, List.set_eq_take_append_cons_drop, if_pos hl]; rfl
  have hown := (hB.rows _ ht.mem).1
  unfold Oper.wp execOp
  simp only [ho, hx, hy, Instr.storeAt, Instr.sureAddr, Sem.run_bind, Sem.run_pure, Result.andThen_ok, run_storeVar_x w g o ty v [v] (cells_one h1) (Rw.own.there hown rfl o 1 (by show o + 1 ≤ xs.length; omega)) (info_of hS) (by simp [h1])]
  subst hsp
  show K (a.put op.dst undef) _
  rw [hd]
  exact h _ (hB.rowSet ht (by show o + 1 ≤ xs.length; omega))
theorem at_row (g k : Nat) : ((⟨g, 0, none⟩ : Addr).add k) = ⟨g, k, none⟩ := by rw [Addr.add_mid, Nat.zero_add]

/-- the same, with the world written out -/
theorem wp_storeRow_eq {P : Program} {op : Oper} {a : Act} {w w0 : World} {l : List (Nat × List Value)} {r : List Rw} {F : Fz} {Q : Exit → Act → World → Prop} {K : Act → World → Prop} (hB : Bxs w0 w l r F) (ty : TypeId) (x y : Operand) (ho : op.op = .store ty x y) (hd : op.dst = none)
    (g o : Nat) (hx : a.eval x = .pointer (some ⟨g, o, none⟩)) (v : Value) (hy : a.eval y = v) (h1 : v.oneCell' = true) {cap k m : Nat} {e : TypeId} {xs : List Value} (hm : (⟨some ⟨g, 0, none⟩, cap, e, k, m, xs⟩ : Rw) ∈ r) (hl : o < xs.length) (hS : (sizeOf ty).run P w = .ok 1 w)
    (h : K a (w.setCells g o [v])) : op.wp P a w K Q := by
  have hown := (hB.rows _ hm).1
  unfold Oper.wp execOp
  simp only [ho, hx, hy, Instr.storeAt, Instr.sureAddr, Sem.run_bind, Sem.run_pure, Result.andThen_ok, run_storeVar_x w g o ty v [v] (cells_one h1) (Rw.own.there hown rfl o 1 (by show o + 1 ≤ xs.length; omega)) (info_of hS) (by simp [h1])]
  show K (a.put op.dst undef) _
  rw [hd]
  exact h
theorem InvP.drew {n : Nat} {w0 : World} {l : List (Nat × List Value)} {g cap : Nat} {h : Int} {L : List Int} {pre : List (Fin n)} {W : World} (hI : InvP w0 l g cap h L pre W) : InvP w0 l g cap h L pre W.drew := Bxs.drew hI
/-- behind a round -/
theorem row_post {n : Nat} {w0 : World} {l : List (Nat × List Value)} {g cap : Nat} {h : Int} {L : List Int} {pre : List (Fin n)} {W : World} (hI : InvP w0 l g cap h L pre W) (B t : Nat) (ht : t < n) (hL : L.length = n) (v : Int) (hv : v = Dm.hit (((valsT pre).foldl (Gm.hitIn h) L).getD t 0) h) :
    KeepsFrom B W (W.drew.setCells g t [.int .i64 v]) ∧ Below w0.heap.size W (W.drew.setCells g t [.int .i64 v]) ∧ InvP w0 l g cap h L (pre ++ [⟨t, ht⟩]) (W.drew.setCells g t [.int .i64 v]) := by
  have hI2 := hI.drew
  have hx := (Bxs.rows hI2 _ (List.mem_cons_self ..)).1
  have hlt := hx.lt (g := g) rfl
  have hgr := grown_set g [.int .i64 v] t W.drew
  refine ⟨?_, ?_, ?_⟩
  · refine ((KeepsOthers.drew W).trans (KeepsOthers.of_grownBy hgr fun j o e ho => ?_)).from _
    cases e
    rcases hx.2 with ⟨e1, -⟩ | ⟨g', cap', cur, e1, -, hgb, -⟩
    · cases e1
    · cases e1
      rw [hgb] at ho
      cases ho
      rfl
  · exact ((Below.refl w0.heap.size W).drew).grown hgr (Bxs.size hI2) (fun j e => by cases e; exact hlt.1)
  · unfold InvP
    rw [valsT_snoc, List.foldl_append]
    have hlen : t < (Kc.i64s ((valsT pre).foldl (Gm.hitIn h) L)).length := by rw [i64s_len, Gm.hits_len, hL]; exact ht
    refine Bxs.rowSet (e := 3) (n := n) (k := 1) (cap := cap) (xs := Kc.i64s ((valsT pre).foldl (Gm.hitIn h) L)) hI2 ?_ (by show t + 1 ≤ (Kc.i64s ((valsT pre).foldl (Gm.hitIn h) L)).length; omega)
    have hsp : splice (Kc.i64s ((valsT pre).foldl (Gm.hitIn h) L)) t [.int .i64 v] = Kc.i64s (List.foldl (Gm.hitIn h) ((valsT pre).foldl (Gm.hitIn h) L) [t]) := by
      show _ = Kc.i64s (((valsT pre).foldl (Gm.hitIn h) L).set t (Dm.hit (((valsT pre).foldl (Gm.hitIn h) L).getD t 0) h))
      rw [← hv, ← i64s_set, List.set_eq_take_append_cons_drop, if_pos hlen]; rfl
    rw [hsp]
    exact .head _
theorem row_cell {n : Nat} {w0 : World} {l : List (Nat × List Value)} {g cap : Nat} {h : Int} {L : List Int} {pre : List (Fin n)} {W : World} (hI : InvP w0 l g cap h L pre W) {t : Nat} (ht : t < n) (hL : L.length = n) : W.cell? ⟨g, t, none⟩ = some (.int .i64 (((valsT pre).foldl (Gm.hitIn h) L).getD t 0)) := by
  have hr := (Bxs.rows hI _ (List.mem_cons_self ..)).1.rd
  obtain ⟨ad, e, -, hc⟩ := Rd.num hr (k := t) (by rw [Gm.hits_len, hL]; exact ht)
  cases e
  rwa [at_row] at hc
theorem frame_any {F : Fence} {n : Nat} {P : Program} {c : Code} {Q : Exit → Act → World → Prop} {tmps : Array Value} {W : World} (h : ∀ T, T = tmps → c.wpIn F n P Q { tmps := T, defers := [] } W) : c.wpIn F n P Q { tmps := tmps, defers := [] } W := h tmps rfl

set_option maxRecDepth 100000 in
set_option maxHeartbeats 4000000 in
theorem penalties_in (c : Cf) (xs : List Int) (x : Gm.Pl) (A : Option Addr) (n c0 : Nat) (A' : Option Addr) (n' c' : Nat) (u : Nat) (t : Int) (w : World) (hp : PAt w w.heap.size x A n c0 A' n' c') (hn : n ≤ 16) (hN : c.targets = (n : Int)) (hT : Tabs w)
    (hu : u < 18446744073709551616) (hpu : 0 ≤ x.up ∧ x.up < 2 ^ n) (hst : Gm.T x.st) (ht : Gm.T t) (har : ∀ i, Dm.Ar (x.pen.getD i 0) (t - x.st) c.half) :
    CallsIn Fence.wide 4 Tryd.prog 38 #[.agg (cf c).toArray, .agg (pc x A n c0 A' n' c').toArray, .int .u64 (u : Int), .int .i64 t] w fun e w' => ∃ A2 c2, e = .returned (.slice A2 n c2) ∧ Below w.heap.size w w' ∧ w'.ownsRow w.heap.size 3 1 (.slice A2 n c2) n (Kc.i64s (Gm.pens (gc c xs) x u t)) := by
  have HB := Lib.hid (Bxs.start w)
  have HR := Lib.hid hp.pen
  have HL := Lib.hid hp.n
  obtain ⟨i0, hi, hz0, hz1, hz2⟩ := info_parts (P := Tryd.prog) (e := 3) (z := .int .i64 0) (size := 1) (bytes := 8) (by kernel_rfl)
  have hts := T_sub ht hst
  have HD : Hid (∀ k W, Below w.heap.size w W → Calls Tryd.prog 51 #[.int .i64 (x.pen.getD k 0), .int .i64 (t - x.st), .int .i64 c.half] W fun e w' => e = .returned (.tuple #[.int .i64 (Gm.leftAt x t c.half k), .int .i64 0]) ∧ Below W.heap.size W w') := Lib.hid (fun k W hb => Decay_ok _ _ _ W (hT.d.below hb (Nat.le_refl _)) (har k))
  refine callsIn_of_wp_marks Tryd.func38 rfl trivial ?_ rfl
  simp only [Tryd.ntmps38, List.size_toArray, List.length_cons, List.length_nil, Nat.reduceAdd, Nat.reduceSub, Array.replicate_succ, Array.replicate_zero, List.push_toArray, List.append_toArray, List.nil_append, List.cons_append]
  refine wpIn_mono ?_ noPanic_le
  refine wpIn_wide.2 ?_
  go_wp2_with (first | (at_make; go_must (refine wpList_make_g HB rfl _ _ 22 rfl 3 i0 (.int .i64 0) 1 Tryd.underlying22 hi hz0 hz1 .i64 .i64 (n : Int) (n : Int) n rfl rfl rfl rfl (by rw [hz2]; omega) (by unfold maxLen; omega) ?_); clear HB; intro g w_ HB; rw [made_nums, ← Gm.upTo_zero n (Gm.leftAt x t c.half)] at HB; refine Kx.framed ?_ (by simp only [Act.put, List.setIfInBounds_toArray, List.set_cons_succ, List.set_cons_zero] <;> rfl)) | (first | ((with_reducible refine Kx.absorb HB ?_); clear HB; intro w_ HB) | ((with_reducible refine Kx.box_gate (d := some 4) ?_); (first | refine Kx.boxa HB rfl ?_ | refine Kx.boxt HB rfl rfl ?_ | refine Kx.box1 HB rfl rfl ?_); clear HB; intro b4 w_ HB; refine Kx.fr ?_) | ((with_reducible refine Kx.alloc_gate (d := some 4) ?_); (first | refine Kx.ala HB ?_ | refine Kx.al1 HB ?_); clear HB; intro b4 w_ HB; refine Kx.fr ?_) | ((with_reducible refine Kx.box_gate (d := some 5) ?_); (first | refine Kx.boxa HB rfl ?_ | refine Kx.boxt HB rfl rfl ?_ | refine Kx.box1 HB rfl rfl ?_); clear HB; intro b5 w_ HB; refine Kx.fr ?_) | ((with_reducible refine Kx.alloc_gate (d := some 5) ?_); (first | refine Kx.ala HB ?_ | refine Kx.al1 HB ?_); clear HB; intro b5 w_ HB; refine Kx.fr ?_) | ((with_reducible refine Kx.box_gate (d := some 9) ?_); (first | refine Kx.boxa HB rfl ?_ | refine Kx.boxt HB rfl rfl ?_ | refine Kx.box1 HB rfl rfl ?_); clear HB; intro b9 w_ HB; refine Kx.fr ?_) | ((with_reducible refine Kx.alloc_gate (d := some 9) ?_); (first | refine Kx.ala HB ?_ | refine Kx.al1 HB ?_); clear HB; intro b9 w_ HB; refine Kx.fr ?_) | ((with_reducible refine Kx.box_gate ?_); (first | refine Kx.boxa HB rfl ?_ | refine Kx.boxt HB rfl rfl ?_ | refine Kx.box1 HB rfl rfl ?_); clear HB; intro b_ w_ HB; refine Kx.fr ?_) | ((with_reducible refine Kx.alloc_gate ?_); (first | refine Kx.ala HB ?_ | refine Kx.al1 HB ?_); clear HB; intro b_ w_ HB; refine Kx.fr ?_) | ((with_reducible refine Kx.loads_gate ?_); first | refine Kx.l1 HB rfl rfl ?_ | refine Kx.la HB rfl ?_ | refine Kx.lo HB rfl HC.out ?_) | ((with_reducible refine Kx.loadg_gate ?_); first | refine Kx.l1g HB rfl rfl rfl ?_ | refine Kx.lag HB rfl rfl ?_ | refine Kx.log HB rfl HC.out rfl ?_) | ((with_reducible refine Kx.store_gate ?_); (first | refine Kx.stwa HB rfl rfl ?_ | refine Kx.sta HB rfl rfl ?_ | refine Kx.stc HB rfl rfl ?_ | refine Kx.stt HB rfl rfl rfl ?_ | refine Kx.st1 HB rfl rfl rfl ?_); clear HB; intro w_ HB)))
  go_loopg [20] n (fun gh ix wr => ∃ k : Nat, gh + k = n ∧ ix = .int .i64 (k : Int) ∧ Hid (Bxs w wr [(b9, [.slice (some ⟨g, 0, none⟩) n n]), (b5, pc x A n c0 A' n' c'), (b4, cf c)] [⟨some ⟨g, 0, none⟩, n, 3, 1, n, Kc.i64s (Gm.listed n (Gm.upTo k (Gm.leftAt x t c.half)))⟩]))
  case atStart => exact ⟨0, by omega, rfl, HB⟩
  case round =>
    clear HB
    obtain ⟨k, hk, rfl, HB⟩ := hrel
    by_cases hlt : k < n
    · have d3 : (k : Int) < (n : Int) := by omega
      obtain ⟨ad, e1, -, hc⟩ := HR.out.num (k := k) (by rw [HL.out]; exact hlt)
      obtain rfl := e1
      have HC := Lib.hid hc
      have HDk := Lib.hid (HD.out k)
      have HST := Lib.hid (Gm.upTo_step n (Gm.leftAt x t c.half) k)
      have HLN : Hid (k < (Kc.i64s (Gm.listed n (Gm.upTo k (Gm.leftAt x t c.half)))).length) := Lib.hid (by rw [i64s_len, Gm.listed_len]; exact hlt)
      clear hc
      generalize Gm.leftAt x t c.half k = v at *
      generalize x.pen.getD k 0 = y at *
      go_wp2_with (first | ((with_reducible refine Kx.absorb HB ?_); clear HB; intro w_ HB) | ((with_reducible refine Kx.box_gate ?_); (first | refine Kx.boxa HB rfl ?_ | refine Kx.boxt HB rfl rfl ?_ | refine Kx.box1 HB rfl rfl ?_); clear HB; intro b_ w_ HB; refine Kx.fr ?_) | ((with_reducible refine Kx.alloc_gate ?_); (first | refine Kx.ala HB ?_ | refine Kx.al1 HB ?_); clear HB; intro b_ w_ HB; refine Kx.fr ?_) | ((with_reducible refine Kx.loads_gate ?_); first | refine Kx.l1 HB rfl rfl ?_ | refine Kx.la HB rfl ?_ | refine Kx.lo HB rfl HC.out ?_) | ((with_reducible refine Kx.loadg_gate ?_); first | refine Kx.l1g HB rfl rfl rfl ?_ | refine Kx.lag HB rfl rfl ?_ | refine Kx.log HB rfl HC.out rfl ?_) | ((with_reducible refine Kx.store_gate ?_); (first | refine Kx.stwa HB rfl rfl ?_ | refine Kx.sta HB rfl rfl ?_ | refine Kx.stc HB rfl rfl ?_ | refine Kx.stt HB rfl rfl rfl ?_ | refine Kx.st1 HB rfl rfl rfl ?_); clear HB; intro w_ HB))
      refine region_F (fun w' => Bxs w w' [(b9, [.slice (some ⟨g, 0, none⟩) n n]), (b5, pc x (some ad) n c0 A' n' c'), (b4, cf c)] [⟨some ⟨g, 0, none⟩, n, 3, 1, n, Kc.i64s (Gm.listed n (Gm.upTo k (Gm.leftAt x t c.half)))⟩]) (fun i => i == 14) (by kernel_rfl) ?_
      have hC := HB.out.drew
      clear HB
      generalize World.drew _ = W1 at hC ⊢
      refine anyF_take (i := 0) (v := ?v0_134) (a' := ?a0_134) rfl (by kernel_rfl) (by kernel_rfl) (by kernel_rfl) (fun _ _ _ h => h) hC (by kernel_rfl) ?w0_134 ?y0_134 ?f0_134 ?r0_134
      case w0_134 => kernel_rfl
      case y0_134 => (intro W hW; first | (refine Eq.trans (Kx.tells_load1_x (v := .slice (some ⟨g, 0, none⟩) n n) hW b9 0 rfl [.slice (some ⟨g, 0, none⟩) n n] inferInstance (Tryd.isAgg22 _) rfl) ?_; with_reducible rfl))
      case f0_134 => (go_simp; try with_reducible rfl)
      refine anyF_take (i := 1) (v := ?v1_135) (a' := ?a1_135) rfl (by kernel_rfl) (by kernel_rfl) (by kernel_rfl) (fun _ _ _ h => h) hC (by kernel_rfl) ?w1_135 ?y1_135 ?f1_135 ?r1_135
      case w1_135 => kernel_rfl
      case y1_135 => (intro w hC; go_simp; try with_reducible rfl)
      case f1_135 => (go_simp; try with_reducible rfl)
      refine anyF_take (i := 2) (v := ?v2_136) (a' := ?a2_136) rfl (by kernel_rfl) (by kernel_rfl) (by kernel_rfl) (fun _ _ _ h => h) hC (by kernel_rfl) ?w2_136 ?y2_136 ?f2_136 ?r2_136
      case w2_136 => kernel_rfl
      case y2_136 => (intro w hC; go_simp; try with_reducible rfl)
      case f2_136 => (go_simp; try with_reducible rfl)
      refine anyF_take (i := 3) (v := ?v3_137) (a' := ?a3_137) rfl (by kernel_rfl) (by kernel_rfl) (by kernel_rfl) (fun _ _ _ h => h) hC (by kernel_rfl) ?w3_137 ?y3_137 ?f3_137 ?r3_137
      case w3_137 => kernel_rfl
      case y3_137 => (intro w hC; go_simp; try with_reducible rfl)
      case f3_137 => (go_simp; try with_reducible rfl)
      refine anyF_take (i := 4) (v := ?v4_138) (a' := ?a4_138) rfl (by kernel_rfl) (by kernel_rfl) (by kernel_rfl) (fun _ _ _ h => h) hC (by kernel_rfl) ?w4_138 ?y4_138 ?f4_138 ?r4_138
      case w4_138 => kernel_rfl
      case y4_138 => (intro w hC; go_simp; try with_reducible rfl)
      case f4_138 => (go_simp; try with_reducible rfl)
      refine anyF_take (i := 5) (v := ?v5_139) (a' := ?a5_139) rfl (by kernel_rfl) (by kernel_rfl) (by kernel_rfl) (fun _ _ _ h => h) hC (by kernel_rfl) ?w5_139 ?y5_139 ?f5_139 ?r5_139
      case w5_139 => kernel_rfl
      case y5_139 => (intro W hW; first | (refine Eq.trans (Kx.tells_load1_x (v := .int .i64 x.st) hW b5 5 rfl (pc x (some ad) n c0 A' n' c') inferInstance (Tryd.isAgg2 _) rfl) ?_; with_reducible rfl))
      case f5_139 => (go_simp; try with_reducible rfl)
      refine anyF_take (i := 6) (v := ?v6_140) (a' := ?a6_140) rfl (by kernel_rfl) (by kernel_rfl) (by kernel_rfl) (fun _ _ _ h => h) hC (by kernel_rfl) ?w6_140 ?y6_140 ?f6_140 ?r6_140
      case w6_140 => kernel_rfl
      case y6_140 => (intro w hC; go_simp; try with_reducible rfl)
      case f6_140 => (go_simp; try with_reducible rfl)
      refine anyF_take (i := 7) (v := ?v7_141) (a' := ?a7_141) rfl (by kernel_rfl) (by kernel_rfl) (by kernel_rfl) (fun _ _ _ h => h) hC (by kernel_rfl) ?w7_141 ?y7_141 ?f7_141 ?r7_141
      case w7_141 => kernel_rfl
      case y7_141 => (intro w hC; go_simp; try with_reducible rfl)
      case f7_141 => (go_simp; try with_reducible rfl)
      refine anyF_take (i := 8) (v := ?v8_142) (a' := ?a8_142) rfl (by kernel_rfl) (by kernel_rfl) (by kernel_rfl) (fun _ _ _ h => h) hC (by kernel_rfl) ?w8_142 ?y8_142 ?f8_142 ?r8_142
      case w8_142 => kernel_rfl
      case y8_142 => (intro W hW; first | (refine Eq.trans (Kx.tells_load1_x (v := .int .i64 c.half) hW b4 20 rfl (cf c) inferInstance (Tryd.isAgg2 _) rfl) ?_; with_reducible rfl))
      case f8_142 => (go_simp; try with_reducible rfl)
      refine anyF_one (i := 9) rfl (by kernel_rfl) (by kernel_rfl) (fun K hK => ?_)
      go_simp
      refine (HDk.out W1 hC.below).mono ?_
      rintro e W2 ⟨rfl, hb2⟩
      have hC2 := hC.call hb2
      refine hK _ _ ⟨.inl hC2, ?_⟩
      clear hC hb2 hK
      refine anyP_take (i := 10) (v := ?v10_143) (a' := ?a10_143) rfl (by kernel_rfl) (by kernel_rfl) (by kernel_rfl) (fun _ _ _ h => h) (by first | exact .inl hC2 | exact .inr (by kernel_rfl)) (by kernel_rfl) ?w10_143 ?y10_143 ?f10_143 ?r10_143
      case w10_143 => kernel_rfl
      case y10_143 => (intro w hC; go_simp; try with_reducible rfl)
      case f10_143 => (go_simp; try with_reducible rfl)
      refine anyP_take (i := 11) (v := ?v11_144) (a' := ?a11_144) rfl (by kernel_rfl) (by kernel_rfl) (by kernel_rfl) (fun _ _ _ h => h) (by first | exact .inl hC2 | exact .inr (by kernel_rfl)) (by kernel_rfl) ?w11_144 ?y11_144 ?f11_144 ?r11_144
      case w11_144 => kernel_rfl
      case y11_144 => (intro w hC; go_simp; try with_reducible rfl)
      case f11_144 => (go_simp; try with_reducible rfl)
      refine anyP_take (i := 12) (v := ?v12_145) (a' := ?a12_145) rfl (by kernel_rfl) (by kernel_rfl) (by kernel_rfl) (fun _ _ _ h => h) (by first | exact .inl hC2 | exact .inr (by kernel_rfl)) (by kernel_rfl) ?w12_145 ?y12_145 ?f12_145 ?r12_145
      case w12_145 => kernel_rfl
      case y12_145 => (intro w hC; go_simp; try with_reducible rfl)
      case f12_145 => (go_simp; try with_reducible rfl)
      refine anyF_take (i := 13) (v := ?v13_146) (a' := ?a13_146) rfl (by kernel_rfl) (by kernel_rfl) (by kernel_rfl) (fun _ _ _ h => h) hC2 (by kernel_rfl) ?w13_146 ?y13_146 ?f13_146 ?r13_146
      case w13_146 => kernel_rfl
      case y13_146 => (intro w hC; go_simp; try with_reducible rfl)
      case f13_146 => (go_simp; try with_reducible rfl)
      refine anyF_one (i := 14) rfl (by kernel_rfl) (by kernel_rfl) (fun K hK => ?_)
      refine wp_storeRow_x hC2 _ _ _ rfl rfl g k rfl (.int .i64 v) rfl rfl (.head _) (by rw [i64s_set, HST.out]) HLN.out (Tryd.sizeOf3 _) (fun W3 hC3 => ?_)
      refine hK _ _ ⟨.inr (by kernel_rfl), ?_⟩
      clear hC2 hK
      refine anyF_done (by kernel_rfl) ?_
      have HB := Lib.hid hC3
      clear hC3
      go_wp2_with fail
      go_roundg (gk - 1)
      case measure => omega
      case rel => exact ⟨k + 1, by omega, by go_num, HB⟩
    · obtain rfl : k = n := by omega
      have d0 : decide ((k : Int) < (k : Int)) = false := by simp
      rw [Gm.upTo_all] at HB
      obtain ⟨pu, hpu0⟩ : ∃ pu : Nat, x.up = (pu : Int) := ⟨x.up.toNat, by omega⟩
      have hpu1 : pu < 2 ^ k := by have h2 := hpu.2; rw [hpu0] at h2; exact_mod_cast h2
      have hpu64 : pu < 18446744073709551616 := Nat.lt_of_lt_of_le hpu1 (Nat.le_trans (Gm.pow16 hn) (by decide))
      have han := u64_andNot_nat pu u hpu64 hu
      have HPL := Lib.hid (Gm.pens_listed (gc c xs) x pu u t hpu0 hpu64 hu)
      have HML := Lib.hid (Gm.andN_lt (b := u) hpu1)
      have hg2 : (gc c xs).n = k := by show c.targets.toNat = k; omega
      rw [hg2] at HPL
      unfold Gm.andN at HPL HML
      replace HPL : Hid ((Gm.bitsTo (pu &&& (18446744073709551615 - u)) k).foldl (Gm.hitIn c.hit) (Gm.listed k (Gm.leftAt x t c.half)) = Gm.pens (gc c xs) x u t) := HPL
      generalize pu &&& (18446744073709551615 - u) = m at *
      go_wp2_with (first | (go_at_call 43; refine Calls.mono (targets_x HB.out _) ?_; rintro e w_ ⟨bm, rfl, hB_⟩; replace HB := Lib.hid hB_; clear hB_) | (first | ((with_reducible refine Kx.absorb HB ?_); clear HB; intro w_ HB) | ((with_reducible refine Kx.box_gate ?_); (first | refine Kx.boxa HB rfl ?_ | refine Kx.boxt HB rfl rfl ?_ | refine Kx.box1 HB rfl rfl ?_); clear HB; intro b_ w_ HB; refine Kx.fr ?_) | ((with_reducible refine Kx.alloc_gate ?_); (first | refine Kx.ala HB ?_ | refine Kx.al1 HB ?_); clear HB; intro b_ w_ HB; refine Kx.fr ?_) | ((with_reducible refine Kx.loads_gate ?_); first | refine Kx.l1 HB rfl rfl ?_ | refine Kx.la HB rfl ?_ | refine Kx.lo HB rfl HC.out ?_) | ((with_reducible refine Kx.loadg_gate ?_); first | refine Kx.l1g HB rfl rfl rfl ?_ | refine Kx.lag HB rfl rfl ?_ | refine Kx.log HB rfl HC.out rfl ?_) | ((with_reducible refine Kx.store_gate ?_); (first | refine Kx.stwa HB rfl rfl ?_ | refine Kx.sta HB rfl rfl ?_ | refine Kx.stc HB rfl rfl ?_ | refine Kx.stt HB rfl rfl rfl ?_ | refine Kx.st1 HB rfl rfl rfl ?_); clear HB; intro w_ HB)))
      refine (wpIn_wide (n := 4)).1 ?_
      refine frame_any (fun T hT2 => ?_)
      have HLL : Hid ((Gm.listed k (Gm.leftAt x t c.half)).length = k) := Lib.hid (Gm.listed_len _ _)
      generalize Gm.listed k (Gm.leftAt x t c.half) = L at *
      have HB0 := HB.out
      refine wpIn_rangeFunc_ownG rfl (by omega) (gf := 54) (lb := #[.pointer (some ⟨bm, 0, none⟩)]) (by subst hT2; rfl) trivial (enters_of Tryd.func54 (by kernel_rfl) rfl)
        (targets_stops 3 (by omega) k bm w.heap.size m (by omega) HML.out w_ w hT.b (Nat.le_refl _) HB0.size HB0.below (HB0.each _ (List.mem_cons_self ..)).2.1 (HB0.cell (List.mem_cons_self ..) rfl)) belowK_t (belowK_b HB0.size) (Below.refl _ _) (fun _ => rfl)
        (InvP w [(bm, [.int .u64 (m : Int)]), (b9, [.slice (some ⟨g, 0, none⟩) k k]), (b5, pc x A k c0 A' n' c'), (b4, cf c)] g k c.hit L) (fun _ _ _ => False) (InvP.own w _ g k c.hit L _ HB0.size) (fun _ _ _ _ _ hs _ _ => hs)
        HB0 (fun y => { tmps := (T.setIfInBounds 45 (.int .i64 ((y.val : Nat) : Int))).setIfInBounds 12 (.int .i64 ((y.val : Nat) : Int)), defers := [] }) ?assign ?body ?done ?stop
      case stop =>
        rintro D c pre W _ _ h _
        exact h.elim
      case assign =>
        intro l x W K hK
        subst hT2
        unfold encT
        gi_wp2
        exact hK
      case body =>
        rintro l pre ⟨q, hq⟩ W hI hlt
        subst hT2
        dsimp only
        simp only [List.setIfInBounds_toArray, List.set_cons_succ, List.set_cons_zero]
        have hct := row_cell hI.drew hq HLL.out
        have hpost := row_post hI w_.heap.size q hq HLL.out _ rfl
        have hID : Bxs w W.drew [(bm, [.int .u64 (m : Int)]), (b9, [.slice (some ⟨g, 0, none⟩) k k]), (b5, pc x A k c0 A' n' c'), (b4, cf c)] _ := hI.drew
        have hlq : q < (Kc.i64s ((valsT pre).foldl (Gm.hitIn c.hit) L)).length := by rw [i64s_len, Gm.hits_len, HLL.out]; exact hq
        have d3 : (q : Int) < (k : Int) := by omega
        have HP := Lib.hid hpost
        have HI := Lib.hid hID
        have HLQ := Lib.hid hlq
        have HCT := Lib.hid hct
        clear hpost hID hlq hct hI HB HB0
        generalize ((valsT pre).foldl (Gm.hitIn c.hit) L).getD q 0 = y at *
        gi_wp2_with fail
        refine region_round (by kernel_rfl) (by kernel_rfl) (by rintro ⟨_, _, h⟩; exact h) ?_
        refine any_of_F (C := fun W' => W' = W.drew) (D := fun i => i == 10) _ _ _ _ ?_
        have hC : W.drew = W.drew := rfl
        refine anyF_take (i := 0) (v := ?v0_147) (a' := ?a0_147) rfl (by kernel_rfl) (by kernel_rfl) (by kernel_rfl) (fun _ _ _ h => h) hC (by kernel_rfl) ?w0_147 ?y0_147 ?f0_147 ?r0_147
        case w0_147 => kernel_rfl
        case y0_147 => (intro W hW; first | (subst hW; refine Eq.trans (Kx.tells_load1_x (v := .slice (some ⟨g, 0, none⟩) k k) HI.out b9 0 rfl [.slice (some ⟨g, 0, none⟩) k k] inferInstance (Tryd.isAgg22 _) rfl) ?_; with_reducible rfl))
        case f0_147 => (go_simp; try with_reducible rfl)
        refine anyF_take (i := 2) (v := ?v2_148) (a' := ?a2_148) rfl (by kernel_rfl) (by kernel_rfl) (by kernel_rfl) (fun _ _ _ h => h) hC (by kernel_rfl) ?w2_148 ?y2_148 ?f2_148 ?r2_148
        case w2_148 => kernel_rfl
        case y2_148 => (intro W hW; first | (subst hW; refine Eq.trans (Kx.tells_load1_x (v := .slice (some ⟨g, 0, none⟩) k k) HI.out b9 0 rfl [.slice (some ⟨g, 0, none⟩) k k] inferInstance (Tryd.isAgg22 _) rfl) ?_; with_reducible rfl))
        case f2_148 => (go_simp; try with_reducible rfl)
        refine anyF_take (i := 1) (v := ?v1_149) (a' := ?a1_149) rfl (by kernel_rfl) (by kernel_rfl) (by kernel_rfl) (fun _ _ _ h => h) hC (by kernel_rfl) ?w1_149 ?y1_149 ?f1_149 ?r1_149
        case w1_149 => kernel_rfl
        case y1_149 => (intro w hC; go_simp; try with_reducible rfl)
        case f1_149 => (go_simp; try with_reducible rfl)
        refine anyF_take (i := 3) (v := ?v3_150) (a' := ?a3_150) rfl (by kernel_rfl) (by kernel_rfl) (by kernel_rfl) (fun _ _ _ h => h) hC (by kernel_rfl) ?w3_150 ?y3_150 ?f3_150 ?r3_150
        case w3_150 => kernel_rfl
        case y3_150 => (intro w hC; go_simp; try with_reducible rfl)
        case f3_150 => (go_simp; try with_reducible rfl)
        refine anyF_take (i := 4) (v := ?v4_151) (a' := ?a4_151) rfl (by kernel_rfl) (by kernel_rfl) (by kernel_rfl) (fun _ _ _ h => h) hC (by kernel_rfl) ?w4_151 ?y4_151 ?f4_151 ?r4_151
        case w4_151 => kernel_rfl
        case y4_151 => (intro w hC; go_simp; try with_reducible rfl)
        case f4_151 => (go_simp; try with_reducible rfl)
        refine anyF_take (i := 5) (v := ?v5_152) (a' := ?a5_152) rfl (by kernel_rfl) (by kernel_rfl) (by kernel_rfl) (fun _ _ _ h => h) hC (by kernel_rfl) ?w5_152 ?y5_152 ?f5_152 ?r5_152
        case w5_152 => kernel_rfl
        case y5_152 => (intro W hW; first | (subst hW; refine Eq.trans (tells_cell (v := .int .i64 y) ⟨g, q, none⟩ rfl (Tryd.isAgg3 _) HCT.out) ?_; with_reducible rfl))
        case f5_152 => (go_simp; try with_reducible rfl)
        refine anyF_take (i := 6) (v := ?v6_153) (a' := ?a6_153) rfl (by kernel_rfl) (by kernel_rfl) (by kernel_rfl) (fun _ _ _ h => h) hC (by kernel_rfl) ?w6_153 ?y6_153 ?f6_153 ?r6_153
        case w6_153 => kernel_rfl
        case y6_153 => (intro w hC; go_simp; try with_reducible rfl)
        case f6_153 => (go_simp; try with_reducible rfl)
        refine anyF_take (i := 7) (v := ?v7_154) (a' := ?a7_154) rfl (by kernel_rfl) (by kernel_rfl) (by kernel_rfl) (fun _ _ _ h => h) hC (by kernel_rfl) ?w7_154 ?y7_154 ?f7_154 ?r7_154
        case w7_154 => kernel_rfl
        case y7_154 => (intro W hW; first | (subst hW; refine Eq.trans (Kx.tells_load1_x (v := .int .i64 c.hit) HI.out b4 17 rfl (cf c) inferInstance (Tryd.isAgg3 _) rfl) ?_; with_reducible rfl))
        case f7_154 => (go_simp; try with_reducible rfl)
        refine anyF_one (i := 8) rfl (by kernel_rfl) (by kernel_rfl) (fun K hK => ?_)
        go_simp
        refine (Hit_any y c.hit _).mono ?_
        rintro e W2 ⟨rfl, rfl⟩
        refine hK _ _ ⟨.inl rfl, ?_⟩
        clear hK
        refine anyF_take (i := 9) (v := ?v9_155) (a' := ?a9_155) rfl (by kernel_rfl) (by kernel_rfl) (by kernel_rfl) (fun _ _ _ h => h) hC (by kernel_rfl) ?w9_155 ?y9_155 ?f9_155 ?r9_155
        case w9_155 => kernel_rfl
        case y9_155 => (intro w hC; go_simp; try with_reducible rfl)
        case f9_155 => (go_simp; try with_reducible rfl)
        refine anyF_one (i := 10) rfl (by kernel_rfl) (by kernel_rfl) (fun K hK => ?_)
        refine wp_storeRow_eq HI.out _ _ _ rfl rfl g q rfl _ rfl rfl (List.mem_cons_self ..) HLQ.out (Tryd.sizeOf3 _) ?_
        refine hK _ _ ⟨.inr (by kernel_rfl), ?_⟩
        refine anyF_done (by kernel_rfl) ?_
        exact HP.out
      case done =>
        rintro D ys W hD hys hI hKD
        subst hT2
        have hlt := Bxs.size hI
        have HI := Lib.hid (show Bxs w W _ _ from hI)
        have HI0 := Lib.hid HB0.size
        clear HB HB0 hI
        have HB := HI
        go_wp2_with (first | ((with_reducible refine Kx.absorb HB ?_); clear HB; intro w_ HB) | ((with_reducible refine Kx.box_gate ?_); (first | refine Kx.boxa HB rfl ?_ | refine Kx.boxt HB rfl rfl ?_ | refine Kx.box1 HB rfl rfl ?_); clear HB; intro b_ w_ HB; refine Kx.fr ?_) | ((with_reducible refine Kx.alloc_gate ?_); (first | refine Kx.ala HB ?_ | refine Kx.al1 HB ?_); clear HB; intro b_ w_ HB; refine Kx.fr ?_) | ((with_reducible refine Kx.loads_gate ?_); first | refine Kx.l1 HB rfl rfl ?_ | refine Kx.la HB rfl ?_ | refine Kx.lo HB rfl HC.out ?_) | ((with_reducible refine Kx.loadg_gate ?_); first | refine Kx.l1g HB rfl rfl rfl ?_ | refine Kx.lag HB rfl rfl ?_ | refine Kx.log HB rfl HC.out rfl ?_) | ((with_reducible refine Kx.store_gate ?_); (first | refine Kx.stwa HB rfl rfl ?_ | refine Kx.sta HB rfl rfl ?_ | refine Kx.stc HB rfl rfl ?_ | refine Kx.stt HB rfl rfl rfl ?_ | refine Kx.st1 HB rfl rfl rfl ?_); clear HB; intro w_ HB))
        show bodyPostM Fence.wide 4 _ _ _ Exit.ret _ _
        refine ⟨by simp, .inl ⟨_, _, rfl, run_takeDeferred hKD, ?_⟩⟩
        have hB2 := Bxs.others HB.out (grownBy_putObj' W D (.deferred none)) (fun r e => by cases e; exact ⟨Nat.le_trans HI0.out hD, _, hKD, rfl⟩)
        have hrow := (hB2.rows _ (List.mem_cons_self ..)).1
        refine ⟨_, results_tmp rfl _ _ _, _, _, rfl, hB2.below, ?_⟩
        rw [← HPL.out, ← hys]
        exact hrow
end Go.Proofs.YtpbogacodhjlfaaDoor
