/- The document's net: a message taken: the row laid anew without it. -/
import Derived.Test.YtceleihfdpgpiaaNr
namespace Go.Proofs.Ytceleihfdpgpiaa
open Go.RowKit Go.Shelf Km Kb

theorem info_parts_sl : ∃ i, Try.prog.info? 30 = some i ∧ i.zero = some (.slice none 0 0) ∧ i.size = 1 ∧ i.bytes = 24 := by
  have h : (Try.prog.info? 30).map (fun i => (i.zero, i.size, i.bytes)) = some (some (.slice none 0 0), 1, 24) := by kernel_rfl
  exact info_parts h

/-- all but the k-th -/
def er {α : Type} (k : Nat) (l : List α) : List α := l.take k ++ l.drop (k + 1)
section
variable {α : Type} {l : List α} {j k : Nat} {x : α}
theorem er_snoc {m : List α} (h : m.length ≠ k) : er k (m ++ [x]) = er k m ++ [x] := by
  unfold er
  rcases Nat.lt_or_ge m.length k with q | q
  · rw [List.take_of_length_le (l := m ++ [x]) (by rw [List.length_append]; simp; omega), List.drop_of_length_le (l := m ++ [x]) (by rw [List.length_append]; simp; omega), List.take_of_length_le (l := m) (by omega), List.drop_of_length_le (l := m) (by omega)]
    simp
  · rw [List.take_append_of_le_length (by omega), List.drop_append_of_le_length (by omega), List.append_assoc]
theorem er_add (h : j ≠ k) (hx : l[j]? = some x) : er k (l.take (j + 1)) = er k (l.take j) ++ [x] := by
  have hj := (List.getElem?_eq_some_iff.1 hx).1
  rw [List.take_add_one, hx, Option.toList_some, er_snoc (by rw [List.length_take]; omega)]
theorem er_skip : er k (l.take (k + 1)) = er k (l.take k) := by
  unfold er
  rw [List.drop_of_length_le (by rw [List.length_take]; omega), List.drop_of_length_le (by rw [List.length_take]; omega), List.take_take, List.take_take]
  congr 2
  omega
theorem er_nil : er k ([] : List α) = [] := by unfold er; simp
theorem er_len (h : k < l.length) : (er k l).length = l.length - 1 := erase_len l k h
theorem er_le : (er k l).length ≤ l.length := by unfold er; rw [List.length_append, List.length_take, List.length_drop]; omega
end

section
variable {w w' : World} {S : Nat → Prop} {g : Nat} {l : List (List Int)} {ov : Value} {vs : List Value}
set_option maxRecDepth 100000 in
set_option maxHeartbeats 1000000 in
theorem rtake_none (h : NAt w S g l ov vs) (i : Int) (hi : Nm.pick l i = none) :
    Calls Try.prog 12 #[.pointer (some ⟨g, 0, none⟩), .int .i64 i] w fun e w' => e = .returned (.tuple #[.slice none 0 0, .bool false]) ∧ w' = w := by
  have HA := Lib.hid (rat_none h i hi)
  clear h hi
  go_enter Try.func12, Try.ntmps12
  go_wp2_with (go_at_call 17; refine HA.out.mono ?_; rintro e w' ⟨rfl, rfl⟩)
  go_ret2
  exact ⟨rfl, rfl⟩

set_option maxRecDepth 100000 in
set_option maxHeartbeats 2000000 in
theorem rtake_some (h : NAt w S g l ov vs) (k : Nat) {b : List Int} (hk : l[k]? = some b) (hz : l.length ≤ 1000000) :
    Calls Try.prog 12 #[.pointer (some ⟨g, 0, none⟩), .int .i64 (k : Int)] w fun e w' => ∃ v, e = .returned (.tuple #[v, .bool true]) ∧ Bdy w' S v b ∧ Ndid w w' S g (er k l) := by
  have HA := Lib.hid (rat_some h k hk)
  have hkl := (List.getElem?_eq_some_iff.1 hk).1
  have hvl := h.len
  obtain ⟨i1, hi1, hy0, hy1, hy2⟩ := info_parts_sl
  have hsh := h.below (w' := w) (Below.refl _ _)
  obtain ⟨A, cap, eo, ho1, ho2, hrd, hfr⟩ := h.row.form
  have HN := Lib.hid h
  have HR := Lib.hid hrd
  have hc := h.cell
  have hgw := h.lt g h.sg
  have hlt := h.lt
  clear h hsh hfr hk
  subst eo
  generalize hn : l.length = n at *
  go_enter Try.func12, Try.ntmps12
  go_wp2_with (go_at_call 17; fail)
  refine HA.out.mono ?_
  rintro e w1 ⟨v, rfl, hb, rfl⟩
  have HB := Lib.hid hb
  clear hb
  go_wp2_with fail
  go_loopw [8, 9] (fun lv ix wr => ∃ (j m : Nat) (A2 : Option Addr) (c2 : Nat), ix = .int .i64 (j : Int) ∧ lv = .slice A2 m c2 ∧ j ≤ n ∧ m ≤ j ∧ Hid (wr.ownsRow w1.heap.size 30 1 (.slice A2 m c2) m (er k (vs.take j))) ∧ Hid (Below w1.heap.size w1 wr)) (fun _ ix _ => n - (intOf ix).toNat)
  case atStart => exact ⟨0, 0, none, 0, rfl, rfl, by omega, by omega, Lib.hid (by rw [List.take_zero, er_nil]; exact World.ownsRow_nil _ _ _ _), Lib.hid (Below.refl _ _)⟩
  case round =>
    obtain ⟨j, m, A2, c2, rfl, rfl, hj, hm, HO, HW⟩ := hrel
    have hcr : wr.cell? ⟨g, 0, none⟩ = some (.slice A n cap) := (HW.out.cell (p := ⟨g, 0, none⟩) hgw).trans hc
    by_cases hlt2 : j < n
    · have d1 : decide ((j : Int) < (n : Int)) = true := by simpa using hlt2
      have d3 : (j : Int) < (n : Int) := by omega
      obtain ⟨u, hu⟩ : ∃ u, vs[j]? = some u := ⟨vs[j], List.getElem?_eq_getElem (by omega)⟩
      obtain ⟨y, hy⟩ : ∃ y, l[j]? = some y := ⟨l[j]'(by omega), List.getElem?_eq_getElem _⟩
      obtain ⟨Au, cu, rfl, -, -, -, -⟩ := HN.out.bod j u y hu hy
      obtain ⟨ad, rfl, hadb, hcu⟩ := HR.out j _ hu
      have hcu2 : wr.cell? (ad.add j) = some (.slice Au y.length cu) := (HW.out.cell (by rw [addr_add_block]; exact hadb)).trans hcu
      by_cases hjk : j = k
      · have d2 : ((j : Int) != (k : Int)) = false := by rw [bne_eq_false_iff_eq]; omega
        have HE := Lib.hid (show wr.ownsRow w1.heap.size 30 1 (.slice A2 m c2) m (er k (vs.take (j + 1))) by rw [show er k (vs.take (j + 1)) = er k (vs.take j) by rw [hjk]; exact er_skip]; exact HO.out)
        clear hjk
        go_wp2_with fail
        go_roundw
        case rel => exact ⟨j + 1, m, A2, c2, by go_num, rfl, by omega, by omega, HE, HW⟩
        case measure => simp [intOf]; omega
      · have d2 : ((j : Int) != (k : Int)) = true := by rw [bne_iff_ne]; omega
        have HE := Lib.hid (er_add hjk hu)
        have hsz := HW.out.size
        clear hjk hu hy hcu
        go_wp2_with (at_builtin; refine wpList_app rfl _ _ 27 rfl w1.heap.size 30 i1 (.slice none 0 0) 24 Try.underlying27 hi1 hy0 hy1 hy2 rfl _ _ _ rfl (own_below HO.out ((Below.refl _ wr).alloc (Nat.le_refl _) _) (Nat.le_refl _)) (wr.heap.size + 1) (some ⟨wr.heap.size, 0, none⟩) 1 1 [.slice Au y.length cu] rfl rfl (by exact Rd.new wr (wr.heap.size + 1) [.slice Au y.length cu] 30 (0, 0) (by omega)) (by simp [Value.oneCell']) (by unfold maxLen; omega) (by omega) (by simp; omega) ?_; intro v' w' hown' hgrow _; obtain ⟨A3, c3, rfl, -, -, -⟩ := own_view hown')
        go_roundw
        case rel => exact ⟨j + 1, m + 1, A3, c3, by go_num, rfl, by omega, by omega, Lib.hid (by rw [HE.out]; exact hown'), Lib.hid (below_app (HW.out.alloc hsz _) (own_below HO.out ((Below.refl _ wr).alloc (Nat.le_refl _) _) (Nat.le_refl _)) hgrow (by simp; omega))⟩
        case measure => simp [intOf]; omega
    · have hjn : j = n := by omega
      subst hjn
      have d1 : decide ((j : Int) < (j : Int)) = false := by simp
      have hE : er k (vs.take j) = er k vs := by rw [List.take_of_length_le (by omega)]
      have HD := Lib.hid (HN.out.less (w2 := wr) (ov' := .slice A2 m c2) (l' := er k l) (vs' := er k vs) (grown_of_below HW.out _) (by
        have e : (er k l).length = m := by have := HO.out.1; rw [hE] at this; rw [er_len (by omega)] at this ⊢; omega
        rw [e]
        exact .inl (own_mono (hE ▸ HO.out) (Nat.zero_le _))) (fun q hq => .inr (HO.out.lt q hq).1) (fun a x y hx hy => erase_from vs l (by omega) k (by omega) a x y hx hy))
      obtain ⟨⟨c4, f4⟩, HD⟩ := HD.out
      have HF := Lib.hid (show Bdy (wr.setCell ⟨g, 0, none⟩ (.slice A2 m c2)) S v b from HB.out.keep fun q hq => ⟨(Below.heap_setCell _ _ _ q (fun e => hq.2.1 (by rw [e]))).trans (HW.out.block q (hlt q hq.1)), hq.1⟩)
      clear HO
      go_wp2
      go_ret2
      exact ⟨_, rfl, HF.out, HD⟩

/-- a message's slot emptied in place -/
theorem NAt.wipe (h : NAt w S g l ov vs) {k : Nat} (hk : k < l.length) : ∃ cap ad v, ov = .slice (some ad) l.length cap ∧ w.cell? (ad.add k) = some v ∧ w.frozen? (ad.add k) = false ∧
    NAt (w.setCell (ad.add k) (.slice none 0 0)) S g (l.set k []) ov (vs.set k (.slice none 0 0)) ∧ Out S w (w.setCell (ad.add k) (.slice none 0 0)) := by
  obtain ⟨cap, ad, v, rfl, hc, -⟩ := h.get (List.getElem?_eq_getElem hk)
  obtain ⟨hf, hr, hg⟩ := h.row.stored k (.slice none 0 0)
  have hne : ad.block ≠ g := fun e => (h.oS ad.block rfl).2 e
  have hsz : (w.setCell (ad.add k) (.slice none 0 0)).heap.size = w.heap.size := World.size_setCell _ _ _
  have hb : ∀ b, b ≠ ad.block → (w.setCell (ad.add k) (.slice none 0 0)).heap[b]? = w.heap[b]? := fun b q => Below.heap_setCell _ _ _ _ (fun e => q (by rw [e, addr_add_block]))
  refine ⟨cap, ad, v, rfl, hc, hf, ⟨(World.cell?_of_block (hb g (fun e => hne e.symm))).trans h.cell, (World.frozen?_of_block (hb g (fun e => hne e.symm))).trans h.fz, h.sg, fun b q => by rw [hsz]; exact h.lt b q, by rw [List.length_set]; exact hr, h.oS, fun j u c hu hj => ?_⟩, Out.grown hg fun b e => by cases e; exact (h.oS _ rfl).1⟩
  by_cases q : k = j
  · subst q
    rw [List.getElem?_set_self (by rw [h.len]; exact hk)] at hu
    rw [List.getElem?_set_self hk] at hj
    cases hu
    cases hj
    exact Bdy.nil _ _
  · rw [List.getElem?_set_ne q] at hu hj
    exact (h.bod j u c hu hj).keep fun b hb' => ⟨hb b (fun e => hb'.2.2 (by rw [e]; rfl)), hb'⟩
end
end Go.Proofs.Ytceleihfdpgpiaa
