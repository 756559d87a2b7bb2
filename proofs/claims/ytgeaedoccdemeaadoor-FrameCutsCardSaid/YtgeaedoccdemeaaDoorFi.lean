/- The iterator over frames: what it hands over, and with what. -/
import Derived.Test.YtgeaedoccdemeaaDoorFt
import Derived.Test.YtgeaedoccdemeaaDoorKitG
namespace Go.Proofs.YtgeaedoccdemeaaDoor
open Go.RowKit Go.Shelf
attribute [local go_sem] Oper.semAt_some

/-- what comes: a frame, where the slice that its body is begins and its capacity, and the offset behind it -/
abbrev It := (Int × List Int) × (Option Addr × Nat) × Nat
def itV (x : It) : Value := .slice x.2.1.1 x.1.2.length x.2.1.2

/-- records(b): b lies in a box; the function value holds the box. -/
theorem records_in (n : Nat) (v : Value) (w : World) (hv : ∃ A c m, v = .slice A c m) :
    CallsIn Fence.wide n Tryd.prog 22 #[v] w fun e w' => e = .returned (.func (.func 26) #[] #[.pointer (some ⟨w.heap.size, 0, none⟩)]) ∧ w' = w.alloc (.cells #[v] 22) := by
  obtain ⟨A, c, m, rfl⟩ := hv
  refine callsIn_of_wp Tryd.func22 rfl trivial ?_ rfl
  simp only [Tryd.ntmps22, List.size_toArray, List.length_cons, List.length_nil, Nat.reduceAdd, Nat.reduceSub, Array.replicate_succ, Array.replicate_zero, List.push_toArray, List.append_toArray, List.nil_append, List.cons_append]
  gi_wp2
  go_ret
  exact ⟨rfl, rfl⟩

/-- the caller's bytes and the iterator's box stay -/
def KpI (Bu bsz : Nat) (A B : World) : Prop := (∀ u, Boxed A Bu 22 u → Boxed B Bu 22 u) ∧ Below bsz A B
def MvI (A B : World) : Prop := Below A.heap.size A B

/-- what is known of a frame that comes -/
def YI (xs : List Int) (pre : List It) (x : It) (A0 A : World) : Prop :=
  A.ownsRow A0.heap.size 5 1 (itV x) x.1.2.length (u8s x.1.2) ∧ x.2.2 = (Fm.cat ((pre ++ [x]).map (·.1))).length ∧ x.2.2 ≤ xs.length ∧ 8 * (pre.length + 1) ≤ x.2.2 ∧ (0 ≤ x.1.1 ∧ x.1.1 ≤ 255) ∧ x.1.2.length ≤ 8192

def recV (x : It) : Value := .agg #[.int .u8 x.1.1, itV x]

set_option maxRecDepth 100000 in
set_option maxHeartbeats 2000000 in
theorem records1_in (fr : Nat) (h1 : 1 ≤ fr) (l Bu bsz : Nat) (J Jx : List It → World → Prop) (A : Option Addr) (n cap B : Nat) (xs : List Int) (W0 W : World)
    (hJM : ∀ s A B, J s A → MvI A B → J s B)
    (hY : ∀ pre x A0 A, J pre A0 → MvI A0 A → YI xs pre x A0 A → YieldAt Fence.wide (fr - 1) Tryd.prog l #[recV x, .int .i64 (x.2.2 : Int)] A fun e B =>
      (e = .returned (.bool true) ∧ J (pre ++ [x]) B ∧ KpI Bu bsz A B) ∨ (e = .returned (.bool false) ∧ Jx (pre ++ [x]) B))
    (hx : Rd W0 B A (u8s xs)) (hn : xs.length = n) (hnc : n ≤ cap) (hcap : cap ≤ maxLen) (hB : B ≤ bsz) (hbz : bsz ≤ W.heap.size) (hb : Fm.By xs) (ht : Tab W0) (hT : W0.heap.size ≤ bsz) (hW : Below bsz W0 W) (hBx : Boxed W Bu 22 (.slice A n cap)) (hJ : J [] W) :
    CallsIn Fence.wide fr Tryd.prog 26 #[.func (.yield l) #[] #[], .pointer (some ⟨Bu, 0, none⟩)] W fun e W' => (∃ v, e = .returned v) ∧
      ((∃ ys, ys.map (·.1) = Fm.al xs ∧ J ys W') ∨ (∃ ys, True ∧ Jx ys W')) := by
  have HX := Lib.hid hx
  have HN := Lib.hid hn
  have HB := Lib.hid hb
  have HT := Lib.hid ht
  have hcap' := hcap
  unfold maxLen at hcap'
  clear hx hn hb ht
  refine callsIn_of_wp Tryd.func26 rfl trivial ?_ rfl
  simp only [Tryd.ntmps26, List.size_toArray, List.length_cons, List.length_nil, Nat.reduceAdd, Nat.reduceSub, Array.replicate_succ, Array.replicate_zero, List.push_toArray, List.append_toArray, List.nil_append, List.cons_append]
  gi_wp2
  gi_loopw [3] (fun ax wr => ∃ (pre : List It) (m : Nat), ax = .int .i64 (m : Int) ∧ m ≤ n ∧ Hid (Fm.al xs = pre.map (·.1) ++ Fm.al (xs.drop m)) ∧ Hid (m = (Fm.cat (pre.map (·.1))).length) ∧ 8 * pre.length ≤ m ∧ Below bsz W0 wr ∧ bsz ≤ wr.heap.size ∧ Boxed wr Bu 22 (.slice A n cap) ∧ J pre wr)
    (fun ax _ => n - (intOf ax).toNat)
  case atStart => exact ⟨[], 0, rfl, by omega, Lib.hid rfl, Lib.hid rfl, by simp, hW, hbz, hBx, hJ⟩
  case round =>
    obtain ⟨pre, m, rfl, hm, hS, hC, h8, hbw, hbs, hbx, hj⟩ := hrel
    have hc := hbx.cell
    have hf := hbx.frozen
    have HG := Lib.hid (callsIn_wide (n := fr - 1).2 (Get_any A n cap B xs (m : Int) wr (HX.out.below (hbw.mono hB)) HN.out hnc hcap (by omega) HB.out (HT.out.below hbw hT) (by omega) (by omega)))
    cases hg : Fm.g1 (xs.drop m) with
    | none =>
      have hE := Fm.get_none (b := xs) (n := m) (by rw [HN.out]; exact hm) hg
      have HS2 : Hid (Fm.al xs = pre.map (·.1)) := by
        have h := hS.out
        rw [Fm.al_none hg, List.append_nil] at h
        exact h
      generalize Fm.get xs (m : Int) = q at HG hE
      obtain ⟨q1, q2, q3, q4⟩ := q
      dsimp only at HG hE
      have hq : (q4 != 0) = true := by rw [bne_iff_ne]; exact hE
      have HJ := Lib.hid hj
      clear hS hg hE hj
      gi_wp2_with (gi_at_call 13; fail)
      refine ⟨trivial, HG.out.mono ?_⟩
      rintro e w1 ⟨v, rfl, hown, hb1⟩
      obtain ⟨Av, cv, rfl, -, -, -⟩ := own_view hown
      clear hown
      gi_wp2
      refine ⟨(fun _ h => by cases h), ?_⟩
      gi_wp2
      refine bodyPost_ret (results_none rfl _ _ _) rfl ?_
      exact ⟨⟨_, rfl⟩, .inl ⟨_, HS2.out.symm, hJM _ _ _ HJ.out hb1⟩⟩
    | some p =>
      obtain ⟨k, b⟩ := p
      have hE := Fm.get_some (b := xs) (n := m) (by rw [HN.out]; exact hm) HB.out hg
      obtain ⟨hl, hk, -, hle, -, -⟩ := Fm.g1_some (HB.out.drop m) hg
      rw [List.length_drop, HN.out] at hle
      rw [hE] at HG
      dsimp only at HG
      have HS2 : Hid (Fm.al xs = (pre.map (·.1) ++ [(k, b)]) ++ Fm.al (xs.drop (m + (b.length + 8)))) := by
        have h := hS.out
        rw [Fm.al_some hg, drop_two] at h
        rw [List.append_assoc]
        exact h
      have HC2 : Hid (m + (b.length + 8) = (Fm.cat (pre.map (·.1) ++ [(k, b)])).length) := by
        show _ = _
        rw [cat_more, ← hC.out]
      have HJ := Lib.hid hj
      have HBW := Lib.hid hbw
      have HBX := Lib.hid hbx
      clear hS hC hg hE hj hbw hbx
      gi_wp2_with (gi_at_call 13; fail)
      refine ⟨trivial, HG.out.mono ?_⟩
      rintro e w1 ⟨v, rfl, hown, hb1⟩
      obtain ⟨Av, cv, rfl, -, -, -⟩ := own_view hown
      have hyi : YI xs pre ((k, b), (Av, cv), m + (b.length + 8)) wr w1 := ⟨hown, by show _ = _; rw [List.map_append]; exact HC2.out, by show m + (b.length + 8) ≤ _; rw [HN.out]; omega, by show _ ≤ m + (b.length + 8); omega, hk, hl⟩
      obtain ⟨fn, tmps, assign, body, hy, hR⟩ := hY pre ((k, b), (Av, cv), m + (b.length + 8)) wr w1 HJ.out hb1 hyi
      dsimp only [recV, itV] at hy
      rw [show (((m + (b.length + 8) : Nat)) : Int) = (m : Int) + ((b.length : Int) + 8) by omega] at hy
      have HB1 := Lib.hid hb1
      clear hyi hown hb1
      gi_wp2
      refine hR.mono ?_
      rintro e W3 (⟨rfl, hJ3, hk3⟩ | ⟨rfl, hJx3⟩)
      · gi_wp2
        have hbx1 : Boxed w1 Bu 22 (.slice A n cap) := (HB1.out.block _ HBX.out.lt).trans HBX.out
        have hs3 := hk3.2.size
        have hs1 := HB1.out.size
        go_roundw
        case rel => exact ⟨pre ++ [((k, b), (Av, cv), m + (b.length + 8))], m + (b.length + 8), by go_num, by omega, Lib.hid (by rw [List.map_append]; exact HS2.out), Lib.hid (by rw [List.map_append]; exact HC2.out), by simp; omega, (HBW.out.trans (HB1.out.mono hbs)).trans hk3.2, by omega, hk3.1 _ hbx1, hJ3⟩
        case measure => simp [intOf]; omega
      · gi_wp2
        refine bodyPost_ret (results_none rfl _ _ _) rfl ?_
        exact ⟨⟨_, rfl⟩, .inr ⟨_, trivial, hJx3⟩⟩
end Go.Proofs.YtgeaedoccdemeaaDoor
