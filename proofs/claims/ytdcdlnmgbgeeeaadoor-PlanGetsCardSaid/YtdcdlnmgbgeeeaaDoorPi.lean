/- A plan read: the program's. -/
import Derived.Test.YtdcdlnmgbgeeeaaDoorPh
import Derived.Laws.Cover3
namespace Go.Proofs.YtdcdlnmgbgeeeaaDoor
open Go.RowKit Go.Shelf

theorem usw {n : Int} (h : Pm.I n) : n % 18446744073709551616 = Pm.us n := by
  unfold Pm.I at h
  unfold Pm.us
  split <;> omega

set_option maxRecDepth 100000 in
set_option maxHeartbeats 4000000 in
theorem planOf_ten (a0 a1 a2 a3 a4 a5 a6 a7 a8 a9 : Int) (A : Option Addr) (n c : Nat) (A' : Option Addr) (n' c' : Nat) (w : World) :
    Calls Tryd.prog 29 #[.agg #[.int .i64 a0, .int .i64 a1, .int .i64 a2, .int .i64 a3, .int .i64 a4, .int .i64 a5, .int .i64 a6, .int .i64 a7, .int .i64 a8, .int .i64 a9], .slice A n c, .slice A' n' c'] w fun e w' =>
      e = .returned (.agg #[.int .i64 a0, .int .i64 a1, .int .i64 a2, .int .i64 a3, .int .i64 a4, .int .i64 a5, .int .i64 a6, .int .i64 a7, .int .u64 (a8 % 18446744073709551616), .int .u64 (a9 % 18446744073709551616), .slice A n c, .slice A' n' c']) ∧ Below w.heap.size w w' := by
  go_enter Tryd.func29, Tryd.ntmps29
  go_wp2
  refine bodyPost_ret (results_cell_row rfl _ _ (w.heap.size + 1) _ _ (0, 0) _ rfl (last_block _ _ (by simp)) Tryd.underlying26 rfl info_plan) rfl ?_
  exact ⟨rfl, (((Below.refl _ w).alloc (Nat.le_refl _) _).alloc (by simp) _)⟩

theorem planOf_any (ns pen ch : List Int) (hns : ns.length = 10) (hf : Wm.Fits ns) (A : Option Addr) (n c : Nat) (A' : Option Addr) (n' c' : Nat) (w : World) :
    Calls Tryd.prog 29 #[.agg (i64s ns).toArray, .slice A n c, .slice A' n' c'] w fun e w' => e = .returned (pv (Pm.plOf ns pen ch) A n c A' n' c') ∧ Below w.heap.size w w' := by
  have h := planOf_ten (ns.getD 0 0) (ns.getD 1 0) (ns.getD 2 0) (ns.getD 3 0) (ns.getD 4 0) (ns.getD 5 0) (ns.getD 6 0) (ns.getD 7 0) (ns.getD 8 0) (ns.getD 9 0) A n c A' n' c' w
  have e : (i64s ns).toArray = #[.int .i64 (ns.getD 0 0), .int .i64 (ns.getD 1 0), .int .i64 (ns.getD 2 0), .int .i64 (ns.getD 3 0), .int .i64 (ns.getD 4 0), .int .i64 (ns.getD 5 0), .int .i64 (ns.getD 6 0), .int .i64 (ns.getD 7 0), .int .i64 (ns.getD 8 0), .int .i64 (ns.getD 9 0)] := by
    conv => lhs; rw [Pm.len10 hns]
    rfl
  rw [e]
  refine h.mono ?_
  rintro e' w' ⟨rfl, hb⟩
  refine ⟨?_, hb⟩
  rw [usw (Pm.fit_at hf 8), usw (Pm.fit_at hf 9)]
  rfl

namespace Pm
theorem get3_some {b l m o : List Int} (hb : ∀ c ∈ b, 0 ≤ c ∧ c ≤ 255) (h : get3 b = some (l, m, o)) : (Wm.Fits l ∧ Wm.Fits m ∧ Wm.Fits o) ∧ l.length ≤ 64 ∧ m.length ≤ 64 ∧ o.length ≤ 64 := by
  rcases get3_cases hb with h3 | ⟨l', n, e0, n0, f0, s0, h3⟩
  · rw [h3.2] at h; cases h
  rcases h3 with h3 | ⟨m', i, e1, n1, f1, s1, h3⟩
  · rw [h3.2] at h; cases h
  rcases h3 with h3 | ⟨o', j, e2, n2, f2, s2, h3⟩
  · rw [h3.2] at h; cases h
  rcases h3 with h3 | ⟨hj, h4, hU⟩
  · rw [h3.2] at h; cases h
  rw [h4] at h
  injection h with h
  injection h with h5 h
  injection h with h6 h7
  subst h5 h6 h7
  exact ⟨⟨f0, f1, f2⟩, by omega, by omega, by omega⟩
end Pm
theorem there_below {w w' : World} {b o n B : Nat} (h : w.there b o n) (hb : Below B w w') (hlt : b < B) : w'.there b o n := fun j hj => by
  obtain ⟨t1, t2⟩ := h j hj
  have hl : (⟨b, o + j, none⟩ : Addr).block < B := hlt
  exact ⟨by rw [hb.cell hl]; exact t1, by rw [hb.frozen hl]; exact t2⟩
theorem there_new (w : World) (cs : List Value) (t : TypeId) : (w.alloc (.cells cs.toArray t)).there w.heap.size 0 cs.length := fun j hj => by
  obtain ⟨ad, e, _, hc⟩ := (Rd.new w (w.heap.size + 1) cs t (0, 0) (by omega)) j _ (List.getElem?_eq_getElem hj)
  cases e
  rw [Addr.add_mid] at hc
  exact ⟨by rw [hc]; rfl, frozen_new _ _ _ rfl⟩
theorem range_of_own {w : World} {base : Nat} {e : TypeId} {g n cap : Nat} {xs : List Value} (h : w.ownsRow base e 1 (.slice (some ⟨g, 0, none⟩) n cap) n xs) : w.rangeAt g 0 xs := fun j v hv => by
  have := h.cells (g := g) rfl j v hv
  rw [Addr.add_mid] at this
  exact this

theorem pvs_one (x : Pm.Pl) (A : Option Addr) (n c : Nat) (A' : Option Addr) (n' c' : Nat) : (pvs x A n c A' n' c').toArray.all (·.oneCell') = true := by simp [pvs, Value.oneCell']
theorem plAt_zero (w : World) (B : Nat) : PlAt w B Pm.zero none 0 0 none 0 0 := ⟨Pm.ok_zero, Rd.nil _ _ _, rfl, Nat.le_refl _, Nat.zero_le _, Rd.nil _ _ _, rfl, Nat.le_refl _, Nat.zero_le _⟩

/-- a whole value into the block made last, as one operation of a region -/
theorem op_store_new {P : Program} {op : Oper} {a : Act} {w : World} {K : Act → World → Prop} {Q : Exit → Act → World → Prop} (ty : TypeId) (x y : Operand) (ho : op.op = .store ty x y)
    (c c' : Array Value) (hx : a.eval x = .pointer (some ⟨w.heap.size, 0, none⟩)) (hy : a.eval y = .agg c') (hi : (P.info? ty).map (·.size) = some c'.size) (hs : c.size = c'.size) (h1 : c'.all (·.oneCell') = true)
    (h : K (a.put op.dst undef) (w.alloc (.cells c' ty))) : op.wp P a (w.alloc (.cells c ty)) K Q := by
  unfold Oper.wp execOp
  simp only [ho, hx, hy, Sem.run_bind, run_storeAt_new (P := P) w ty c c' hi hs h1, Result.andThen_ok, Sem.run_pure]
  exact h
theorem op_store_drew {P : Program} {op : Oper} {a : Act} {w : World} {K : Act → World → Prop} {Q : Exit → Act → World → Prop} (ty : TypeId) (x y : Operand) (ho : op.op = .store ty x y)
    (c c' : Array Value) (b : Nat) (hb : b = w.heap.size) (hx : a.eval x = .pointer (some ⟨b, 0, none⟩)) (hy : a.eval y = .agg c') (hi : (P.info? ty).map (·.size) = some c'.size) (hs : c.size = c'.size) (h1 : c'.all (·.oneCell') = true)
    (h : K (a.put op.dst undef) ((w.alloc (.cells c' ty)).drew)) : op.wp P a ((w.alloc (.cells c ty)).drew) K Q := by
  subst hb
  exact op_store_new (w := w.drew) ty x y ho c c' hx hy hi hs h1 h

set_option maxRecDepth 100000 in
set_option maxHeartbeats 4000000 in
theorem Get_any (A : Option Addr) (n cap B : Nat) (xs : List Int) (w : World) (hx : Rd w B A (u8s xs)) (hn : xs.length = n) (hnc : n ≤ cap) (hcap : cap ≤ maxLen) (hB : B ≤ w.heap.size) (hb : ∀ x ∈ xs, 0 ≤ x ∧ x ≤ 255) (ht : Tab w) :
    Calls Tryd.prog 15 #[.slice A n cap] w fun e w' => ∃ A1 n1 c1 A2 n2 c2, e = .returned (.tuple #[pv (Pm.get xs).1 A1 n1 c1 A2 n2 c2, .int .i64 (Pm.get xs).2]) ∧ PlAt w' w'.heap.size (Pm.get xs).1 A1 n1 c1 A2 n2 c2 ∧ Below w.heap.size w w' := by
  have hz1 : (w.alloc (.cells (pvs Pm.zero none 0 0 none 0 0).toArray 26)).heap.size = w.heap.size + 1 := World.size_alloc ..
  have hb1 := Lib.hid ((Below.refl w.heap.size w).alloc (Nat.le_refl _) (.cells (pvs Pm.zero none 0 0 none 0 0).toArray 26))
  have hth1 := Lib.hid (there_new w (pvs Pm.zero none 0 0 none 0 0) 26)
  have HT3 := Lib.hid (threeLists_any A n cap B xs (w.alloc (.cells (pvs Pm.zero none 0 0 none 0 0).toArray 26)) (hx.below (hb1.out.mono hB)) hn hnc hcap (Nat.le_trans hB hb1.out.size) hb)
  have HT := Lib.hid (ht.below hb1.out (Nat.le_refl _))
  have HZ1 := Lib.hid hz1
  have HB := Lib.hid hb
  clear hx hn hb ht hz1
  go_enter Tryd.func15, Tryd.ntmps15
  go_wp2_with (go_at_call 27; fail)
  refine HT3.out.mono ?_
  rintro e w2 ⟨v0, v1, v2, rfl, ⟨⟨A0, n0, c0, rfl⟩, ⟨A1, n1, c1, rfl⟩, ⟨A2, n2, c2, rfl⟩, hrow⟩, hb2'⟩
  rw [HZ1.out] at hb2' hrow
  have hb2 := Lib.hid hb2'
  have hz2 : w.heap.size + 1 ≤ w2.heap.size := by have := hb2'.size; rw [HZ1.out] at this; exact this
  have hbw2 := Lib.hid (hb1.out.trans (hb2'.mono (Nat.le_succ _)))
  clear hb2' HT3
  cases hg : Pm.get3 xs with
  | none =>
    have HE := Lib.hid (Pm.get_none hg)
    clear hrow hg
    dsimp only [Option.isSome]
    have hth3 : Hid ((w2.alloc (.cells #[.slice A0 n0 c0, .slice A1 n1 c1, .slice A2 n2 c2] 51)).there w.heap.size 0 12) := World.there_alloc (there_below hth1.out hb2.out (Nat.lt_succ_self _)) _
    have hrng := Lib.hid (World.rangeAt_setCells_same (w2.alloc (.cells #[.slice A0 n0 c0, .slice A1 n1 c1, .slice A2 n2 c2] 51)) w.heap.size 0 (pvs Pm.zero none 0 0 none 0 0) hth3.out)
    have hbe := Lib.hid (below_grown (hbw2.out.alloc (by omega) (.cells #[.slice A0 n0 c0, .slice A1 n1 c1, .slice A2 n2 c2] 51)) (grown_set w.heap.size (pvs Pm.zero none 0 0 none 0 0) 0 _) (Nat.le_refl _) (by rw [World.size_alloc]; omega))
    go_wp2_with (refine wpList_store_mid rfl 26 _ _ rfl w.heap.size 0 (pvs Pm.zero none 0 0 none 0 0).toArray rfl rfl hth3.out info_plan (pvs_one _ _ _ _ _ _ _) ?_)
    refine bodyPost_ret (results_ct rfl _ _ w.heap.size (pvs Pm.zero none 0 0 none 0 0) _ rfl hrng.out Tryd.underlying26 rfl info_plan) rfl ?_
    exact ⟨none, 0, 0, none, 0, 0, by rw [HE.out]; rfl, by rw [HE.out]; exact plAt_zero _ _, hbe.out⟩
  | some q =>
    obtain ⟨l, m, o⟩ := q
    obtain ⟨hfit, hl0, hl1, hl2⟩ := Pm.get3_some HB.out hg
    have HF := Lib.hid hfit
    have HG := Lib.hid hg
    obtain ⟨o0, o1, o2⟩ := hrow l m o hg
    clear hrow hg hfit
    dsimp only [Option.isSome]
    obtain ⟨_, _, e, hcp0, hcm0, hr0⟩ := own_view o0
    obtain ⟨_, _, e', hcp1, hcm1, hr1⟩ := own_view o1
    obtain ⟨_, _, e'', hcp2, hcm2, hr2⟩ := own_view o2
    injection e with ea en ec
    injection e' with ea' en' ec'
    injection e'' with ea'' en'' ec''
    subst ea ec ea' ec' ea'' ec''
    have HO0 := Lib.hid o0
    have HO1 := Lib.hid o1
    have HO2 := Lib.hid o2
    have hR1 := Lib.hid hr1
    have hR2 := Lib.hid hr2
    rw [← en] at hcp0
    rw [← en'] at hcp1
    rw [← en''] at hcp2
    have EN0 := Lib.hid en
    have EN1 := Lib.hid en'
    have EN2 := Lib.hid en''
    have hm1 : n1 ≤ 64 := by omega
    have hm2 : n2 ≤ 64 := by omega
    clear o0 o1 o2 hr0 hr1 hr2 en en' en'' hl0 hl1 hl2
    have hth3 : Hid ((w2.alloc (.cells #[.slice A0 n0 c0, .slice A1 n1 c1, .slice A2 n2 c2] 51)).there w.heap.size 0 12) := World.there_alloc (there_below hth1.out hb2.out (Nat.lt_succ_self _)) _
    by_cases h10 : n0 = 10
    · subst h10
      obtain ⟨g, cg, eg, -, -⟩ := HO0.out.form (by have := EN0.out; omega)
      injection eg with eg elen ec
      subst eg ec
      clear elen
      have hb3 := Lib.hid (hbw2.out.alloc (o := .cells #[.slice (some ⟨g, 0, none⟩) 10 c0, .slice A1 n1 c1, .slice A2 n2 c2] 51) (by omega))
      have hk3 : Hid (Below w2.heap.size w2 (w2.alloc (.cells #[.slice (some ⟨g, 0, none⟩) 10 c0, .slice A1 n1 c1, .slice A2 n2 c2] 51))) := (Below.refl _ _).alloc (Nat.le_refl _) _
      have hz3 : Hid ((w2.alloc (.cells #[.slice (some ⟨g, 0, none⟩) 10 c0, .slice A1 n1 c1, .slice A2 n2 c2] 51)).heap.size = w2.heap.size + 1) := World.size_alloc ..
      have hgl : g < w2.heap.size := (HO0.out.lt g rfl).2
      have HR0 : Hid (∀ (W : World), Below (w2.heap.size + 1) (w2.alloc (.cells #[.slice (some ⟨g, 0, none⟩) 10 c0, .slice A1 n1 c1, .slice A2 n2 c2] 51)) W → W.rangeAt g 0 (i64s l)) := fun W h j v hv => by
        have h0 : w2.ownsRow (w.heap.size + 1) 2 1 (.slice (some ⟨g, 0, none⟩) l.length c0) l.length (i64s l) := by rw [← EN0.out]; have := HO0.out; rw [← EN0.out] at this; exact this
        have hc := range_of_own h0 j v hv
        rw [h.cell (by show g < _; omega), hk3.out.cell (by exact hgl)]
        exact hc
      have HC3 : Hid (∀ (W : World), Below (w2.heap.size + 1) (w2.alloc (.cells #[.slice (some ⟨g, 0, none⟩) 10 c0, .slice A1 n1 c1, .slice A2 n2 c2] 51)) W → W.cell? ⟨w2.heap.size, 0, none⟩ = some (.slice (some ⟨g, 0, none⟩) 10 c0) ∧ W.cell? ⟨w2.heap.size, 1, none⟩ = some (.slice A1 n1 c1) ∧ W.cell? ⟨w2.heap.size, 2, none⟩ = some (.slice A2 n2 c2)) := fun W h => by
        have hlt : ∀ j, (⟨w2.heap.size, j, none⟩ : Addr).block < w2.heap.size + 1 := fun j => Nat.lt_succ_self _
        refine ⟨?_, ?_, ?_⟩
        · rw [h.cell (hlt 0), World.cell?_alloc_at (hn := rfl)]; rfl
        · rw [h.cell (hlt 1), World.cell?_alloc_at (hn := rfl)]; rfl
        · rw [h.cell (hlt 2), World.cell?_alloc_at (hn := rfl)]; rfl
      have hln : Hid ((Tryd.prog.info? 44).map (·.size) = some (i64s l).length) := by rw [List.length_map, ← EN0.out]; exact info_nums
      go_wp2_with fail
      refine region_C (fun W => Below (w2.heap.size + 1) (w2.alloc (.cells #[.slice (some ⟨g, 0, none⟩) 10 c0, .slice A1 n1 c1, .slice A2 n2 c2] 51)) W) (by kernel_rfl) ?_
      have hC : Below (w2.heap.size + 1) (w2.alloc (.cells #[.slice (some ⟨g, 0, none⟩) 10 c0, .slice A1 n1 c1, .slice A2 n2 c2] 51)) (w2.alloc (.cells #[.slice (some ⟨g, 0, none⟩) 10 c0, .slice A1 n1 c1, .slice A2 n2 c2] 51)).drew := (Below.refl _ _).drew
      refine anyC_take (i := 0) (v := ?v0_144) (a' := ?a0_144) rfl (by kernel_rfl) (by kernel_rfl) (by kernel_rfl) (fun _ _ _ h => h) hC ?w0_144 ?y0_144 ?f0_144 ?r0_144
      case w0_144 => kernel_rfl
      case y0_144 => (intro w hC; go_simp; try with_reducible rfl)
      case f0_144 => (go_simp; try with_reducible rfl)
      refine anyC_take (i := 4) (v := ?v4_145) (a' := ?a4_145) rfl (by kernel_rfl) (by kernel_rfl) (by kernel_rfl) (fun _ _ _ h => h) hC ?w4_145 ?y4_145 ?f4_145 ?r4_145
      case w4_145 => kernel_rfl
      case y4_145 => (intro w hC; go_simp; try with_reducible rfl)
      case f4_145 => (go_simp; try with_reducible rfl)
      refine anyC_take (i := 6) (v := ?v6_146) (a' := ?a6_146) rfl (by kernel_rfl) (by kernel_rfl) (by kernel_rfl) (fun _ _ _ h => h) hC ?w6_146 ?y6_146 ?f6_146 ?r6_146
      case w6_146 => kernel_rfl
      case y6_146 => (intro w hC; go_simp; try with_reducible rfl)
      case f6_146 => (go_simp; try with_reducible rfl)
      refine anyC_take (i := 1) (v := ?v1_147) (a' := ?a1_147) rfl (by kernel_rfl) (by kernel_rfl) (by kernel_rfl) (fun _ _ _ h => h) hC ?w1_147 ?y1_147 ?f1_147 ?r1_147
      case w1_147 => kernel_rfl
      case y1_147 => (intro w hC; have h4 := (HC3.out w hC).1; go_simp; try with_reducible rfl)
      case f1_147 => (go_simp; try with_reducible rfl)
      refine anyC_take (i := 5) (v := ?v5_148) (a' := ?a5_148) rfl (by kernel_rfl) (by kernel_rfl) (by kernel_rfl) (fun _ _ _ h => h) hC ?w5_148 ?y5_148 ?f5_148 ?r5_148
      case w5_148 => kernel_rfl
      case y5_148 => (intro w hC; have h4 := (HC3.out w hC).2.1; go_simp; try with_reducible rfl)
      case f5_148 => (go_simp; try with_reducible rfl)
      refine anyC_take (i := 7) (v := ?v7_149) (a' := ?a7_149) rfl (by kernel_rfl) (by kernel_rfl) (by kernel_rfl) (fun _ _ _ h => h) hC ?w7_149 ?y7_149 ?f7_149 ?r7_149
      case w7_149 => kernel_rfl
      case y7_149 => (intro w hC; have h4 := (HC3.out w hC).2.2; go_simp; try with_reducible rfl)
      case f7_149 => (go_simp; try with_reducible rfl)
      refine anyC_take (i := 2) (v := ?v2_150) (a' := ?a2_150) rfl (by kernel_rfl) (by kernel_rfl) (by kernel_rfl) (fun _ _ _ h => h) hC ?w2_150 ?y2_150 ?f2_150 ?r2_150
      case w2_150 => kernel_rfl
      case y2_150 => (intro w hC; have h4 := run_arrayAt (P := Tryd.prog) w 44 _ 10 (some ⟨g, 0, none⟩) 10 c0 Tryd.underlying44 (Nat.le_refl _); go_simp; try with_reducible rfl)
      case f2_150 => (go_simp; try with_reducible rfl)
      refine anyC_take (i := 3) (v := ?v3_151) (a' := ?a3_151) rfl (by kernel_rfl) (by kernel_rfl) (by kernel_rfl) (fun _ _ _ h => h) hC ?w3_151 ?y3_151 ?f3_151 ?r3_151
      case w3_151 => kernel_rfl
      case y3_151 => (intro W hW; exact by refine exec_load 44 (.tmp 25) ?_ g ?_ (i64s l) _ (HR0.out _ hW) Tryd.underlying44 rfl hln.out <;> rfl)
      case f3_151 => (go_simp; try with_reducible rfl)
      refine anyC_one (i := 8) rfl (by kernel_rfl) (by kernel_rfl) (fun K hK => ?_)
      go_simp
      have hC5 : Below (w2.heap.size + 1) (w2.alloc (.cells #[.slice (some ⟨g, 0, none⟩) 10 c0, .slice A1 n1 c1, .slice A2 n2 c2] 51)) ((w2.alloc (.cells #[.slice (some ⟨g, 0, none⟩) 10 c0, .slice A1 n1 c1, .slice A2 n2 c2] 51)).alloc (.cells #[.int .i64 0, .int .i64 0, .int .i64 0, .int .i64 0, .int .i64 0, .int .i64 0, .int .i64 0, .int .i64 0, .int .i64 0, .int .i64 0] 44)).drew := ((Below.refl _ _).alloc (by rw [hz3.out]; exact Nat.le_refl _) _).drew
      refine hK _ _ ⟨hC5, ?_⟩
      clear hK K
      refine anyC_one (i := 9) rfl (by kernel_rfl) (by kernel_rfl) (fun K hK => ?_)
      refine op_store_drew 44 (.tmp 6) (.tmp 26) rfl _ (i64s l).toArray (w2.heap.size + 1) hz3.out.symm rfl rfl hln.out (by show 10 = (i64s l).length; rw [List.length_map]; exact EN0.out) (i64s_one _) ?_
      have hC6 : Below (w2.heap.size + 1) (w2.alloc (.cells #[.slice (some ⟨g, 0, none⟩) 10 c0, .slice A1 n1 c1, .slice A2 n2 c2] 51)) ((w2.alloc (.cells #[.slice (some ⟨g, 0, none⟩) 10 c0, .slice A1 n1 c1, .slice A2 n2 c2] 51)).alloc (.cells (i64s l).toArray 44)).drew := ((Below.refl _ _).alloc (by rw [hz3.out]; exact Nat.le_refl _) _).drew
      refine hK _ _ ⟨hC6, ?_⟩
      clear hK K
      go_simp
      refine anyC_take (i := 10) (v := ?v10_152) (a' := ?a10_152) rfl (by kernel_rfl) (by kernel_rfl) (by kernel_rfl) (fun _ _ _ h => h) hC6 ?w10_152 ?y10_152 ?f10_152 ?r10_152
      case w10_152 => kernel_rfl
      case y10_152 => (intro w hC; go_simp; try with_reducible rfl)
      case f10_152 => (go_simp; try with_reducible rfl)
      refine anyC_take (i := 11) (v := ?v11_153) (a' := ?a11_153) rfl (by kernel_rfl) (by kernel_rfl) (by kernel_rfl) (fun _ _ _ h => h) hC6 ?w11_153 ?y11_153 ?f11_153 ?r11_153
      case w11_153 => kernel_rfl
      case y11_153 => (intro w hC; go_simp; try with_reducible rfl)
      case f11_153 => (go_simp; try with_reducible rfl)
      refine anyC_done (by kernel_rfl) ?_
      have hk6 : Below w2.heap.size w2 ((w2.alloc (.cells #[.slice (some ⟨g, 0, none⟩) 10 c0, .slice A1 n1 c1, .slice A2 n2 c2] 51)).alloc (.cells (i64s l).toArray 44)).drew := hk3.out.trans (hC6.mono (Nat.le_succ _))
      have hr6 : ((w2.alloc (.cells #[.slice (some ⟨g, 0, none⟩) 10 c0, .slice A1 n1 c1, .slice A2 n2 c2] 51)).alloc (.cells (i64s l).toArray 44)).drew.rangeAt (w2.heap.size + 1) 0 (i64s l) := by
        rw [World.rangeAt_drew]
        intro j v hv
        obtain ⟨ad, e, _, hc⟩ := (Rd.new (w2.alloc (.cells #[.slice (some ⟨g, 0, none⟩) 10 c0, .slice A1 n1 c1, .slice A2 n2 c2] 51)) (w2.heap.size + 2) (i64s l) 44 (0, 0) (by rw [hz3.out]; omega)) j v hv
        cases e
        rw [Addr.add_mid, hz3.out] at hc
        exact hc
      have hz6 : w2.heap.size + 2 ≤ ((w2.alloc (.cells #[.slice (some ⟨g, 0, none⟩) 10 c0, .slice A1 n1 c1, .slice A2 n2 c2] 51)).alloc (.cells (i64s l).toArray 44)).drew.heap.size := by
        show _ ≤ ((w2.alloc _).alloc _).heap.size
        rw [World.size_alloc, hz3.out]; exact Nat.le_refl _
      clear hC hC5 hC6 HR0 HC3 hb3 hk3 hz3 hth3
      generalize ((w2.alloc (.cells #[.slice (some ⟨g, 0, none⟩) 10 c0, .slice A1 n1 c1, .slice A2 n2 c2] 51)).alloc (.cells (i64s l).toArray 44)).drew = w6 at *
      have HK6 := Lib.hid hk6
      have HR6 := Lib.hid hr6
      have hb6 := Lib.hid (hbw2.out.trans (hk6.mono (by omega)))
      have hth6 : Hid (w6.there w.heap.size 0 12) := there_below (there_below hth1.out hb2.out (Nat.lt_succ_self _)) hk6 (by omega)
      have hT6 := Lib.hid ((HT.out.below hb2.out (by rw [HZ1.out]; exact Nat.le_refl _)).below hk6 (Nat.le_refl _))
      have HRT := Lib.hid (rightL_any l A1 A2 n1 n2 c1 c2 w2.heap.size m o w6 EN0.out.symm (hR1.out.below hk6) EN1.out.symm (by unfold maxLen; omega) (hR2.out.below hk6) EN2.out.symm (by unfold maxLen; omega) (by omega) hT6.out)
      have hln' := hln
      clear hk6 hr6 hgl
      go_wp2_with (first | (refine wpList_load_mid rfl 44 _ rfl (w2.heap.size + 1) 0 rfl (i64s l) _ HR6.out Tryd.underlying44 rfl hln.out ?_) | (go_at_call 28; fail))
      refine HRT.out.mono ?_
      rintro e w7 ⟨rfl, hb7'⟩
      have hb7 := Lib.hid (hb6.out.trans (hb7'.mono hb6.out.size))
      have hk7 := Lib.hid (HK6.out.trans (hb7'.mono (by omega)))
      have hth7 : Hid (w7.there w.heap.size 0 12) := there_below hth6.out hb7' (by omega)
      have hr7 : Hid (w7.rangeAt (w2.heap.size + 1) 0 (i64s l)) := fun j v hv => by rw [hb7'.cell (by show w2.heap.size + 1 < _; omega)]; exact HR6.out j v hv
      have hz7 := Nat.le_trans hz6 hb7'.size
      clear hb7' hb6 hth6 HRT HR6 HK6 hT6
      by_cases hrt : Pm.Rt l m o
      · have hyes := Pm.ask_yes hrt
        have HE := Lib.hid (Pm.get_ok HG.out EN0.out.symm hyes)
        rw [hyes]
        clear hrt hyes
        go_wp2_with fail
        refine region_C (fun W => W.rangeAt (w2.heap.size + 1) 0 (i64s l)) (by kernel_rfl) ?_
        have hC : w7.drew.rangeAt (w2.heap.size + 1) 0 (i64s l) := by rw [World.rangeAt_drew]; exact hr7.out
        refine anyC_take (i := 0) (v := ?v0_154) (a' := ?a0_154) rfl (by kernel_rfl) (by kernel_rfl) (by kernel_rfl) (fun _ _ _ h => h) hC ?w0_154 ?y0_154 ?f0_154 ?r0_154
        case w0_154 => kernel_rfl
        case y0_154 => (intro W hW; exact by refine exec_load 44 (.tmp 6) ?_ (w2.heap.size + 1) ?_ (i64s l) _ hW Tryd.underlying44 rfl hln.out <;> rfl)
        case f0_154 => (go_simp; try with_reducible rfl)
        refine anyC_take (i := 1) (v := ?v1_155) (a' := ?a1_155) rfl (by kernel_rfl) (by kernel_rfl) (by kernel_rfl) (fun _ _ _ h => h) hC ?w1_155 ?y1_155 ?f1_155 ?r1_155
        case w1_155 => kernel_rfl
        case y1_155 => (intro w hC; go_simp; try with_reducible rfl)
        case f1_155 => (go_simp; try with_reducible rfl)
        refine anyC_take (i := 3) (v := ?v3_156) (a' := ?a3_156) rfl (by kernel_rfl) (by kernel_rfl) (by kernel_rfl) (fun _ _ _ h => h) hC ?w3_156 ?y3_156 ?f3_156 ?r3_156
        case w3_156 => kernel_rfl
        case y3_156 => (intro w hC; go_simp; try with_reducible rfl)
        case f3_156 => (go_simp; try with_reducible rfl)
        refine anyC_one (i := 2) rfl (by kernel_rfl) (by kernel_rfl) (fun K hK => ?_)
        go_simp
        refine (convI_any A1 n1 c1 w2.heap.size m w7.drew (hR1.out.below hk7.out.drew) EN1.out.symm (by show _ ≤ w7.heap.size; omega) hm1).mono ?_
        rintro e w8 ⟨v8, rfl, hown8, hb8'⟩
        have hb8 : Below w7.heap.size w7 w8 := (Below.refl _ w7).drew.trans hb8'
        have hown8' : w8.ownsRow w7.heap.size 3 1 v8 m.length (i64s m) := hown8
        obtain ⟨A8, c8, rfl, hcp8, hcm8, -⟩ := own_view hown8
        have hC8 : w8.rangeAt (w2.heap.size + 1) 0 (i64s l) := fun j v hv => by rw [hb8.cell (by show w2.heap.size + 1 < _; omega)]; exact hr7.out j v hv
        refine hK _ _ ⟨hC8, ?_⟩
        clear hK K hown8 hb8' hC
        have HO8 := Lib.hid hown8'
        have HB8 := Lib.hid hb8
        have hz8 := hb8.size
        clear hown8' hb8
        refine anyC_one (i := 4) rfl (by kernel_rfl) (by kernel_rfl) (fun K hK => ?_)
        go_simp
        refine (planOf_any l m o EN0.out.symm HF.out.1 A8 m.length c8 A2 n2 c2 w8).mono ?_
        rintro e w9 ⟨rfl, hb9⟩
        have hb79 := Lib.hid (HB8.out.trans (hb9.mono hz8))
        have hC9 : w9.rangeAt (w2.heap.size + 1) 0 (i64s l) := fun j v hv => by rw [hb79.out.cell (by show w2.heap.size + 1 < _; omega)]; exact hr7.out j v hv
        have HO9 := Lib.hid (own_below HO8.out hb9 (Nat.le_refl _))
        have hz9 := Nat.le_trans hz8 hb9.size
        refine hK _ _ ⟨hC9, ?_⟩
        clear hK K hC8 hb9
        have hth9 : Hid (w9.there w.heap.size 0 12) := there_below hth7.out hb79.out (by omega)
        refine anyC_one (i := 5) rfl (by kernel_rfl) (by kernel_rfl) (fun K hK => ?_)
        refine wp_store_mid 26 (.tmp 2) (.tmp 41) rfl w.heap.size 0 (pvs (Pm.plOf l m o) A8 m.length c8 A2 n2 c2).toArray rfl rfl hth9.out info_plan (pvs_one _ _ _ _ _ _ _) ?_
        have hg9 := grown_set w.heap.size (pvs (Pm.plOf l m o) A8 m.length c8 A2 n2 c2) 0 w9
        have hrng := Lib.hid (World.rangeAt_setCells_same w9 w.heap.size 0 (pvs (Pm.plOf l m o) A8 m.length c8 A2 n2 c2) hth9.out)
        have hC10 : (w9.setCells w.heap.size 0 (pvs (Pm.plOf l m o) A8 m.length c8 A2 n2 c2)).rangeAt (w2.heap.size + 1) 0 (i64s l) := World.rangeAt_setCells_apart hC9 w.heap.size 0 _ (.inl (by omega))
        refine hK _ _ ⟨hC10, ?_⟩
        clear hK K
        go_simp
        refine anyC_take (i := 6) (v := ?v6_157) (a' := ?a6_157) rfl (by kernel_rfl) (by kernel_rfl) (by kernel_rfl) (fun _ _ _ h => h) hC10 ?w6_157 ?y6_157 ?f6_157 ?r6_157
        case w6_157 => kernel_rfl
        case y6_157 => (intro w hC; go_simp; try with_reducible rfl)
        case f6_157 => (go_simp; try with_reducible rfl)
        refine anyC_done (by kernel_rfl) ?_
        have hbe := Lib.hid (below_grown (hb7.out.trans (hb79.out.mono (by omega))) hg9 (Nat.le_refl _) (by omega))
        have own8 := own_grown HO9.out hg9 (by omega)
        have own2 := own_grown (own_below (own_below HO2.out hk7.out (Nat.le_refl _)) hb79.out (Nat.le_refl _)) hg9 (Nat.lt_succ_self _)
        obtain ⟨_, _, e8, -, -, rd8⟩ := own_view own8
        injection e8 with e8
        subst e8
        obtain ⟨_, _, e2, -, -, rd2⟩ := own_view own2
        injection e2 with e2
        subst e2
        have hPA : Hid (PlAt (w9.setCells w.heap.size 0 (pvs (Pm.plOf l m o) A8 m.length c8 A2 n2 c2)) (w9.setCells w.heap.size 0 (pvs (Pm.plOf l m o) A8 m.length c8 A2 n2 c2)).heap.size (Pm.plOf l m o) A8 m.length c8 A2 n2 c2) :=
          ⟨Pm.ok_plOf HF.out.1 HF.out.2.1 HF.out.2.2, rd8, rfl, hcp8, hcm8, rd2, EN2.out.symm, hcp2, hcm2⟩
        generalize w9.setCells w.heap.size 0 (pvs (Pm.plOf l m o) A8 m.length c8 A2 n2 c2) = wz at *
        clear own8 own2 rd8 rd2 hg9 hC10 hC9
        go_wp2
        refine bodyPost_ret (results_ct rfl _ _ w.heap.size (pvs (Pm.plOf l m o) A8 m.length c8 A2 n2 c2) _ rfl hrng.out Tryd.underlying26 rfl info_plan) rfl ?_
        exact ⟨A8, m.length, c8, A2, n2, c2, by rw [HE.out]; rfl, by rw [HE.out]; exact hPA.out, hbe.out⟩
      · have hno := Pm.ask_no hrt
        have HE := Lib.hid (Pm.get_no HG.out (fun h => by have := h.2; rw [hno] at this; cases this))
        rw [hno]
        clear hrt hno
        have hrng := Lib.hid (World.rangeAt_setCells_same w7 w.heap.size 0 (pvs Pm.zero none 0 0 none 0 0) hth7.out)
        have hbe := Lib.hid (below_grown hb7.out (grown_set w.heap.size (pvs Pm.zero none 0 0 none 0 0) 0 _) (Nat.le_refl _) (by omega))
        go_wp2_with (refine wpList_store_mid rfl 26 _ _ rfl w.heap.size 0 (pvs Pm.zero none 0 0 none 0 0).toArray rfl rfl hth7.out info_plan (pvs_one _ _ _ _ _ _ _) ?_)
        refine bodyPost_ret (results_ct rfl _ _ w.heap.size (pvs Pm.zero none 0 0 none 0 0) _ rfl hrng.out Tryd.underlying26 rfl info_plan) rfl ?_
        exact ⟨none, 0, 0, none, 0, 0, by rw [HE.out]; rfl, by rw [HE.out]; exact plAt_zero _ _, hbe.out⟩
    · have hq : ((n0 : Int) != 10) = true := by rw [bne_iff_ne]; omega
      have HE := Lib.hid (Pm.get_no HG.out (fun h => h10 (by have := EN0.out; have := h.1; omega)))
      have hrng := Lib.hid (World.rangeAt_setCells_same (w2.alloc (.cells #[.slice A0 n0 c0, .slice A1 n1 c1, .slice A2 n2 c2] 51)) w.heap.size 0 (pvs Pm.zero none 0 0 none 0 0) hth3.out)
      have hbe := Lib.hid (below_grown (hbw2.out.alloc (by omega) (.cells #[.slice A0 n0 c0, .slice A1 n1 c1, .slice A2 n2 c2] 51)) (grown_set w.heap.size (pvs Pm.zero none 0 0 none 0 0) 0 _) (Nat.le_refl _) (by rw [World.size_alloc]; omega))
      go_wp2_with (refine wpList_store_mid rfl 26 _ _ rfl w.heap.size 0 (pvs Pm.zero none 0 0 none 0 0).toArray rfl rfl hth3.out info_plan (pvs_one _ _ _ _ _ _ _) ?_)
      refine bodyPost_ret (results_ct rfl _ _ w.heap.size (pvs Pm.zero none 0 0 none 0 0) _ rfl hrng.out Tryd.underlying26 rfl info_plan) rfl ?_
      exact ⟨none, 0, 0, none, 0, 0, by rw [HE.out]; rfl, by rw [HE.out]; exact plAt_zero _ _, hbe.out⟩
end Go.Proofs.YtdcdlnmgbgeeeaaDoor
