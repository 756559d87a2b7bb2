/- TallyPuts, walked. -/
import Derived.Test.YtpchkhphpcopkaaLAll
import Derived.Test.YtpchkhphpcopkaaTk
namespace Go.Proofs.Ytpchkhphpcopkaa
open Go.RowKit Go.Shelf Km Kx

/-- the cells of an element of a row of the call's own -/
theorem Kx.Bxs.rowAt {w0 w : World} {l : List (Nat × List Value)} {r : List Rw} {g : Nat} {x : Rw} (h : Bxs w0 w l r) (hm : InR (some ⟨g, 0, none⟩) x r) {ls : List Tm.Vt} (hx : x.xs = vvs ls) {k : Nat} {v : Tm.Vt} (hk : ls[k]? = some v) (j : Nat) {u : Value} (hu : (vv v)[j]? = some u) : w.cell? ⟨g, k * 3 + j, none⟩ = some u := by
  obtain ⟨ad, e, hc⟩ := h.rowCells (hm := hm) hx hk
  cases e
  have := hc j u hu
  rw [addr_add_add, Addr.add_mid, Nat.zero_add] at this
  exact this
theorem puts_take {l : List Tm.Vt} {k : Nat} {x : Tm.Vt} (hx : l[k]? = some x) : Tm.put (Tm.puts (l.take k)) x = Tm.puts (l.take (k + 1)) := by
  have e : l.take (k + 1) = l.take k ++ [x] := by rw [List.take_add_one, hx]; rfl
  rw [e, Tm.puts_snoc]
theorem last_take {l : List Tm.Vt} {k : Nat} {x : Tm.Vt} (hx : l[k]? = some x) (o : Int) : Tm.last o (l.take (k + 1)) = if x.o = o then x else Tm.last o (l.take k) := by
  have e : l.take (k + 1) = l.take k ++ [x] := by rw [List.take_add_one, hx]; rfl
  rw [e, Tm.last_snoc]
theorem built_zero : Try.prog.built 25 [] = some (vv ⟨0, 0, 0⟩).toArray := by kernel_rfl

set_option maxRecDepth 100000 in
set_option maxHeartbeats 8000000 in
theorem puts_walk (a0 : Option Addr) (len0 cap0 : Nat) (l : List Tm.Vt) (w : World) (w0 : VtsAt w a0 len0 cap0 l) :
    Calls Try.prog 6 #[.slice a0 len0 cap0] w fun e w' => e = .returned (.bool true) ∧ Below w.heap.size w w' := by
  have HB := Lib.hid (Bxs.start w)
  obtain ⟨hn, -, -, hwl, hr⟩ := w0
  have HN := Lib.hid hn
  have HR := Lib.hid hr
  clear hn hr hwl
  by_cases hg : 200 < len0
  · have d1 : decide ((200 : Int) < (len0 : Int)) = true := by simp; omega
    go_enter Try.func6, Try.ntmps6
    go_wp2_with (first | (go_at_call 9; refine Calls.mono (head_any _) ?_; rintro e w_ ⟨rfl, hb_⟩; replace HB := Lib.hid (HB.out.call hb_); clear hb_))
    go_ret
    exact ⟨rfl, HB.out.below⟩
  have d1 : decide ((200 : Int) < (len0 : Int)) = false := by simp; omega
  have hi : (Try.prog.info? 25).map (·.size) = some 3 := by kernel_rfl
  go_enter Try.func6, Try.ntmps6
  go_wp2_with (first | (go_at_call 9; refine Calls.mono (head_any _) ?_; rintro e w_ ⟨rfl, hb_⟩; replace HB := Lib.hid (HB.out.call hb_); clear hb_))
  go_loopg [4, 5] len0 (fun gh ox ix wr => ∃ (k m c : Nat) (A : Option Addr), gh + k = len0 ∧ ox = .slice A m c ∧ ix = .int .i64 (k : Int) ∧ Hid ((Tm.puts (l.take k)).length = m) ∧ Hid (Bxs w wr [] [⟨A, c, 25, 3, m, vvs (Tm.puts (l.take k))⟩]))
  case atStart => exact ⟨0, 0, 0, none, by omega, rfl, rfl, Lib.hid rfl, Lib.hid (HB.out.nilrow _ _)⟩
  case round =>
    clear HB
    obtain ⟨k, m, c, A, hk, rfl, rfl, HM, HB⟩ := hrel
    by_cases hlt : k < len0
    · obtain ⟨x, hx⟩ : ∃ x, l[k]? = some x := ⟨l[k]'(by rw [HN.out]; exact hlt), List.getElem?_eq_getElem _⟩
      obtain ⟨ad, rfl, -, hcc⟩ := HR.out.vts hx
      have HC := Lib.hid hcc
      have HE := Lib.hid (puts_take hx)
      have hmb : m ≤ 300 := by
        have h1 := (Tm.puts_len (l.take k)).1
        have h2 := HM.out
        rw [List.length_take] at h1
        omega
      obtain ⟨m2, hm2⟩ : ∃ m2, (Tm.puts (l.take (k + 1))).length = m2 := ⟨_, rfl⟩
      have HM2 := Lib.hid hm2
      have d3 : (k : Int) < (len0 : Int) := by omega
      clear hcc hx hm2
      go_wp2_with (first | (go_at_call 11; refine Calls.mono (Put_as (Tm.puts (l.take (k + 1))) m2 A m c _ (Tm.puts (l.take k)) x _ (HB.out.rowRd (A := A)) (Nat.le_refl _) HM.out (by omega) HE.out HM2.out) ?_; rintro e w_ ⟨A', c', rfl, hb_, ho_⟩; replace HB := Lib.hid (HB.out.rowTail.callRow hb_ ho_); clear hb_ ho_) | ((with_reducible refine wpList_gate ?_); (refine wpList_load_any rfl 25 _ rfl _ rfl (vv x) _ (fun j v hv => HB.out.old (HC.out j v hv)) Try.underlying25 rfl hi ?_)))
      go_roundg (gk - 1)
      case measure => omega
      case rel => exact ⟨k + 1, m2, _, _, by omega, rfl, by go_num, HM2, HB⟩
    · obtain rfl : k = len0 := by omega
      have d0 : decide ((k : Int) < (k : Int)) = false := by simp
      have e : l.take k = l := List.take_of_length_le (by rw [HN.out]; exact Nat.le_refl _)
      rw [e] at HB HM
      have HPL := Lib.hid (Tm.puts_last l)
      have HZ : Hid (((k : Int) == 0) = ((m : Int) == 0)) := Lib.hid (by
        have h1 := Tm.puts_len l
        have h2 := HM.out
        have h3 := HN.out
        rw [h2, h3] at h1
        rcases Nat.eq_zero_or_pos k with h | h
        · subst h; have : m = 0 := by omega
          subst this; rfl
        · have := h1.2 h
          rw [show ((k : Int) == 0) = false by simp; omega, show ((m : Int) == 0) = false by simp; omega])
      have hm300 : m ≤ 200 := by
        have h1 := (Tm.puts_len l).1
        have h2 := HM.out
        have h3 := HN.out
        omega
      obtain ⟨P, hP⟩ : ∃ P, Tm.puts l = P := ⟨_, rfl⟩
      rw [hP] at HB HM HPL
      clear e hP hlt hk
      go_wp2_with fail
      go_loopg [6] m (fun gh ix wr => ∃ i : Nat, gh + i = m ∧ ix = .int .i64 (i : Int) ∧ Hid (Bxs w wr [] [⟨A, c, 25, 3, m, vvs P⟩]))
      case atStart => exact ⟨0, by omega, rfl, HB⟩
      case round =>
        clear HB
        obtain ⟨i, hi2, rfl, HB⟩ := hrel
        obtain ⟨g0, rfl⟩ : ∃ q, q = gk := ⟨_, rfl⟩
        obtain ⟨w0, rfl⟩ : ∃ q, q = wr := ⟨_, rfl⟩
        by_cases hil : i < m
        · obtain ⟨y, hy⟩ : ∃ y, P[i]? = some y := ⟨P[i]'(by rw [HM.out]; exact hil), List.getElem?_eq_getElem _⟩
          obtain ⟨g, rfl⟩ := addr_row (HB.out.rows _ (List.mem_cons_self ..)).1 (by dsimp only; omega)
          have HY := Lib.hid hy
          have d4 : (i : Int) < (m : Int) := by omega
          clear hy
          go_wp2_with (first | ((with_reducible refine Kx.build_gate ?_); refine Km.wpList_build rfl 25 _ rfl #[] rfl (vv ⟨0, 0, 0⟩).toArray (built_zero) ?_; refine Kx.framed ?_ (by simp only [Act.put, List.setIfInBounds_toArray, List.set_cons_succ, List.set_cons_zero] <;> rfl)) | (first | ((with_reducible refine Kx.absorb HB ?_); clear HB; intro w_ HB) | ((with_reducible refine Kx.box_gate (d := some 7) ?_); first | (refine Kx.wpList_boxa_x HB rfl _ _ rfl _ rfl ?_; clear HB; intro b7 w_ HB; refine Kx.framed ?_ (by simp only [Act.put, List.setIfInBounds_toArray, List.set_cons_succ, List.set_cons_zero] <;> rfl)) | (refine Kx.wpList_boxt_x HB rfl _ _ rfl _ rfl rfl ?_; clear HB; intro b7 w_ HB; refine Kx.framed ?_ (by simp only [Act.put, List.setIfInBounds_toArray, List.set_cons_succ, List.set_cons_zero] <;> rfl)) | (refine Kx.wpList_box1_x HB rfl _ _ rfl _ rfl rfl ?_; clear HB; intro b7 w_ HB; refine Kx.framed ?_ (by simp only [Act.put, List.setIfInBounds_toArray, List.set_cons_succ, List.set_cons_zero] <;> rfl))) | ((with_reducible refine Kx.alloc_gate (d := some 7) ?_); first | (refine Kx.wpList_alloca_x HB rfl _ rfl _ (Try.zeroValue25 _) ?_; clear HB; intro b7 w_ HB; refine Kx.framed ?_ (by simp only [Act.put, List.setIfInBounds_toArray, List.set_cons_succ, List.set_cons_zero] <;> rfl)) | (refine Kx.wpList_alloc1_x HB rfl _ rfl _ (Try.zeroValue3 _) rfl ?_; clear HB; intro b7 w_ HB; refine Kx.framed ?_ (by simp only [Act.put, List.setIfInBounds_toArray, List.set_cons_succ, List.set_cons_zero] <;> rfl)) | (refine Kx.wpList_alloc1_x HB rfl _ rfl _ (Try.zeroValue23 _) rfl ?_; clear HB; intro b7 w_ HB; refine Kx.framed ?_ (by simp only [Act.put, List.setIfInBounds_toArray, List.set_cons_succ, List.set_cons_zero] <;> rfl)) | (refine Kx.wpList_alloc1_x HB rfl _ rfl _ (Try.zeroValue2 _) rfl ?_; clear HB; intro b7 w_ HB; refine Kx.framed ?_ (by simp only [Act.put, List.setIfInBounds_toArray, List.set_cons_succ, List.set_cons_zero] <;> rfl))) | ((with_reducible refine Kx.box_gate ?_); first | (refine Kx.wpList_boxa_x HB rfl _ _ rfl _ rfl ?_; clear HB; intro b_ w_ HB; refine Kx.framed ?_ (by simp only [Act.put, List.setIfInBounds_toArray, List.set_cons_succ, List.set_cons_zero] <;> rfl)) | (refine Kx.wpList_boxt_x HB rfl _ _ rfl _ rfl rfl ?_; clear HB; intro b_ w_ HB; refine Kx.framed ?_ (by simp only [Act.put, List.setIfInBounds_toArray, List.set_cons_succ, List.set_cons_zero] <;> rfl)) | (refine Kx.wpList_box1_x HB rfl _ _ rfl _ rfl rfl ?_; clear HB; intro b_ w_ HB; refine Kx.framed ?_ (by simp only [Act.put, List.setIfInBounds_toArray, List.set_cons_succ, List.set_cons_zero] <;> rfl))) | ((with_reducible refine Kx.alloc_gate ?_); first | (refine Kx.wpList_alloca_x HB rfl _ rfl _ (Try.zeroValue25 _) ?_; clear HB; intro b_ w_ HB; refine Kx.framed ?_ (by simp only [Act.put, List.setIfInBounds_toArray, List.set_cons_succ, List.set_cons_zero] <;> rfl)) | (refine Kx.wpList_alloc1_x HB rfl _ rfl _ (Try.zeroValue3 _) rfl ?_; clear HB; intro b_ w_ HB; refine Kx.framed ?_ (by simp only [Act.put, List.setIfInBounds_toArray, List.set_cons_succ, List.set_cons_zero] <;> rfl)) | (refine Kx.wpList_alloc1_x HB rfl _ rfl _ (Try.zeroValue23 _) rfl ?_; clear HB; intro b_ w_ HB; refine Kx.framed ?_ (by simp only [Act.put, List.setIfInBounds_toArray, List.set_cons_succ, List.set_cons_zero] <;> rfl)) | (refine Kx.wpList_alloc1_x HB rfl _ rfl _ (Try.zeroValue2 _) rfl ?_; clear HB; intro b_ w_ HB; refine Kx.framed ?_ (by simp only [Act.put, List.setIfInBounds_toArray, List.set_cons_succ, List.set_cons_zero] <;> rfl))) | ((with_reducible refine Kx.loads_gate ?_); first | (refine Kx.wpList_load1_x HB rfl _ _ rfl _ rfl _ (Try.isAgg3 _) _ rfl (Kx.framed ?_ (by simp only [Act.put, List.setIfInBounds_toArray, List.set_cons_succ, List.set_cons_zero] <;> rfl))) | (refine Kx.wpList_load1_x HB rfl _ _ rfl _ rfl _ (Try.isAgg23 _) _ rfl (Kx.framed ?_ (by simp only [Act.put, List.setIfInBounds_toArray, List.set_cons_succ, List.set_cons_zero] <;> rfl))) | (refine Kx.wpList_load1_x HB rfl _ _ rfl _ rfl _ (Try.isAgg2 _) _ rfl (Kx.framed ?_ (by simp only [Act.put, List.setIfInBounds_toArray, List.set_cons_succ, List.set_cons_zero] <;> rfl))) | (refine Kx.wpList_load_x HB rfl _ _ rfl _ rfl _ _ (Try.isAgg25 _) (Try.sizeOf25 _) _ (by first | exact Kx.whole (by rfl) | (simp <;> rfl)) (by rfl) (Kx.framed ?_ (by simp only [Act.put, List.setIfInBounds_toArray, List.set_cons_succ, List.set_cons_zero] <;> rfl))) | (refine Kx.wpList_old_x HB rfl _ _ rfl _ rfl (Try.isAgg3 _) _ HC.out (Kx.framed ?_ (by simp only [Act.put, List.setIfInBounds_toArray, List.set_cons_succ, List.set_cons_zero] <;> rfl))) | (refine Kx.wpList_old_x HB rfl _ _ rfl _ rfl (Try.isAgg23 _) _ HC.out (Kx.framed ?_ (by simp only [Act.put, List.setIfInBounds_toArray, List.set_cons_succ, List.set_cons_zero] <;> rfl))) | (refine Kx.wpList_old_x HB rfl _ _ rfl _ rfl (Try.isAgg2 _) _ HC.out (Kx.framed ?_ (by simp only [Act.put, List.setIfInBounds_toArray, List.set_cons_succ, List.set_cons_zero] <;> rfl)))) | ((with_reducible refine Kx.loadg_gate ?_); first | (refine Kx.wpList_loadg_x HB _ _ rfl _ rfl _ (Try.isAgg3 _) _ rfl rfl (Kx.framed ?_ (by simp only [Act.put, List.setIfInBounds_toArray, List.set_cons_succ, List.set_cons_zero] <;> rfl))) | (refine Kx.wpList_loadg_x HB _ _ rfl _ rfl _ (Try.isAgg23 _) _ rfl rfl (Kx.framed ?_ (by simp only [Act.put, List.setIfInBounds_toArray, List.set_cons_succ, List.set_cons_zero] <;> rfl))) | (refine Kx.wpList_loadg_x HB _ _ rfl _ rfl _ (Try.isAgg2 _) _ rfl rfl (Kx.framed ?_ (by simp only [Act.put, List.setIfInBounds_toArray, List.set_cons_succ, List.set_cons_zero] <;> rfl))) | (refine Kx.wpList_loadga_x HB _ _ rfl _ rfl _ _ (Try.isAgg25 _) (Try.sizeOf25 _) _ (by first | exact Kx.whole (by rfl) | (simp <;> rfl)) (by rfl) rfl (Kx.framed ?_ (by simp only [Act.put, List.setIfInBounds_toArray, List.set_cons_succ, List.set_cons_zero] <;> rfl))) | (refine Kx.wpList_oldg_x HB _ _ rfl _ rfl (Try.isAgg3 _) _ HC.out rfl (Kx.framed ?_ (by simp only [Act.put, List.setIfInBounds_toArray, List.set_cons_succ, List.set_cons_zero] <;> rfl))) | (refine Kx.wpList_oldg_x HB _ _ rfl _ rfl (Try.isAgg23 _) _ HC.out rfl (Kx.framed ?_ (by simp only [Act.put, List.setIfInBounds_toArray, List.set_cons_succ, List.set_cons_zero] <;> rfl))) | (refine Kx.wpList_oldg_x HB _ _ rfl _ rfl (Try.isAgg2 _) _ HC.out rfl (Kx.framed ?_ (by simp only [Act.put, List.setIfInBounds_toArray, List.set_cons_succ, List.set_cons_zero] <;> rfl)))) | ((with_reducible refine Kx.store_gate ?_); first | (refine Kx.wpList_storewa_x HB rfl rfl _ _ _ rfl _ rfl _ rfl _ (by rfl) (by simp <;> rfl) (by rfl) ?_; clear HB; intro w_ HB) | (refine Kx.wpList_storea_x HB rfl rfl _ _ _ rfl _ rfl _ rfl _ _ (by simp [Kx.splice] <;> rfl) (by simp) (by simp <;> rfl) (by rfl) ?_; clear HB; intro w_ HB) | (refine Kx.wpList_storec_x HB rfl rfl _ _ _ rfl _ rfl rfl _ _ (by simp <;> rfl) (by simp) (by simp <;> rfl) ?_; clear HB; intro w_ HB) | (refine Kx.wpList_storet_x HB rfl rfl _ _ _ rfl _ rfl _ rfl rfl _ _ (by simp <;> rfl) (by simp) (by simp <;> rfl) ?_; clear HB; intro w_ HB) | (refine Kx.wpList_store1_x HB rfl rfl _ _ _ rfl _ rfl _ rfl rfl _ _ (by simp <;> rfl) (by simp) (by simp <;> rfl) ?_; clear HB; intro w_ HB))))
          go_loopg [8] k (fun gh kx wr => ∃ q : Nat, gh + q = k ∧ kx = .int .i64 (q : Int) ∧ Hid (Bxs w wr [(b7, vv (Tm.last y.o (l.take q)))] [⟨some ⟨g, 0, none⟩, c, 25, 3, m, vvs P⟩]))
          case atStart => exact ⟨0, by omega, rfl, HB⟩
          case round =>
            clear HB
            obtain ⟨q, hq, rfl, HB⟩ := hrel
            obtain ⟨g1, rfl⟩ : ∃ q, q = gk := ⟨_, rfl⟩
            obtain ⟨w1, rfl⟩ : ∃ q, q = wr := ⟨_, rfl⟩
            by_cases hql : q < k
            · obtain ⟨x, hx⟩ : ∃ x, l[q]? = some x := ⟨l[q]'(by rw [HN.out]; exact hql), List.getElem?_eq_getElem _⟩
              obtain ⟨ad, rfl, -, hcc⟩ := HR.out.vts hx
              obtain ⟨ad', e', -, hc0, -, -⟩ := HR.out.who hx
              cases e'
              have HV := Lib.hid hcc
              have H0 := Lib.hid hc0
              have HS := Lib.hid (last_take hx y.o)
              have d6 : (q : Int) < (k : Int) := by omega
              clear hcc hc0 hx
              by_cases ho : x.o = y.o
              · have d7 : (x.o == y.o) = true := by simp [ho]
                have HE : Hid (Tm.last y.o (l.take (q + 1)) = x) := Lib.hid (by rw [HS.out, if_pos ho])
                clear ho HS
                go_wp2_with fail
                refine Kx.region_x HB (fun i => false) (by kernel_rfl) ?_
                refine anyW_take (i := 0) (v := ?v0_1) (a' := ?a0_1) (by first | exact Kx.bears_x | assumption) rfl (by kernel_rfl) (by kernel_rfl) (by kernel_rfl) (fun _ _ _ h => h) (by kernel_rfl) ?w0_1 ?y0_1 ?f0_1 ?r0_1
                case w0_1 => kernel_rfl
                case y0_1 => (intro w hC; go_simp; try with_reducible rfl)
                case f0_1 => (go_simp; try with_reducible rfl)
                refine anyW_take (i := 1) (v := ?v1_2) (a' := ?a1_2) (by first | exact Kx.bears_x | assumption) rfl (by kernel_rfl) (by kernel_rfl) (by kernel_rfl) (fun _ _ _ h => h) (by kernel_rfl) ?w1_2 ?y1_2 ?f1_2 ?r1_2
                case w1_2 => kernel_rfl
                case y1_2 => (intro w hC; go_simp; try with_reducible rfl)
                case f1_2 => (go_simp; try with_reducible rfl)
                refine anyW_take (i := 2) (v := ?v2_3) (a' := ?a2_3) (by first | exact Kx.bears_x | assumption) rfl (by kernel_rfl) (by kernel_rfl) (by kernel_rfl) (fun _ _ _ h => h) (by kernel_rfl) ?w2_3 ?y2_3 ?f2_3 ?r2_3
                case w2_3 => kernel_rfl
                case y2_3 => (intro w hC; go_simp; try with_reducible rfl)
                case f2_3 => (go_simp; try with_reducible rfl)
                refine anyW_take (i := 3) (v := ?v3_4) (a' := ?a3_4) (by first | exact Kx.bears_x | assumption) rfl (by kernel_rfl) (by kernel_rfl) (by kernel_rfl) (fun _ _ _ h => h) (by kernel_rfl) ?w3_4 ?y3_4 ?f3_4 ?r3_4
                case w3_4 => kernel_rfl
                case y3_4 => (intro w hC; go_simp; try with_reducible rfl)
                case f3_4 => (go_simp; try with_reducible rfl)
                refine anyW_take (i := 4) (v := ?v4_5) (a' := ?a4_5) (by first | exact Kx.bears_x | assumption) rfl (by kernel_rfl) (by kernel_rfl) (by kernel_rfl) (fun _ _ _ h => h) (by kernel_rfl) ?w4_5 ?y4_5 ?f4_5 ?r4_5
                case w4_5 => kernel_rfl
                case y4_5 => (intro W hW; first | (refine Eq.trans (tells_cell _ rfl (Try.isAgg3 _) (hW.old H0.out)) ?_; with_reducible rfl))
                case f4_5 => (go_simp; try with_reducible rfl)
                refine anyW_take (i := 5) (v := ?v5_6) (a' := ?a5_6) (by first | exact Kx.bears_x | assumption) rfl (by kernel_rfl) (by kernel_rfl) (by kernel_rfl) (fun _ _ _ h => h) (by kernel_rfl) ?w5_6 ?y5_6 ?f5_6 ?r5_6
                case w5_6 => kernel_rfl
                case y5_6 => (intro w hC; go_simp; try with_reducible rfl)
                case f5_6 => (go_simp; try with_reducible rfl)
                refine anyW_take (i := 6) (v := ?v6_7) (a' := ?a6_7) (by first | exact Kx.bears_x | assumption) rfl (by kernel_rfl) (by kernel_rfl) (by kernel_rfl) (fun _ _ _ h => h) (by kernel_rfl) ?w6_7 ?y6_7 ?f6_7 ?r6_7
                case w6_7 => kernel_rfl
                case y6_7 => (intro w hC; go_simp; try with_reducible rfl)
                case f6_7 => (go_simp; try with_reducible rfl)
                refine anyW_take (i := 7) (v := ?v7_8) (a' := ?a7_8) (by first | exact Kx.bears_x | assumption) rfl (by kernel_rfl) (by kernel_rfl) (by kernel_rfl) (fun _ _ _ h => h) (by kernel_rfl) ?w7_8 ?y7_8 ?f7_8 ?r7_8
                case w7_8 => kernel_rfl
                case y7_8 => (intro w hC; go_simp; try with_reducible rfl)
                case f7_8 => (go_simp; try with_reducible rfl)
                refine anyW_take (i := 8) (v := ?v8_9) (a' := ?a8_9) (by first | exact Kx.bears_x | assumption) rfl (by kernel_rfl) (by kernel_rfl) (by kernel_rfl) (fun _ _ _ h => h) (by kernel_rfl) ?w8_9 ?y8_9 ?f8_9 ?r8_9
                case w8_9 => kernel_rfl
                case y8_9 => (intro w hC; go_simp; try with_reducible rfl)
                case f8_9 => (go_simp; try with_reducible rfl)
                refine anyW_take (i := 9) (v := ?v9_10) (a' := ?a9_10) (by first | exact Kx.bears_x | assumption) rfl (by kernel_rfl) (by kernel_rfl) (by kernel_rfl) (fun _ _ _ h => h) (by kernel_rfl) ?w9_10 ?y9_10 ?f9_10 ?r9_10
                case w9_10 => kernel_rfl
                case y9_10 => (intro W hW; first | (refine Eq.trans (tells_cell (v := .int .i64 y.o) ⟨g, i * 3, none⟩ rfl (Try.isAgg3 _) (hW.rowWho inferInstance rfl HY.out)) ?_; with_reducible rfl))
                case f9_10 => (go_simp; try with_reducible rfl)
                refine anyW_take (i := 10) (v := ?v10_11) (a' := ?a10_11) (by first | exact Kx.bears_x | assumption) rfl (by kernel_rfl) (by kernel_rfl) (by kernel_rfl) (fun _ _ _ h => h) (by kernel_rfl) ?w10_11 ?y10_11 ?f10_11 ?r10_11
                case w10_11 => kernel_rfl
                case y10_11 => (intro w hC; go_simp; try with_reducible rfl)
                case f10_11 => (go_simp; try with_reducible rfl)
                refine anyW_done (by kernel_rfl) ?_
                clear HB
                intro w_ HB_
                have HB := Lib.hid HB_
                clear HB_
                go_wp2_with (first | ((with_reducible refine wpList_gate ?_); (refine wpList_load_any rfl 25 _ rfl _ rfl (vv x) _ (fun j v hv => HB.out.old (HV.out j v hv)) Try.underlying25 rfl hi ?_)) | (first | ((with_reducible refine Kx.absorb HB ?_); clear HB; intro w_ HB) | ((with_reducible refine Kx.box_gate ?_); first | (refine Kx.wpList_boxa_x HB rfl _ _ rfl _ rfl ?_; clear HB; intro b_ w_ HB; refine Kx.framed ?_ (by simp only [Act.put, List.setIfInBounds_toArray, List.set_cons_succ, List.set_cons_zero] <;> rfl)) | (refine Kx.wpList_boxt_x HB rfl _ _ rfl _ rfl rfl ?_; clear HB; intro b_ w_ HB; refine Kx.framed ?_ (by simp only [Act.put, List.setIfInBounds_toArray, List.set_cons_succ, List.set_cons_zero] <;> rfl)) | (refine Kx.wpList_box1_x HB rfl _ _ rfl _ rfl rfl ?_; clear HB; intro b_ w_ HB; refine Kx.framed ?_ (by simp only [Act.put, List.setIfInBounds_toArray, List.set_cons_succ, List.set_cons_zero] <;> rfl))) | ((with_reducible refine Kx.alloc_gate ?_); first | (refine Kx.wpList_alloca_x HB rfl _ rfl _ (Try.zeroValue25 _) ?_; clear HB; intro b_ w_ HB; refine Kx.framed ?_ (by simp only [Act.put, List.setIfInBounds_toArray, List.set_cons_succ, List.set_cons_zero] <;> rfl)) | (refine Kx.wpList_alloc1_x HB rfl _ rfl _ (Try.zeroValue3 _) rfl ?_; clear HB; intro b_ w_ HB; refine Kx.framed ?_ (by simp only [Act.put, List.setIfInBounds_toArray, List.set_cons_succ, List.set_cons_zero] <;> rfl)) | (refine Kx.wpList_alloc1_x HB rfl _ rfl _ (Try.zeroValue23 _) rfl ?_; clear HB; intro b_ w_ HB; refine Kx.framed ?_ (by simp only [Act.put, List.setIfInBounds_toArray, List.set_cons_succ, List.set_cons_zero] <;> rfl)) | (refine Kx.wpList_alloc1_x HB rfl _ rfl _ (Try.zeroValue2 _) rfl ?_; clear HB; intro b_ w_ HB; refine Kx.framed ?_ (by simp only [Act.put, List.setIfInBounds_toArray, List.set_cons_succ, List.set_cons_zero] <;> rfl))) | ((with_reducible refine Kx.loads_gate ?_); first | (refine Kx.wpList_load1_x HB rfl _ _ rfl _ rfl _ (Try.isAgg3 _) _ rfl (Kx.framed ?_ (by simp only [Act.put, List.setIfInBounds_toArray, List.set_cons_succ, List.set_cons_zero] <;> rfl))) | (refine Kx.wpList_load1_x HB rfl _ _ rfl _ rfl _ (Try.isAgg23 _) _ rfl (Kx.framed ?_ (by simp only [Act.put, List.setIfInBounds_toArray, List.set_cons_succ, List.set_cons_zero] <;> rfl))) | (refine Kx.wpList_load1_x HB rfl _ _ rfl _ rfl _ (Try.isAgg2 _) _ rfl (Kx.framed ?_ (by simp only [Act.put, List.setIfInBounds_toArray, List.set_cons_succ, List.set_cons_zero] <;> rfl))) | (refine Kx.wpList_load_x HB rfl _ _ rfl _ rfl _ _ (Try.isAgg25 _) (Try.sizeOf25 _) _ (by first | exact Kx.whole (by rfl) | (simp <;> rfl)) (by rfl) (Kx.framed ?_ (by simp only [Act.put, List.setIfInBounds_toArray, List.set_cons_succ, List.set_cons_zero] <;> rfl))) | (refine Kx.wpList_old_x HB rfl _ _ rfl _ rfl (Try.isAgg3 _) _ HC.out (Kx.framed ?_ (by simp only [Act.put, List.setIfInBounds_toArray, List.set_cons_succ, List.set_cons_zero] <;> rfl))) | (refine Kx.wpList_old_x HB rfl _ _ rfl _ rfl (Try.isAgg23 _) _ HC.out (Kx.framed ?_ (by simp only [Act.put, List.setIfInBounds_toArray, List.set_cons_succ, List.set_cons_zero] <;> rfl))) | (refine Kx.wpList_old_x HB rfl _ _ rfl _ rfl (Try.isAgg2 _) _ HC.out (Kx.framed ?_ (by simp only [Act.put, List.setIfInBounds_toArray, List.set_cons_succ, List.set_cons_zero] <;> rfl)))) | ((with_reducible refine Kx.loadg_gate ?_); first | (refine Kx.wpList_loadg_x HB _ _ rfl _ rfl _ (Try.isAgg3 _) _ rfl rfl (Kx.framed ?_ (by simp only [Act.put, List.setIfInBounds_toArray, List.set_cons_succ, List.set_cons_zero] <;> rfl))) | (refine Kx.wpList_loadg_x HB _ _ rfl _ rfl _ (Try.isAgg23 _) _ rfl rfl (Kx.framed ?_ (by simp only [Act.put, List.setIfInBounds_toArray, List.set_cons_succ, List.set_cons_zero] <;> rfl))) | (refine Kx.wpList_loadg_x HB _ _ rfl _ rfl _ (Try.isAgg2 _) _ rfl rfl (Kx.framed ?_ (by simp only [Act.put, List.setIfInBounds_toArray, List.set_cons_succ, List.set_cons_zero] <;> rfl))) | (refine Kx.wpList_loadga_x HB _ _ rfl _ rfl _ _ (Try.isAgg25 _) (Try.sizeOf25 _) _ (by first | exact Kx.whole (by rfl) | (simp <;> rfl)) (by rfl) rfl (Kx.framed ?_ (by simp only [Act.put, List.setIfInBounds_toArray, List.set_cons_succ, List.set_cons_zero] <;> rfl))) | (refine Kx.wpList_oldg_x HB _ _ rfl _ rfl (Try.isAgg3 _) _ HC.out rfl (Kx.framed ?_ (by simp only [Act.put, List.setIfInBounds_toArray, List.set_cons_succ, List.set_cons_zero] <;> rfl))) | (refine Kx.wpList_oldg_x HB _ _ rfl _ rfl (Try.isAgg23 _) _ HC.out rfl (Kx.framed ?_ (by simp only [Act.put, List.setIfInBounds_toArray, List.set_cons_succ, List.set_cons_zero] <;> rfl))) | (refine Kx.wpList_oldg_x HB _ _ rfl _ rfl (Try.isAgg2 _) _ HC.out rfl (Kx.framed ?_ (by simp only [Act.put, List.setIfInBounds_toArray, List.set_cons_succ, List.set_cons_zero] <;> rfl)))) | ((with_reducible refine Kx.store_gate ?_); first | (refine Kx.wpList_storewa_x HB rfl rfl _ _ _ rfl _ rfl _ rfl _ (by rfl) (by simp <;> rfl) (by rfl) ?_; clear HB; intro w_ HB) | (refine Kx.wpList_storea_x HB rfl rfl _ _ _ rfl _ rfl _ rfl _ _ (by simp [Kx.splice] <;> rfl) (by simp) (by simp <;> rfl) (by rfl) ?_; clear HB; intro w_ HB) | (refine Kx.wpList_storec_x HB rfl rfl _ _ _ rfl _ rfl rfl _ _ (by simp <;> rfl) (by simp) (by simp <;> rfl) ?_; clear HB; intro w_ HB) | (refine Kx.wpList_storet_x HB rfl rfl _ _ _ rfl _ rfl _ rfl rfl _ _ (by simp <;> rfl) (by simp) (by simp <;> rfl) ?_; clear HB; intro w_ HB) | (refine Kx.wpList_store1_x HB rfl rfl _ _ _ rfl _ rfl _ rfl rfl _ _ (by simp <;> rfl) (by simp) (by simp <;> rfl) ?_; clear HB; intro w_ HB))))
                go_roundg (g1 - 1)
                case measure => omega
                case rel => exact ⟨q + 1, by omega, by go_num, by rw [HE.out]; exact HB⟩
              · have d7 : (x.o == y.o) = false := by simp [ho]
                have HE : Hid (Tm.last y.o (l.take (q + 1)) = Tm.last y.o (l.take q)) := Lib.hid (by rw [HS.out, if_neg ho])
                clear ho HS
                go_wp2_with fail
                refine Kx.region_x HB (fun i => false) (by kernel_rfl) ?_
                refine anyW_take (i := 0) (v := ?v0_12) (a' := ?a0_12) (by first | exact Kx.bears_x | assumption) rfl (by kernel_rfl) (by kernel_rfl) (by kernel_rfl) (fun _ _ _ h => h) (by kernel_rfl) ?w0_12 ?y0_12 ?f0_12 ?r0_12
                case w0_12 => kernel_rfl
                case y0_12 => (intro w hC; go_simp; try with_reducible rfl)
                case f0_12 => (go_simp; try with_reducible rfl)
                refine anyW_take (i := 1) (v := ?v1_13) (a' := ?a1_13) (by first | exact Kx.bears_x | assumption) rfl (by kernel_rfl) (by kernel_rfl) (by kernel_rfl) (fun _ _ _ h => h) (by kernel_rfl) ?w1_13 ?y1_13 ?f1_13 ?r1_13
                case w1_13 => kernel_rfl
                case y1_13 => (intro w hC; go_simp; try with_reducible rfl)
                case f1_13 => (go_simp; try with_reducible rfl)
                refine anyW_take (i := 2) (v := ?v2_14) (a' := ?a2_14) (by first | exact Kx.bears_x | assumption) rfl (by kernel_rfl) (by kernel_rfl) (by kernel_rfl) (fun _ _ _ h => h) (by kernel_rfl) ?w2_14 ?y2_14 ?f2_14 ?r2_14
                case w2_14 => kernel_rfl
                case y2_14 => (intro w hC; go_simp; try with_reducible rfl)
                case f2_14 => (go_simp; try with_reducible rfl)
                refine anyW_take (i := 3) (v := ?v3_15) (a' := ?a3_15) (by first | exact Kx.bears_x | assumption) rfl (by kernel_rfl) (by kernel_rfl) (by kernel_rfl) (fun _ _ _ h => h) (by kernel_rfl) ?w3_15 ?y3_15 ?f3_15 ?r3_15
                case w3_15 => kernel_rfl
                case y3_15 => (intro w hC; go_simp; try with_reducible rfl)
                case f3_15 => (go_simp; try with_reducible rfl)
                refine anyW_take (i := 4) (v := ?v4_16) (a' := ?a4_16) (by first | exact Kx.bears_x | assumption) rfl (by kernel_rfl) (by kernel_rfl) (by kernel_rfl) (fun _ _ _ h => h) (by kernel_rfl) ?w4_16 ?y4_16 ?f4_16 ?r4_16
                case w4_16 => kernel_rfl
                case y4_16 => (intro W hW; first | (refine Eq.trans (tells_cell _ rfl (Try.isAgg3 _) (hW.old H0.out)) ?_; with_reducible rfl))
                case f4_16 => (go_simp; try with_reducible rfl)
                refine anyW_take (i := 5) (v := ?v5_17) (a' := ?a5_17) (by first | exact Kx.bears_x | assumption) rfl (by kernel_rfl) (by kernel_rfl) (by kernel_rfl) (fun _ _ _ h => h) (by kernel_rfl) ?w5_17 ?y5_17 ?f5_17 ?r5_17
                case w5_17 => kernel_rfl
                case y5_17 => (intro w hC; go_simp; try with_reducible rfl)
                case f5_17 => (go_simp; try with_reducible rfl)
                refine anyW_take (i := 6) (v := ?v6_18) (a' := ?a6_18) (by first | exact Kx.bears_x | assumption) rfl (by kernel_rfl) (by kernel_rfl) (by kernel_rfl) (fun _ _ _ h => h) (by kernel_rfl) ?w6_18 ?y6_18 ?f6_18 ?r6_18
                case w6_18 => kernel_rfl
                case y6_18 => (intro w hC; go_simp; try with_reducible rfl)
                case f6_18 => (go_simp; try with_reducible rfl)
                refine anyW_take (i := 7) (v := ?v7_19) (a' := ?a7_19) (by first | exact Kx.bears_x | assumption) rfl (by kernel_rfl) (by kernel_rfl) (by kernel_rfl) (fun _ _ _ h => h) (by kernel_rfl) ?w7_19 ?y7_19 ?f7_19 ?r7_19
                case w7_19 => kernel_rfl
                case y7_19 => (intro w hC; go_simp; try with_reducible rfl)
                case f7_19 => (go_simp; try with_reducible rfl)
                refine anyW_take (i := 8) (v := ?v8_20) (a' := ?a8_20) (by first | exact Kx.bears_x | assumption) rfl (by kernel_rfl) (by kernel_rfl) (by kernel_rfl) (fun _ _ _ h => h) (by kernel_rfl) ?w8_20 ?y8_20 ?f8_20 ?r8_20
                case w8_20 => kernel_rfl
                case y8_20 => (intro w hC; go_simp; try with_reducible rfl)
                case f8_20 => (go_simp; try with_reducible rfl)
                refine anyW_take (i := 9) (v := ?v9_21) (a' := ?a9_21) (by first | exact Kx.bears_x | assumption) rfl (by kernel_rfl) (by kernel_rfl) (by kernel_rfl) (fun _ _ _ h => h) (by kernel_rfl) ?w9_21 ?y9_21 ?f9_21 ?r9_21
                case w9_21 => kernel_rfl
                case y9_21 => (intro W hW; first | (refine Eq.trans (tells_cell (v := .int .i64 y.o) ⟨g, i * 3, none⟩ rfl (Try.isAgg3 _) (hW.rowWho inferInstance rfl HY.out)) ?_; with_reducible rfl))
                case f9_21 => (go_simp; try with_reducible rfl)
                refine anyW_take (i := 10) (v := ?v10_22) (a' := ?a10_22) (by first | exact Kx.bears_x | assumption) rfl (by kernel_rfl) (by kernel_rfl) (by kernel_rfl) (fun _ _ _ h => h) (by kernel_rfl) ?w10_22 ?y10_22 ?f10_22 ?r10_22
                case w10_22 => kernel_rfl
                case y10_22 => (intro w hC; go_simp; try with_reducible rfl)
                case f10_22 => (go_simp; try with_reducible rfl)
                refine anyW_done (by kernel_rfl) ?_
                clear HB
                intro w_ HB_
                have HB := Lib.hid HB_
                clear HB_
                go_wp2_with fail
                go_roundg (g1 - 1)
                case measure => omega
                case rel => exact ⟨q + 1, by omega, by go_num, by rw [HE.out]; exact HB⟩
            · obtain rfl : q = k := by omega
              have d8 : decide ((q : Int) < (q : Int)) = false := by simp
              have e2 : Tm.last y.o (l.take q) = y := by
                rw [List.take_of_length_le (by rw [HN.out]; exact Nat.le_refl _)]
                exact HPL.out.2 y (List.mem_of_getElem? HY.out)
              rw [e2] at HB
              have HND : Hid (∀ (j : Nat) (z : Tm.Vt), j < i → P[j]? = some z → z.o ≠ y.o) := Lib.hid (fun j z hj hz => Tm.nodup_ne HPL.out.1 hj hz HY.out)
              clear e2 hq hql
              go_wp2_with fail
              refine Kx.region_x HB (fun i => false) (by kernel_rfl) ?_
              refine anyW_take (i := 0) (v := ?v0_23) (a' := ?a0_23) (by first | exact Kx.bears_x | assumption) rfl (by kernel_rfl) (by kernel_rfl) (by kernel_rfl) (fun _ _ _ h => h) (by kernel_rfl) ?w0_23 ?y0_23 ?f0_23 ?r0_23
              case w0_23 => kernel_rfl
              case y0_23 => (intro w hC; go_simp; try with_reducible rfl)
              case f0_23 => (go_simp; try with_reducible rfl)
              refine anyW_take (i := 1) (v := ?v1_24) (a' := ?a1_24) (by first | exact Kx.bears_x | assumption) rfl (by kernel_rfl) (by kernel_rfl) (by kernel_rfl) (fun _ _ _ h => h) (by kernel_rfl) ?w1_24 ?y1_24 ?f1_24 ?r1_24
              case w1_24 => kernel_rfl
              case y1_24 => (intro W hW; first | (refine Eq.trans (Kx.tells_load1_x (v := .int .u64 (y.u : Int)) hW b7 1 rfl (vv y) inferInstance (Try.isAgg23 _) rfl) ?_; with_reducible rfl))
              case f1_24 => (go_simp; try with_reducible rfl)
              refine anyW_take (i := 2) (v := ?v2_25) (a' := ?a2_25) (by first | exact Kx.bears_x | assumption) rfl (by kernel_rfl) (by kernel_rfl) (by kernel_rfl) (fun _ _ _ h => h) (by kernel_rfl) ?w2_25 ?y2_25 ?f2_25 ?r2_25
              case w2_25 => kernel_rfl
              case y2_25 => (intro w hC; go_simp; try with_reducible rfl)
              case f2_25 => (go_simp; try with_reducible rfl)
              refine anyW_take (i := 3) (v := ?v3_26) (a' := ?a3_26) (by first | exact Kx.bears_x | assumption) rfl (by kernel_rfl) (by kernel_rfl) (by kernel_rfl) (fun _ _ _ h => h) (by kernel_rfl) ?w3_26 ?y3_26 ?f3_26 ?r3_26
              case w3_26 => kernel_rfl
              case y3_26 => (intro w hC; go_simp; try with_reducible rfl)
              case f3_26 => (go_simp; try with_reducible rfl)
              refine anyW_take (i := 4) (v := ?v4_27) (a' := ?a4_27) (by first | exact Kx.bears_x | assumption) rfl (by kernel_rfl) (by kernel_rfl) (by kernel_rfl) (fun _ _ _ h => h) (by kernel_rfl) ?w4_27 ?y4_27 ?f4_27 ?r4_27
              case w4_27 => kernel_rfl
              case y4_27 => (intro w hC; go_simp; try with_reducible rfl)
              case f4_27 => (go_simp; try with_reducible rfl)
              refine anyW_take (i := 5) (v := ?v5_28) (a' := ?a5_28) (by first | exact Kx.bears_x | assumption) rfl (by kernel_rfl) (by kernel_rfl) (by kernel_rfl) (fun _ _ _ h => h) (by kernel_rfl) ?w5_28 ?y5_28 ?f5_28 ?r5_28
              case w5_28 => kernel_rfl
              case y5_28 => (intro w hC; go_simp; try with_reducible rfl)
              case f5_28 => (go_simp; try with_reducible rfl)
              refine anyW_take (i := 6) (v := ?v6_29) (a' := ?a6_29) (by first | exact Kx.bears_x | assumption) rfl (by kernel_rfl) (by kernel_rfl) (by kernel_rfl) (fun _ _ _ h => h) (by kernel_rfl) ?w6_29 ?y6_29 ?f6_29 ?r6_29
              case w6_29 => kernel_rfl
              case y6_29 => (intro W hW; first | (refine Eq.trans (tells_cell (v := .int .u64 (y.u : Int)) ⟨g, i * 3 + 1, none⟩ rfl (Try.isAgg23 _) (hW.rowAt inferInstance rfl HY.out 1 rfl)) ?_; with_reducible rfl))
              case f6_29 => (go_simp; try with_reducible rfl)
              refine anyW_take (i := 7) (v := ?v7_30) (a' := ?a7_30) (by first | exact Kx.bears_x | assumption) rfl (by kernel_rfl) (by kernel_rfl) (by kernel_rfl) (fun _ _ _ h => h) (by kernel_rfl) ?w7_30 ?y7_30 ?f7_30 ?r7_30
              case w7_30 => kernel_rfl
              case y7_30 => (intro w hC; go_simp; try with_reducible rfl)
              case f7_30 => (go_simp; try with_reducible rfl)
              refine anyW_take (i := 8) (v := ?v8_31) (a' := ?a8_31) (by first | exact Kx.bears_x | assumption) rfl (by kernel_rfl) (by kernel_rfl) (by kernel_rfl) (fun _ _ _ h => h) (by kernel_rfl) ?w8_31 ?y8_31 ?f8_31 ?r8_31
              case w8_31 => kernel_rfl
              case y8_31 => (intro w hC; go_simp; try with_reducible rfl)
              case f8_31 => (go_simp; try with_reducible rfl)
              refine anyW_take (i := 9) (v := ?v9_32) (a' := ?a9_32) (by first | exact Kx.bears_x | assumption) rfl (by kernel_rfl) (by kernel_rfl) (by kernel_rfl) (fun _ _ _ h => h) (by kernel_rfl) ?w9_32 ?y9_32 ?f9_32 ?r9_32
              case w9_32 => kernel_rfl
              case y9_32 => (intro w hC; go_simp; try with_reducible rfl)
              case f9_32 => (go_simp; try with_reducible rfl)
              refine anyW_take (i := 10) (v := ?v10_33) (a' := ?a10_33) (by first | exact Kx.bears_x | assumption) rfl (by kernel_rfl) (by kernel_rfl) (by kernel_rfl) (fun _ _ _ h => h) (by kernel_rfl) ?w10_33 ?y10_33 ?f10_33 ?r10_33
              case w10_33 => kernel_rfl
              case y10_33 => (intro W hW; first | (refine Eq.trans (Kx.tells_load1_x (v := .int .i64 y.a) hW b7 2 rfl (vv y) inferInstance (Try.isAgg2 _) rfl) ?_; with_reducible rfl))
              case f10_33 => (go_simp; try with_reducible rfl)
              refine anyW_take (i := 11) (v := ?v11_34) (a' := ?a11_34) (by first | exact Kx.bears_x | assumption) rfl (by kernel_rfl) (by kernel_rfl) (by kernel_rfl) (fun _ _ _ h => h) (by kernel_rfl) ?w11_34 ?y11_34 ?f11_34 ?r11_34
              case w11_34 => kernel_rfl
              case y11_34 => (intro w hC; go_simp; try with_reducible rfl)
              case f11_34 => (go_simp; try with_reducible rfl)
              refine anyW_take (i := 12) (v := ?v12_35) (a' := ?a12_35) (by first | exact Kx.bears_x | assumption) rfl (by kernel_rfl) (by kernel_rfl) (by kernel_rfl) (fun _ _ _ h => h) (by kernel_rfl) ?w12_35 ?y12_35 ?f12_35 ?r12_35
              case w12_35 => kernel_rfl
              case y12_35 => (intro w hC; go_simp; try with_reducible rfl)
              case f12_35 => (go_simp; try with_reducible rfl)
              refine anyW_take (i := 13) (v := ?v13_36) (a' := ?a13_36) (by first | exact Kx.bears_x | assumption) rfl (by kernel_rfl) (by kernel_rfl) (by kernel_rfl) (fun _ _ _ h => h) (by kernel_rfl) ?w13_36 ?y13_36 ?f13_36 ?r13_36
              case w13_36 => kernel_rfl
              case y13_36 => (intro w hC; go_simp; try with_reducible rfl)
              case f13_36 => (go_simp; try with_reducible rfl)
              refine anyW_take (i := 14) (v := ?v14_37) (a' := ?a14_37) (by first | exact Kx.bears_x | assumption) rfl (by kernel_rfl) (by kernel_rfl) (by kernel_rfl) (fun _ _ _ h => h) (by kernel_rfl) ?w14_37 ?y14_37 ?f14_37 ?r14_37
              case w14_37 => kernel_rfl
              case y14_37 => (intro w hC; go_simp; try with_reducible rfl)
              case f14_37 => (go_simp; try with_reducible rfl)
              refine anyW_take (i := 15) (v := ?v15_38) (a' := ?a15_38) (by first | exact Kx.bears_x | assumption) rfl (by kernel_rfl) (by kernel_rfl) (by kernel_rfl) (fun _ _ _ h => h) (by kernel_rfl) ?w15_38 ?y15_38 ?f15_38 ?r15_38
              case w15_38 => kernel_rfl
              case y15_38 => (intro W hW; first | (refine Eq.trans (tells_cell (v := .int .i64 y.a) ⟨g, i * 3 + 2, none⟩ rfl (Try.isAgg2 _) (hW.rowAt inferInstance rfl HY.out 2 rfl)) ?_; with_reducible rfl))
              case f15_38 => (go_simp; try with_reducible rfl)
              refine anyW_take (i := 16) (v := ?v16_39) (a' := ?a16_39) (by first | exact Kx.bears_x | assumption) rfl (by kernel_rfl) (by kernel_rfl) (by kernel_rfl) (fun _ _ _ h => h) (by kernel_rfl) ?w16_39 ?y16_39 ?f16_39 ?r16_39
              case w16_39 => kernel_rfl
              case y16_39 => (intro w hC; go_simp; try with_reducible rfl)
              case f16_39 => (go_simp; try with_reducible rfl)
              refine anyW_take (i := 17) (v := ?v17_40) (a' := ?a17_40) (by first | exact Kx.bears_x | assumption) rfl (by kernel_rfl) (by kernel_rfl) (by kernel_rfl) (fun _ _ _ h => h) (by kernel_rfl) ?w17_40 ?y17_40 ?f17_40 ?r17_40
              case w17_40 => kernel_rfl
              case y17_40 => (intro w hC; go_simp; try with_reducible rfl)
              case f17_40 => (go_simp; try with_reducible rfl)
              refine anyW_done (by kernel_rfl) ?_
              clear HB
              intro w_ HB_
              have HB := Lib.hid HB_
              clear HB_
              go_wp2_with fail
              go_loopg [9] i (fun gh kx wr => ∃ j : Nat, gh + j = i ∧ kx = .int .i64 (j : Int) ∧ Hid (Bxs w wr [(b7, vv y)] [⟨some ⟨g, 0, none⟩, c, 25, 3, m, vvs P⟩]))
              case atStart => exact ⟨0, by omega, rfl, HB⟩
              case round =>
                clear HB
                obtain ⟨j, hj, rfl, HB⟩ := hrel
                obtain ⟨g2, rfl⟩ : ∃ q, q = gk := ⟨_, rfl⟩
                obtain ⟨w2, rfl⟩ : ∃ q, q = wr := ⟨_, rfl⟩
                by_cases hji : j < i
                · obtain ⟨z, hz⟩ : ∃ z, P[j]? = some z := ⟨P[j]'(by rw [HM.out]; omega), List.getElem?_eq_getElem _⟩
                  have HZZ := Lib.hid hz
                  have d9 : (j : Int) < (i : Int) := by omega
                  have d10 : (j : Int) < (m : Int) := by omega
                  have hne := HND.out j z hji hz
                  have d11 : (z.o == y.o) = false := by simp [hne]
                  clear hz hne
                  go_wp2_with fail
                  refine Kx.region_x HB (fun i => false) (by kernel_rfl) ?_
                  refine anyW_take (i := 0) (v := ?v0_41) (a' := ?a0_41) (by first | exact Kx.bears_x | assumption) rfl (by kernel_rfl) (by kernel_rfl) (by kernel_rfl) (fun _ _ _ h => h) (by kernel_rfl) ?w0_41 ?y0_41 ?f0_41 ?r0_41
                  case w0_41 => kernel_rfl
                  case y0_41 => (intro w hC; go_simp; try with_reducible rfl)
                  case f0_41 => (go_simp; try with_reducible rfl)
                  refine anyW_take (i := 1) (v := ?v1_42) (a' := ?a1_42) (by first | exact Kx.bears_x | assumption) rfl (by kernel_rfl) (by kernel_rfl) (by kernel_rfl) (fun _ _ _ h => h) (by kernel_rfl) ?w1_42 ?y1_42 ?f1_42 ?r1_42
                  case w1_42 => kernel_rfl
                  case y1_42 => (intro w hC; go_simp; try with_reducible rfl)
                  case f1_42 => (go_simp; try with_reducible rfl)
                  refine anyW_take (i := 2) (v := ?v2_43) (a' := ?a2_43) (by first | exact Kx.bears_x | assumption) rfl (by kernel_rfl) (by kernel_rfl) (by kernel_rfl) (fun _ _ _ h => h) (by kernel_rfl) ?w2_43 ?y2_43 ?f2_43 ?r2_43
                  case w2_43 => kernel_rfl
                  case y2_43 => (intro w hC; go_simp; try with_reducible rfl)
                  case f2_43 => (go_simp; try with_reducible rfl)
                  refine anyW_take (i := 3) (v := ?v3_44) (a' := ?a3_44) (by first | exact Kx.bears_x | assumption) rfl (by kernel_rfl) (by kernel_rfl) (by kernel_rfl) (fun _ _ _ h => h) (by kernel_rfl) ?w3_44 ?y3_44 ?f3_44 ?r3_44
                  case w3_44 => kernel_rfl
                  case y3_44 => (intro w hC; go_simp; try with_reducible rfl)
                  case f3_44 => (go_simp; try with_reducible rfl)
                  refine anyW_take (i := 4) (v := ?v4_45) (a' := ?a4_45) (by first | exact Kx.bears_x | assumption) rfl (by kernel_rfl) (by kernel_rfl) (by kernel_rfl) (fun _ _ _ h => h) (by kernel_rfl) ?w4_45 ?y4_45 ?f4_45 ?r4_45
                  case w4_45 => kernel_rfl
                  case y4_45 => (intro W hW; first | (refine Eq.trans (tells_cell (v := .int .i64 z.o) ⟨g, j * 3, none⟩ rfl (Try.isAgg3 _) (hW.rowWho inferInstance rfl HZZ.out)) ?_; with_reducible rfl))
                  case f4_45 => (go_simp; try with_reducible rfl)
                  refine anyW_take (i := 5) (v := ?v5_46) (a' := ?a5_46) (by first | exact Kx.bears_x | assumption) rfl (by kernel_rfl) (by kernel_rfl) (by kernel_rfl) (fun _ _ _ h => h) (by kernel_rfl) ?w5_46 ?y5_46 ?f5_46 ?r5_46
                  case w5_46 => kernel_rfl
                  case y5_46 => (intro w hC; go_simp; try with_reducible rfl)
                  case f5_46 => (go_simp; try with_reducible rfl)
                  refine anyW_take (i := 6) (v := ?v6_47) (a' := ?a6_47) (by first | exact Kx.bears_x | assumption) rfl (by kernel_rfl) (by kernel_rfl) (by kernel_rfl) (fun _ _ _ h => h) (by kernel_rfl) ?w6_47 ?y6_47 ?f6_47 ?r6_47
                  case w6_47 => kernel_rfl
                  case y6_47 => (intro w hC; go_simp; try with_reducible rfl)
                  case f6_47 => (go_simp; try with_reducible rfl)
                  refine anyW_take (i := 7) (v := ?v7_48) (a' := ?a7_48) (by first | exact Kx.bears_x | assumption) rfl (by kernel_rfl) (by kernel_rfl) (by kernel_rfl) (fun _ _ _ h => h) (by kernel_rfl) ?w7_48 ?y7_48 ?f7_48 ?r7_48
                  case w7_48 => kernel_rfl
                  case y7_48 => (intro w hC; go_simp; try with_reducible rfl)
                  case f7_48 => (go_simp; try with_reducible rfl)
                  refine anyW_take (i := 8) (v := ?v8_49) (a' := ?a8_49) (by first | exact Kx.bears_x | assumption) rfl (by kernel_rfl) (by kernel_rfl) (by kernel_rfl) (fun _ _ _ h => h) (by kernel_rfl) ?w8_49 ?y8_49 ?f8_49 ?r8_49
                  case w8_49 => kernel_rfl
                  case y8_49 => (intro w hC; go_simp; try with_reducible rfl)
                  case f8_49 => (go_simp; try with_reducible rfl)
                  refine anyW_take (i := 9) (v := ?v9_50) (a' := ?a9_50) (by first | exact Kx.bears_x | assumption) rfl (by kernel_rfl) (by kernel_rfl) (by kernel_rfl) (fun _ _ _ h => h) (by kernel_rfl) ?w9_50 ?y9_50 ?f9_50 ?r9_50
                  case w9_50 => kernel_rfl
                  case y9_50 => (intro W hW; first | (refine Eq.trans (tells_cell (v := .int .i64 y.o) ⟨g, i * 3, none⟩ rfl (Try.isAgg3 _) (hW.rowWho inferInstance rfl HY.out)) ?_; with_reducible rfl))
                  case f9_50 => (go_simp; try with_reducible rfl)
                  refine anyW_take (i := 10) (v := ?v10_51) (a' := ?a10_51) (by first | exact Kx.bears_x | assumption) rfl (by kernel_rfl) (by kernel_rfl) (by kernel_rfl) (fun _ _ _ h => h) (by kernel_rfl) ?w10_51 ?y10_51 ?f10_51 ?r10_51
                  case w10_51 => kernel_rfl
                  case y10_51 => (intro w hC; go_simp; try with_reducible rfl)
                  case f10_51 => (go_simp; try with_reducible rfl)
                  refine anyW_done (by kernel_rfl) ?_
                  clear HB
                  intro w_ HB_
                  have HB := Lib.hid HB_
                  clear HB_
                  go_wp2_with fail
                  go_roundg (g2 - 1)
                  case measure => omega
                  case rel => exact ⟨j + 1, by omega, by go_num, HB⟩
                · obtain rfl : j = i := by omega
                  have d12 : decide ((j : Int) < (j : Int)) = false := by simp
                  go_wp2_with fail
                  go_roundg (g0 - 1)
                  case measure => omega
                  case rel => exact ⟨j + 1, by omega, by go_num, Lib.hid HB.out.tail⟩
        · obtain rfl : i = m := by omega
          have d5 : decide ((i : Int) < (i : Int)) = false := by simp
          go_wp2_with fail
          go_ret
          refine ⟨?_, HB.out.below⟩
          show Ending.returned (Value.bool (((k : Int) == 0) == ((i : Int) == 0))) = _
          rw [HZ.out]
          simp
end Go.Proofs.Ytpchkhphpcopkaa
