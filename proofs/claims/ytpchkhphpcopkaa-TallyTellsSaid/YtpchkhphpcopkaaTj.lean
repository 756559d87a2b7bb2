/- What most say: the document's. -/
import Derived.Test.YtpchkhphpcopkaaTi
import Derived.Test.YtpchkhphpcopkaaTh
namespace Go.Proofs.Ytpchkhphpcopkaa
open Go.RowKit Go.Shelf Km Kx

/-- a whole value from anywhere, where the guard holds -/
theorem wpList_loadg_any {P : Program} {ops : Array Oper} {rest : List Oper} {op : Oper} {a : Act} {w : World} {Q : Exit → Act → World → Prop} (ty : TypeId) (x : Operand) (ho : op.op = .load ty x)
    (ad : Addr) (hx : a.eval x = .pointer (some ad)) (cs : List Value) (d : TypeDesc) (hc : ∀ j v, cs[j]? = some v → w.cell? (ad.add j) = some v) (hu : P.underlying ty = some d) (hd : d.isRow = true) (hi : (P.info? ty).map (·.size) = some cs.length) (hn : Region.wanted op (yielded ops a.tmps) = true)
    (h : wpList P ops Q rest (a.put op.dst (.agg cs.toArray)) w) : wpList P ops Q (op :: rest) a w :=
  wpList_step fun _ hK => by
    have hl : (loadCells ad cs.length).run P w = .ok cs.toArray w := run_loadCells_list (P := P) w ad cs hc
    have hv : (loadVar ty ad).run P w = .ok (.agg cs.toArray) w := by
      cases hq : P.info? ty with
      | none => simp [hq] at hi
      | some i =>
        have hs : i.size = cs.length := by simpa [hq] using hi
        have hagg : (isAgg ty).run P w = .ok true w := by
          unfold isAgg
          rw [Sem.run_bind, run_underlying hu w]
          cases d <;> simp_all
        simp [loadVar, Sem.run_bind, hagg, sizeOf, typeInfo, hq, hs, hl]
    simp only [hn, if_true]
    unfold Oper.wp execOp
    simp only [ho, hx, Instr.loadAt, Instr.sureAddr, Sem.run_bind, Sem.run_pure, Result.andThen_ok, hv]
    exact hK _ _ h
/-- one cell from anywhere, where the guard holds -/
theorem wpList_loadg_cell {P : Program} {ops : Array Oper} {rest : List Oper} {op : Oper} {a : Act} {w : World} {Q : Exit → Act → World → Prop} (ty : TypeId) (x : Operand) (ho : op.op = .load ty x) (ad : Addr) (hx : a.eval x = .pointer (some ad)) (hA : (isAgg ty).run P w = .ok false w) (v' : Value) (hc : w.cell? ad = some v') (hn : Region.wanted op (yielded ops a.tmps) = true)
    (h : wpList P ops Q rest (a.put op.dst v') w) : wpList P ops Q (op :: rest) a w :=
  wpList_step fun K hK => by
    simp only [hn, if_true]
    unfold Oper.wp execOp
    simp only [ho, hx, Instr.loadAt, Instr.sureAddr, Sem.run_bind, Sem.run_pure, Result.andThen_ok, run_loadVar_one w ad ty v' hc (row_of hA)]
    exact hK _ _ h

/-- one more of the inner loop -/
theorem cnt_step {l : List Tm.Vt} {i : Nat} {x : Tm.Vt} (hx : l[i]? = some x) (n now fr : Int) (b : Nat) : Tm.cnt (l.take (i + 1)) n now fr b = Tm.cnt (l.take i) n now fr b + (if x.o ∈ (l.take i).map Tm.Vt.o then 0 else if Tm.fresh n now fr x = true then (if x.u.testBit b = true then 1 else 0) else 0) := by
  have e : l.take (i + 1) = l.take i ++ [x] := by rw [List.take_add_one, hx]; rfl
  rw [e, Tm.cnt_snoc]

set_option maxRecDepth 100000 in
set_option maxHeartbeats 4000000 in
theorem RTally_any (A : Option Addr) (n cap B : Nat) (l : List Tm.Vt) (obs now fr : Int) (w : World) (hr : Rd w B A (vvs l)) (hB : B ≤ w.heap.size) (hn : l.length = n) (hm : n ≤ 100000) (hw : Wl l) (ho : in64 obs) :
    Calls Try.prog 14 #[.slice A n cap, .int .i64 obs, .int .i64 now, .int .i64 fr] w fun e w' => e = .returned (.int .u64 (Tm.tally l obs now fr : Int)) ∧ Below w.heap.size w w' := by
  have HB := Lib.hid (Bxs.start w)
  have HR := Lib.hid (hr.more hB)
  have HN := Lib.hid hn
  have HW := Lib.hid hw
  obtain ⟨-, o2⟩ := ho
  clear hr hB hn hw
  have hi : (Try.prog.info? 25).map (·.size) = some 3 := by kernel_rfl
  by_cases h1 : 0 < obs
  case neg =>
    have d1 : decide (0 < obs) = false := decide_eq_false h1
    have e : Tm.tally l obs now fr = 0 := if_neg h1
    rw [e]
    clear h1
    go_enter Try.func14, Try.ntmps14
    go_wp2_with fail
    go_loopg [9, 10] 1 (fun gh ux ix wr => gh = 1 ∧ ux = .int .u64 0 ∧ ix = .int .i64 0 ∧ Hid (Bxs w wr []))
    case atStart => exact ⟨rfl, rfl, rfl, HB⟩
    case round =>
      clear HB
      obtain ⟨-, rfl, rfl, HB⟩ := hrel
      go_wp2_with fail
      go_ret
      exact ⟨rfl, HB.out.below⟩
  case pos =>
    have d1 : decide (0 < obs) = true := decide_eq_true h1
    have hM : Hid (Tm.tally l obs now fr = Tm.mask obs (Tm.cnt l obs now fr) 64) := Lib.hid (if_pos h1)
    rw [hM.out]
    clear hM
    go_enter Try.func14, Try.ntmps14
    go_wp2_with fail
    go_loopg [9, 10] 64 (fun gh ux ix wr => ∃ k : Nat, gh + k = 64 ∧ ux = .int .u64 (Tm.mask obs (Tm.cnt l obs now fr) k : Int) ∧ ix = .int .i64 (k : Int) ∧ Hid (Bxs w wr []))
    case atStart => exact ⟨0, by omega, rfl, rfl, HB⟩
    case round =>
      clear HB
      obtain ⟨k, hk, rfl, rfl, HB⟩ := hrel
      obtain ⟨g0, rfl⟩ : ∃ q, q = gk := ⟨_, rfl⟩
      obtain ⟨w0, rfl⟩ : ∃ q, q = wr := ⟨_, rfl⟩
      by_cases hlt : k < 64
      · have d3 : (k : Int) < 64 := by omega
        have hk0 : (0 : Int) ≤ (k : Int) := by omega
        go_wp2_with fail
        go_loopg [11, 12] n (fun gh cx ix wr => ∃ i : Nat, gh + i = n ∧ cx = .int .i64 (Tm.cnt (l.take i) obs now fr k : Int) ∧ ix = .int .i64 (i : Int) ∧ Hid (Bxs w wr []))
        case atStart => exact ⟨0, by omega, rfl, rfl, HB⟩
        case round =>
          clear HB
          obtain ⟨i, hgi, rfl, rfl, HB⟩ := hrel
          by_cases hil : i < n
          · obtain ⟨x, hx⟩ : ∃ x, l[i]? = some x := ⟨l[i]'(by rw [HN.out]; exact hil), List.getElem?_eq_getElem _⟩
            obtain ⟨ad, rfl, hab, hc⟩ := HR.out.vts hx
            obtain ⟨ad', e', -, -, hcu, -⟩ := HR.out.who hx
            cases e'
            have HC := Lib.hid hc
            have HU := Lib.hid hcu
            have HS := Lib.hid (cnt_step hx obs now fr k)
            obtain ⟨hin, hu, -⟩ := HW.out x (List.mem_of_getElem? hx)
            have hbt := bit_of hu k
            have d4 : (i : Int) < (n : Int) := by omega
            have hcl : Tm.cnt (l.take i) obs now fr k ≤ 100000 := Nat.le_trans (Tm.cnt_le _ _ _ _ _) (by rw [List.length_take]; omega)
            have hw1 : IntKind.i64.wrap ((Tm.cnt (l.take i) obs now fr k : Int) + 1) = (Tm.cnt (l.take i) obs now fr k : Int) + 1 := by rw [IntKind.wrap_i64]; omega
            have HFI0 : Hid (∀ W, Rd W w.heap.size (some ad) (vvs l) → Calls Try.prog 23 #[.slice (some ad) n cap, .int .i64 (i : Int)] W fun e w' => e = .returned (.bool (!decide (x.o ∈ (l.take i).map Tm.Vt.o))) ∧ Below W.heap.size W w') := Lib.hid (fun W hr => rfirst_any (some ad) n cap _ l i x W hr HN.out hm hx)
            have HFR0 : Hid (∀ W, Calls Try.prog 15 #[.agg (vv x).toArray, .int .i64 obs, .int .i64 now, .int .i64 fr] W fun e w' => e = .returned (.bool (Tm.fresh obs now fr x)) ∧ Below W.heap.size W w') := Lib.hid (fun W => RFresh_any x obs now fr W)
            clear hc hcu hab hx hin hu hcl
            by_cases hmem : x.o ∈ (l.take i).map Tm.Vt.o
            · have HFI : Hid (∀ W, Rd W w.heap.size (some ad) (vvs l) → Calls Try.prog 23 #[.slice (some ad) n cap, .int .i64 (i : Int)] W fun e w' => e = .returned (.bool false) ∧ Below W.heap.size W w') := Lib.hid (fun W hr => by have := HFI0.out W hr; rwa [decide_eq_true hmem] at this)
              have HE : Hid (Tm.cnt (l.take (i + 1)) obs now fr k = Tm.cnt (l.take i) obs now fr k) := Lib.hid (by rw [HS.out, if_pos hmem]; rfl)
              have HFR := HFR0
              clear hmem HS hbt HFI0 HFR0
              go_wp2_with (first | (go_at_call 23; refine Calls.mono (HFI.out _ (HR.out.below HB.out.below)) ?_; rintro e w_ ⟨rfl, hb_⟩; replace HB := Lib.hid (HB.out.call hb_); clear hb_) | (go_at_call 15; refine Calls.mono (HFR.out _) ?_; rintro e w_ ⟨rfl, hb_⟩; replace HB := Lib.hid (HB.out.call hb_); clear hb_) | ((with_reducible refine Kx.loadg_gate ?_); first | (refine wpList_loadg_any 25 _ rfl (ad.add (i * 3)) rfl (vv x) _ (fun j v hv => HB.out.old (HC.out j v hv)) Try.underlying25 rfl hi rfl ?_) | (refine wpList_loadg_cell 23 _ rfl _ rfl (Try.isAgg23 _) _ (HB.out.old HU.out) rfl ?_)))
              go_roundg (gk - 1)
              case measure => omega
              case rel => exact ⟨i + 1, by omega, by rw [HE.out], by go_num, HB⟩
            · have HFI : Hid (∀ W, Rd W w.heap.size (some ad) (vvs l) → Calls Try.prog 23 #[.slice (some ad) n cap, .int .i64 (i : Int)] W fun e w' => e = .returned (.bool true) ∧ Below W.heap.size W w') := Lib.hid (fun W hr => by have := HFI0.out W hr; rwa [decide_eq_false hmem] at this)
              by_cases hfr : Tm.fresh obs now fr x = true
              · have HFR : Hid (∀ W, Calls Try.prog 15 #[.agg (vv x).toArray, .int .i64 obs, .int .i64 now, .int .i64 fr] W fun e w' => e = .returned (.bool true) ∧ Below W.heap.size W w') := Lib.hid (fun W => by have := HFR0.out W; rwa [hfr] at this)
                by_cases hbit : x.u.testBit k = true
                · have HE : Hid (Tm.cnt (l.take (i + 1)) obs now fr k = Tm.cnt (l.take i) obs now fr k + 1) := Lib.hid (by rw [HS.out, if_neg hmem, if_pos hfr, if_pos hbit])
                  rw [hbit] at hbt
                  have hb1 : bits BinOp.and IntKind.u64 ((x.u : Int) / 2 ^ k) 1 = 1 := hbt
                  clear hmem hfr hbit HS hbt HFI0 HFR0
                  go_wp2_with (first | (go_at_call 23; refine Calls.mono (HFI.out _ (HR.out.below HB.out.below)) ?_; rintro e w_ ⟨rfl, hb_⟩; replace HB := Lib.hid (HB.out.call hb_); clear hb_) | (go_at_call 15; refine Calls.mono (HFR.out _) ?_; rintro e w_ ⟨rfl, hb_⟩; replace HB := Lib.hid (HB.out.call hb_); clear hb_) | ((with_reducible refine Kx.loadg_gate ?_); first | (refine wpList_loadg_any 25 _ rfl (ad.add (i * 3)) rfl (vv x) _ (fun j v hv => HB.out.old (HC.out j v hv)) Try.underlying25 rfl hi rfl ?_) | (refine wpList_loadg_cell 23 _ rfl _ rfl (Try.isAgg23 _) _ (HB.out.old HU.out) rfl ?_)))
                  go_roundg (gk - 1)
                  case measure => omega
                  case rel => exact ⟨i + 1, by omega, by rw [HE.out]; go_num, by go_num, HB⟩
                · have HE : Hid (Tm.cnt (l.take (i + 1)) obs now fr k = Tm.cnt (l.take i) obs now fr k) := Lib.hid (by rw [HS.out, if_neg hmem, if_pos hfr, if_neg hbit]; rfl)
                  rw [show x.u.testBit k = false by simpa using hbit] at hbt
                  have hb1 : bits BinOp.and IntKind.u64 ((x.u : Int) / 2 ^ k) 1 = 0 := hbt
                  clear hmem hfr hbit HS hbt HFI0 HFR0
                  go_wp2_with (first | (go_at_call 23; refine Calls.mono (HFI.out _ (HR.out.below HB.out.below)) ?_; rintro e w_ ⟨rfl, hb_⟩; replace HB := Lib.hid (HB.out.call hb_); clear hb_) | (go_at_call 15; refine Calls.mono (HFR.out _) ?_; rintro e w_ ⟨rfl, hb_⟩; replace HB := Lib.hid (HB.out.call hb_); clear hb_) | ((with_reducible refine Kx.loadg_gate ?_); first | (refine wpList_loadg_any 25 _ rfl (ad.add (i * 3)) rfl (vv x) _ (fun j v hv => HB.out.old (HC.out j v hv)) Try.underlying25 rfl hi rfl ?_) | (refine wpList_loadg_cell 23 _ rfl _ rfl (Try.isAgg23 _) _ (HB.out.old HU.out) rfl ?_)))
                  go_roundg (gk - 1)
                  case measure => omega
                  case rel => exact ⟨i + 1, by omega, by rw [HE.out], by go_num, HB⟩
              · have HFR : Hid (∀ W, Calls Try.prog 15 #[.agg (vv x).toArray, .int .i64 obs, .int .i64 now, .int .i64 fr] W fun e w' => e = .returned (.bool false) ∧ Below W.heap.size W w') := Lib.hid (fun W => by have := HFR0.out W; rwa [show Tm.fresh obs now fr x = false by simpa using hfr] at this)
                have HE : Hid (Tm.cnt (l.take (i + 1)) obs now fr k = Tm.cnt (l.take i) obs now fr k) := Lib.hid (by rw [HS.out, if_neg hmem, if_neg hfr]; rfl)
                clear hmem hfr HS hbt HFI0 HFR0
                go_wp2_with (first | (go_at_call 23; refine Calls.mono (HFI.out _ (HR.out.below HB.out.below)) ?_; rintro e w_ ⟨rfl, hb_⟩; replace HB := Lib.hid (HB.out.call hb_); clear hb_) | (go_at_call 15; refine Calls.mono (HFR.out _) ?_; rintro e w_ ⟨rfl, hb_⟩; replace HB := Lib.hid (HB.out.call hb_); clear hb_) | ((with_reducible refine Kx.loadg_gate ?_); first | (refine wpList_loadg_any 25 _ rfl (ad.add (i * 3)) rfl (vv x) _ (fun j v hv => HB.out.old (HC.out j v hv)) Try.underlying25 rfl hi rfl ?_) | (refine wpList_loadg_cell 23 _ rfl _ rfl (Try.isAgg23 _) _ (HB.out.old HU.out) rfl ?_)))
                go_roundg (gk - 1)
                case measure => omega
                case rel => exact ⟨i + 1, by omega, by rw [HE.out], by go_num, HB⟩
          · obtain rfl : i = n := by omega
            have d5 : decide ((i : Int) < (i : Int)) = false := by simp
            have e : l.take i = l := List.take_of_length_le (by rw [HN.out]; exact Nat.le_refl _)
            rw [e]
            have hcl : Tm.cnt l obs now fr k ≤ 100000 := Nat.le_trans (Tm.cnt_le _ _ _ _ _) (by rw [HN.out]; exact hm)
            have hw2 : IntKind.i64.wrap (obs - (Tm.cnt l obs now fr k : Int)) = obs - (Tm.cnt l obs now fr k : Int) := by rw [IntKind.wrap_i64]; omega
            have HO := Lib.hid (or_bit (mask_small obs (Tm.cnt l obs now fr) (k := k) (by omega)) hlt)
            by_cases hgt : obs < 2 * (Tm.cnt l obs now fr k : Int)
            · have HE := Lib.hid (mask_pos hgt)
              have hd : decide (obs - (Tm.cnt l obs now fr k : Int) < (Tm.cnt l obs now fr k : Int)) = true := by simp; omega
              clear hgt hcl e
              go_wp2_with fail
              go_roundg (g0 - 1)
              case measure => omega
              case rel => exact ⟨k + 1, by omega, by rw [HE.out, HO.out], by go_num, HB⟩
            · have HE := Lib.hid (mask_neg hgt)
              have hd : decide (obs - (Tm.cnt l obs now fr k : Int) < (Tm.cnt l obs now fr k : Int)) = false := by simp; omega
              clear hgt hcl e
              go_wp2_with fail
              go_roundg (g0 - 1)
              case measure => omega
              case rel => exact ⟨k + 1, by omega, by rw [HE.out], by go_num, HB⟩
      · obtain rfl : k = 64 := by omega
        go_wp2_with fail
        go_ret
        exact ⟨rfl, HB.out.below⟩
end Go.Proofs.Ytpchkhphpcopkaa
