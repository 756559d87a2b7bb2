/- A message's body: the document's. -/
import Derived.Test.YtpgfnhdaembhmaaDoorMg
import Derived.Test.YtpgfnhdaembhmaaDoorMf
import Derived.Test.YtpgfnhdaembhmaaDoorBQt
namespace Go.Proofs.YtpgfnhdaembhmaaDoor
open Go.RowKit Go.Shelf

/-- append, as one operation of a region, with a word on the new row's block -/
theorem op_app2 {P : Program} {Q : Exit → Act → World → Prop} {K : Act → World → Prop} {w : World} {a : Act} {o : Oper} (s x : Operand) (t : TypeId) (ho : o.op = .call { callee := .builtin .append, args := #[s, x], argTypes := #[t, t] })
    (base : Nat) (e : TypeId) (i : TypeInfo) (z : Value) (bytes : Nat) (ht : P.underlying t = some (.slice e)) (hi : P.info? e = some i) (hz : i.zero = some z) (hsize : i.size = 1) (hby : i.bytes = bytes) (hzs : z.cells.size = 1)
    (v : Value) (n : Nat) (xs : List Value) (hs : a.eval s = v) (hown : w.ownsRow base e 1 v n xs)
    (B : Nat) (A : Option Addr) (m c : Nat) (news : List Value) (hx : a.eval x = .slice A m c) (hm : news.length = m) (hr : Rd w B A news) (h1 : ∀ u ∈ news, u.oneCell' = true)
    (h63 : n + m ≤ maxLen) (hbytes : (n + m) * bytes ≤ 140737488355328) (hbase : base ≤ w.heap.size)
    (h : ∀ v' w', w'.ownsRow base e 1 v' (n + m) (xs ++ news) → w.grownBy w' v.ownBlock → (v'.ownBlock = v.ownBlock ∨ v'.ownBlock = some w.heap.size) → K (a.put o.dst v') w') : o.wp P a w K Q := by
  obtain ⟨v', w', hrun, h2, h3, h4⟩ := run_app (P := P) w base t o.type e i z bytes ht hi hz hsize hby hzs v n xs hown B A m c news hm hr h1 h63 hbytes hbase
  unfold Oper.wp execOp
  simp only [ho, resolve, invoke, builtin, Sem.run_bind, Sem.run_pure, Result.andThen_ok, List.map_toArray, List.map_cons, List.map_nil, hs, hx, hrun]
  exact h v' w' h2 h3 h4
/-- a row in blocks from base to B is left alone by an append to another row -/
theorem Rd.app {w w' : World} {B base : Nat} {A : Option Addr} {vs : List Value} {v : Value} (h : Rd w B A vs) (hf : Fr base A) (hg : w.grownBy w' v.ownBlock) (hb : ∀ k, v.ownBlock = some k → k < base ∨ B ≤ k) (hB : B ≤ w.heap.size) : Rd w' B A vs := fun j u hj => by
  obtain ⟨ad, e, hl, hc⟩ := h j u hj
  have h1 := hf ad e
  exact ⟨ad, e, hl, (World.cell?_of_block (by rw [addr_add_block]; exact hg.block _ (by omega) (fun q => by have := hb _ q.symm; omega))).trans hc⟩

set_option maxRecDepth 100000 in
set_option maxHeartbeats 4000000 in
theorem RMBody_any (x : Mm.Ms) (l : Lo) (B : Nat) (w : World) (hp : MsAt w B x l) (hB : B ≤ w.heap.size) :
    Calls Tryd.prog 13 #[mv x l] w fun e w' => ∃ v, e = .returned (.tuple #[.int .u8 x.bodyE.1, v, .int .i64 x.bodyE.2.2]) ∧ w'.ownsRow w.heap.size 5 1 v x.bodyE.2.1.length (u8s x.bodyE.2.1) ∧ Below w.heap.size w w' := by
  have hx1 := Mx.new w x l 30
  have hb1 : Hid (Below w.heap.size w (w.alloc (.cells (mvs x l).toArray 30))) := (Below.refl _ w).alloc (Nat.le_refl _) _
  have hz1 : (w.alloc (.cells (mvs x l).toArray 30)).heap.size = w.heap.size + 1 := World.size_alloc ..
  have HX := Lib.hid (fun (W : World) (h : Below (w.heap.size + 1) (w.alloc (.cells (mvs x l).toArray 30)) W) => (hx1.below h (Nat.lt_succ_self _) : Mx W w.heap.size x l))
  have HR : Hid (∀ (W : World), Below (w.heap.size + 1) (w.alloc (.cells (mvs x l).toArray 30)) W → W.rangeAt w.heap.size 0 (mvs x l)) := HX.out
  have hC1 := Lib.hid (Below.refl (w.heap.size + 1) (w.alloc (.cells (mvs x l).toArray 30)))
  have HRI := Lib.hid (RMRight_any x l B (w.alloc (.cells (mvs x l).toArray 30)) (hp.below hb1.out hB) (by rw [hz1]; omega))
  have HRP := Lib.hid (fun (W : World) (h : Below w.heap.size w W) => RPut_any x.plan l.A1 l.n1 l.c1 l.A2 l.n2 l.c2 B W (hp.pl.below h hB) (Nat.le_trans hB h.size))
  have hlen := Lib.hid (info_mv x l)
  have HP := Lib.hid hp
  have HEN : Hid (i64s x.nums = [.int .i64 x.f, .int .i64 x.t, .int .i64 x.e, .int .i64 x.b, .int .i64 x.a, .int .i64 x.n, .int .i64 x.ti, .int .i64 (wrap64 x.up), .int .i64 x.co, .int .i64 (Mm.one x.has)]) := by
    rw [sgw hp.ok.up]; exact Lib.hid rfl
  have HZ1 := Lib.hid hz1
  unfold mv at HRI ⊢
  generalize mvs x l = L at *
  clear hx1 hp hz1
  go_enter Tryd.func13, Tryd.ntmps13
  go_wp2_with (first | (refine wpList_load_mid rfl 30 _ rfl w.heap.size 0 rfl L _ (HR.out _ hC1.out) Tryd.underlying30 rfl hlen.out ?_) | (go_at_call 15; fail))
  refine HRI.out.mono ?_
  rintro e w2 ⟨rfl, hb2'⟩
  have hC2 : Hid (Below (w.heap.size + 1) (w.alloc (.cells L.toArray 30)) w2) := hb2'.mono (by rw [HZ1.out]; exact Nat.le_refl _)
  clear hb2' HRI
  cases hr : x.right with
  | false =>
    have HE := Lib.hid (Mm.bodyE_no hr)
    clear hr
    go_wp2
    go_ret3
    rw [HE.out]
    exact ⟨_, rfl, own_none, hb1.out.trans (hC2.out.mono (Nat.le_succ _))⟩
  | true =>
    have HE := Lib.hid (Mm.bodyE_ok hr)
    obtain ⟨k1, k2, -, -, -, -, -, -, i3, s64, p1024⟩ := Mm.right_iff.1 hr
    have hk8 : IntKind.u8.wrap x.k = x.k := by simp [IntKind.wrap, IntKind.signed, IntKind.bits]; omega
    have hbl := Lib.hid (Mm.body_len hr)
    clear hr k1 k2
    have hz2 := hC2.out.size
    rw [HZ1.out] at hz2
    have HBD : Hid (x.body = Wm.pintsU x.nums x.nums.length ++ (x.ptx ++ (Wm.pintsU x.id x.id.length ++ (Wm.ptext x.se ++ Wm.ptext x.pa)))) := rfl
    have HPTX : Hid (x.ptx = if x.has then Wm.ptext x.plan.put.1 else []) := rfl
    have hPI := RPutInts_all (some ⟨w2.heap.size, 0, none⟩) 10 10 (w2.heap.size + 1) x.nums (w2.alloc (.cells (i64s x.nums).toArray 2)) (Rd.new w2 (w2.heap.size + 1) (i64s x.nums) 2 (0, 0) (by omega)) rfl (Mm.Ms.nums_fit HP.out.ok) (by rw [World.size_alloc]; exact Nat.le_refl _)
    have hC3 : Below (w.heap.size + 1) (w.alloc (.cells L.toArray 30)) (w2.alloc (.cells (i64s x.nums).toArray 2)) := hC2.out.alloc hz2 _
    have hz3 : (w2.alloc (.cells (i64s x.nums).toArray 2)).heap.size = w2.heap.size + 1 := World.size_alloc ..
    rw [Wm.pintsE_ok (by rw [Mm.nums_len]; decide)] at hPI
    rw [HEN.out] at hPI hC3 hz3
    have HPI := Lib.hid hPI
    have HC3 := Lib.hid hC3
    have HZ3 := Lib.hid hz3
    clear hPI hC3 hz3
    have q1 := (HX.out _ hC2.out).at 1 rfl
    have q2 := (HX.out _ hC2.out).at 2 rfl
    have q3 := (HX.out _ hC2.out).at 3 rfl
    have q4 := (HX.out _ hC2.out).at 4 rfl
    have q5 := (HX.out _ hC2.out).at 5 rfl
    have q6 := (HX.out _ hC2.out).at 6 rfl
    have q7 := (HX.out _ hC2.out).at 7 rfl
    have q8 := (HX.out _ hC2.out).at 8 rfl
    have q9 := (HX.out _ hC2.out).at 9 rfl
    have q10 := (HX.out _ hC2.out).at 10 rfl
    cases hh : x.has
    all_goals
      rw [hh] at HPI HC3 HZ3 HPTX q10
      go_wp2_with (go_at_call 29; fail)
    all_goals
      refine HPI.out.mono ?_
      rintro e w4 ⟨v4, rfl, hown4, hb4⟩
      have hC4 := Lib.hid (HC3.out.trans (hb4.mono (by rw [HZ3.out]; omega)))
      have hz4 : w2.heap.size + 1 ≤ w4.heap.size := by have := hb4.size; rw [HZ3.out] at this; exact this
      rw [HZ3.out] at hown4
      have HO4 := Lib.hid hown4
      have HW := Lib.hid (fun (W : World) (h : Below (w.heap.size + 1) (w.alloc (.cells L.toArray 30)) W) => hb1.out.trans (h.mono (Nat.le_succ _)))
      have hpl0 := Lib.hid (Wm.pintsU_len x.nums x.nums.length)
      obtain ⟨i0, hi, hy0, hy1, hy2⟩ := info_parts info_u8
      clear hown4 hb4 HPI HC3 HZ3 q1 q2 q3 q4 q5 q6 q7 q8 q9 q10
    ·
      have HO5' : (w4.ownsRow (w2.heap.size + 1) 5 1 v4 (Wm.pintsU x.nums x.nums.length ++ x.ptx).length (u8s (Wm.pintsU x.nums x.nums.length ++ x.ptx))) := by
        rw [HPTX.out]; simpa using HO4.out
      have HO5 := Lib.hid HO5'
      have q10 := (HX.out _ hC4.out).at 10 rfl
      rw [hh] at q10
      have hCA := hC4
      have hOA := HO5
      have hzA := hz4
      have k23 := (HX.out _ hCA.out).id
      have HPI2 := Lib.hid (RPutInts_all l.A3 l.n3 l.c3 B x.id w4 (HP.out.r3.below ((HW.out _ hCA.out).mono hB)) HP.out.l3 HP.out.ok.id (Nat.le_trans hB (HW.out _ hCA.out).size))
      rw [Wm.pintsE_ok (by omega)] at HPI2
      go_wp2_with (go_at_call 29; fail)
      refine HPI2.out.mono ?_
      rintro e wi ⟨vi, rfl, howni, hbi⟩
      obtain ⟨Ai, ci, rfl, -, -, hrdi⟩ := own_view howni
      have hfi := Lib.hid (own_fr howni)
      have hCi := Lib.hid (hCA.out.trans (hbi.mono (by omega)))
      have hOi := Lib.hid (own_below hOA.out hbi (Nat.le_refl _))
      have hzi := hbi.size
      have hRi := Lib.hid hrdi
      have hgA := Lib.hid (fun k hk => (hOA.out.lt k hk).2)
      clear howni hbi hrdi HPI2 k23
      have k24 := (HX.out _ hCi.out).se
      have HPT2 := Lib.hid (RPutText_all l.A4 l.n4 l.c4 B x.se wi (HP.out.r4.below ((HW.out _ hCi.out).mono hB)) HP.out.l4 (Nat.le_trans hB (HW.out _ hCi.out).size))
      rw [Wm.ptextE_ok (by omega)] at HPT2
      go_wp2_with (go_at_call 31; fail)
      refine HPT2.out.mono ?_
      rintro e ws ⟨vs, rfl, howns, hbs⟩
      obtain ⟨As, cs, rfl, -, -, hrds⟩ := own_view howns
      have hfs := Lib.hid ((own_fr howns).mono hzi)
      have hCs := Lib.hid (hCi.out.trans (hbs.mono (by omega)))
      have hOs := Lib.hid (own_below hOi.out hbs (Nat.le_refl _))
      have hRi2 := Lib.hid (hRi.out.below hbs)
      have hRs := Lib.hid hrds
      have hzs := hbs.size
      clear howns hbs hrds HPT2 k24 hRi hOi
      have k25 := (HX.out _ hCs.out).pa
      have HPT3 := Lib.hid (RPutText_all l.A5 l.n5 l.c5 B x.pa ws (HP.out.r5.below ((HW.out _ hCs.out).mono hB)) HP.out.l5 (Nat.le_trans hB (HW.out _ hCs.out).size))
      rw [Wm.ptextE_ok (by omega)] at HPT3
      go_wp2_with (go_at_call 31; fail)
      refine HPT3.out.mono ?_
      rintro e wp ⟨vp, rfl, hownp, hbp⟩
      obtain ⟨Ap, cp, rfl, -, -, hrdp⟩ := own_view hownp
      have hfp := Lib.hid ((own_fr hownp).mono (Nat.le_trans hzi hzs))
      have hCp := Lib.hid (hCs.out.trans (hbp.mono (by omega)))
      have hOp := Lib.hid (own_below hOs.out hbp (Nat.le_refl _))
      have hRi3 := Lib.hid ((hRi2.out.below (hbp.mono hzs)).more (Nat.le_trans hzs hbp.size))
      have hRs3 := Lib.hid ((hRs.out.below hbp).more hbp.size)
      have hRp := Lib.hid hrdp
      have hzp := hbp.size
      clear hownp hbp hrdp HPT3 k25 hRi2 hRs hOs
      go_wp2_with fail
      refine region_C (fun W => Below (w.heap.size + 1) (w.alloc (.cells L.toArray 30)) W) (by kernel_rfl) ?_
      have hC := hCp.out.drew
      refine anyC_take (i := 0) (v := ?v0_470) (a' := ?a0_470) rfl (by kernel_rfl) (by kernel_rfl) (by kernel_rfl) (fun _ _ _ h => h) hC ?w0_470 ?y0_470 ?f0_470 ?r0_470
      case w0_470 => kernel_rfl
      case y0_470 => (intro w hC; go_simp; try with_reducible rfl)
      case f0_470 => (go_simp; try with_reducible rfl)
      refine anyC_take (i := 3) (v := ?v3_471) (a' := ?a3_471) rfl (by kernel_rfl) (by kernel_rfl) (by kernel_rfl) (fun _ _ _ h => h) hC ?w3_471 ?y3_471 ?f3_471 ?r3_471
      case w3_471 => kernel_rfl
      case y3_471 => (intro w hC; go_simp; try with_reducible rfl)
      case f3_471 => (go_simp; try with_reducible rfl)
      refine anyC_take (i := 4) (v := ?v4_472) (a' := ?a4_472) rfl (by kernel_rfl) (by kernel_rfl) (by kernel_rfl) (fun _ _ _ h => h) hC ?w4_472 ?y4_472 ?f4_472 ?r4_472
      case w4_472 => kernel_rfl
      case y4_472 => (intro w hC; go_simp; try with_reducible rfl)
      case f4_472 => (go_simp; try with_reducible rfl)
      refine anyC_take (i := 6) (v := ?v6_473) (a' := ?a6_473) rfl (by kernel_rfl) (by kernel_rfl) (by kernel_rfl) (fun _ _ _ h => h) hC ?w6_473 ?y6_473 ?f6_473 ?r6_473
      case w6_473 => kernel_rfl
      case y6_473 => (intro w hC; go_simp; try with_reducible rfl)
      case f6_473 => (go_simp; try with_reducible rfl)
      refine anyC_take (i := 8) (v := ?v8_474) (a' := ?a8_474) rfl (by kernel_rfl) (by kernel_rfl) (by kernel_rfl) (fun _ _ _ h => h) hC ?w8_474 ?y8_474 ?f8_474 ?r8_474
      case w8_474 => kernel_rfl
      case y8_474 => (intro w hC; go_simp; try with_reducible rfl)
      case f8_474 => (go_simp; try with_reducible rfl)
      refine anyC_take (i := 1) (v := ?v1_475) (a' := ?a1_475) rfl (by kernel_rfl) (by kernel_rfl) (by kernel_rfl) (fun _ _ _ h => h) hC ?w1_475 ?y1_475 ?f1_475 ?r1_475
      case w1_475 => kernel_rfl
      case y1_475 => (intro w hC; have h4 := (HX.out w hC).at 0 rfl; go_simp; try with_reducible rfl)
      case f1_475 => (go_simp; try with_reducible rfl)
      refine anyC_take (i := 2) (v := ?v2_476) (a' := ?a2_476) rfl (by kernel_rfl) (by kernel_rfl) (by kernel_rfl) (fun _ _ _ h => h) hC ?w2_476 ?y2_476 ?f2_476 ?r2_476
      case w2_476 => kernel_rfl
      case y2_476 => (intro w hC; go_simp; try with_reducible rfl)
      case f2_476 => (go_simp; try with_reducible rfl)
      have hb5 : (Wm.pintsU x.nums x.nums.length ++ x.ptx).length + (Wm.pintsU x.id x.id.length).length + (Wm.ptext x.se).length + (Wm.ptext x.pa).length ≤ 8192 := by
        have := hbl.out
        rw [HBD.out] at this
        simp only [List.length_append] at this ⊢
        omega
      have hd := (Below.refl wp.heap.size wp).drew
      have hod := own_below hOp.out hd (Nat.le_refl _)
      have hzd : w2.heap.size + 1 ≤ wp.drew.heap.size := by have := hd.size; omega
      have hsd : w.heap.size + 1 ≤ wp.drew.heap.size := by omega
      have hRid := hRi3.out.below hd
      have hRsd := hRs3.out.below hd
      have hRpd := hRp.out.below hd
      have hzw : wp.heap.size ≤ wp.drew.heap.size := hd.size
      refine anyC_one (i := 5) rfl (by kernel_rfl) (by kernel_rfl) (fun K hK => ?_)
      refine op_app2 _ _ 28 rfl (w2.heap.size + 1) 5 i0 (.int .u8 0) 1 Tryd.underlying28 hi hy0 hy1 hy2 rfl _ _ _ rfl hod wp.heap.size Ai _ ci (u8s (Wm.pintsU x.id x.id.length)) rfl (by rw [List.length_map]) hRid (oneCell_ints _ _) (by unfold maxLen; omega) (by omega) hzd ?_
      intro va wa howna hgrowa honea
      have hCa := below_app hC (own_mono hod (by omega)) hgrowa hsd
      have hRsa := Lib.hid (hRsd.app hfs.out hgrowa (fun k hk => .inl (hgA.out k hk)) hzw)
      have hRpa := Lib.hid (hRpd.app hfp.out hgrowa (fun k hk => .inl (hgA.out k hk)) hzw)
      have hza := Nat.le_trans hzw hgrowa.size
      have hOa := Lib.hid howna
      have hOne := Lib.hid honea
      refine hK _ _ ⟨hCa, ?_⟩
      clear hK K hRid hRsd hRpd howna hgrowa honea hod
      go_simp
      refine anyC_one (i := 7) rfl (by kernel_rfl) (by kernel_rfl) (fun K hK => ?_)
      refine op_app2 _ _ 28 rfl (w2.heap.size + 1) 5 i0 (.int .u8 0) 1 Tryd.underlying28 hi hy0 hy1 hy2 rfl _ _ _ rfl hOa.out wp.heap.size As _ cs (u8s (Wm.ptext x.se)) rfl (by rw [List.length_map]) hRsa.out (oneCell_ints _ _) (by unfold maxLen; omega) (by omega) (by omega) ?_
      intro vb wb hownb hgrowb honeb
      have hCb := below_app hCa (own_mono hOa.out (by omega)) hgrowb (by omega)
      have hRpb := Lib.hid (hRpa.out.app hfp.out hgrowb (fun k hk => by
        have hk' : va.ownBlock = some k := hk
        rcases hOne.out with q | q
        · exact .inl (hgA.out k (q.symm.trans hk'))
        · rw [q] at hk'
          injection hk' with hk'
          exact .inr (by omega)) hza)
      have hzb := Nat.le_trans hza hgrowb.size
      have hOb := Lib.hid hownb
      refine hK _ _ ⟨hCb, ?_⟩
      clear hK K hownb hgrowb honeb
      go_simp
      refine anyC_one (i := 9) rfl (by kernel_rfl) (by kernel_rfl) (fun K hK => ?_)
      refine op_app2 _ _ 28 rfl (w2.heap.size + 1) 5 i0 (.int .u8 0) 1 Tryd.underlying28 hi hy0 hy1 hy2 rfl _ _ _ rfl hOb.out wp.heap.size Ap _ cp (u8s (Wm.ptext x.pa)) rfl (by rw [List.length_map]) hRpb.out (oneCell_ints _ _) (by unfold maxLen; omega) (by omega) (by omega) ?_
      intro vc wc hownc hgrowc honec
      have hCc := below_app hCb (own_mono hOb.out (by omega)) hgrowc (by omega)
      have hOF' : wc.ownsRow (w2.heap.size + 1) 5 1 vc x.body.length (u8s x.body) := by
        rw [HBD.out]
        simpa [u8s, List.append_assoc, Nat.add_assoc] using hownc
      have hOF := Lib.hid hOF'
      refine hK _ _ ⟨hCc, ?_⟩
      clear hK K hownc hgrowc honec hOF'
      go_simp
      refine anyC_take (i := 10) (v := ?v10_477) (a' := ?a10_477) rfl (by kernel_rfl) (by kernel_rfl) (by kernel_rfl) (fun _ _ _ h => h) hCc ?w10_477 ?y10_477 ?f10_477 ?r10_477
      case w10_477 => kernel_rfl
      case y10_477 => (intro w hC; go_simp; try with_reducible rfl)
      case f10_477 => (go_simp; try with_reducible rfl)
      refine anyC_take (i := 11) (v := ?v11_478) (a' := ?a11_478) rfl (by kernel_rfl) (by kernel_rfl) (by kernel_rfl) (fun _ _ _ h => h) hCc ?w11_478 ?y11_478 ?f11_478 ?r11_478
      case w11_478 => kernel_rfl
      case y11_478 => (intro w hC; go_simp; try with_reducible rfl)
      case f11_478 => (go_simp; try with_reducible rfl)
      refine anyC_take (i := 12) (v := ?v12_479) (a' := ?a12_479) rfl (by kernel_rfl) (by kernel_rfl) (by kernel_rfl) (fun _ _ _ h => h) hCc ?w12_479 ?y12_479 ?f12_479 ?r12_479
      case w12_479 => kernel_rfl
      case y12_479 => (intro w hC; go_simp; try with_reducible rfl)
      case f12_479 => (go_simp; try with_reducible rfl)
      refine anyC_done (by kernel_rfl) ?_
      go_wp2
      go_ret3
      rw [HE.out]
      exact ⟨_, rfl, own_mono hOF.out (by omega), HW.out _ hCc⟩
    ·
      have q10 := (HX.out _ hC4.out).at 10 rfl
      rw [hh] at q10
      have HPLN := Lib.hid (HX.out _ hC4.out).plan
      have HRP4 := Lib.hid (HRP.out w4 (HW.out _ hC4.out))
      go_wp2_with (first | (refine wpList_load_mid rfl 27 _ rfl w.heap.size 11 rfl _ _ HPLN.out Tryd.underlying27 rfl info_plan ?_) | (go_at_call 30; fail))
      refine HRP4.out.mono ?_
      rintro e w5 ⟨v5, rfl, hown5, hb5⟩
      obtain ⟨A5, c5, rfl, hcp5, hcm5, hrd5⟩ := own_view hown5
      have HPT := Lib.hid (RPutText_all A5 _ c5 w5.heap.size x.plan.put.1 w5 hrd5 rfl (Nat.le_refl _))
      have hpp := Pm.put_len (x := x.plan)
      rw [Wm.ptextE_ok (by omega)] at HPT
      have hC5 := hC4.out.trans (hb5.mono (by omega))
      have hO5 := own_below HO4.out hb5 (Nat.le_refl _)
      have hz5 := Nat.le_trans hz4 hb5.size
      clear hown5 hb5 hrd5 HRP4 HPLN q10
      go_wp2_with (go_at_call 31; fail)
      refine HPT.out.mono ?_
      rintro e w6 ⟨v6, rfl, hown6, hb6⟩
      obtain ⟨A6, c6, rfl, hcp6, hcm6, hrd6⟩ := own_view hown6
      have hC6 := hC5.trans (hb6.mono (by omega))
      have hO6 := own_below hO5 hb6 (Nat.le_refl _)
      have hz6 := Nat.le_trans hz5 hb6.size
      have hl6 := Wm.ptext_len x.plan.put.1
      have hl0 := hpl0.out
      have hn0 := Mm.nums_len x
      clear hown6 hb6 HPT hO5
      go_wp2_with (at_builtin; go_must (refine wpList_app rfl _ _ 28 rfl (w2.heap.size + 1) 5 i0 (.int .u8 0) 1 Tryd.underlying28 hi hy0 hy1 hy2 rfl _ _ _ rfl hO6 w6.heap.size A6 _ c6 (u8s (Wm.ptext x.plan.put.1)) rfl (by rw [List.length_map]) hrd6 (oneCell_ints _ _) (by unfold maxLen; omega) (by omega) hz6 ?_); intro v7 w7 hown7 hgrow7 hone7; have hCA := Lib.hid (below_app hC6 (own_mono hO6 (by omega)) hgrow7 (by have := hC6.size; rwa [HZ1.out] at this)); have k23 := (HX.out _ hCA.out).id)
      have hRR' : (w7.ownsRow (w2.heap.size + 1) 5 1 v7 (Wm.pintsU x.nums x.nums.length ++ x.ptx).length (u8s (Wm.pintsU x.nums x.nums.length ++ x.ptx))) := by
        rw [HPTX.out]; simpa [u8s] using hown7
      have hRR := Lib.hid hRR'
      have hOA := hRR
      have hzA := Nat.le_trans hz6 hgrow7.size
      clear hown7 hgrow7 hone7 hrd6 hC6 hC5 hO6
      have HPI2 := Lib.hid (RPutInts_all l.A3 l.n3 l.c3 B x.id w7 (HP.out.r3.below ((HW.out _ hCA.out).mono hB)) HP.out.l3 HP.out.ok.id (Nat.le_trans hB (HW.out _ hCA.out).size))
      rw [Wm.pintsE_ok (by omega)] at HPI2
      go_wp2_with (go_at_call 29; fail)
      refine HPI2.out.mono ?_
      rintro e wi ⟨vi, rfl, howni, hbi⟩
      obtain ⟨Ai, ci, rfl, -, -, hrdi⟩ := own_view howni
      have hfi := Lib.hid (own_fr howni)
      have hCi := Lib.hid (hCA.out.trans (hbi.mono (by omega)))
      have hOi := Lib.hid (own_below hOA.out hbi (Nat.le_refl _))
      have hzi := hbi.size
      have hRi := Lib.hid hrdi
      have hgA := Lib.hid (fun k hk => (hOA.out.lt k hk).2)
      clear howni hbi hrdi HPI2 k23
      have k24 := (HX.out _ hCi.out).se
      have HPT2 := Lib.hid (RPutText_all l.A4 l.n4 l.c4 B x.se wi (HP.out.r4.below ((HW.out _ hCi.out).mono hB)) HP.out.l4 (Nat.le_trans hB (HW.out _ hCi.out).size))
      rw [Wm.ptextE_ok (by omega)] at HPT2
      go_wp2_with (go_at_call 31; fail)
      refine HPT2.out.mono ?_
      rintro e ws ⟨vs, rfl, howns, hbs⟩
      obtain ⟨As, cs, rfl, -, -, hrds⟩ := own_view howns
      have hfs := Lib.hid ((own_fr howns).mono hzi)
      have hCs := Lib.hid (hCi.out.trans (hbs.mono (by omega)))
      have hOs := Lib.hid (own_below hOi.out hbs (Nat.le_refl _))
      have hRi2 := Lib.hid (hRi.out.below hbs)
      have hRs := Lib.hid hrds
      have hzs := hbs.size
      clear howns hbs hrds HPT2 k24 hRi hOi
      have k25 := (HX.out _ hCs.out).pa
      have HPT3 := Lib.hid (RPutText_all l.A5 l.n5 l.c5 B x.pa ws (HP.out.r5.below ((HW.out _ hCs.out).mono hB)) HP.out.l5 (Nat.le_trans hB (HW.out _ hCs.out).size))
      rw [Wm.ptextE_ok (by omega)] at HPT3
      go_wp2_with (go_at_call 31; fail)
      refine HPT3.out.mono ?_
      rintro e wp ⟨vp, rfl, hownp, hbp⟩
      obtain ⟨Ap, cp, rfl, -, -, hrdp⟩ := own_view hownp
      have hfp := Lib.hid ((own_fr hownp).mono (Nat.le_trans hzi hzs))
      have hCp := Lib.hid (hCs.out.trans (hbp.mono (by omega)))
      have hOp := Lib.hid (own_below hOs.out hbp (Nat.le_refl _))
      have hRi3 := Lib.hid ((hRi2.out.below (hbp.mono hzs)).more (Nat.le_trans hzs hbp.size))
      have hRs3 := Lib.hid ((hRs.out.below hbp).more hbp.size)
      have hRp := Lib.hid hrdp
      have hzp := hbp.size
      clear hownp hbp hrdp HPT3 k25 hRi2 hRs hOs
      go_wp2_with fail
      refine region_C (fun W => Below (w.heap.size + 1) (w.alloc (.cells L.toArray 30)) W) (by kernel_rfl) ?_
      have hC := hCp.out.drew
      refine anyC_take (i := 0) (v := ?v0_480) (a' := ?a0_480) rfl (by kernel_rfl) (by kernel_rfl) (by kernel_rfl) (fun _ _ _ h => h) hC ?w0_480 ?y0_480 ?f0_480 ?r0_480
      case w0_480 => kernel_rfl
      case y0_480 => (intro w hC; go_simp; try with_reducible rfl)
      case f0_480 => (go_simp; try with_reducible rfl)
      refine anyC_take (i := 3) (v := ?v3_481) (a' := ?a3_481) rfl (by kernel_rfl) (by kernel_rfl) (by kernel_rfl) (fun _ _ _ h => h) hC ?w3_481 ?y3_481 ?f3_481 ?r3_481
      case w3_481 => kernel_rfl
      case y3_481 => (intro w hC; go_simp; try with_reducible rfl)
      case f3_481 => (go_simp; try with_reducible rfl)
      refine anyC_take (i := 4) (v := ?v4_482) (a' := ?a4_482) rfl (by kernel_rfl) (by kernel_rfl) (by kernel_rfl) (fun _ _ _ h => h) hC ?w4_482 ?y4_482 ?f4_482 ?r4_482
      case w4_482 => kernel_rfl
      case y4_482 => (intro w hC; go_simp; try with_reducible rfl)
      case f4_482 => (go_simp; try with_reducible rfl)
      refine anyC_take (i := 6) (v := ?v6_483) (a' := ?a6_483) rfl (by kernel_rfl) (by kernel_rfl) (by kernel_rfl) (fun _ _ _ h => h) hC ?w6_483 ?y6_483 ?f6_483 ?r6_483
      case w6_483 => kernel_rfl
      case y6_483 => (intro w hC; go_simp; try with_reducible rfl)
      case f6_483 => (go_simp; try with_reducible rfl)
      refine anyC_take (i := 8) (v := ?v8_484) (a' := ?a8_484) rfl (by kernel_rfl) (by kernel_rfl) (by kernel_rfl) (fun _ _ _ h => h) hC ?w8_484 ?y8_484 ?f8_484 ?r8_484
      case w8_484 => kernel_rfl
      case y8_484 => (intro w hC; go_simp; try with_reducible rfl)
      case f8_484 => (go_simp; try with_reducible rfl)
      refine anyC_take (i := 1) (v := ?v1_485) (a' := ?a1_485) rfl (by kernel_rfl) (by kernel_rfl) (by kernel_rfl) (fun _ _ _ h => h) hC ?w1_485 ?y1_485 ?f1_485 ?r1_485
      case w1_485 => kernel_rfl
      case y1_485 => (intro w hC; have h4 := (HX.out w hC).at 0 rfl; go_simp; try with_reducible rfl)
      case f1_485 => (go_simp; try with_reducible rfl)
      refine anyC_take (i := 2) (v := ?v2_486) (a' := ?a2_486) rfl (by kernel_rfl) (by kernel_rfl) (by kernel_rfl) (fun _ _ _ h => h) hC ?w2_486 ?y2_486 ?f2_486 ?r2_486
      case w2_486 => kernel_rfl
      case y2_486 => (intro w hC; go_simp; try with_reducible rfl)
      case f2_486 => (go_simp; try with_reducible rfl)
      have hb5 : (Wm.pintsU x.nums x.nums.length ++ x.ptx).length + (Wm.pintsU x.id x.id.length).length + (Wm.ptext x.se).length + (Wm.ptext x.pa).length ≤ 8192 := by
        have := hbl.out
        rw [HBD.out] at this
        simp only [List.length_append] at this ⊢
        omega
      have hd := (Below.refl wp.heap.size wp).drew
      have hod := own_below hOp.out hd (Nat.le_refl _)
      have hzd : w2.heap.size + 1 ≤ wp.drew.heap.size := by have := hd.size; omega
      have hsd : w.heap.size + 1 ≤ wp.drew.heap.size := by omega
      have hRid := hRi3.out.below hd
      have hRsd := hRs3.out.below hd
      have hRpd := hRp.out.below hd
      have hzw : wp.heap.size ≤ wp.drew.heap.size := hd.size
      refine anyC_one (i := 5) rfl (by kernel_rfl) (by kernel_rfl) (fun K hK => ?_)
      refine op_app2 _ _ 28 rfl (w2.heap.size + 1) 5 i0 (.int .u8 0) 1 Tryd.underlying28 hi hy0 hy1 hy2 rfl _ _ _ rfl hod wp.heap.size Ai _ ci (u8s (Wm.pintsU x.id x.id.length)) rfl (by rw [List.length_map]) hRid (oneCell_ints _ _) (by unfold maxLen; omega) (by omega) hzd ?_
      intro va wa howna hgrowa honea
      have hCa := below_app hC (own_mono hod (by omega)) hgrowa hsd
      have hRsa := Lib.hid (hRsd.app hfs.out hgrowa (fun k hk => .inl (hgA.out k hk)) hzw)
      have hRpa := Lib.hid (hRpd.app hfp.out hgrowa (fun k hk => .inl (hgA.out k hk)) hzw)
      have hza := Nat.le_trans hzw hgrowa.size
      have hOa := Lib.hid howna
      have hOne := Lib.hid honea
      refine hK _ _ ⟨hCa, ?_⟩
      clear hK K hRid hRsd hRpd howna hgrowa honea hod
      go_simp
      refine anyC_one (i := 7) rfl (by kernel_rfl) (by kernel_rfl) (fun K hK => ?_)
      refine op_app2 _ _ 28 rfl (w2.heap.size + 1) 5 i0 (.int .u8 0) 1 Tryd.underlying28 hi hy0 hy1 hy2 rfl _ _ _ rfl hOa.out wp.heap.size As _ cs (u8s (Wm.ptext x.se)) rfl (by rw [List.length_map]) hRsa.out (oneCell_ints _ _) (by unfold maxLen; omega) (by omega) (by omega) ?_
      intro vb wb hownb hgrowb honeb
      have hCb := below_app hCa (own_mono hOa.out (by omega)) hgrowb (by omega)
      have hRpb := Lib.hid (hRpa.out.app hfp.out hgrowb (fun k hk => by
        have hk' : va.ownBlock = some k := hk
        rcases hOne.out with q | q
        · exact .inl (hgA.out k (q.symm.trans hk'))
        · rw [q] at hk'
          injection hk' with hk'
          exact .inr (by omega)) hza)
      have hzb := Nat.le_trans hza hgrowb.size
      have hOb := Lib.hid hownb
      refine hK _ _ ⟨hCb, ?_⟩
      clear hK K hownb hgrowb honeb
      go_simp
      refine anyC_one (i := 9) rfl (by kernel_rfl) (by kernel_rfl) (fun K hK => ?_)
      refine op_app2 _ _ 28 rfl (w2.heap.size + 1) 5 i0 (.int .u8 0) 1 Tryd.underlying28 hi hy0 hy1 hy2 rfl _ _ _ rfl hOb.out wp.heap.size Ap _ cp (u8s (Wm.ptext x.pa)) rfl (by rw [List.length_map]) hRpb.out (oneCell_ints _ _) (by unfold maxLen; omega) (by omega) (by omega) ?_
      intro vc wc hownc hgrowc honec
      have hCc := below_app hCb (own_mono hOb.out (by omega)) hgrowc (by omega)
      have hOF' : wc.ownsRow (w2.heap.size + 1) 5 1 vc x.body.length (u8s x.body) := by
        rw [HBD.out]
        simpa [u8s, List.append_assoc, Nat.add_assoc] using hownc
      have hOF := Lib.hid hOF'
      refine hK _ _ ⟨hCc, ?_⟩
      clear hK K hownc hgrowc honec hOF'
      go_simp
      refine anyC_take (i := 10) (v := ?v10_487) (a' := ?a10_487) rfl (by kernel_rfl) (by kernel_rfl) (by kernel_rfl) (fun _ _ _ h => h) hCc ?w10_487 ?y10_487 ?f10_487 ?r10_487
      case w10_487 => kernel_rfl
      case y10_487 => (intro w hC; go_simp; try with_reducible rfl)
      case f10_487 => (go_simp; try with_reducible rfl)
      refine anyC_take (i := 11) (v := ?v11_488) (a' := ?a11_488) rfl (by kernel_rfl) (by kernel_rfl) (by kernel_rfl) (fun _ _ _ h => h) hCc ?w11_488 ?y11_488 ?f11_488 ?r11_488
      case w11_488 => kernel_rfl
      case y11_488 => (intro w hC; go_simp; try with_reducible rfl)
      case f11_488 => (go_simp; try with_reducible rfl)
      refine anyC_take (i := 12) (v := ?v12_489) (a' := ?a12_489) rfl (by kernel_rfl) (by kernel_rfl) (by kernel_rfl) (fun _ _ _ h => h) hCc ?w12_489 ?y12_489 ?f12_489 ?r12_489
      case w12_489 => kernel_rfl
      case y12_489 => (intro w hC; go_simp; try with_reducible rfl)
      case f12_489 => (go_simp; try with_reducible rfl)
      refine anyC_done (by kernel_rfl) ?_
      go_wp2
      go_ret3
      rw [HE.out]
      exact ⟨_, rfl, own_mono hOF.out (by omega), HW.out _ hCc⟩
end Go.Proofs.YtpgfnhdaembhmaaDoor
