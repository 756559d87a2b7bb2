/- A message's frame; its numbers and its plan out of bytes; a message of ten numbers: the program's. -/
import Derived.Test.YtpgfnhdaembhmaaDoorMd
namespace Go.Proofs.YtpgfnhdaembhmaaDoor
open Go.RowKit Go.Shelf

set_option maxRecDepth 100000 in
set_option maxHeartbeats 2000000 in
theorem MPut_any (x : Mm.Ms) (l : Lo) (B : Nat) (w : World) (hp : MsAt w B x l) (hB : B ≤ w.heap.size) (ht : Tab w) (hh : HTab w) :
    Calls Tryd.prog 10 #[mv x l] w fun e w' => ∃ v, e = .returned (.tuple #[v, .int .i64 x.put.2]) ∧ w'.ownsRow w.heap.size 5 1 v x.put.1.length (u8s x.put.1) ∧ Below w.heap.size w w' := by
  have hx1 := Mx.new w x l 30
  have hb1 : Hid (Below w.heap.size w (w.alloc (.cells (mvs x l).toArray 30))) := (Below.refl _ w).alloc (Nat.le_refl _) _
  have hz1 : w.heap.size ≤ (w.alloc (.cells (mvs x l).toArray 30)).heap.size := by rw [World.size_alloc]; omega
  have HR : Hid ((w.alloc (.cells (mvs x l).toArray 30)).rangeAt w.heap.size 0 (mvs x l)) := hx1
  have HBO := Lib.hid (MBody_any x l B (w.alloc (.cells (mvs x l).toArray 30)) (hp.below hb1.out hB) (Nat.le_trans hB hz1) (ht.below hb1.out (Nat.le_refl _)))
  have hlen := Lib.hid (info_mv x l)
  have hz := Lib.hid hz1
  have HH := Lib.hid hh
  have hok := Lib.hid hp.ok
  unfold mv at HBO ⊢
  generalize mvs x l = L at *
  clear hx1 hz1 hp ht hh
  cases hr : x.right with
  | false =>
    have HE := Lib.hid (Mm.put_no hr)
    rw [Mm.bodyE_no hr] at HBO
    clear hr
    go_enter Tryd.func10, Tryd.ntmps10
    go_wp2_with (first | (refine wpList_load_mid rfl 30 _ rfl w.heap.size 0 rfl L _ HR.out Tryd.underlying30 rfl hlen.out ?_) | (go_at_call 12; refine HBO.out.mono ?_; rintro e w2 ⟨v, rfl, hown, hb2⟩))
    go_ret2
    rw [HE.out]
    exact ⟨_, rfl, own_none, hb1.out.trans (hb2.mono hz.out)⟩
  | true =>
    have HE := Lib.hid (Mm.put_frame hr)
    have HBY := Lib.hid (Mm.body_by hok.out hr)
    have hk : Hid (0 ≤ x.k ∧ x.k ≤ 255) := by obtain ⟨h1, h2, -⟩ := Mm.right_iff.1 hr; exact ⟨by omega, by omega⟩
    rw [Mm.bodyE_ok hr] at HBO
    clear hr
    go_enter Tryd.func10, Tryd.ntmps10
    go_wp2_with (first | (refine wpList_load_mid rfl 30 _ rfl w.heap.size 0 rfl L _ HR.out Tryd.underlying30 rfl hlen.out ?_) | (go_at_call 12; fail))
    refine HBO.out.mono ?_
    rintro e w2 ⟨v, rfl, hown, hb2⟩
    obtain ⟨A2, c2, rfl, hcp2, hcm2, hrd⟩ := own_view hown
    have hbw := Lib.hid (hb1.out.trans (hb2.mono hz.out))
    have HF := Lib.hid (FPut_any x.k A2 _ c2 w2.heap.size x.body w2 hk.out hrd rfl hcp2 hcm2 (Nat.le_refl _) HBY.out (HH.out.below hbw.out (Nat.le_refl _)))
    rw [HE.out] at HF
    clear hown hb2 hrd HBO
    go_wp2_with (go_at_call 22; fail)
    refine HF.out.mono ?_
    rintro e w3 ⟨v3, rfl, hown3, hb3⟩
    go_wp2
    go_ret2
    exact ⟨_, rfl, own_mono hown3 hbw.out.size, hbw.out.trans (hb3.mono hbw.out.size)⟩

/-! ### a whole value built; results out of a cell -/
theorem wpList_build {P : Program} {w : World} {ops : Array Oper} {rest : List Oper} {o : Oper} {a : Act} {Q : Exit → Act → World → Prop} (hgd : o.guard = none) (t : TypeId) (parts : Array (Nat × Operand)) (ho : o.op = .build t parts)
    (vs : Array (Nat × Value)) (hv : (parts.map fun p => (p.1, a.eval p.2)) = vs) (cells : Array Value) (hb : P.built t vs.toList = some cells) (h : wpList P ops Q rest (a.put o.dst (.agg cells)) w) : wpList P ops Q (o :: rest) a w :=
  wpList_plain hgd fun K hK => by
    unfold Oper.wp execOp
    simp only [ho]
    have hr := run_build (P := P) w t vs cells hb
    have hv' : (parts.map fun (i, x) => (i, a.eval x)) = vs := hv
    rw [hv', Sem.run_bind, hr]
    exact hK _ _ h
theorem exec_build {P : Program} {a : Act} {o : Oper} {w : World} (t : TypeId) (parts : Array (Nat × Operand)) (ho : o.op = .build t parts) (vs : Array (Nat × Value)) (hv : (parts.map fun p => (p.1, a.eval p.2)) = vs) (cells : Array Value)
    (hb : P.built t vs.toList = some cells) : (execOp a.eval o).run P w = .ok (.value (.agg cells)) w := by
  unfold execOp
  simp only [ho]
  have hr := run_build (P := P) w t vs cells hb
  have hv' : (parts.map fun (i, x) => (i, a.eval x)) = vs := hv
  rw [hv', Sem.run_bind, hr]
  rfl
theorem results_c {P : Program} {fn : Func} {p : Tmp} {ty : TypeId} (h : fn.results = #[.cell p ty]) (tmps : Array Value) (w : World) (b : Nat) (cs : List Value) (d : TypeDesc)
    (hp : tmps.getD p undef = .pointer (some ⟨b, 0, none⟩)) (hr : w.rangeAt b 0 cs) (hu : P.underlying ty = some d) (hd : d.isRow = true) (hi : (P.info? ty).map (·.size) = some cs.length) :
    (results fn tmps).run P w = .ok (.agg cs.toArray) w := by
  have hp' : tmps[p]?.getD undef = .pointer (some ⟨b, 0, none⟩) := by simpa using hp
  simp [results, h, hp', asAddr, run_loadVar_mid w b 0 ty cs d hr hu hd hi]
theorem results_ctt {P : Program} {fn : Func} {p u v : Tmp} {ty : TypeId} (h : fn.results = #[.cell p ty, .tmp u, .tmp v]) (tmps : Array Value) (w : World) (b : Nat) (cs : List Value) (d : TypeDesc)
    (hp : tmps.getD p undef = .pointer (some ⟨b, 0, none⟩)) (hr : w.rangeAt b 0 cs) (hu : P.underlying ty = some d) (hd : d.isRow = true) (hi : (P.info? ty).map (·.size) = some cs.length) :
    (results fn tmps).run P w = .ok (.tuple #[.agg cs.toArray, tmps.getD u undef, tmps.getD v undef]) w := by
  have hp' : tmps[p]?.getD undef = .pointer (some ⟨b, 0, none⟩) := by simpa using hp
  simp [results, h, hp', asAddr, run_loadVar_mid w b 0 ty cs d hr hu hd hi]
theorem mvs_one (x : Mm.Ms) (l : Lo) : (mvs x l).toArray.all (·.oneCell') = true := by simp [mvs, pvs, Value.oneCell']

/-! ### a message of ten numbers -/
theorem uw {n : Int} (h : Pm.I n) : n % 18446744073709551616 = Pm.us n := usw h
def ten (n0 n1 n2 n3 n4 n5 n6 n7 n8 : Int) (h : Bool) : Mm.Ms := ⟨0, n0, n1, n2, n3, n4, n5, n6, n7, n8, h, Pm.zero, [], [], []⟩

set_option maxRecDepth 100000 in
set_option maxHeartbeats 2000000 in
theorem msgOf_ten (n0 n1 n2 n3 n4 n5 n6 n7 n8 n9 : Int) (w : World) :
    Calls Tryd.prog 40 #[.agg #[.int .i64 n0, .int .i64 n1, .int .i64 n2, .int .i64 n3, .int .i64 n4, .int .i64 n5, .int .i64 n6, .int .i64 n7, .int .i64 n8, .int .i64 n9]] w
      fun e w' => e = .returned (mv (ten n0 n1 n2 n3 n4 n5 n6 (n7 % 18446744073709551616) n8 (n9 == 1)) Lo.zero) ∧ Below w.heap.size w w' := by
  have hz1 : (w.alloc (.cells #[.int .i64 n0, .int .i64 n1, .int .i64 n2, .int .i64 n3, .int .i64 n4, .int .i64 n5, .int .i64 n6, .int .i64 n7, .int .i64 n8, .int .i64 n9] 49)).heap.size = w.heap.size + 1 := World.size_alloc ..
  have hth := Lib.hid (there_new (w.alloc (.cells #[.int .i64 n0, .int .i64 n1, .int .i64 n2, .int .i64 n3, .int .i64 n4, .int .i64 n5, .int .i64 n6, .int .i64 n7, .int .i64 n8, .int .i64 n9] 49)) (mvs Mm.zero Lo.zero) 30)
  have hbw : Hid (Below w.heap.size w ((w.alloc (.cells #[.int .i64 n0, .int .i64 n1, .int .i64 n2, .int .i64 n3, .int .i64 n4, .int .i64 n5, .int .i64 n6, .int .i64 n7, .int .i64 n8, .int .i64 n9] 49)).alloc (.cells (mvs Mm.zero Lo.zero).toArray 30))) := ((Below.refl _ w).alloc (Nat.le_refl _) _).alloc (by simp) _
  rw [hz1] at hth
  go_enter Tryd.func40, Tryd.ntmps40
  go_wp2_with (first
    | (refine wpList_build rfl 30 _ rfl #[(1, .int .i64 n0), (2, .int .i64 n1), (3, .int .i64 n2), (4, .int .i64 n3), (5, .int .i64 n4), (6, .int .i64 n5), (7, .int .i64 n6), (8, .int .u64 (n7 % 18446744073709551616)), (9, .int .i64 n8), (10, .bool (n9 == 1))] rfl
        (mvs (ten n0 n1 n2 n3 n4 n5 n6 (n7 % 18446744073709551616) n8 (n9 == 1)) Lo.zero).toArray (by kernel_rfl) ?_)
    | (refine wpList_store_mid rfl 30 _ _ rfl (w.heap.size + 1) 0 (mvs (ten n0 n1 n2 n3 n4 n5 n6 (n7 % 18446744073709551616) n8 (n9 == 1)) Lo.zero).toArray rfl rfl hth.out info_msg (mvs_one _ _) ?_))
  refine bodyPost_ret (results_c rfl _ _ (w.heap.size + 1) (mvs (ten n0 n1 n2 n3 n4 n5 n6 (n7 % 18446744073709551616) n8 (n9 == 1)) Lo.zero) _ rfl (World.rangeAt_setCells_same _ _ _ _ hth.out) Tryd.underlying30 rfl info_msg) rfl ?_
  exact ⟨rfl, below_grown hbw.out (grown_set (w.heap.size + 1) _ 0 _) (by omega) hbw.out.size⟩

theorem msgOf_any (ns : List Int) (hns : ns.length = 10) (hf : Wm.Fits ns) (w : World) :
    Calls Tryd.prog 40 #[.agg (i64s ns).toArray] w fun e w' => e = .returned (mv (Mm.msOf 0 ns) Lo.zero) ∧ Below w.heap.size w w' := by
  have h := msgOf_ten (ns.getD 0 0) (ns.getD 1 0) (ns.getD 2 0) (ns.getD 3 0) (ns.getD 4 0) (ns.getD 5 0) (ns.getD 6 0) (ns.getD 7 0) (ns.getD 8 0) (ns.getD 9 0) w
  have e : (i64s ns).toArray = #[.int .i64 (ns.getD 0 0), .int .i64 (ns.getD 1 0), .int .i64 (ns.getD 2 0), .int .i64 (ns.getD 3 0), .int .i64 (ns.getD 4 0), .int .i64 (ns.getD 5 0), .int .i64 (ns.getD 6 0), .int .i64 (ns.getD 7 0), .int .i64 (ns.getD 8 0), .int .i64 (ns.getD 9 0)] := by
    conv => lhs; rw [Pm.len10 hns]
    rfl
  rw [e]
  refine h.mono ?_
  rintro e' w' ⟨rfl, hb⟩
  refine ⟨?_, hb⟩
  have e9 : (ns.getD 9 0 == 1) = decide (ns.getD 9 0 = 1) := by rw [Bool.eq_iff_iff, beq_iff_eq, decide_eq_true_iff]
  rw [uw (Pm.fit_at hf 7), e9]
  rfl
end Go.Proofs.YtpgfnhdaembhmaaDoor
