/- The program's net: a message sent, dropped, taken, doubled. -/
import Derived.Test.YtceleihfdpgpiaaNu
namespace Go.Proofs.Ytceleihfdpgpiaa
open Go.RowKit Go.Shelf Km Kb

section
variable {w w' : World} {S : Nat → Prop} {g : Nat} {l : List (List Int)} {ov : Value} {vs : List Value}
set_option maxRecDepth 100000 in
set_option maxHeartbeats 1000000 in
theorem send_full (h : NAt w S g l ov vs) (A : Option Addr) (n cap : Nat) (hl : 400 ≤ l.length) :
    Calls Try.prog 9 #[.pointer (some ⟨g, 0, none⟩), .slice A n cap] w fun e w' => e = .returned (.int .i64 71) ∧ w' = w := by
  have c1 := h.cell
  obtain ⟨Ao, co, rfl, -, -, -⟩ := h.row.form
  generalize l.length = m at *
  have d1 : decide ((400 : Int) ≤ (m : Int)) = true := by simp; omega
  clear h
  go_enter Try.func9, Try.ntmps9
  go_wp2
  go_ret
  exact ⟨rfl, rfl⟩

set_option maxRecDepth 100000 in
set_option maxHeartbeats 2000000 in
theorem send_any (h : NAt w S g l ov vs) (A : Option Addr) (n cap B : Nat) (xs : List Int) (hx : Rd w B A (u8s xs)) (hn : xs.length = n) (hB : B ≤ w.heap.size) (hle : n ≤ 140737488355328) (hnc : A = none → cap = 0) (hl : l.length < 400) :
    Calls Try.prog 9 #[.pointer (some ⟨g, 0, none⟩), .slice A n cap] w fun e w' => e = .returned (.int .i64 0) ∧ Ndid w w' S g (l ++ [xs]) := by
  obtain ⟨i1, hi1, hy0, hy1, hy2⟩ := info_parts_sl
  subst hn
  have HC := Lib.hid (Copy_any A xs.length cap B xs hx.drew rfl hB hle hnc)
  have HJ := Lib.hid h
  have c1 := h.cell
  have hgw := h.lt g h.sg
  obtain ⟨Ao, co, eo, ho1, ho2, -, -⟩ := h.row.form
  have c1' : w.cell? ⟨g, 0, none⟩ = some (.slice Ao l.length co) := eo ▸ c1
  have d1 : decide ((400 : Int) ≤ (l.length : Int)) = false := by simp; omega
  clear h c1 hx
  subst eo
  go_enter Try.func9, Try.ntmps9
  go_wp2_with fail
  refine region_F (fun W => Below w.heap.size w W) (fun j => j == 8 || j == 11) (by kernel_rfl) ?_
  have hC : Below w.heap.size w w.drew := (Below.refl _ _).drew
  refine anyP_take (i := 0) (v := ?v0_1) (a' := ?a0_1) rfl (by kernel_rfl) (by kernel_rfl) (by kernel_rfl) (fun _ _ _ h => h) (by first | exact .inl hC | exact .inr (by kernel_rfl)) (by kernel_rfl) ?w0_1 ?y0_1 ?f0_1 ?r0_1
  case w0_1 => kernel_rfl
  case y0_1 => (intro w hC; go_simp; try with_reducible rfl)
  case f0_1 => (go_simp; try with_reducible rfl)
  refine anyP_take (i := 1) (v := ?v1_2) (a' := ?a1_2) rfl (by kernel_rfl) (by kernel_rfl) (by kernel_rfl) (fun _ _ _ h => h) (by first | exact .inl hC | exact .inr (by kernel_rfl)) (by kernel_rfl) ?w1_2 ?y1_2 ?f1_2 ?r1_2
  case w1_2 => kernel_rfl
  case y1_2 => (intro w hC; go_simp; try with_reducible rfl)
  case f1_2 => (go_simp; try with_reducible rfl)
  refine anyP_take (i := 2) (v := ?v2_3) (a' := ?a2_3) rfl (by kernel_rfl) (by kernel_rfl) (by kernel_rfl) (fun _ _ _ h => h) (by first | exact .inl hC | exact .inr (by kernel_rfl)) (by kernel_rfl) ?w2_3 ?y2_3 ?f2_3 ?r2_3
  case w2_3 => kernel_rfl
  case y2_3 => (intro w hC; go_simp; try with_reducible rfl)
  case f2_3 => (go_simp; try with_reducible rfl)
  refine anyP_take (i := 3) (v := ?v3_4) (a' := ?a3_4) rfl (by kernel_rfl) (by kernel_rfl) (by kernel_rfl) (fun _ _ _ h => h) (by first | exact .inl hC | exact .inr (by kernel_rfl)) (by kernel_rfl) ?w3_4 ?y3_4 ?f3_4 ?r3_4
  case w3_4 => kernel_rfl
  case y3_4 => (intro w hC; go_simp; try with_reducible rfl)
  case f3_4 => (go_simp; try with_reducible rfl)
  refine anyF_take (i := 4) (v := ?v4_5) (a' := ?a4_5) rfl (by kernel_rfl) (by kernel_rfl) (by kernel_rfl) (fun _ _ _ h => h) hC (by kernel_rfl) ?w4_5 ?y4_5 ?f4_5 ?r4_5
  case w4_5 => kernel_rfl
  case y4_5 => (intro w hC; have h4 := (hC.cell (p := ⟨g, 0, none⟩) hgw).trans c1'; go_simp; try with_reducible rfl)
  case f4_5 => (go_simp; try with_reducible rfl)
  refine anyP_take (i := 5) (v := ?v5_6) (a' := ?a5_6) rfl (by kernel_rfl) (by kernel_rfl) (by kernel_rfl) (fun _ _ _ h => h) (by first | exact .inl hC | exact .inr (by kernel_rfl)) (by kernel_rfl) ?w5_6 ?y5_6 ?f5_6 ?r5_6
  case w5_6 => kernel_rfl
  case y5_6 => (intro w hC; go_simp; try with_reducible rfl)
  case f5_6 => (go_simp; try with_reducible rfl)
  refine anyF_one (i := 6) rfl (by kernel_rfl) (by kernel_rfl) (fun K hK => ?_)
  go_simp
  refine HC.out.mono ?_
  rintro e w2 ⟨v, rfl, hov, hb2⟩
  obtain ⟨A2, c2, rfl, -, -, -⟩ := own_view hov
  have hC2 : Below w.heap.size w w2 := hC.trans hb2
  refine hK _ _ ⟨.inl hC2, ?_⟩
  clear hK K
  refine anyF_one (i := 7) rfl (by kernel_rfl) (by kernel_rfl) (fun K hK => ?_)
  go_simp
  have hC3 : Below w.heap.size w (w2.alloc (.cells #[.slice A2 xs.length c2] 30)) := hC2.alloc hC2.size _
  refine hK _ _ ⟨.inl hC3, ?_⟩
  clear hK K
  refine anyF_one (i := 8) rfl (by kernel_rfl) (by kernel_rfl) (fun K hK => ?_)
  have HJ3 := Lib.hid (HJ.out.below hC3)
  have hv3 := own_below hov (w' := w2.alloc (.cells #[.slice A2 xs.length c2] 30)) ((Below.refl _ w2).alloc (Nat.le_refl _) _) (Nat.le_refl _)
  have hsz2 := hC2.size
  refine op_oapp (.tmp 15) (.tmp 18) 27 rfl 0 30 i1 (.slice none 0 0) 24 Try.underlying27 hi1 hy0 hy1 hy2 rfl (.slice Ao l.length co) l.length vs rfl HJ3.out.row (w2.heap.size + 1) (some ⟨w2.heap.size, 0, none⟩) 1 1 [.slice A2 xs.length c2] rfl rfl (by exact Rd.new w2 (w2.heap.size + 1) [.slice A2 xs.length c2] 30 (0, 0) (by omega)) (by simp [Value.oneCell']) (by unfold maxLen; omega) (by omega) (Nat.zero_le _) ?_
  intro v4 w4 hrow hgrow4 hblk4
  obtain ⟨⟨c4, f4⟩, hd⟩ := HJ.out.sent hC3 hv3 hgrow4 hrow hblk4
  have HD := Lib.hid hd
  obtain ⟨A4, q4, rfl, -, -, -, -⟩ := hrow.form
  refine hK _ _ ⟨.inr (by kernel_rfl), ?_⟩
  clear hK K
  refine anyP_take (i := 9) (v := ?v9_7) (a' := ?a9_7) rfl (by kernel_rfl) (by kernel_rfl) (by kernel_rfl) (fun _ _ _ h => h) (by first | exact .inl hC | exact .inr (by kernel_rfl)) (by kernel_rfl) ?w9_7 ?y9_7 ?f9_7 ?r9_7
  case w9_7 => kernel_rfl
  case y9_7 => (intro w hC; go_simp; try with_reducible rfl)
  case f9_7 => (go_simp; try with_reducible rfl)
  refine anyP_take (i := 10) (v := ?v10_8) (a' := ?a10_8) rfl (by kernel_rfl) (by kernel_rfl) (by kernel_rfl) (fun _ _ _ h => h) (by first | exact .inl hC | exact .inr (by kernel_rfl)) (by kernel_rfl) ?w10_8 ?y10_8 ?f10_8 ?r10_8
  case w10_8 => kernel_rfl
  case y10_8 => (intro w hC; go_simp; try with_reducible rfl)
  case f10_8 => (go_simp; try with_reducible rfl)
  refine anyF_one (i := 11) rfl (by kernel_rfl) (by kernel_rfl) (fun K hK => ?_)
  go_simp
  refine hK _ _ ⟨.inr (by kernel_rfl), ?_⟩
  clear hK K c4 f4 hC hC2 hC3
  refine anyF_done (by kernel_rfl) ?_
  go_wp2
  go_ret
  exact ⟨rfl, HD.out⟩

theorem Ndid.pre {w1 w2 : World} {l' : List (List Int)} (h : Ndid w1 w2 S g l') (hb : Below w.heap.size w w1) : Ndid w w2 S g l' := by
  obtain ⟨⟨ov, vs, q1⟩, q2⟩ := h
  have hs := hb.size
  have hs2 := q2.size
  exact ⟨⟨ov, vs, q1.more (fun b q => q.elim .inl (fun q => .inr ⟨by omega, q.2⟩)) (fun b q => q.elim (fun q => q1.lt b (.inl q)) (·.2))⟩, (Out.below hb).trans (q2.more fun b q => .inl q)⟩
theorem Ndid.after {w1 w2 : World} {l' : List (List Int)} (h : Ndid w1 w2 S g l') (ho : Out S w w1) : Ndid w w2 S g l' := by
  obtain ⟨⟨ov, vs, q1⟩, q2⟩ := h
  have hs := ho.size
  have hs2 := q2.size
  exact ⟨⟨ov, vs, q1.more (fun b q => q.elim .inl (fun q => .inr ⟨by omega, q.2⟩)) (fun b q => q.elim (fun q => q1.lt b (.inl q)) (·.2))⟩, ho.trans (q2.more fun b q => .inl q)⟩
theorem NAt.ones (h : NAt w S g l ov vs) : ∀ u ∈ vs, u.oneCell' = true := fun u hu => by
  obtain ⟨j, hj, rfl⟩ := List.getElem_of_mem hu
  obtain ⟨A, c, e, -⟩ := h.bod j _ (l[j]'(by rw [← h.len]; exact hj)) (List.getElem?_eq_getElem hj) (List.getElem?_eq_getElem _)
  rw [e]
  rfl

set_option maxRecDepth 100000 in
set_option maxHeartbeats 1000000 in
theorem drop_none (h : NAt w S g l ov vs) (i : Int) (hi : Nm.pick l i = none) :
    Calls Try.prog 13 #[.pointer (some ⟨g, 0, none⟩), .int .i64 i] w fun e w' => e = .returned (.bool false) ∧ w' = w := by
  have HH := Lib.hid (has_none h i hi)
  clear h hi
  go_enter Try.func13, Try.ntmps13
  go_wp2_with (go_at_call 20; refine HH.out.mono ?_; rintro e w1 ⟨rfl, rfl⟩)
  go_ret
  exact ⟨rfl, rfl⟩

theorem er_set {α : Type} (k : Nat) (l : List α) (x : α) : er k (l.set k x) = er k l := by
  unfold er
  rw [List.take_set, List.drop_set, if_pos (by omega), List.set_eq_of_length_le (by rw [List.length_take]; omega)]

set_option maxRecDepth 100000 in
set_option maxHeartbeats 2000000 in
theorem drop_some (h : NAt w S g l ov vs) (k : Nat) (hk : k < l.length) (hz : l.length ≤ 1000000) :
    Calls Try.prog 13 #[.pointer (some ⟨g, 0, none⟩), .int .i64 (k : Int)] w fun e w' => e = .returned (.bool true) ∧ Ndid w w' S g (er k l) := by
  obtain ⟨i1, hi1, hy0, hy1, hy2⟩ := info_parts_sl
  have HH := Lib.hid (has_some h k hk)
  have c1 := h.cell
  obtain ⟨co, ad, v0, eo, c2, f2, hw, ho⟩ := h.wipe hk
  subst eo
  have HJ := Lib.hid hw
  have HO := Lib.hid ho
  have hgw := hw.lt g hw.sg
  have hvl := hw.len
  have hlen : (l.set k []).length = l.length := List.length_set
  obtain ⟨Ao, co', eo, ho1, ho2, hrd, -⟩ := hw.row.form
  rw [hlen] at eo
  cases eo
  have c1' := hw.cell
  have HRow := Lib.hid (show Orow _ 0 30 (.slice (some ad) l.length co) l.length (vs.set k (.slice none 0 0)) from hlen ▸ hw.row)
  have HR2 := Lib.hid (hrd.cutA (k := k + 1) (cap := co) (by omega))
  have hs1 : ∀ W, (Instr.slice 27 (.slice (some ad) l.length co) none (some (.int .i64 (k : Int))) (some (.int .i64 (k : Int)))).run Try.prog W = .ok (.slice (some ad) k k) W := fun W => run_cut_hm (P := Try.prog) Try.underlying27 (size_of_info hi1 hy1) (some ad) l.length co k (by omega) W
  have hs2 : ∀ W, (Instr.slice 27 (.slice (some ad) l.length co) (some (.int .i64 ((k : Int) + 1))) none none).run Try.prog W = .ok (.slice (cutA (some ad) (k + 1) co) (l.length - (k + 1)) (co - (k + 1))) W := fun W => run_cut_l (P := Try.prog) Try.underlying27 (size_of_info hi1 hy1) (some ad) l.length co (k + 1) (by omega) W
  have hwr : IntKind.i64.wrap ((k : Int) + 1) = (k : Int) + 1 := by rw [IntKind.wrap_i64]; omega
  have d3 : (k : Int) < (l.length : Int) := by omega
  clear h hw ho hrd
  go_enter Try.func13, Try.ntmps13
  go_wp2_with (go_at_call 20; fail)
  refine HH.out.mono ?_
  rintro e w1 ⟨rfl, rfl⟩
  go_wp2_with fail
  generalize World.setCell w1 (ad.add k) (.slice none 0 0) = W2 at *
  clear c1 c2 f2 d3
  refine region_F (fun W => Below W2.heap.size W2 W) (fun j => j == 15 || j == 18) (by kernel_rfl) ?_
  have hC : Below W2.heap.size W2 W2.drew := (Below.refl _ _).drew
  refine anyP_take (i := 0) (v := ?v0_9) (a' := ?a0_9) rfl (by kernel_rfl) (by kernel_rfl) (by kernel_rfl) (fun _ _ _ h => h) (by first | exact .inl hC | exact .inr (by kernel_rfl)) (by kernel_rfl) ?w0_9 ?y0_9 ?f0_9 ?r0_9
  case w0_9 => kernel_rfl
  case y0_9 => (intro w hC; go_simp; try with_reducible rfl)
  case f0_9 => (go_simp; try with_reducible rfl)
  refine anyP_take (i := 1) (v := ?v1_10) (a' := ?a1_10) rfl (by kernel_rfl) (by kernel_rfl) (by kernel_rfl) (fun _ _ _ h => h) (by first | exact .inl hC | exact .inr (by kernel_rfl)) (by kernel_rfl) ?w1_10 ?y1_10 ?f1_10 ?r1_10
  case w1_10 => kernel_rfl
  case y1_10 => (intro w hC; go_simp; try with_reducible rfl)
  case f1_10 => (go_simp; try with_reducible rfl)
  refine anyP_take (i := 2) (v := ?v2_11) (a' := ?a2_11) rfl (by kernel_rfl) (by kernel_rfl) (by kernel_rfl) (fun _ _ _ h => h) (by first | exact .inl hC | exact .inr (by kernel_rfl)) (by kernel_rfl) ?w2_11 ?y2_11 ?f2_11 ?r2_11
  case w2_11 => kernel_rfl
  case y2_11 => (intro w hC; go_simp; try with_reducible rfl)
  case f2_11 => (go_simp; try with_reducible rfl)
  refine anyP_take (i := 3) (v := ?v3_12) (a' := ?a3_12) rfl (by kernel_rfl) (by kernel_rfl) (by kernel_rfl) (fun _ _ _ h => h) (by first | exact .inl hC | exact .inr (by kernel_rfl)) (by kernel_rfl) ?w3_12 ?y3_12 ?f3_12 ?r3_12
  case w3_12 => kernel_rfl
  case y3_12 => (intro w hC; go_simp; try with_reducible rfl)
  case f3_12 => (go_simp; try with_reducible rfl)
  refine anyF_take (i := 4) (v := ?v4_13) (a' := ?a4_13) rfl (by kernel_rfl) (by kernel_rfl) (by kernel_rfl) (fun _ _ _ h => h) hC (by kernel_rfl) ?w4_13 ?y4_13 ?f4_13 ?r4_13
  case w4_13 => kernel_rfl
  case y4_13 => (intro w hC; have h4 := (hC.cell (p := ⟨g, 0, none⟩) hgw).trans c1'; go_simp; try with_reducible rfl)
  case f4_13 => (go_simp; try with_reducible rfl)
  refine anyP_take (i := 5) (v := ?v5_14) (a' := ?a5_14) rfl (by kernel_rfl) (by kernel_rfl) (by kernel_rfl) (fun _ _ _ h => h) (by first | exact .inl hC | exact .inr (by kernel_rfl)) (by kernel_rfl) ?w5_14 ?y5_14 ?f5_14 ?r5_14
  case w5_14 => kernel_rfl
  case y5_14 => (intro w hC; go_simp; try with_reducible rfl)
  case f5_14 => (go_simp; try with_reducible rfl)
  refine anyP_take (i := 6) (v := ?v6_15) (a' := ?a6_15) rfl (by kernel_rfl) (by kernel_rfl) (by kernel_rfl) (fun _ _ _ h => h) (by first | exact .inl hC | exact .inr (by kernel_rfl)) (by kernel_rfl) ?w6_15 ?y6_15 ?f6_15 ?r6_15
  case w6_15 => kernel_rfl
  case y6_15 => (intro w hC; go_simp; try with_reducible rfl)
  case f6_15 => (go_simp; try with_reducible rfl)
  refine anyP_take (i := 7) (v := ?v7_16) (a' := ?a7_16) rfl (by kernel_rfl) (by kernel_rfl) (by kernel_rfl) (fun _ _ _ h => h) (by first | exact .inl hC | exact .inr (by kernel_rfl)) (by kernel_rfl) ?w7_16 ?y7_16 ?f7_16 ?r7_16
  case w7_16 => kernel_rfl
  case y7_16 => (intro w hC; go_simp; try with_reducible rfl)
  case f7_16 => (go_simp; try with_reducible rfl)
  refine anyP_take (i := 8) (v := ?v8_17) (a' := ?a8_17) rfl (by kernel_rfl) (by kernel_rfl) (by kernel_rfl) (fun _ _ _ h => h) (by first | exact .inl hC | exact .inr (by kernel_rfl)) (by kernel_rfl) ?w8_17 ?y8_17 ?f8_17 ?r8_17
  case w8_17 => kernel_rfl
  case y8_17 => (intro w hC; go_simp; try with_reducible rfl)
  case f8_17 => (go_simp; try with_reducible rfl)
  refine anyP_take (i := 9) (v := ?v9_18) (a' := ?a9_18) rfl (by kernel_rfl) (by kernel_rfl) (by kernel_rfl) (fun _ _ _ h => h) (by first | exact .inl hC | exact .inr (by kernel_rfl)) (by kernel_rfl) ?w9_18 ?y9_18 ?f9_18 ?r9_18
  case w9_18 => kernel_rfl
  case y9_18 => (intro w hC; go_simp; try with_reducible rfl)
  case f9_18 => (go_simp; try with_reducible rfl)
  refine anyP_take (i := 10) (v := ?v10_19) (a' := ?a10_19) rfl (by kernel_rfl) (by kernel_rfl) (by kernel_rfl) (fun _ _ _ h => h) (by first | exact .inl hC | exact .inr (by kernel_rfl)) (by kernel_rfl) ?w10_19 ?y10_19 ?f10_19 ?r10_19
  case w10_19 => kernel_rfl
  case y10_19 => (intro w hC; go_simp; try with_reducible rfl)
  case f10_19 => (go_simp; try with_reducible rfl)
  refine anyF_take (i := 11) (v := ?v11_20) (a' := ?a11_20) rfl (by kernel_rfl) (by kernel_rfl) (by kernel_rfl) (fun _ _ _ h => h) hC (by kernel_rfl) ?w11_20 ?y11_20 ?f11_20 ?r11_20
  case w11_20 => kernel_rfl
  case y11_20 => (intro w hC; have h4 := (hC.cell (p := ⟨g, 0, none⟩) hgw).trans c1'; go_simp; try with_reducible rfl)
  case f11_20 => (go_simp; try with_reducible rfl)
  refine anyP_take (i := 12) (v := ?v12_21) (a' := ?a12_21) rfl (by kernel_rfl) (by kernel_rfl) (by kernel_rfl) (fun _ _ _ h => h) (by first | exact .inl hC | exact .inr (by kernel_rfl)) (by kernel_rfl) ?w12_21 ?y12_21 ?f12_21 ?r12_21
  case w12_21 => kernel_rfl
  case y12_21 => (intro w hC; go_simp; try with_reducible rfl)
  case f12_21 => (go_simp; try with_reducible rfl)
  refine anyP_take (i := 13) (v := ?v13_22) (a' := ?a13_22) rfl (by kernel_rfl) (by kernel_rfl) (by kernel_rfl) (fun _ _ _ h => h) (by first | exact .inl hC | exact .inr (by kernel_rfl)) (by kernel_rfl) ?w13_22 ?y13_22 ?f13_22 ?r13_22
  case w13_22 => kernel_rfl
  case y13_22 => (intro w hC; go_simp; try with_reducible rfl)
  case f13_22 => (go_simp; try with_reducible rfl)
  refine anyP_take (i := 14) (v := ?v14_23) (a' := ?a14_23) rfl (by kernel_rfl) (by kernel_rfl) (by kernel_rfl) (fun _ _ _ h => h) (by first | exact .inl hC | exact .inr (by kernel_rfl)) (by kernel_rfl) ?w14_23 ?y14_23 ?f14_23 ?r14_23
  case w14_23 => kernel_rfl
  case y14_23 => (intro w hC; go_simp; try with_reducible rfl)
  case f14_23 => (go_simp; try with_reducible rfl)
  refine anyF_one (i := 15) rfl (by kernel_rfl) (by kernel_rfl) (fun K hK => ?_)
  refine op_oapp (.tmp 22) (.tmp 29) 27 rfl 0 30 i1 (.slice none 0 0) 24 Try.underlying27 hi1 hy0 hy1 hy2 rfl (.slice (some ad) k k) k ((vs.set k (.slice none 0 0)).take k) rfl ((HRow.out.head (by omega)).same (fun _ _ => rfl) (Nat.le_refl _)) W2.heap.size (cutA (some ad) (k + 1) co) (l.length - (k + 1)) (co - (k + 1)) ((vs.set k (.slice none 0 0)).drop (k + 1)) rfl (by rw [List.length_drop]; omega) HR2.out.drew (fun u q => HJ.out.ones u (List.mem_of_mem_drop q)) (by unfold maxLen; omega) (by omega) (Nat.zero_le _) ?_
  intro v4 w4 hrow hgrow4 hblk4
  obtain ⟨⟨c4, f4⟩, hd⟩ := HJ.out.less (w2 := w4) (ov' := v4) (l' := er k (l.set k [])) (vs' := er k (vs.set k (.slice none 0 0))) ⟨hgrow4.os, hgrow4.tape, hgrow4.output, hgrow4.size, hgrow4.block⟩
    (by rw [er_len (by omega), hlen, show l.length - 1 = k + (l.length - (k + 1)) by omega]; exact hrow) (fun q hq => hblk4.elim (fun e => .inl (e ▸ hq)) (fun e => .inr (by rw [e] at hq; cases hq; exact Nat.le_refl _))) (fun a x y hx hy => erase_from _ (l.set k []) hvl k (by omega) a x y hx hy)
  rw [er_set] at hd
  have HD := Lib.hid hd
  obtain ⟨A4, q4, rfl, -, -, -, -⟩ := hrow.form
  refine hK _ _ ⟨.inr (by kernel_rfl), ?_⟩
  clear hK K
  refine anyP_take (i := 16) (v := ?v16_24) (a' := ?a16_24) rfl (by kernel_rfl) (by kernel_rfl) (by kernel_rfl) (fun _ _ _ h => h) (by first | exact .inl hC | exact .inr (by kernel_rfl)) (by kernel_rfl) ?w16_24 ?y16_24 ?f16_24 ?r16_24
  case w16_24 => kernel_rfl
  case y16_24 => (intro w hC; go_simp; try with_reducible rfl)
  case f16_24 => (go_simp; try with_reducible rfl)
  refine anyP_take (i := 17) (v := ?v17_25) (a' := ?a17_25) rfl (by kernel_rfl) (by kernel_rfl) (by kernel_rfl) (fun _ _ _ h => h) (by first | exact .inl hC | exact .inr (by kernel_rfl)) (by kernel_rfl) ?w17_25 ?y17_25 ?f17_25 ?r17_25
  case w17_25 => kernel_rfl
  case y17_25 => (intro w hC; go_simp; try with_reducible rfl)
  case f17_25 => (go_simp; try with_reducible rfl)
  refine anyF_one (i := 18) rfl (by kernel_rfl) (by kernel_rfl) (fun K hK => ?_)
  go_simp
  refine hK _ _ ⟨.inr (by kernel_rfl), ?_⟩
  clear hK K c4 f4 hC
  refine anyF_done (by kernel_rfl) ?_
  go_wp2
  go_ret
  exact ⟨rfl, HD.out.after HO.out⟩

set_option maxRecDepth 100000 in
set_option maxHeartbeats 1000000 in
theorem take_none (h : NAt w S g l ov vs) (i : Int) (hi : Nm.pick l i = none) :
    Calls Try.prog 11 #[.pointer (some ⟨g, 0, none⟩), .int .i64 i] w fun e w' => e = .returned (.tuple #[.slice none 0 0, .bool false]) ∧ w' = w := by
  have HA := Lib.hid (at_none h i hi)
  have HD := Lib.hid (drop_none h i hi)
  clear h hi
  go_enter Try.func11, Try.ntmps11
  go_wp2_with (go_at_call 16; refine HA.out.mono ?_; rintro e w1 ⟨rfl, rfl⟩)
  go_wp2_with (go_at_call 13; refine HD.out.mono ?_; rintro e w1 ⟨rfl, rfl⟩)
  go_ret2
  exact ⟨rfl, rfl⟩

/-- what is new stays new behind a call that has its own blocks -/
theorem own_kept {w1 : World} {v : Value} {b : List Int} (hown : w1.ownsRow w.heap.size 5 1 v b.length (u8s b)) (ho : Out S w1 w') (hS : ∀ q, S q → q < w.heap.size) : w'.ownsRow w.heap.size 5 1 v b.length (u8s b) := by
  refine ⟨hown.1, ?_⟩
  rcases hown.2 with q | ⟨q, cap, cur, rfl, h1, h2, h3⟩
  · exact .inl q
  · refine .inr ⟨q, cap, cur, rfl, h1, ?_, h3⟩
    rw [ho.block q (Array.getElem?_eq_some_iff.1 h2).1 (fun e => by have := hS q e; omega)]
    exact h2

set_option maxRecDepth 100000 in
set_option maxHeartbeats 1000000 in
theorem take_some (h : NAt w S g l ov vs) (k : Nat) {b : List Int} (hk : l[k]? = some b) (hle : b.length ≤ 140737488355328) (hz : l.length ≤ 1000000) :
    Calls Try.prog 11 #[.pointer (some ⟨g, 0, none⟩), .int .i64 (k : Int)] w fun e w' => ∃ v, e = .returned (.tuple #[v, .bool true]) ∧ w'.ownsRow w.heap.size 5 1 v b.length (u8s b) ∧ Ndid w w' S g (er k l) := by
  have HA := Lib.hid (at_some h k hk hle)
  have HD := Lib.hid (fun (W : World) (q : Below w.heap.size w W) => drop_some (h.below q) k (List.getElem?_eq_some_iff.1 hk).1 hz)
  have hlt := h.lt
  clear h hk
  go_enter Try.func11, Try.ntmps11
  go_wp2_with (go_at_call 16; refine HA.out.mono ?_; rintro e w1 ⟨v, rfl, hown, hb⟩; obtain ⟨A2, c2, rfl, -, -, -⟩ := own_view hown)
  go_wp2_with (go_at_call 13; refine (HD.out w1 hb).mono ?_; rintro e w2 ⟨rfl, hd⟩)
  go_ret2
  exact ⟨_, rfl, own_kept hown hd.2 hlt, hd.pre hb⟩
end
end Go.Proofs.Ytceleihfdpgpiaa
