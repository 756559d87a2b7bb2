/- The document's net: a message sent, a message doubled. -/
import Derived.Test.YtceleihfdpgpiaaNs
import Derived.Test.YtceleihfdpgpiaaKitH
namespace Go.Proofs.Ytceleihfdpgpiaa
open Go.RowKit Go.Shelf Km Kb

section
variable {w w' : World} {S : Nat → Prop} {g : Nat} {l : List (List Int)} {ov : Value} {vs : List Value}
theorem NAt.drew (h : NAt w S g l ov vs) : NAt w.drew S g l ov vs := h.below (Below.refl _ _).drew

set_option maxRecDepth 100000 in
set_option maxHeartbeats 1000000 in
theorem rsend_full (h : NAt w S g l ov vs) (A : Option Addr) (n cap : Nat) (hl : 400 ≤ l.length) :
    Calls Try.prog 10 #[.pointer (some ⟨g, 0, none⟩), .slice A n cap] w fun e w' => e = .returned (.int .i64 71) ∧ w' = w := by
  have c1 := h.cell
  obtain ⟨Ao, co, rfl, -, -, -⟩ := h.row.form
  generalize l.length = m at *
  have d1 : decide ((400 : Int) ≤ (m : Int)) = true := by simp; omega
  clear h
  go_enter Try.func10, Try.ntmps10
  go_wp2
  go_ret
  exact ⟨rfl, rfl⟩

set_option maxRecDepth 100000 in
set_option maxHeartbeats 2000000 in
theorem rsend_any (h : NAt w S g l ov vs) (A : Option Addr) (n cap B : Nat) (xs : List Int) (hx : Rd w B A (u8s xs)) (hn : xs.length = n) (hB : B ≤ w.heap.size) (hle : n ≤ 140737488355328) (hl : l.length < 400) :
    Calls Try.prog 10 #[.pointer (some ⟨g, 0, none⟩), .slice A n cap] w fun e w' => e = .returned (.int .i64 0) ∧ Ndid w w' S g (l ++ [xs]) := by
  obtain ⟨i0, hi, hz0, hz1, hz2⟩ := info_parts info_u8
  obtain ⟨i1, hi1, hy0, hy1, hy2⟩ := info_parts_sl
  have HJ := Lib.hid h
  have c1 := h.cell
  have hgw := h.lt g h.sg
  obtain ⟨Ao, co, eo, ho1, ho2, -, -⟩ := h.row.form
  have c1' : w.cell? ⟨g, 0, none⟩ = some (.slice Ao l.length co) := eo ▸ c1
  have d1 : decide ((400 : Int) ≤ (l.length : Int)) = false := by simp; omega
  clear h c1
  subst eo
  go_enter Try.func10, Try.ntmps10
  go_wp2_with fail
  refine region_F (fun W => Below w.heap.size w W) (fun j => j == 9 || j == 12) (by kernel_rfl) ?_
  have hC : Below w.heap.size w w.drew := (Below.refl _ _).drew
  refine anyP_take (i := 0) (v := ?v0_1) (a' := ?a0_1) rfl (by kernel_rfl) (by kernel_rfl) (by kernel_rfl) (fun _ _ _ h => h) (by first | exact .inl hC | exact .inr (by kernel_rfl)) (by kernel_rfl) ?w0_1 ?y0_1 ?f0_1 ?r0_1
  case w0_1 => kernel_rfl
  case y0_1 => (intro w hC; go_simp; try with_reducible rfl)
  case f0_1 => (go_simp; try with_reducible rfl)
  refine anyP_take (i := 1) (v := ?v1_2) (a' := ?a1_2) rfl (by kernel_rfl) (by kernel_rfl) (by kernel_rfl) (fun _ _ _ h => h) (by first | exact .inl hC | exact .inr (by kernel_rfl)) (by kernel_rfl) ?w1_2 ?y1_2 ?f1_2 ?r1_2
  case w1_2 => kernel_rfl
  case y1_2 => (intro w hC; go_simp; try with_reducible rfl)
  case f1_2 => (go_simp; try with_reducible rfl)
  refine anyP_take (i := 2) (v := ?v2_3) (a' := ?a2_3) rfl (by kernel_rfl) (by kernel_rfl) (by kernel_rfl) (fun _ _ _ h => h) (by first | exact .inl hC | exact .inr (by kernel_rfl)) (by kernel_rfl) ?w2_3 ?y2_3 ?f2_3 ?r2_3
  case w2_3 => kernel_rfl
  case y2_3 => (intro w hC; go_simp; try with_reducible rfl)
  case f2_3 => (go_simp; try with_reducible rfl)
  refine anyP_take (i := 3) (v := ?v3_4) (a' := ?a3_4) rfl (by kernel_rfl) (by kernel_rfl) (by kernel_rfl) (fun _ _ _ h => h) (by first | exact .inl hC | exact .inr (by kernel_rfl)) (by kernel_rfl) ?w3_4 ?y3_4 ?f3_4 ?r3_4
  case w3_4 => kernel_rfl
  case y3_4 => (intro w hC; go_simp; try with_reducible rfl)
  case f3_4 => (go_simp; try with_reducible rfl)
  refine anyF_take (i := 4) (v := ?v4_5) (a' := ?a4_5) rfl (by kernel_rfl) (by kernel_rfl) (by kernel_rfl) (fun _ _ _ h => h) hC (by kernel_rfl) ?w4_5 ?y4_5 ?f4_5 ?r4_5
  case w4_5 => kernel_rfl
  case y4_5 => (intro w hC; have h4 := (hC.cell (p := ⟨g, 0, none⟩) hgw).trans c1'; go_simp; try with_reducible rfl)
  case f4_5 => (go_simp; try with_reducible rfl)
  refine anyP_take (i := 6) (v := ?v6_6) (a' := ?a6_6) rfl (by kernel_rfl) (by kernel_rfl) (by kernel_rfl) (fun _ _ _ h => h) (by first | exact .inl hC | exact .inr (by kernel_rfl)) (by kernel_rfl) ?w6_6 ?y6_6 ?f6_6 ?r6_6
  case w6_6 => kernel_rfl
  case y6_6 => (intro w hC; go_simp; try with_reducible rfl)
  case f6_6 => (go_simp; try with_reducible rfl)
  refine anyF_one (i := 5) rfl (by kernel_rfl) (by kernel_rfl) (fun K hK => ?_)
  go_simp
  have hC1 : Below w.heap.size w (w.drew.alloc (.cells #[] 5)) := hC.alloc (Nat.le_refl _) _
  have hm1 := World.ownsRow_made (base := w.heap.size) (e := 5) (size := 1) w.drew #[] 0 (Nat.le_refl _) (by unfold maxLen; omega) (by simp)
  refine hK _ _ ⟨.inl hC1, ?_⟩
  clear hK K
  refine anyF_one (i := 7) rfl (by kernel_rfl) (by kernel_rfl) (fun K hK => ?_)
  refine op_app2 (.tmp 16) (.tmp 17) 30 rfl w.heap.size 5 i0 (.int .u8 0) 1 Try.underlying30 hi hz0 hz1 hz2 rfl _ 0 [] rfl hm1 B A n cap (u8s xs) rfl (by rw [List.length_map]; exact hn) ((hx.drew).alloc hB _) (oneCell_ints _ _) (by unfold maxLen; omega) (by omega) (by simp) ?_
  intro v' w2 hown hgrow hblk
  rw [Nat.zero_add, List.nil_append] at hown
  obtain ⟨A2, c2, rfl, -, -, -⟩ := own_view hown
  have hC2 : Below w.heap.size w w2 := below_app hC1 hm1 hgrow (by simp)
  refine hK _ _ ⟨.inl hC2, ?_⟩
  clear hK K
  refine anyF_one (i := 8) rfl (by kernel_rfl) (by kernel_rfl) (fun K hK => ?_)
  go_simp
  have hC3 : Below w.heap.size w (w2.alloc (.cells #[.slice A2 n c2] 30)) := hC2.alloc hC2.size _
  refine hK _ _ ⟨.inl hC3, ?_⟩
  clear hK K
  refine anyF_one (i := 9) rfl (by kernel_rfl) (by kernel_rfl) (fun K hK => ?_)
  have HJ3 := Lib.hid (HJ.out.below hC3)
  have hov : w2.ownsRow w.heap.size 5 1 (.slice A2 n c2) xs.length (u8s xs) := by rw [hn]; exact hown
  have hv3 := own_below hov (w' := w2.alloc (.cells #[.slice A2 n c2] 30)) ((Below.refl _ w2).alloc (Nat.le_refl _) _) (Nat.le_refl _)
  have hsz2 := hC2.size
  refine op_oapp (.tmp 15) (.tmp 19) 27 rfl 0 30 i1 (.slice none 0 0) 24 Try.underlying27 hi1 hy0 hy1 hy2 rfl (.slice Ao l.length co) l.length vs rfl HJ3.out.row (w2.heap.size + 1) (some ⟨w2.heap.size, 0, none⟩) 1 1 [.slice A2 n c2] rfl rfl (by exact Rd.new w2 (w2.heap.size + 1) [.slice A2 n c2] 30 (0, 0) (by omega)) (by simp [Value.oneCell']) (by unfold maxLen; omega) (by omega) (Nat.zero_le _) ?_
  intro v4 w4 hrow hgrow4 hblk4
  obtain ⟨⟨c4, f4⟩, hd⟩ := HJ.out.sent hC3 hv3 hgrow4 hrow hblk4
  have HD := Lib.hid hd
  obtain ⟨A4, q4, rfl, -, -, -, -⟩ := hrow.form
  refine hK _ _ ⟨.inr (by kernel_rfl), ?_⟩
  clear hK K
  refine anyP_take (i := 10) (v := ?v10_7) (a' := ?a10_7) rfl (by kernel_rfl) (by kernel_rfl) (by kernel_rfl) (fun _ _ _ h => h) (by first | exact .inl hC | exact .inr (by kernel_rfl)) (by kernel_rfl) ?w10_7 ?y10_7 ?f10_7 ?r10_7
  case w10_7 => kernel_rfl
  case y10_7 => (intro w hC; go_simp; try with_reducible rfl)
  case f10_7 => (go_simp; try with_reducible rfl)
  refine anyP_take (i := 11) (v := ?v11_8) (a' := ?a11_8) rfl (by kernel_rfl) (by kernel_rfl) (by kernel_rfl) (fun _ _ _ h => h) (by first | exact .inl hC | exact .inr (by kernel_rfl)) (by kernel_rfl) ?w11_8 ?y11_8 ?f11_8 ?r11_8
  case w11_8 => kernel_rfl
  case y11_8 => (intro w hC; go_simp; try with_reducible rfl)
  case f11_8 => (go_simp; try with_reducible rfl)
  refine anyF_one (i := 12) rfl (by kernel_rfl) (by kernel_rfl) (fun K hK => ?_)
  go_simp
  refine hK _ _ ⟨.inr (by kernel_rfl), ?_⟩
  clear hK K c4 f4 hC hC1 hC2 hC3
  refine anyF_done (by kernel_rfl) ?_
  go_wp2
  go_ret
  exact ⟨rfl, HD.out⟩

theorem Nb.lt (h : NAt w S g l ov vs) {k : Nat} (q : Nb S g ov k) : k < w.heap.size := h.lt k q.1

set_option maxRecDepth 100000 in
set_option maxHeartbeats 1000000 in
theorem rdup_none (h : NAt w S g l ov vs) (i : Int) (hi : Nm.pick l i = none) :
    Calls Try.prog 15 #[.pointer (some ⟨g, 0, none⟩), .int .i64 i] w fun e w' => e = .returned (.int .i64 1) ∧ w' = w := by
  have HA := Lib.hid (rat_none h i hi)
  clear h hi
  go_enter Try.func15, Try.ntmps15
  go_wp2_with (go_at_call 17; refine HA.out.mono ?_; rintro e w' ⟨rfl, rfl⟩)
  go_ret
  exact ⟨rfl, rfl⟩

set_option maxRecDepth 100000 in
set_option maxHeartbeats 1000000 in
theorem rdup_full (h : NAt w S g l ov vs) (k : Nat) {b : List Int} (hk : l[k]? = some b) (hl : 400 ≤ l.length) :
    Calls Try.prog 15 #[.pointer (some ⟨g, 0, none⟩), .int .i64 (k : Int)] w fun e w' => e = .returned (.int .i64 71) ∧ w' = w := by
  have HA := Lib.hid (rat_some h k hk)
  have HS := Lib.hid (fun A n cap => rsend_full h A n cap hl)
  have HL := Lib.hid (fun q => Nb.lt h (k := q))
  clear h hk hl
  go_enter Try.func15, Try.ntmps15
  go_wp2_with (go_at_call 17; refine HA.out.mono ?_; rintro e w' ⟨v, rfl, hb, rfl⟩; obtain ⟨Av, cv, rfl, -, -, -, -⟩ := hb.rd HL.out)
  go_wp2_with (go_at_call 10; refine (HS.out _ _ _).mono ?_; rintro e w' ⟨rfl, rfl⟩)
  go_ret
  exact ⟨rfl, rfl⟩

set_option maxRecDepth 100000 in
set_option maxHeartbeats 1000000 in
theorem rdup_some (h : NAt w S g l ov vs) (k : Nat) {b : List Int} (hk : l[k]? = some b) (hle : b.length ≤ 140737488355328) (hl : l.length < 400) :
    Calls Try.prog 15 #[.pointer (some ⟨g, 0, none⟩), .int .i64 (k : Int)] w fun e w' => e = .returned (.int .i64 0) ∧ Ndid w w' S g (l ++ [b]) := by
  have HA := Lib.hid (rat_some h k hk)
  have HS := Lib.hid (fun A n cap B hx hn hB hle => rsend_any h A n cap B b hx hn hB hle hl)
  have HL := Lib.hid (fun q => Nb.lt h (k := q))
  clear h hk hl
  go_enter Try.func15, Try.ntmps15
  go_wp2_with (go_at_call 17; refine HA.out.mono ?_; rintro e w1 ⟨v, rfl, hb, rfl⟩; obtain ⟨Av, cv, rfl, -, -, -, hrd⟩ := hb.rd HL.out)
  go_wp2_with (go_at_call 10; refine (HS.out Av b.length cv _ hrd rfl (Nat.le_refl _) hle).mono ?_; rintro e w' ⟨rfl, hd⟩)
  go_ret
  exact ⟨rfl, hd⟩
end
end Go.Proofs.Ytceleihfdpgpiaa
