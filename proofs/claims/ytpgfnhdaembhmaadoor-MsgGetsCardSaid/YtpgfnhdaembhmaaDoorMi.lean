/- A body's reader, and what it reads: the program's. -/
import Derived.Test.YtpgfnhdaembhmaaDoorMf
import Derived.Test.YtpgfnhdaembhmaaDoorKitH
namespace Go.Proofs.YtpgfnhdaembhmaaDoor
open Go.RowKit Go.Shelf

/-- a reader in a block: the bytes, the place, the first error -/
def rdvs (A : Option Addr) (n cap : Nat) (at_ err : Int) : List Value := [.slice A n cap, .int .i64 at_, .int .i64 err]
structure Rdr (w : World) (g : Nat) (A : Option Addr) (n cap : Nat) (at_ err : Int) : Prop where
  rng : w.rangeAt g 0 (rdvs A n cap at_ err)
  th : w.there g 0 3
theorem Rdr.below {w w' : World} {g : Nat} {A : Option Addr} {n cap : Nat} {at_ err : Int} (h : Rdr w g A n cap at_ err) {B : Nat} (hb : Below B w w') (hB : g < B) : Rdr w' g A n cap at_ err :=
  ⟨range_below h.rng hb hB, there_below h.th hb hB⟩
theorem Rdr.c0 {w : World} {g : Nat} {A : Option Addr} {n cap : Nat} {at_ err : Int} (h : Rdr w g A n cap at_ err) : w.cell? ⟨g, 0, none⟩ = some (.slice A n cap) := range_at h.rng 0 rfl
theorem Rdr.c1 {w : World} {g : Nat} {A : Option Addr} {n cap : Nat} {at_ err : Int} (h : Rdr w g A n cap at_ err) : w.cell? ⟨g, 1, none⟩ = some (.int .i64 at_) := range_at h.rng 1 rfl
theorem Rdr.c2 {w : World} {g : Nat} {A : Option Addr} {n cap : Nat} {at_ err : Int} (h : Rdr w g A n cap at_ err) : w.cell? ⟨g, 2, none⟩ = some (.int .i64 err) := range_at h.rng 2 rfl
theorem Rdr.f {w : World} {g : Nat} {A : Option Addr} {n cap : Nat} {at_ err : Int} (h : Rdr w g A n cap at_ err) (k : Nat) (hk : k < 3) : w.frozen? ⟨g, k, none⟩ = false := by
  have := (h.th k hk).2
  rwa [Nat.zero_add] at this
theorem grown_of_below {w w' : World} (h : Below w.heap.size w w') (row : Option Nat) : w.grownBy w' row := ⟨h.os, h.tape, h.output, h.size, fun k hk _ => h.block k hk⟩
/-- the place and the error set -/
theorem Rdr.set {w : World} {g : Nat} {A : Option Addr} {n cap : Nat} {at_ err : Int} (h : Rdr w g A n cap at_ err) (a e : Int) : Rdr ((w.setCell ⟨g, 1, none⟩ (.int .i64 a)).setCell ⟨g, 2, none⟩ (.int .i64 e)) g A n cap a e := by
  show Rdr (w.setCells g 1 [.int .i64 a, .int .i64 e]) g A n cap a e
  have h0 : w.rangeAt g 0 [.slice A n cap] := fun j v hv => by
    match j, hv with
    | 0, hv => exact h.rng 0 v hv
    | j + 1, hv => cases hv
  have h1 := World.rangeAt_setCells_apart h0 g 1 [.int .i64 a, .int .i64 e] (.inr (.inl (Nat.le_refl _)))
  have h2 := World.rangeAt_setCells_same w g 1 [.int .i64 a, .int .i64 e] (fun j hj => by
    have := h.th (1 + j) (by simp at hj; omega)
    rwa [Nat.zero_add] at this)
  refine ⟨fun j v hv => ?_, World.there_setCells h.th g 1 _⟩
  match j, hv with
  | 0, hv => exact h1 0 v hv
  | 1, hv => exact h2 0 v hv
  | 2, hv => exact h2 1 v hv
  | j + 3, hv => cases hv
theorem Rdr.kept1 {w : World} {g : Nat} {A : Option Addr} {n cap : Nat} {at_ err : Int} (h : Rdr w g A n cap at_ err) (a : Int) : (w.setCell ⟨g, 1, none⟩ (.int .i64 a)).cell? ⟨g, 2, none⟩ = some (.int .i64 err) ∧ (w.setCell ⟨g, 1, none⟩ (.int .i64 a)).frozen? ⟨g, 2, none⟩ = false := by
  have h2 : w.rangeAt g 2 [.int .i64 err] := fun j v hv => by
    match j, hv with
    | 0, hv => exact h.rng 2 v hv
    | j + 1, hv => cases hv
  have h1 := World.rangeAt_setCells_apart h2 g 1 [.int .i64 a] (.inr (.inr (Nat.le_refl _)))
  have h3 := (World.there_setCells h.th g 1 [.int .i64 a]) 2 (by decide)
  exact ⟨h1 0 _ rfl, h3.2⟩
theorem Rdr.grown {w w' : World} {g b : Nat} {A : Option Addr} {n cap : Nat} {at_ err : Int} (h : Rdr w g A n cap at_ err) (hg : w.grownBy w' (some b)) (hb : b ≠ g) (hgw : g < w.heap.size) : Rdr w' g A n cap at_ err := by
  have hk : ∀ j, w'.cell? ⟨g, j, none⟩ = w.cell? ⟨g, j, none⟩ := fun j => World.cell?_of_block (hg.block g hgw (fun e => hb (by injection e with e; exact e.symm)))
  have hf : ∀ j, w'.frozen? ⟨g, j, none⟩ = w.frozen? ⟨g, j, none⟩ := fun j => World.frozen?_of_block (hg.block g hgw (fun e => hb (by injection e with e; exact e.symm)))
  exact ⟨fun j v hv => by rw [hk]; exact h.rng j v hv, fun j hj => by rw [hk, hf]; exact h.th j hj⟩

set_option maxRecDepth 100000 in
set_option maxHeartbeats 4000000 in
theorem readI_any (g : Nat) (A : Option Addr) (n cap B : Nat) (xs : List Int) (at_ err : Int) (w : World) (hr : Rdr w g A n cap at_ err) (hg : B ≤ g) (hgw : g < w.heap.size) (hx : Rd w B A (u8s xs)) (hn : xs.length = n) (hnc : n ≤ cap) (hcap : cap ≤ maxLen) (hb : Fm.By xs)
    (hat : err = 0 → -9223372036854775808 ≤ at_ ∧ at_ ≤ 9223372036854775807) :
    Calls Tryd.prog 43 #[.pointer (some ⟨g, 0, none⟩), .func (.func 44) #[] #[]] w fun e w' => ∃ v, e = .returned v ∧ w'.ownsRow w.heap.size 2 1 v (Mm.thenR [] (at_, err) (Wm.rints xs)).1.length (i64s (Mm.thenR [] (at_, err) (Wm.rints xs)).1) ∧
      Rdr w' g A n cap (Mm.thenR [] (at_, err) (Wm.rints xs)).2.1 (Mm.thenR [] (at_, err) (Wm.rints xs)).2.2 ∧ w.grownBy w' (some g) := by
  have k2 := hr.c2
  by_cases he : err = 0
  case neg =>
    have HE := Lib.hid (Mm.thenR_no (z := ([] : List Int)) (s := (at_, err)) (r := Wm.rints xs) he)
    have hq : (err == 0) = false := by rw [beq_eq_false_iff_ne]; exact he
    have HR := Lib.hid hr
    clear he hr
    go_enter Tryd.func43, Tryd.ntmps43
    go_wp2
    go_ret
    rw [HE.out]
    exact ⟨_, rfl, own_none, HR.out, grown_of_below (Below.refl _ _) _⟩
  subst he
  have HE := Lib.hid (Mm.thenR_ok (z := ([] : List Int)) (s := (at_, 0)) (r := Wm.rints xs) rfl)
  dsimp only at HE
  obtain ⟨t0, t1⟩ := hat rfl
  have HR := Lib.hid (fun (W : World) (h : Below w.heap.size w W) => hr.below h hgw)
  have HC := Lib.hid (fun (W : World) (h : Below w.heap.size w W) => Ints_any A n cap B xs at_ W (hx.below (h.mono (by omega))) hn hnc hcap (Nat.le_trans (by omega) h.size) hb t0 t1)
  clear hr hx hat
  rw [HE.out]
  generalize Wm.rints xs at_ = q at *
  obtain ⟨q1, q2, q3⟩ := q
  dsimp only at *
  go_enter Tryd.func43, Tryd.ntmps43
  go_wp2_with fail
  refine region_F (fun W => Below w.heap.size w W) (fun j => j == 22 || j == 25) (by kernel_rfl) ?_
  have hC : Below w.heap.size w w.drew := (Below.refl _ _).drew
  refine anyP_take (i := 0) (v := ?v0_229) (a' := ?a0_229) rfl (by kernel_rfl) (by kernel_rfl) (by kernel_rfl) (fun _ _ _ h => h) (by first | exact .inl hC | exact .inr (by kernel_rfl)) (by kernel_rfl) ?w0_229 ?y0_229 ?f0_229 ?r0_229
  case w0_229 => kernel_rfl
  case y0_229 => (intro w hC; go_simp; try with_reducible rfl)
  case f0_229 => (go_simp; try with_reducible rfl)
  refine anyP_take (i := 1) (v := ?v1_230) (a' := ?a1_230) rfl (by kernel_rfl) (by kernel_rfl) (by kernel_rfl) (fun _ _ _ h => h) (by first | exact .inl hC | exact .inr (by kernel_rfl)) (by kernel_rfl) ?w1_230 ?y1_230 ?f1_230 ?r1_230
  case w1_230 => kernel_rfl
  case y1_230 => (intro w hC; go_simp; try with_reducible rfl)
  case f1_230 => (go_simp; try with_reducible rfl)
  refine anyP_take (i := 2) (v := ?v2_231) (a' := ?a2_231) rfl (by kernel_rfl) (by kernel_rfl) (by kernel_rfl) (fun _ _ _ h => h) (by first | exact .inl hC | exact .inr (by kernel_rfl)) (by kernel_rfl) ?w2_231 ?y2_231 ?f2_231 ?r2_231
  case w2_231 => kernel_rfl
  case y2_231 => (intro w hC; go_simp; try with_reducible rfl)
  case f2_231 => (go_simp; try with_reducible rfl)
  refine anyP_take (i := 3) (v := ?v3_232) (a' := ?a3_232) rfl (by kernel_rfl) (by kernel_rfl) (by kernel_rfl) (fun _ _ _ h => h) (by first | exact .inl hC | exact .inr (by kernel_rfl)) (by kernel_rfl) ?w3_232 ?y3_232 ?f3_232 ?r3_232
  case w3_232 => kernel_rfl
  case y3_232 => (intro w hC; go_simp; try with_reducible rfl)
  case f3_232 => (go_simp; try with_reducible rfl)
  refine anyP_take (i := 4) (v := ?v4_233) (a' := ?a4_233) rfl (by kernel_rfl) (by kernel_rfl) (by kernel_rfl) (fun _ _ _ h => h) (by first | exact .inl hC | exact .inr (by kernel_rfl)) (by kernel_rfl) ?w4_233 ?y4_233 ?f4_233 ?r4_233
  case w4_233 => kernel_rfl
  case y4_233 => (intro w hC; go_simp; try with_reducible rfl)
  case f4_233 => (go_simp; try with_reducible rfl)
  refine anyP_take (i := 5) (v := ?v5_234) (a' := ?a5_234) rfl (by kernel_rfl) (by kernel_rfl) (by kernel_rfl) (fun _ _ _ h => h) (by first | exact .inl hC | exact .inr (by kernel_rfl)) (by kernel_rfl) ?w5_234 ?y5_234 ?f5_234 ?r5_234
  case w5_234 => kernel_rfl
  case y5_234 => (intro w hC; go_simp; try with_reducible rfl)
  case f5_234 => (go_simp; try with_reducible rfl)
  refine anyP_take (i := 6) (v := ?v6_235) (a' := ?a6_235) rfl (by kernel_rfl) (by kernel_rfl) (by kernel_rfl) (fun _ _ _ h => h) (by first | exact .inl hC | exact .inr (by kernel_rfl)) (by kernel_rfl) ?w6_235 ?y6_235 ?f6_235 ?r6_235
  case w6_235 => kernel_rfl
  case y6_235 => (intro w hC; go_simp; try with_reducible rfl)
  case f6_235 => (go_simp; try with_reducible rfl)
  refine anyP_take (i := 8) (v := ?v8_236) (a' := ?a8_236) rfl (by kernel_rfl) (by kernel_rfl) (by kernel_rfl) (fun _ _ _ h => h) (by first | exact .inl hC | exact .inr (by kernel_rfl)) (by kernel_rfl) ?w8_236 ?y8_236 ?f8_236 ?r8_236
  case w8_236 => kernel_rfl
  case y8_236 => (intro w hC; go_simp; try with_reducible rfl)
  case f8_236 => (go_simp; try with_reducible rfl)
  refine anyP_take (i := 9) (v := ?v9_237) (a' := ?a9_237) rfl (by kernel_rfl) (by kernel_rfl) (by kernel_rfl) (fun _ _ _ h => h) (by first | exact .inl hC | exact .inr (by kernel_rfl)) (by kernel_rfl) ?w9_237 ?y9_237 ?f9_237 ?r9_237
  case w9_237 => kernel_rfl
  case y9_237 => (intro w hC; go_simp; try with_reducible rfl)
  case f9_237 => (go_simp; try with_reducible rfl)
  refine anyP_take (i := 10) (v := ?v10_238) (a' := ?a10_238) rfl (by kernel_rfl) (by kernel_rfl) (by kernel_rfl) (fun _ _ _ h => h) (by first | exact .inl hC | exact .inr (by kernel_rfl)) (by kernel_rfl) ?w10_238 ?y10_238 ?f10_238 ?r10_238
  case w10_238 => kernel_rfl
  case y10_238 => (intro w hC; go_simp; try with_reducible rfl)
  case f10_238 => (go_simp; try with_reducible rfl)
  refine anyP_take (i := 11) (v := ?v11_239) (a' := ?a11_239) rfl (by kernel_rfl) (by kernel_rfl) (by kernel_rfl) (fun _ _ _ h => h) (by first | exact .inl hC | exact .inr (by kernel_rfl)) (by kernel_rfl) ?w11_239 ?y11_239 ?f11_239 ?r11_239
  case w11_239 => kernel_rfl
  case y11_239 => (intro w hC; go_simp; try with_reducible rfl)
  case f11_239 => (go_simp; try with_reducible rfl)
  refine anyF_take (i := 7) (v := ?v7_240) (a' := ?a7_240) rfl (by kernel_rfl) (by kernel_rfl) (by kernel_rfl) (fun _ _ _ h => h) hC (by kernel_rfl) ?w7_240 ?y7_240 ?f7_240 ?r7_240
  case w7_240 => kernel_rfl
  case y7_240 => (intro w hC; have h4 := (HR.out w hC).c0; go_simp; try with_reducible rfl)
  case f7_240 => (go_simp; try with_reducible rfl)
  refine anyF_take (i := 12) (v := ?v12_241) (a' := ?a12_241) rfl (by kernel_rfl) (by kernel_rfl) (by kernel_rfl) (fun _ _ _ h => h) hC (by kernel_rfl) ?w12_241 ?y12_241 ?f12_241 ?r12_241
  case w12_241 => kernel_rfl
  case y12_241 => (intro w hC; have h4 := (HR.out w hC).c1; go_simp; try with_reducible rfl)
  case f12_241 => (go_simp; try with_reducible rfl)
  refine anyF_one (i := 13) rfl (by kernel_rfl) (by kernel_rfl) (fun K hK => ?_)
  go_simp
  refine (HC.out _ hC).mono ?_
  rintro e w2 ⟨v, rfl, hown, hb2⟩
  have hC2 : Below w.heap.size w w2 := hC.trans (hb2.mono (by simp))
  have HO := Lib.hid (own_mono hown hC.size)
  refine hK _ _ ⟨.inl hC2, ?_⟩
  clear hK K hown hb2
  refine anyP_take (i := 14) (v := ?v14_242) (a' := ?a14_242) rfl (by kernel_rfl) (by kernel_rfl) (by kernel_rfl) (fun _ _ _ h => h) (by first | exact .inl hC2 | exact .inr (by kernel_rfl)) (by kernel_rfl) ?w14_242 ?y14_242 ?f14_242 ?r14_242
  case w14_242 => kernel_rfl
  case y14_242 => (intro w hC; go_simp; try with_reducible rfl)
  case f14_242 => (go_simp; try with_reducible rfl)
  refine anyP_take (i := 15) (v := ?v15_243) (a' := ?a15_243) rfl (by kernel_rfl) (by kernel_rfl) (by kernel_rfl) (fun _ _ _ h => h) (by first | exact .inl hC2 | exact .inr (by kernel_rfl)) (by kernel_rfl) ?w15_243 ?y15_243 ?f15_243 ?r15_243
  case w15_243 => kernel_rfl
  case y15_243 => (intro w hC; go_simp; try with_reducible rfl)
  case f15_243 => (go_simp; try with_reducible rfl)
  refine anyP_take (i := 16) (v := ?v16_244) (a' := ?a16_244) rfl (by kernel_rfl) (by kernel_rfl) (by kernel_rfl) (fun _ _ _ h => h) (by first | exact .inl hC2 | exact .inr (by kernel_rfl)) (by kernel_rfl) ?w16_244 ?y16_244 ?f16_244 ?r16_244
  case w16_244 => kernel_rfl
  case y16_244 => (intro w hC; go_simp; try with_reducible rfl)
  case f16_244 => (go_simp; try with_reducible rfl)
  refine anyP_take (i := 17) (v := ?v17_245) (a' := ?a17_245) rfl (by kernel_rfl) (by kernel_rfl) (by kernel_rfl) (fun _ _ _ h => h) (by first | exact .inl hC2 | exact .inr (by kernel_rfl)) (by kernel_rfl) ?w17_245 ?y17_245 ?f17_245 ?r17_245
  case w17_245 => kernel_rfl
  case y17_245 => (intro w hC; go_simp; try with_reducible rfl)
  case f17_245 => (go_simp; try with_reducible rfl)
  refine anyP_take (i := 18) (v := ?v18_246) (a' := ?a18_246) rfl (by kernel_rfl) (by kernel_rfl) (by kernel_rfl) (fun _ _ _ h => h) (by first | exact .inl hC2 | exact .inr (by kernel_rfl)) (by kernel_rfl) ?w18_246 ?y18_246 ?f18_246 ?r18_246
  case w18_246 => kernel_rfl
  case y18_246 => (intro w hC; go_simp; try with_reducible rfl)
  case f18_246 => (go_simp; try with_reducible rfl)
  refine anyP_take (i := 19) (v := ?v19_247) (a' := ?a19_247) rfl (by kernel_rfl) (by kernel_rfl) (by kernel_rfl) (fun _ _ _ h => h) (by first | exact .inl hC2 | exact .inr (by kernel_rfl)) (by kernel_rfl) ?w19_247 ?y19_247 ?f19_247 ?r19_247
  case w19_247 => kernel_rfl
  case y19_247 => (intro w hC; go_simp; try with_reducible rfl)
  case f19_247 => (go_simp; try with_reducible rfl)
  refine anyP_take (i := 20) (v := ?v20_248) (a' := ?a20_248) rfl (by kernel_rfl) (by kernel_rfl) (by kernel_rfl) (fun _ _ _ h => h) (by first | exact .inl hC2 | exact .inr (by kernel_rfl)) (by kernel_rfl) ?w20_248 ?y20_248 ?f20_248 ?r20_248
  case w20_248 => kernel_rfl
  case y20_248 => (intro w hC; go_simp; try with_reducible rfl)
  case f20_248 => (go_simp; try with_reducible rfl)
  refine anyP_take (i := 21) (v := ?v21_249) (a' := ?a21_249) rfl (by kernel_rfl) (by kernel_rfl) (by kernel_rfl) (fun _ _ _ h => h) (by first | exact .inl hC2 | exact .inr (by kernel_rfl)) (by kernel_rfl) ?w21_249 ?y21_249 ?f21_249 ?r21_249
  case w21_249 => kernel_rfl
  case y21_249 => (intro w hC; go_simp; try with_reducible rfl)
  case f21_249 => (go_simp; try with_reducible rfl)
  have HR2 := Lib.hid (HR.out w2 hC2)
  have q1' := HR2.out.c1
  have f1' := HR2.out.f 1 (by decide)
  have q2' := HR2.out.kept1 q2
  obtain ⟨q2a, f2a⟩ := q2'
  refine anyF_one (i := 22) rfl (by kernel_rfl) (by kernel_rfl) (fun K hK => ?_)
  go_simp
  refine hK _ _ ⟨.inr (by kernel_rfl), ?_⟩
  clear hK K
  refine anyP_take (i := 23) (v := ?v23_250) (a' := ?a23_250) rfl (by kernel_rfl) (by kernel_rfl) (by kernel_rfl) (fun _ _ _ h => h) (by first | exact .inl hC2 | exact .inr (by kernel_rfl)) (by kernel_rfl) ?w23_250 ?y23_250 ?f23_250 ?r23_250
  case w23_250 => kernel_rfl
  case y23_250 => (intro w hC; go_simp; try with_reducible rfl)
  case f23_250 => (go_simp; try with_reducible rfl)
  refine anyP_take (i := 24) (v := ?v24_251) (a' := ?a24_251) rfl (by kernel_rfl) (by kernel_rfl) (by kernel_rfl) (fun _ _ _ h => h) (by first | exact .inl hC2 | exact .inr (by kernel_rfl)) (by kernel_rfl) ?w24_251 ?y24_251 ?f24_251 ?r24_251
  case w24_251 => kernel_rfl
  case y24_251 => (intro w hC; go_simp; try with_reducible rfl)
  case f24_251 => (go_simp; try with_reducible rfl)
  refine anyF_one (i := 25) rfl (by kernel_rfl) (by kernel_rfl) (fun K hK => ?_)
  go_simp
  refine hK _ _ ⟨.inr (by kernel_rfl), ?_⟩
  clear hK K q1' f1' q2a f2a
  refine anyF_done (by kernel_rfl) ?_
  have hgr : Hid (w2.grownBy ((w2.setCell ⟨g, 1, none⟩ (.int .i64 q2)).setCell ⟨g, 2, none⟩ (.int .i64 q3)) (some g)) := (grown_set1 g 1 _ w2).trans (grown_set1 g 2 _ _)
  have hRS := Lib.hid (HR2.out.set q2 q3)
  generalize (w2.setCell ⟨g, 1, none⟩ (.int .i64 q2)).setCell ⟨g, 2, none⟩ (.int .i64 q3) = w3 at *
  go_wp2
  go_ret
  exact ⟨_, rfl, own_grown HO.out hgr.out hgw, hRS.out, (grown_of_below hC2 _).trans hgr.out⟩

set_option maxRecDepth 100000 in
set_option maxHeartbeats 4000000 in
theorem readT_any (g : Nat) (A : Option Addr) (n cap B : Nat) (xs : List Int) (at_ err : Int) (w : World) (hr : Rdr w g A n cap at_ err) (hg : B ≤ g) (hgw : g < w.heap.size) (hx : Rd w B A (u8s xs)) (hn : xs.length = n) (hnc : n ≤ cap) (hcap : cap ≤ maxLen) (hb : Fm.By xs)
    (hat : err = 0 → -9223372036854775808 ≤ at_ ∧ at_ ≤ 9223372036854775807) :
    Calls Tryd.prog 45 #[.pointer (some ⟨g, 0, none⟩), .func (.func 46) #[] #[]] w fun e w' => ∃ v, e = .returned v ∧ w'.ownsRow w.heap.size 5 1 v (Mm.thenR [] (at_, err) (Wm.rtext xs)).1.length (u8s (Mm.thenR [] (at_, err) (Wm.rtext xs)).1) ∧
      Rdr w' g A n cap (Mm.thenR [] (at_, err) (Wm.rtext xs)).2.1 (Mm.thenR [] (at_, err) (Wm.rtext xs)).2.2 ∧ w.grownBy w' (some g) := by
  have k2 := hr.c2
  by_cases he : err = 0
  case neg =>
    have HE := Lib.hid (Mm.thenR_no (z := ([] : List Int)) (s := (at_, err)) (r := Wm.rtext xs) he)
    have hq : (err == 0) = false := by rw [beq_eq_false_iff_ne]; exact he
    have HR := Lib.hid hr
    clear he hr
    go_enter Tryd.func45, Tryd.ntmps45
    go_wp2
    go_ret
    rw [HE.out]
    exact ⟨_, rfl, own_none, HR.out, grown_of_below (Below.refl _ _) _⟩
  subst he
  have HE := Lib.hid (Mm.thenR_ok (z := ([] : List Int)) (s := (at_, 0)) (r := Wm.rtext xs) rfl)
  dsimp only at HE
  obtain ⟨t0, t1⟩ := hat rfl
  have HR := Lib.hid (fun (W : World) (h : Below w.heap.size w W) => hr.below h hgw)
  have HC := Lib.hid (fun (W : World) (h : Below w.heap.size w W) => Text_any A n cap B xs at_ W (hx.below (h.mono (by omega))) hn hnc hcap (Nat.le_trans (by omega) h.size) hb t0 t1)
  clear hr hx hat
  rw [HE.out]
  generalize Wm.rtext xs at_ = q at *
  obtain ⟨q1, q2, q3⟩ := q
  dsimp only at *
  go_enter Tryd.func45, Tryd.ntmps45
  go_wp2_with fail
  refine region_F (fun W => Below w.heap.size w W) (fun j => j == 22 || j == 25) (by kernel_rfl) ?_
  have hC : Below w.heap.size w w.drew := (Below.refl _ _).drew
  refine anyP_take (i := 0) (v := ?v0_252) (a' := ?a0_252) rfl (by kernel_rfl) (by kernel_rfl) (by kernel_rfl) (fun _ _ _ h => h) (by first | exact .inl hC | exact .inr (by kernel_rfl)) (by kernel_rfl) ?w0_252 ?y0_252 ?f0_252 ?r0_252
  case w0_252 => kernel_rfl
  case y0_252 => (intro w hC; go_simp; try with_reducible rfl)
  case f0_252 => (go_simp; try with_reducible rfl)
  refine anyP_take (i := 1) (v := ?v1_253) (a' := ?a1_253) rfl (by kernel_rfl) (by kernel_rfl) (by kernel_rfl) (fun _ _ _ h => h) (by first | exact .inl hC | exact .inr (by kernel_rfl)) (by kernel_rfl) ?w1_253 ?y1_253 ?f1_253 ?r1_253
  case w1_253 => kernel_rfl
  case y1_253 => (intro w hC; go_simp; try with_reducible rfl)
  case f1_253 => (go_simp; try with_reducible rfl)
  refine anyP_take (i := 2) (v := ?v2_254) (a' := ?a2_254) rfl (by kernel_rfl) (by kernel_rfl) (by kernel_rfl) (fun _ _ _ h => h) (by first | exact .inl hC | exact .inr (by kernel_rfl)) (by kernel_rfl) ?w2_254 ?y2_254 ?f2_254 ?r2_254
  case w2_254 => kernel_rfl
  case y2_254 => (intro w hC; go_simp; try with_reducible rfl)
  case f2_254 => (go_simp; try with_reducible rfl)
  refine anyP_take (i := 3) (v := ?v3_255) (a' := ?a3_255) rfl (by kernel_rfl) (by kernel_rfl) (by kernel_rfl) (fun _ _ _ h => h) (by first | exact .inl hC | exact .inr (by kernel_rfl)) (by kernel_rfl) ?w3_255 ?y3_255 ?f3_255 ?r3_255
  case w3_255 => kernel_rfl
  case y3_255 => (intro w hC; go_simp; try with_reducible rfl)
  case f3_255 => (go_simp; try with_reducible rfl)
  refine anyP_take (i := 4) (v := ?v4_256) (a' := ?a4_256) rfl (by kernel_rfl) (by kernel_rfl) (by kernel_rfl) (fun _ _ _ h => h) (by first | exact .inl hC | exact .inr (by kernel_rfl)) (by kernel_rfl) ?w4_256 ?y4_256 ?f4_256 ?r4_256
  case w4_256 => kernel_rfl
  case y4_256 => (intro w hC; go_simp; try with_reducible rfl)
  case f4_256 => (go_simp; try with_reducible rfl)
  refine anyP_take (i := 5) (v := ?v5_257) (a' := ?a5_257) rfl (by kernel_rfl) (by kernel_rfl) (by kernel_rfl) (fun _ _ _ h => h) (by first | exact .inl hC | exact .inr (by kernel_rfl)) (by kernel_rfl) ?w5_257 ?y5_257 ?f5_257 ?r5_257
  case w5_257 => kernel_rfl
  case y5_257 => (intro w hC; go_simp; try with_reducible rfl)
  case f5_257 => (go_simp; try with_reducible rfl)
  refine anyP_take (i := 6) (v := ?v6_258) (a' := ?a6_258) rfl (by kernel_rfl) (by kernel_rfl) (by kernel_rfl) (fun _ _ _ h => h) (by first | exact .inl hC | exact .inr (by kernel_rfl)) (by kernel_rfl) ?w6_258 ?y6_258 ?f6_258 ?r6_258
  case w6_258 => kernel_rfl
  case y6_258 => (intro w hC; go_simp; try with_reducible rfl)
  case f6_258 => (go_simp; try with_reducible rfl)
  refine anyP_take (i := 8) (v := ?v8_259) (a' := ?a8_259) rfl (by kernel_rfl) (by kernel_rfl) (by kernel_rfl) (fun _ _ _ h => h) (by first | exact .inl hC | exact .inr (by kernel_rfl)) (by kernel_rfl) ?w8_259 ?y8_259 ?f8_259 ?r8_259
  case w8_259 => kernel_rfl
  case y8_259 => (intro w hC; go_simp; try with_reducible rfl)
  case f8_259 => (go_simp; try with_reducible rfl)
  refine anyP_take (i := 9) (v := ?v9_260) (a' := ?a9_260) rfl (by kernel_rfl) (by kernel_rfl) (by kernel_rfl) (fun _ _ _ h => h) (by first | exact .inl hC | exact .inr (by kernel_rfl)) (by kernel_rfl) ?w9_260 ?y9_260 ?f9_260 ?r9_260
  case w9_260 => kernel_rfl
  case y9_260 => (intro w hC; go_simp; try with_reducible rfl)
  case f9_260 => (go_simp; try with_reducible rfl)
  refine anyP_take (i := 10) (v := ?v10_261) (a' := ?a10_261) rfl (by kernel_rfl) (by kernel_rfl) (by kernel_rfl) (fun _ _ _ h => h) (by first | exact .inl hC | exact .inr (by kernel_rfl)) (by kernel_rfl) ?w10_261 ?y10_261 ?f10_261 ?r10_261
  case w10_261 => kernel_rfl
  case y10_261 => (intro w hC; go_simp; try with_reducible rfl)
  case f10_261 => (go_simp; try with_reducible rfl)
  refine anyP_take (i := 11) (v := ?v11_262) (a' := ?a11_262) rfl (by kernel_rfl) (by kernel_rfl) (by kernel_rfl) (fun _ _ _ h => h) (by first | exact .inl hC | exact .inr (by kernel_rfl)) (by kernel_rfl) ?w11_262 ?y11_262 ?f11_262 ?r11_262
  case w11_262 => kernel_rfl
  case y11_262 => (intro w hC; go_simp; try with_reducible rfl)
  case f11_262 => (go_simp; try with_reducible rfl)
  refine anyF_take (i := 7) (v := ?v7_263) (a' := ?a7_263) rfl (by kernel_rfl) (by kernel_rfl) (by kernel_rfl) (fun _ _ _ h => h) hC (by kernel_rfl) ?w7_263 ?y7_263 ?f7_263 ?r7_263
  case w7_263 => kernel_rfl
  case y7_263 => (intro w hC; have h4 := (HR.out w hC).c0; go_simp; try with_reducible rfl)
  case f7_263 => (go_simp; try with_reducible rfl)
  refine anyF_take (i := 12) (v := ?v12_264) (a' := ?a12_264) rfl (by kernel_rfl) (by kernel_rfl) (by kernel_rfl) (fun _ _ _ h => h) hC (by kernel_rfl) ?w12_264 ?y12_264 ?f12_264 ?r12_264
  case w12_264 => kernel_rfl
  case y12_264 => (intro w hC; have h4 := (HR.out w hC).c1; go_simp; try with_reducible rfl)
  case f12_264 => (go_simp; try with_reducible rfl)
  refine anyF_one (i := 13) rfl (by kernel_rfl) (by kernel_rfl) (fun K hK => ?_)
  go_simp
  refine (HC.out _ hC).mono ?_
  rintro e w2 ⟨v, rfl, hown, hb2⟩
  have hC2 : Below w.heap.size w w2 := hC.trans (hb2.mono (by simp))
  have HO := Lib.hid (own_mono hown hC.size)
  refine hK _ _ ⟨.inl hC2, ?_⟩
  clear hK K hown hb2
  refine anyP_take (i := 14) (v := ?v14_265) (a' := ?a14_265) rfl (by kernel_rfl) (by kernel_rfl) (by kernel_rfl) (fun _ _ _ h => h) (by first | exact .inl hC2 | exact .inr (by kernel_rfl)) (by kernel_rfl) ?w14_265 ?y14_265 ?f14_265 ?r14_265
  case w14_265 => kernel_rfl
  case y14_265 => (intro w hC; go_simp; try with_reducible rfl)
  case f14_265 => (go_simp; try with_reducible rfl)
  refine anyP_take (i := 15) (v := ?v15_266) (a' := ?a15_266) rfl (by kernel_rfl) (by kernel_rfl) (by kernel_rfl) (fun _ _ _ h => h) (by first | exact .inl hC2 | exact .inr (by kernel_rfl)) (by kernel_rfl) ?w15_266 ?y15_266 ?f15_266 ?r15_266
  case w15_266 => kernel_rfl
  case y15_266 => (intro w hC; go_simp; try with_reducible rfl)
  case f15_266 => (go_simp; try with_reducible rfl)
  refine anyP_take (i := 16) (v := ?v16_267) (a' := ?a16_267) rfl (by kernel_rfl) (by kernel_rfl) (by kernel_rfl) (fun _ _ _ h => h) (by first | exact .inl hC2 | exact .inr (by kernel_rfl)) (by kernel_rfl) ?w16_267 ?y16_267 ?f16_267 ?r16_267
  case w16_267 => kernel_rfl
  case y16_267 => (intro w hC; go_simp; try with_reducible rfl)
  case f16_267 => (go_simp; try with_reducible rfl)
  refine anyP_take (i := 17) (v := ?v17_268) (a' := ?a17_268) rfl (by kernel_rfl) (by kernel_rfl) (by kernel_rfl) (fun _ _ _ h => h) (by first | exact .inl hC2 | exact .inr (by kernel_rfl)) (by kernel_rfl) ?w17_268 ?y17_268 ?f17_268 ?r17_268
  case w17_268 => kernel_rfl
  case y17_268 => (intro w hC; go_simp; try with_reducible rfl)
  case f17_268 => (go_simp; try with_reducible rfl)
  refine anyP_take (i := 18) (v := ?v18_269) (a' := ?a18_269) rfl (by kernel_rfl) (by kernel_rfl) (by kernel_rfl) (fun _ _ _ h => h) (by first | exact .inl hC2 | exact .inr (by kernel_rfl)) (by kernel_rfl) ?w18_269 ?y18_269 ?f18_269 ?r18_269
  case w18_269 => kernel_rfl
  case y18_269 => (intro w hC; go_simp; try with_reducible rfl)
  case f18_269 => (go_simp; try with_reducible rfl)
  refine anyP_take (i := 19) (v := ?v19_270) (a' := ?a19_270) rfl (by kernel_rfl) (by kernel_rfl) (by kernel_rfl) (fun _ _ _ h => h) (by first | exact .inl hC2 | exact .inr (by kernel_rfl)) (by kernel_rfl) ?w19_270 ?y19_270 ?f19_270 ?r19_270
  case w19_270 => kernel_rfl
  case y19_270 => (intro w hC; go_simp; try with_reducible rfl)
  case f19_270 => (go_simp; try with_reducible rfl)
  refine anyP_take (i := 20) (v := ?v20_271) (a' := ?a20_271) rfl (by kernel_rfl) (by kernel_rfl) (by kernel_rfl) (fun _ _ _ h => h) (by first | exact .inl hC2 | exact .inr (by kernel_rfl)) (by kernel_rfl) ?w20_271 ?y20_271 ?f20_271 ?r20_271
  case w20_271 => kernel_rfl
  case y20_271 => (intro w hC; go_simp; try with_reducible rfl)
  case f20_271 => (go_simp; try with_reducible rfl)
  refine anyP_take (i := 21) (v := ?v21_272) (a' := ?a21_272) rfl (by kernel_rfl) (by kernel_rfl) (by kernel_rfl) (fun _ _ _ h => h) (by first | exact .inl hC2 | exact .inr (by kernel_rfl)) (by kernel_rfl) ?w21_272 ?y21_272 ?f21_272 ?r21_272
  case w21_272 => kernel_rfl
  case y21_272 => (intro w hC; go_simp; try with_reducible rfl)
  case f21_272 => (go_simp; try with_reducible rfl)
  have HR2 := Lib.hid (HR.out w2 hC2)
  have q1' := HR2.out.c1
  have f1' := HR2.out.f 1 (by decide)
  have q2' := HR2.out.kept1 q2
  obtain ⟨q2a, f2a⟩ := q2'
  refine anyF_one (i := 22) rfl (by kernel_rfl) (by kernel_rfl) (fun K hK => ?_)
  go_simp
  refine hK _ _ ⟨.inr (by kernel_rfl), ?_⟩
  clear hK K
  refine anyP_take (i := 23) (v := ?v23_273) (a' := ?a23_273) rfl (by kernel_rfl) (by kernel_rfl) (by kernel_rfl) (fun _ _ _ h => h) (by first | exact .inl hC2 | exact .inr (by kernel_rfl)) (by kernel_rfl) ?w23_273 ?y23_273 ?f23_273 ?r23_273
  case w23_273 => kernel_rfl
  case y23_273 => (intro w hC; go_simp; try with_reducible rfl)
  case f23_273 => (go_simp; try with_reducible rfl)
  refine anyP_take (i := 24) (v := ?v24_274) (a' := ?a24_274) rfl (by kernel_rfl) (by kernel_rfl) (by kernel_rfl) (fun _ _ _ h => h) (by first | exact .inl hC2 | exact .inr (by kernel_rfl)) (by kernel_rfl) ?w24_274 ?y24_274 ?f24_274 ?r24_274
  case w24_274 => kernel_rfl
  case y24_274 => (intro w hC; go_simp; try with_reducible rfl)
  case f24_274 => (go_simp; try with_reducible rfl)
  refine anyF_one (i := 25) rfl (by kernel_rfl) (by kernel_rfl) (fun K hK => ?_)
  go_simp
  refine hK _ _ ⟨.inr (by kernel_rfl), ?_⟩
  clear hK K q1' f1' q2a f2a
  refine anyF_done (by kernel_rfl) ?_
  have hgr : Hid (w2.grownBy ((w2.setCell ⟨g, 1, none⟩ (.int .i64 q2)).setCell ⟨g, 2, none⟩ (.int .i64 q3)) (some g)) := (grown_set1 g 1 _ w2).trans (grown_set1 g 2 _ _)
  have hRS := Lib.hid (HR2.out.set q2 q3)
  generalize (w2.setCell ⟨g, 1, none⟩ (.int .i64 q2)).setCell ⟨g, 2, none⟩ (.int .i64 q3) = w3 at *
  go_wp2
  go_ret
  exact ⟨_, rfl, own_grown HO.out hgr.out hgw, hRS.out, (grown_of_below hC2 _).trans hgr.out⟩
end Go.Proofs.YtpgfnhdaembhmaaDoor
