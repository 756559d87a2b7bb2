/- Who is left out; what is left of the penalties: the program's. -/
import Derived.Test.YtpbogacodhjlfaaDoorIh
namespace Go.Proofs.YtpbogacodhjlfaaDoor
open Go.RowKit Go.Shelf Km Kx Kc Kt
set_option linter.unusedVariables false

namespace Gm
theorem bitv_nat (k : Nat) : bitv (k : Int) = 2 ^ k := by
  unfold bitv
  rw [if_neg (by omega), Int.toNat_natCast]
theorem has_nat (m k : Nat) : has m (k : Int) = m.testBit k := by
  unfold has
  rw [decide_eq_true (by omega), Bool.true_and, Int.toNat_natCast]
def supF (was : Nat) (ps : List Int) (s r : Int) (i : Nat) : Bool := Dm.sup (was.testBit i) (ps.getD i 0) s r
theorem maskOf_yes {f : Nat → Bool} {k : Nat} (h : f k = true) : maskOf f (k + 1) = maskOf f k ||| 2 ^ k := by
  show (if f k = true then _ else _) = _
  rw [if_pos h]
theorem maskOf_no {f : Nat → Bool} {k : Nat} (h : f k = false) : maskOf f (k + 1) = maskOf f k := by
  show (if f k = true then _ else _) = _
  rw [if_neg (by rw [h]; decide)]
theorem pow16 {k : Nat} (h : k ≤ 16) : 2 ^ k ≤ 65536 := Nat.pow_le_pow_right (show 2 > 0 by decide) h
end Gm

set_option maxRecDepth 100000 in
set_option maxHeartbeats 2000000 in
theorem suppressed_any (c : Cf) (was : Nat) (A : Option Addr) (n cap B : Nat) (ps : List Int) (w : World) (hr : Rd w B A (Kc.i64s ps)) (hB : B ≤ w.heap.size) (hl : ps.length = n) (hn : n ≤ 16) (hw : was < 18446744073709551616) :
    Calls Tryd.prog 39 #[.agg (cf c).toArray, .int .u64 (was : Int), .slice A n cap] w fun e w' => e = .returned (.int .u64 ((Gm.maskOf (Gm.supF was ps c.suppress c.reuse) n : Nat) : Int)) ∧ Below w.heap.size w w' := by
  have HB := Lib.hid (Bxs.start w)
  have HR := Lib.hid (hr.more hB)
  have HL := Lib.hid hl
  clear hr hB hl
  go_enter Tryd.func39, Tryd.ntmps39
  go_wp2_with (first | ((with_reducible refine Kx.absorb HB ?_); clear HB; intro w_ HB) | ((with_reducible refine Kx.box_gate (d := some 3) ?_); (first | refine Kx.boxa HB rfl ?_ | refine Kx.boxt HB rfl rfl ?_ | refine Kx.box1 HB rfl rfl ?_); clear HB; intro b3 w_ HB; refine Kx.fr ?_) | ((with_reducible refine Kx.alloc_gate (d := some 3) ?_); (first | refine Kx.ala HB ?_ | refine Kx.al1 HB ?_); clear HB; intro b3 w_ HB; refine Kx.fr ?_) | ((with_reducible refine Kx.box_gate ?_); (first | refine Kx.boxa HB rfl ?_ | refine Kx.boxt HB rfl rfl ?_ | refine Kx.box1 HB rfl rfl ?_); clear HB; intro b_ w_ HB; refine Kx.fr ?_) | ((with_reducible refine Kx.alloc_gate ?_); (first | refine Kx.ala HB ?_ | refine Kx.al1 HB ?_); clear HB; intro b_ w_ HB; refine Kx.fr ?_) | ((with_reducible refine Kx.loads_gate ?_); first | refine Kx.l1 HB rfl rfl ?_ | refine Kx.la HB rfl ?_ | refine Kx.lo HB rfl HC.out ?_) | ((with_reducible refine Kx.loadg_gate ?_); first | refine Kx.l1g HB rfl rfl rfl ?_ | refine Kx.lag HB rfl rfl ?_ | refine Kx.log HB rfl HC.out rfl ?_) | ((with_reducible refine Kx.store_gate ?_); (first | refine Kx.stwa HB rfl rfl ?_ | refine Kx.sta HB rfl rfl ?_ | refine Kx.stc HB rfl rfl ?_ | refine Kx.stt HB rfl rfl rfl ?_ | refine Kx.st1 HB rfl rfl rfl ?_); clear HB; intro w_ HB))
  go_loopg [7, 12] n (fun gh sx ix wr => ∃ k : Nat, gh + k = n ∧ sx = .int .u64 ((Gm.maskOf (Gm.supF was ps c.suppress c.reuse) k : Nat) : Int) ∧ ix = .int .i64 (k : Int) ∧ Hid (Bxs w wr [(b3, cf c)]))
  case atStart => exact ⟨0, by omega, rfl, rfl, HB⟩
  case round =>
    clear HB
    obtain ⟨k, hk, rfl, rfl, HB⟩ := hrel
    by_cases hlt : k < n
    · have d3 : (k : Int) < (n : Int) := by omega
      obtain ⟨ad, rfl, -, hc⟩ := HR.out.num (k := k) (by rw [HL.out]; exact hlt)
      have hML := Gm.maskOf_lt (Gm.supF was ps c.suppress c.reuse) k
      have h16 := Gm.pow16 (show k ≤ 16 by omega)
      have HH : Hid (∀ W, Calls Tryd.prog 41 #[.int .u64 (was : Int), .int .i64 (k : Int)] W fun e w' => e = .returned (.bool (was.testBit k)) ∧ Below W.heap.size W w') := Lib.hid (fun W => by
        refine (PHas_any was (k : Int) W hw (by omega) (by omega)).mono ?_
        rintro e w' ⟨rfl, rfl⟩
        exact ⟨by rw [Gm.has_nat], Below.refl _ _⟩)
      have HT : Hid (∀ W, Calls Tryd.prog 21 #[.int .i64 (k : Int)] W fun e w' => e = .returned (.int .u64 ((2 ^ k : Nat) : Int)) ∧ Below W.heap.size W w') := Lib.hid (fun W => by
        have := bit_b (k : Int) W (by omega) (by omega)
        rwa [Gm.bitv_nat] at this)
      have hSD : Gm.supF was ps c.suppress c.reuse k = Dm.sup (was.testBit k) (ps.getD k 0) c.suppress c.reuse := rfl
      have hyes := Gm.maskOf_yes (f := Gm.supF was ps c.suppress c.reuse) (k := k)
      have hno := Gm.maskOf_no (f := Gm.supF was ps c.suppress c.reuse) (k := k)
      have hor := u64_or_nat (Gm.maskOf (Gm.supF was ps c.suppress c.reuse) k) (2 ^ k) (by omega) (by omega)
      have HS : Hid (∀ W, Calls Tryd.prog 53 #[.bool (was.testBit k), .int .i64 (ps.getD k 0), .int .i64 c.suppress, .int .i64 c.reuse] W fun e w' => e = .returned (.bool (Dm.sup (was.testBit k) (ps.getD k 0) c.suppress c.reuse)) ∧ Below W.heap.size W w') := Lib.hid (fun W => Sup_b _ _ _ _ W)
      rw [hSD] at hyes hno
      generalize ps.getD k 0 = x at *
      generalize was.testBit k = bw at *
      have HC := Lib.hid hc
      clear hc hML h16 hSD
      generalize hM : Gm.maskOf (Gm.supF was ps c.suppress c.reuse) k = M at *
      generalize 2 ^ k = X at *
      generalize hM2 : M ||| X = M2 at *
      clear hM hM2
      cases hs : Dm.sup bw x c.suppress c.reuse with
      | false =>
        rw [hs] at HS
        have HE := Lib.hid (hno hs)
        clear hyes hno hs hor
        go_wp2_with (first | ((with_reducible refine Kx.absorb HB ?_); clear HB; intro w_ HB) | ((with_reducible refine Kx.box_gate ?_); (first | refine Kx.boxa HB rfl ?_ | refine Kx.boxt HB rfl rfl ?_ | refine Kx.box1 HB rfl rfl ?_); clear HB; intro b_ w_ HB; refine Kx.fr ?_) | ((with_reducible refine Kx.alloc_gate ?_); (first | refine Kx.ala HB ?_ | refine Kx.al1 HB ?_); clear HB; intro b_ w_ HB; refine Kx.fr ?_) | ((with_reducible refine Kx.loads_gate ?_); first | refine Kx.l1 HB rfl rfl ?_ | refine Kx.la HB rfl ?_ | refine Kx.lo HB rfl HC.out ?_) | ((with_reducible refine Kx.loadg_gate ?_); first | refine Kx.l1g HB rfl rfl rfl ?_ | refine Kx.lag HB rfl rfl ?_ | refine Kx.log HB rfl HC.out rfl ?_) | ((with_reducible refine Kx.store_gate ?_); (first | refine Kx.stwa HB rfl rfl ?_ | refine Kx.sta HB rfl rfl ?_ | refine Kx.stc HB rfl rfl ?_ | refine Kx.stt HB rfl rfl rfl ?_ | refine Kx.st1 HB rfl rfl rfl ?_); clear HB; intro w_ HB))
        refine Kx.region_x HB (fun i => false) (by kernel_rfl) ?_
        refine Kx.tk 0 rfl ?_
        refine Kx.tk 1 rfl ?_
        refine anyW_call (i := 2) (v := ?v2_130) (f := ?g2_130) (args := ?s2_130) (a' := ?a2_130) (by first | exact Kx.bears_x | exact bears_u | assumption) rfl (by kernel_rfl) (by kernel_rfl) (by kernel_rfl) (fun _ _ _ h => h) (by kernel_rfl) ?c2_130 ?w2_130 ?y2_130 ?f2_130 ?r2_130
        case w2_130 => kernel_rfl
        case y2_130 => (intro W hW; go_simp; first | (refine ⟨?_, ?_⟩ <;> with_reducible rfl) | with_reducible rfl)
        case c2_130 => (intro W hW; refine Calls.mono (HH.out W) ?_; rintro e w_ ⟨rfl, hb_⟩; refine ⟨?_, by first | exact hb_ | exact hb_ ▸ Below.refl _ _⟩; with_reducible rfl)
        case f2_130 => (go_simp; try with_reducible rfl)
        refine Kx.tk 3 rfl ?_
        refine Kx.tk 4 rfl ?_
        first | refine Kx.xl1 5 rfl rfl rfl ?_ | refine Kx.xla 5 rfl rfl ?_ | refine Kx.xlo 5 rfl rfl HC.out ?_
        refine Kx.tk 6 rfl ?_
        first | refine Kx.xl1 7 rfl rfl rfl ?_ | refine Kx.xla 7 rfl rfl ?_ | refine Kx.xlo 7 rfl rfl HC.out ?_
        refine anyW_call (i := 8) (v := ?v8_131) (f := ?g8_131) (args := ?s8_131) (a' := ?a8_131) (by first | exact Kx.bears_x | exact bears_u | assumption) rfl (by kernel_rfl) (by kernel_rfl) (by kernel_rfl) (fun _ _ _ h => h) (by kernel_rfl) ?c8_131 ?w8_131 ?y8_131 ?f8_131 ?r8_131
        case w8_131 => kernel_rfl
        case y8_131 => (intro W hW; go_simp; first | (refine ⟨?_, ?_⟩ <;> with_reducible rfl) | with_reducible rfl)
        case c8_131 => (intro W hW; refine Calls.mono (HS.out W) ?_; rintro e w_ ⟨rfl, hb_⟩; refine ⟨?_, by first | exact hb_ | exact hb_ ▸ Below.refl _ _⟩; with_reducible rfl)
        case f8_131 => (go_simp; try with_reducible rfl)
        refine anyW_done (by kernel_rfl) ?_
        clear HB
        intro w_ HB_
        have HB := Lib.hid HB_
        clear HB_
        go_wp2_with (first | ((with_reducible refine Kx.absorb HB ?_); clear HB; intro w_ HB) | ((with_reducible refine Kx.box_gate ?_); (first | refine Kx.boxa HB rfl ?_ | refine Kx.boxt HB rfl rfl ?_ | refine Kx.box1 HB rfl rfl ?_); clear HB; intro b_ w_ HB; refine Kx.fr ?_) | ((with_reducible refine Kx.alloc_gate ?_); (first | refine Kx.ala HB ?_ | refine Kx.al1 HB ?_); clear HB; intro b_ w_ HB; refine Kx.fr ?_) | ((with_reducible refine Kx.loads_gate ?_); first | refine Kx.l1 HB rfl rfl ?_ | refine Kx.la HB rfl ?_ | refine Kx.lo HB rfl HC.out ?_) | ((with_reducible refine Kx.loadg_gate ?_); first | refine Kx.l1g HB rfl rfl rfl ?_ | refine Kx.lag HB rfl rfl ?_ | refine Kx.log HB rfl HC.out rfl ?_) | ((with_reducible refine Kx.store_gate ?_); (first | refine Kx.stwa HB rfl rfl ?_ | refine Kx.sta HB rfl rfl ?_ | refine Kx.stc HB rfl rfl ?_ | refine Kx.stt HB rfl rfl rfl ?_ | refine Kx.st1 HB rfl rfl rfl ?_); clear HB; intro w_ HB))
        go_roundg (gk - 1)
        case measure => omega
        case rel => exact ⟨k + 1, by omega, by rw [HE.out], by go_num, HB⟩
      | true =>
        rw [hs] at HS
        have HE := Lib.hid (hyes hs)
        clear hyes hno hs
        go_wp2_with (first | ((with_reducible refine Kx.absorb HB ?_); clear HB; intro w_ HB) | ((with_reducible refine Kx.box_gate ?_); (first | refine Kx.boxa HB rfl ?_ | refine Kx.boxt HB rfl rfl ?_ | refine Kx.box1 HB rfl rfl ?_); clear HB; intro b_ w_ HB; refine Kx.fr ?_) | ((with_reducible refine Kx.alloc_gate ?_); (first | refine Kx.ala HB ?_ | refine Kx.al1 HB ?_); clear HB; intro b_ w_ HB; refine Kx.fr ?_) | ((with_reducible refine Kx.loads_gate ?_); first | refine Kx.l1 HB rfl rfl ?_ | refine Kx.la HB rfl ?_ | refine Kx.lo HB rfl HC.out ?_) | ((with_reducible refine Kx.loadg_gate ?_); first | refine Kx.l1g HB rfl rfl rfl ?_ | refine Kx.lag HB rfl rfl ?_ | refine Kx.log HB rfl HC.out rfl ?_) | ((with_reducible refine Kx.store_gate ?_); (first | refine Kx.stwa HB rfl rfl ?_ | refine Kx.sta HB rfl rfl ?_ | refine Kx.stc HB rfl rfl ?_ | refine Kx.stt HB rfl rfl rfl ?_ | refine Kx.st1 HB rfl rfl rfl ?_); clear HB; intro w_ HB))
        refine Kx.region_x HB (fun i => false) (by kernel_rfl) ?_
        refine Kx.tk 0 rfl ?_
        refine Kx.tk 1 rfl ?_
        refine anyW_call (i := 2) (v := ?v2_132) (f := ?g2_132) (args := ?s2_132) (a' := ?a2_132) (by first | exact Kx.bears_x | exact bears_u | assumption) rfl (by kernel_rfl) (by kernel_rfl) (by kernel_rfl) (fun _ _ _ h => h) (by kernel_rfl) ?c2_132 ?w2_132 ?y2_132 ?f2_132 ?r2_132
        case w2_132 => kernel_rfl
        case y2_132 => (intro W hW; go_simp; first | (refine ⟨?_, ?_⟩ <;> with_reducible rfl) | with_reducible rfl)
        case c2_132 => (intro W hW; refine Calls.mono (HH.out W) ?_; rintro e w_ ⟨rfl, hb_⟩; refine ⟨?_, by first | exact hb_ | exact hb_ ▸ Below.refl _ _⟩; with_reducible rfl)
        case f2_132 => (go_simp; try with_reducible rfl)
        refine Kx.tk 3 rfl ?_
        refine Kx.tk 4 rfl ?_
        first | refine Kx.xl1 5 rfl rfl rfl ?_ | refine Kx.xla 5 rfl rfl ?_ | refine Kx.xlo 5 rfl rfl HC.out ?_
        refine Kx.tk 6 rfl ?_
        first | refine Kx.xl1 7 rfl rfl rfl ?_ | refine Kx.xla 7 rfl rfl ?_ | refine Kx.xlo 7 rfl rfl HC.out ?_
        refine anyW_call (i := 8) (v := ?v8_133) (f := ?g8_133) (args := ?s8_133) (a' := ?a8_133) (by first | exact Kx.bears_x | exact bears_u | assumption) rfl (by kernel_rfl) (by kernel_rfl) (by kernel_rfl) (fun _ _ _ h => h) (by kernel_rfl) ?c8_133 ?w8_133 ?y8_133 ?f8_133 ?r8_133
        case w8_133 => kernel_rfl
        case y8_133 => (intro W hW; go_simp; first | (refine ⟨?_, ?_⟩ <;> with_reducible rfl) | with_reducible rfl)
        case c8_133 => (intro W hW; refine Calls.mono (HS.out W) ?_; rintro e w_ ⟨rfl, hb_⟩; refine ⟨?_, by first | exact hb_ | exact hb_ ▸ Below.refl _ _⟩; with_reducible rfl)
        case f8_133 => (go_simp; try with_reducible rfl)
        refine anyW_done (by kernel_rfl) ?_
        clear HB
        intro w_ HB_
        have HB := Lib.hid HB_
        clear HB_
        go_wp2_with (first | (go_at_call 21; refine Calls.mono (HT.out _) ?_; rintro e w_ ⟨rfl, hb_⟩; replace HB := Lib.hid (HB.out.call hb_); clear hb_) | (first | ((with_reducible refine Kx.absorb HB ?_); clear HB; intro w_ HB) | ((with_reducible refine Kx.box_gate ?_); (first | refine Kx.boxa HB rfl ?_ | refine Kx.boxt HB rfl rfl ?_ | refine Kx.box1 HB rfl rfl ?_); clear HB; intro b_ w_ HB; refine Kx.fr ?_) | ((with_reducible refine Kx.alloc_gate ?_); (first | refine Kx.ala HB ?_ | refine Kx.al1 HB ?_); clear HB; intro b_ w_ HB; refine Kx.fr ?_) | ((with_reducible refine Kx.loads_gate ?_); first | refine Kx.l1 HB rfl rfl ?_ | refine Kx.la HB rfl ?_ | refine Kx.lo HB rfl HC.out ?_) | ((with_reducible refine Kx.loadg_gate ?_); first | refine Kx.l1g HB rfl rfl rfl ?_ | refine Kx.lag HB rfl rfl ?_ | refine Kx.log HB rfl HC.out rfl ?_) | ((with_reducible refine Kx.store_gate ?_); (first | refine Kx.stwa HB rfl rfl ?_ | refine Kx.sta HB rfl rfl ?_ | refine Kx.stc HB rfl rfl ?_ | refine Kx.stt HB rfl rfl rfl ?_ | refine Kx.st1 HB rfl rfl rfl ?_); clear HB; intro w_ HB)))
        go_roundg (gk - 1)
        case measure => omega
        case rel => exact ⟨k + 1, by omega, by rw [HE.out], by go_num, HB⟩
    · obtain rfl : k = n := by omega
      have d0 : decide ((k : Int) < (k : Int)) = false := by simp
      go_wp2_with (first | ((with_reducible refine Kx.absorb HB ?_); clear HB; intro w_ HB) | ((with_reducible refine Kx.box_gate ?_); (first | refine Kx.boxa HB rfl ?_ | refine Kx.boxt HB rfl rfl ?_ | refine Kx.box1 HB rfl rfl ?_); clear HB; intro b_ w_ HB; refine Kx.fr ?_) | ((with_reducible refine Kx.alloc_gate ?_); (first | refine Kx.ala HB ?_ | refine Kx.al1 HB ?_); clear HB; intro b_ w_ HB; refine Kx.fr ?_) | ((with_reducible refine Kx.loads_gate ?_); first | refine Kx.l1 HB rfl rfl ?_ | refine Kx.la HB rfl ?_ | refine Kx.lo HB rfl HC.out ?_) | ((with_reducible refine Kx.loadg_gate ?_); first | refine Kx.l1g HB rfl rfl rfl ?_ | refine Kx.lag HB rfl rfl ?_ | refine Kx.log HB rfl HC.out rfl ?_) | ((with_reducible refine Kx.store_gate ?_); (first | refine Kx.stwa HB rfl rfl ?_ | refine Kx.sta HB rfl rfl ?_ | refine Kx.stc HB rfl rfl ?_ | refine Kx.stt HB rfl rfl rfl ?_ | refine Kx.st1 HB rfl rfl rfl ?_); clear HB; intro w_ HB))
      go_ret
      exact ⟨rfl, HB.out.below⟩
end Go.Proofs.YtpbogacodhjlfaaDoor
