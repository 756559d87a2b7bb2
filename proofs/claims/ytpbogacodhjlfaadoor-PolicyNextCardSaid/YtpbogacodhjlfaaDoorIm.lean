/- The next plan of the plain model, as the program makes it; a config's zero plan: the program's. -/
import Derived.Test.YtpbogacodhjlfaaDoorIl
namespace Go.Proofs.YtpbogacodhjlfaaDoor
open Go.RowKit Go.Shelf Km Kx Kc Kt
set_option linter.unusedVariables false

namespace Gm
def setS (x : Pl) (s : Int) : Pl := ⟨x.e, x.t, x.p, s, x.c, x.st, x.si, x.ra, x.up, x.su, x.pen, x.ch⟩
theorem p64 {n x : Nat} (hn : n ≤ 16) (h : x < 2 ^ n) : x < 18446744073709551616 := Nat.lt_of_lt_of_le h (Nat.le_trans (pow16 hn) (by decide))
theorem good_eq {c : Gc} (hn : c.n ≤ 16) {p : Pl} {u : Nat} (hu : u < 2 ^ c.n) (t : Int) : andN u (sups c p u t) = good c p u t := by
  apply Nat.eq_of_testBit_eq
  intro i
  have hs : sups c p u t < 2 ^ c.n := maskOf_lt _ _
  rw [andN_bit (p64 hn hu) (p64 hn hs), good_bit]
  unfold sups
  rw [maskOf_bit]
  cases hb : u.testBit i with
  | false => simp
  | true =>
    rw [decide_eq_true (bit_lt hu hb)]
    simp
theorem spill_eq {c : Gc} (hn : c.n ≤ 16) {g : Nat} (hg : g < 2 ^ c.n) {i : Int} (h1 : -1 ≤ i) (h2 : i ≤ 15) : bestTo c.ti (andN g (bitv i)) c.n = spill c g i := by
  unfold spill best
  congr 1
  apply Nat.eq_of_testBit_eq
  intro j
  have hb := bitv_lt h2
  rw [andN_bit (p64 hn hg) (by omega), bitv_bit h1, maskOf_bit]
  cases hj : g.testBit j with
  | false => simp
  | true =>
    rw [decide_eq_true (bit_lt hg hj)]
    simp
theorem nx_chg {c : Gc} {p : Pl} {u : Nat} {t : Int} (h : May c p u t) : nx c p u t = setS (chg (obs p t u (sups c p u t) (pens c p u t)) (Gm.to c p u t) (if has (good c p u t) p.t = true then c.first else 100) c.b) (spill c (good c p u t) (Gm.to c p u t)) := nx_may h
theorem nx_kept {c : Gc} {p : Pl} {u : Nat} {t : Int} (h : ¬ May c p u t) : nx c p u t = setS (keptP (obs p t u (sups c p u t) (pens c p u t)) c.step c.stt) (spill c (good c p u t) p.t) := by
  by_cases hg : Grows c p t
  · rw [nx_grow h hg]
    have e : keptP (obs p t u (sups c p u t) (pens c p u t)) c.step c.stt = ⟨p.e + 1, p.t, p.p, p.s, min (p.c + c.step) 100, t, p.si, t, (u : Int), (sups c p u t : Int), pens c p u t, p.ch⟩ := if_pos hg
    rw [e, Int.min_comm]
    rfl
  · rw [nx_stay h hg]
    have e : keptP (obs p t u (sups c p u t) (pens c p u t)) c.step c.stt = obs p t u (sups c p u t) (pens c p u t) := if_neg hg
    rw [e]
    rfl
theorem nx_ok {c : Gc} (hc : c.Ok) {p : Pl} (hp : Fits c p) (he : p.e < 4611686018427387904) {u : Nat} (hu : u < 2 ^ c.n) {t : Int} (ht : T t) (hle : p.st ≤ t) : (nx c p u t).Ok := by
  have hn := hc.n
  have h16 := pow16 hn.2
  have hs : sups c p u t < 2 ^ c.n := maskOf_lt _ _
  have hto := to_in hp hu t
  have hsp := fun i => spill_in c (good c p u t) i
  have he0 := hp.e
  have hpt := hp.t
  have hpp := hp.p
  have hpc := hp.per
  have hsi : 0 ≤ p.si ∧ p.si ≤ 1099511627776 := hp.si
  have hra : 0 ≤ p.ra ∧ p.ra ≤ 1099511627776 := hp.ra
  have ht2 : 0 ≤ t ∧ t ≤ 1099511627776 := ht
  have hf := hc.first
  have hst := hc.step
  have hpen : Wm.Fits (pens c p u t) := fun v hv => by
    obtain ⟨i, -, rfl⟩ := List.mem_map.1 hv
    have := penAt_in hc hp ht hle u i
    constructor <;> omega
  have hch : Wm.Fits p.ch := fun v hv => by
    have : 0 ≤ v ∧ v ≤ 1099511627776 := hp.ch.2 v hv
    constructor <;> omega
  have hU : Pm.U (u : Int) := ⟨by omega, by omega⟩
  have hS : Pm.U ((sups c p u t : Nat) : Int) := ⟨by omega, by omega⟩
  by_cases hm : May c p u t
  · rw [nx_may hm]
    have hs1 := hsp (Gm.to c p u t)
    refine ⟨⟨by dsimp only; omega, by dsimp only; omega⟩, ⟨by dsimp only; omega, by dsimp only; omega⟩, ⟨by dsimp only; omega, by dsimp only; omega⟩, ⟨by dsimp only; omega, by dsimp only; omega⟩, ?_, ⟨by dsimp only; omega, by dsimp only; omega⟩, ⟨by dsimp only; omega, by dsimp only; omega⟩, ⟨by dsimp only; omega, by dsimp only; omega⟩, hU, hS, hpen, fun v hv => ?_⟩
    · dsimp only
      unfold Pm.I
      split <;> omega
    · dsimp only [newCh] at hv
      rcases List.mem_append.1 hv with hv | hv
      · exact hch v (List.mem_of_mem_drop hv)
      · rw [List.mem_singleton.1 hv]; constructor <;> omega
  · have hs1 := hsp p.t
    by_cases hg : Grows c p t
    · rw [nx_grow hm hg]
      exact ⟨⟨by dsimp only; omega, by dsimp only; omega⟩, ⟨by dsimp only; omega, by dsimp only; omega⟩, ⟨by dsimp only; omega, by dsimp only; omega⟩, ⟨by dsimp only; omega, by dsimp only; omega⟩, ⟨by dsimp only; omega, by dsimp only; omega⟩, ⟨by dsimp only; omega, by dsimp only; omega⟩, ⟨by dsimp only; omega, by dsimp only; omega⟩, ⟨by dsimp only; omega, by dsimp only; omega⟩, hU, hS, hpen, hch⟩
    · rw [nx_stay hm hg]
      exact ⟨⟨by dsimp only; omega, by dsimp only; omega⟩, ⟨by dsimp only; omega, by dsimp only; omega⟩, ⟨by dsimp only; omega, by dsimp only; omega⟩, ⟨by dsimp only; omega, by dsimp only; omega⟩, ⟨by dsimp only; omega, by dsimp only; omega⟩, ⟨by dsimp only; omega, by dsimp only; omega⟩, ⟨by dsimp only; omega, by dsimp only; omega⟩, ⟨by dsimp only; omega, by dsimp only; omega⟩, hU, hS, hpen, hch⟩
end Gm

theorem pright_is {c : Cf} {xs : List Int} (b : Bool) (hb : b = true ↔ ConfP c xs) : rightB c xs = b := by
  cases hq : rightB c xs with
  | true => exact (hb.2 ((right_iff c xs).1 hq)).symm
  | false =>
    cases b with
    | false => rfl
    | true => rw [(right_iff c xs).2 (hb.1 rfl)] at hq; cases hq
theorem PRight_any (c : Cf) (xs : List Int) (w : World) (ht : Tabs w) (hr : Rd w w.heap.size c.ta (Kc.i64s xs)) (hl : xs.length = c.tn) : Calls Tryd.prog 7 #[.agg (cf c).toArray] w (Says w (ConfP c xs)) := by
  refine (PRight_b c xs w hr hl).mono ?_
  rintro e w' ⟨rfl, hb⟩
  exact ⟨_, rfl, right_iff c xs, hb⟩

theorem noPlan_okm : noPlan.Ok := ⟨⟨by decide, by decide⟩, ⟨by decide, by decide⟩, ⟨by decide, by decide⟩, ⟨by decide, by decide⟩, ⟨by decide, by decide⟩, ⟨by decide, by decide⟩, ⟨by decide, by decide⟩, ⟨by decide, by decide⟩, ⟨by decide, by decide⟩, ⟨by decide, by decide⟩, (fun v hv => by cases hv), (fun v hv => by cases hv)⟩
theorem noPt_okm : noPt.Ok := ⟨noPlan_okm, rfl, rfl, Nat.le_refl _⟩
theorem zp_ok (n : Nat) : (zp n).Ok :=
  have h0 : Pm.I 0 := ⟨by decide, by decide⟩
  have h1 : Pm.I (-1) := ⟨by decide, by decide⟩
  have hu : Pm.U 0 := ⟨by decide, by decide⟩
  ⟨h0, h1, h1, h1, h0, h0, h0, h0, hu, hu, (fun v hv => by rw [(List.mem_replicate.1 hv).2]; exact ⟨by decide, by decide⟩), (fun v hv => by cases hv)⟩

set_option maxRecDepth 100000 in
set_option maxHeartbeats 1000000 in
theorem PZero_any (c : Cf) (xs : List Int) (w : World) (ht : Tabs w) (hr : Rd w w.heap.size c.ta (Kc.i64s xs)) (hl : xs.length = c.tn) : Calls Tryd.prog 10 #[.agg (cf c).toArray] w (ZeroSays w c xs) := by
  have HB := Lib.hid (Bxs.start w)
  by_cases hc : ConfP c xs
  · have HR : Hid (∀ W, Below w.heap.size w W → Calls Tryd.prog 7 #[.agg (cf c).toArray] W fun e w' => e = .returned (.bool true) ∧ Below W.heap.size W w') := Lib.hid (fun W hb => by
      have := PRight_b c xs W ((hr.below hb).more hb.size) hl
      rwa [(right_iff c xs).2 hc] at this)
    have HCC := Lib.hid hc
    obtain ⟨N, hN⟩ : ∃ N : Nat, c.targets = (N : Int) := ⟨c.targets.toNat, by have := hc.targets; omega⟩
    have h16 : N ≤ 16 := by have := hc.targets.2; omega
    have HGN : Hid ((gc c xs).n = N) := Lib.hid (by show c.targets.toNat = N; omega)
    clear hr hl hc ht
    obtain ⟨i0, hi, hz0, hz1, hz2⟩ := info_parts (P := Tryd.prog) (e := 3) (z := .int .i64 0) (size := 1) (bytes := 8) (by kernel_rfl)
    have HCT : Hid ((cf c)[2]? = some (.int .i64 (N : Int))) := Lib.hid (by rw [← hN]; rfl)
    clear hN
    go_enter Tryd.func10, Tryd.ntmps10
    go_wp2_with (first | (at_make; go_must (refine wpList_make_g HB rfl _ _ 22 rfl 3 i0 (.int .i64 0) 1 Tryd.underlying22 hi hz0 hz1 .i64 .i64 (N : Int) (N : Int) N rfl rfl rfl rfl (by rw [hz2]; omega) (by unfold maxLen; omega) ?_); clear HB; intro g w_ HB; rw [made_nums] at HB; refine Kx.framed ?_ (by simp only [Act.put, List.setIfInBounds_toArray, List.set_cons_succ, List.set_cons_zero] <;> rfl)) | ((with_reducible refine Kx.build_gate ?_); refine Km.wpList_build rfl 28 _ rfl #[(1, .int .i64 (-1)), (2, .int .i64 (-1)), (3, .int .i64 (-1)), (10, .slice (some ⟨g, 0, none⟩) N N)] rfl (pc (zp N) (some ⟨g, 0, none⟩) N N none 0 0).toArray (zp_built _ N N) ?_; refine Kx.framed ?_ (by simp only [Act.put, List.setIfInBounds_toArray, List.set_cons_succ, List.set_cons_zero] <;> rfl)) | (go_at_call 7; refine Calls.mono (HR.out _ HB.out.below) ?_; rintro e w_ ⟨rfl, hb_⟩; replace HB := Lib.hid (HB.out.call hb_); clear hb_) | ((with_reducible refine Kx.loads_gate ?_); refine Kx.wpList_load1_x HB rfl _ _ rfl _ rfl (cf c) (Tryd.isAgg3 _) _ HCT.out (Kx.framed ?_ (by simp only [Act.put, List.setIfInBounds_toArray, List.set_cons_succ, List.set_cons_zero] <;> rfl))) | (first | ((with_reducible refine Kx.absorb HB ?_); clear HB; intro w_ HB) | ((with_reducible refine Kx.box_gate ?_); (first | refine Kx.boxa HB rfl ?_ | refine Kx.boxt HB rfl rfl ?_ | refine Kx.box1 HB rfl rfl ?_); clear HB; intro b_ w_ HB; refine Kx.fr ?_) | ((with_reducible refine Kx.alloc_gate ?_); (first | refine Kx.ala HB ?_ | refine Kx.al1 HB ?_); clear HB; intro b_ w_ HB; refine Kx.fr ?_) | ((with_reducible refine Kx.loads_gate ?_); first | refine Kx.l1 HB rfl rfl ?_ | refine Kx.la HB rfl ?_ | refine Kx.lo HB rfl HC.out ?_) | ((with_reducible refine Kx.loadg_gate ?_); first | refine Kx.l1g HB rfl rfl rfl ?_ | refine Kx.lag HB rfl rfl ?_ | refine Kx.log HB rfl HC.out rfl ?_) | ((with_reducible refine Kx.store_gate ?_); (first | refine Kx.stwa HB rfl rfl ?_ | refine Kx.sta HB rfl rfl ?_ | refine Kx.stc HB rfl rfl ?_ | refine Kx.stt HB rfl rfl rfl ?_ | refine Kx.st1 HB rfl rfl rfl ?_); clear HB; intro w_ HB)))
    refine bodyPost_ret (Kx.results_x HB rfl _ _ _ rfl (by simp <;> rfl) (by simp <;> rfl)) rfl ?_; exact ⟨⟨zp N, some ⟨g, 0, none⟩, N, N, none, 0, 0⟩, rfl, HB.out.below, HB.out.newHead, New.nil _ _ _ _, ⟨zp_ok N, List.length_replicate .., rfl, Nat.le_refl _⟩, fun _ => by show zp N = _; unfold Gm.zero; rw [HGN.out]; rfl, fun q => absurd HCC.out q⟩
  · have HR : Hid (∀ W, Below w.heap.size w W → Calls Tryd.prog 7 #[.agg (cf c).toArray] W fun e w' => e = .returned (.bool false) ∧ Below W.heap.size W w') := Lib.hid (fun W hb => by
      have := PRight_b c xs W ((hr.below hb).more hb.size) hl
      rwa [pright_is false ⟨fun q => (by cases q), fun q => absurd q hc⟩] at this)
    have HCC := Lib.hid hc
    clear hr hl hc ht
    go_enter Tryd.func10, Tryd.ntmps10
    go_wp2_with (first | ((with_reducible refine Kx.build_gate ?_); refine Km.wpList_build rfl 28 _ rfl #[] rfl (pc noPlan none 0 0 none 0 0).toArray (noPlan_built) ?_; refine Kx.framed ?_ (by simp only [Act.put, List.setIfInBounds_toArray, List.set_cons_succ, List.set_cons_zero] <;> rfl)) | (go_at_call 7; refine Calls.mono (HR.out _ HB.out.below) ?_; rintro e w_ ⟨rfl, hb_⟩; replace HB := Lib.hid (HB.out.call hb_); clear hb_) | (first | ((with_reducible refine Kx.absorb HB ?_); clear HB; intro w_ HB) | ((with_reducible refine Kx.box_gate ?_); (first | refine Kx.boxa HB rfl ?_ | refine Kx.boxt HB rfl rfl ?_ | refine Kx.box1 HB rfl rfl ?_); clear HB; intro b_ w_ HB; refine Kx.fr ?_) | ((with_reducible refine Kx.alloc_gate ?_); (first | refine Kx.ala HB ?_ | refine Kx.al1 HB ?_); clear HB; intro b_ w_ HB; refine Kx.fr ?_) | ((with_reducible refine Kx.loads_gate ?_); first | refine Kx.l1 HB rfl rfl ?_ | refine Kx.la HB rfl ?_ | refine Kx.lo HB rfl HC.out ?_) | ((with_reducible refine Kx.loadg_gate ?_); first | refine Kx.l1g HB rfl rfl rfl ?_ | refine Kx.lag HB rfl rfl ?_ | refine Kx.log HB rfl HC.out rfl ?_) | ((with_reducible refine Kx.store_gate ?_); (first | refine Kx.stwa HB rfl rfl ?_ | refine Kx.sta HB rfl rfl ?_ | refine Kx.stc HB rfl rfl ?_ | refine Kx.stt HB rfl rfl rfl ?_ | refine Kx.st1 HB rfl rfl rfl ?_); clear HB; intro w_ HB)))
    refine bodyPost_ret (Kx.results_x HB rfl _ _ _ rfl (by simp <;> rfl) (by simp <;> rfl)) rfl ?_; exact ⟨noPt, rfl, HB.out.below, New.nil _ _ _ _, New.nil _ _ _ _, noPt_okm, fun q => absurd q HCC.out, fun _ => rfl⟩
end Go.Proofs.YtpbogacodhjlfaaDoor
