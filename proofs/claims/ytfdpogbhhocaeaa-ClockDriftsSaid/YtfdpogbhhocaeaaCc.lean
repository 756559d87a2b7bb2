/- What a node gains: the document's. -/
import Derived.Test.YtfdpogbhhocaeaaCb
namespace Go.Proofs.Ytfdpogbhhocaeaa
open Go.RowKit Go.Shelf Km

set_option maxRecDepth 100000 in
set_option maxHeartbeats 4000000 in
theorem RGain_any (A : Option Addr) (n cap B : Nat) (l : List (Int × Int)) (x : Int) (w : World) (hr : Rd w B A (svs l)) (hn : l.length = n) (hB : B ≤ w.heap.size) (hm : n ≤ 8388607) :
    Calls Try.prog 11 #[.slice A n cap, .int .i64 x] w fun e w' => e = .returned (.int .i64 (Cl.gain l x)) ∧ Below w.heap.size w w' := by
  have HR := Lib.hid hr
  have HN := Lib.hid hn
  clear hr
  have hi : (Try.prog.info? 30).map (·.size) = some 2 := by kernel_rfl
  go_enter Try.func11, Try.ntmps11
  go_wp2_with fail
  go_loopg [5, 6] n (fun gh sx ix wr => ∃ k : Nat, gh + k = n ∧ sx = .int .i64 (Cl.gain (l.take k) x) ∧ ix = .int .i64 (k : Int) ∧ Hid (Below w.heap.size w wr))
  case atStart => exact ⟨0, by omega, rfl, rfl, Lib.hid (Below.refl _ _)⟩
  case round =>
    obtain ⟨k, hk, rfl, rfl, hb⟩ := hrel
    by_cases hlt : k < n
    · obtain ⟨p, hp⟩ : ∃ p, l[k]? = some p := ⟨l[k]'(by rw [HN.out]; exact hlt), List.getElem?_eq_getElem _⟩
      obtain ⟨ad, rfl, hab, hc⟩ := HR.out.sts hp
      have hg := gain_take l k hp x
      have hm1 := take_most l k x
      have hm2 := take_most l (k + 1) x
      have HC : Hid (∀ j v, (sv p)[j]? = some v → wr.cell? ((ad.add (k * 2)).add j) = some v) := Lib.hid (fun j v hv => (hb.out.cell (by rw [addr_add_block, addr_add_block]; omega)).trans (hc j v hv))
      have hadb : (ad.add (k * 2)).block < wr.heap.size := by have := hb.out.size; rw [addr_add_block]; omega
      have d3 : (k : Int) < (n : Int) := by omega
      clear hc hp
      rw [hg] at hm2
      by_cases h2 : Cl.isS p
      · have d2 : decide (Cl.isS p) = true := decide_eq_true h2
        by_cases h1 : p.1 = x
        · have d1 : (p.1 == x) = true := by simp [h1]
          have e1 : Cl.gives p x = p.2 := if_pos ⟨h2, h1⟩
          rw [e1] at hg hm2
          generalize Cl.gain (l.take k) x = q at *
          have hw1 : IntKind.i64.wrap (q + p.2) = q + p.2 := by rw [IntKind.wrap_i64]; omega
          clear h1 h2 e1
          go_wp2_with (first | (go_at_call 15; fail) | ((with_reducible refine wpList_gate ?_); (refine wpList_load_any rfl 30 _ rfl _ rfl (sv p) _ HC.out Try.underlying30 rfl hi ?_)))
          refine (step_any p _).mono ?_
          rintro e w10 ⟨rfl, hb10⟩
          rw [d2]
          have HB10 : Hid (Below w.heap.size w w10) := Lib.hid (hb.out.trans (hb10.mono hb.out.size))
          have y0 : w10.cell? (ad.add (k * 2)) = some (.int .i64 p.1) := (hb10.cell hadb).trans (by have := HC.out 0 _ rfl; rwa [Addr.add_zero'] at this)
          have y1 : w10.cell? ⟨(ad.add (k * 2)).block, (ad.add (k * 2)).off + 1, none⟩ = some (.int .i64 p.2) := (hb10.cell (p := ⟨(ad.add (k * 2)).block, (ad.add (k * 2)).off + 1, none⟩) hadb).trans (by have := HC.out 1 _ rfl; rwa [Addr.add_succ'] at this)
          clear hb10 hb HC
          go_wp2
          go_roundg (gk - 1)
          case measure => omega
          case rel => exact ⟨k + 1, by omega, congrArg _ hg.symm, by go_num, HB10⟩
        · have d1 : (p.1 == x) = false := by simp [h1]
          have e1 : Cl.gives p x = 0 := if_neg (fun q => h1 q.2)
          rw [e1, Int.add_zero] at hg
          generalize Cl.gain (l.take k) x = q at *
          clear h1 h2 e1
          go_wp2_with (first | (go_at_call 15; fail) | ((with_reducible refine wpList_gate ?_); (refine wpList_load_any rfl 30 _ rfl _ rfl (sv p) _ HC.out Try.underlying30 rfl hi ?_)))
          refine (step_any p _).mono ?_
          rintro e w10 ⟨rfl, hb10⟩
          rw [d2]
          have HB10 : Hid (Below w.heap.size w w10) := Lib.hid (hb.out.trans (hb10.mono hb.out.size))
          have y0 : w10.cell? (ad.add (k * 2)) = some (.int .i64 p.1) := (hb10.cell hadb).trans (by have := HC.out 0 _ rfl; rwa [Addr.add_zero'] at this)
          clear hb10 hb HC
          go_wp2
          go_roundg (gk - 1)
          case measure => omega
          case rel => exact ⟨k + 1, by omega, congrArg _ hg.symm, by go_num, HB10⟩
      · have d2 : decide (Cl.isS p) = false := decide_eq_false h2
        have e1 : Cl.gives p x = 0 := Cl.gives_no h2 x
        rw [e1, Int.add_zero] at hg
        generalize Cl.gain (l.take k) x = q at *
        clear h2 e1
        go_wp2_with (first | (go_at_call 15; fail) | ((with_reducible refine wpList_gate ?_); (refine wpList_load_any rfl 30 _ rfl _ rfl (sv p) _ HC.out Try.underlying30 rfl hi ?_)))
        refine (step_any p _).mono ?_
        rintro e w10 ⟨rfl, hb10⟩
        rw [d2]
        have HB10 : Hid (Below w.heap.size w w10) := Lib.hid (hb.out.trans (hb10.mono hb.out.size))
        clear hb10 hb HC
        go_wp2
        go_roundg (gk - 1)
        case measure => omega
        case rel => exact ⟨k + 1, by omega, congrArg _ hg.symm, by go_num, HB10⟩
    · obtain rfl : k = n := by omega
      have d0 : decide ((k : Int) < (k : Int)) = false := by simp
      have e : l.take k = l := List.take_of_length_le (by rw [HN.out]; exact Nat.le_refl _)
      rw [e]
      go_wp2
      go_ret
      exact ⟨rfl, hb.out⟩
end Go.Proofs.Ytfdpogbhhocaeaa
