/- What a node gains: the program's and the document's. -/
import Derived.Test.YtfdpogbhhocaeaaCa
import Derived.Test.YtfdpogbhhocaeaaKitF
namespace Go.Proofs.Ytfdpogbhhocaeaa
open Go.RowKit Go.Shelf Km

theorem gain_take (l : List (Int × Int)) (k : Nat) {p : Int × Int} (h : l[k]? = some p) (x : Int) : Cl.gain (l.take (k + 1)) x = Cl.gain (l.take k) x + Cl.gives p x := by
  have : l.take (k + 1) = l.take k ++ [p] := by rw [List.take_add_one, h]; rfl
  rw [this, Cl.gain_app, Cl.gain_cons, Cl.gain_nil]; omega
theorem take_most (l : List (Int × Int)) (k : Nat) (x : Int) : 0 ≤ Cl.gain (l.take k) x ∧ Cl.gain (l.take k) x ≤ 1099511627776 * (l.length : Int) := by
  refine ⟨Cl.gain_pos _ _, ?_⟩
  have h1 := Cl.gain_most (l.take k) x
  have h2 : (l.take k).length ≤ l.length := by rw [List.length_take]; omega
  omega

set_option maxRecDepth 100000 in
set_option maxHeartbeats 4000000 in
theorem Gain_any (A : Option Addr) (n cap B : Nat) (l : List (Int × Int)) (x : Int) (w : World) (hr : Rd w B A (svs l)) (hn : l.length = n) (hB : B ≤ w.heap.size) (hm : n ≤ 8388607) :
    Calls Try.prog 10 #[.slice A n cap, .int .i64 x] w fun e w' => e = .returned (.int .i64 (Cl.gain l x)) ∧ Below w.heap.size w w' := by
  have HR := Lib.hid hr
  have HN := Lib.hid hn
  clear hr
  have hi : (Try.prog.info? 30).map (·.size) = some 2 := by kernel_rfl
  go_enter Try.func10, Try.ntmps10
  go_wp2_with fail
  go_loopg [5, 10] n (fun gh sx ix wr => ∃ k : Nat, gh + k = n ∧ sx = .int .i64 (Cl.gain (l.take k) x) ∧ ix = .int .i64 (k : Int) ∧ Hid (Below w.heap.size w wr))
  case atStart => exact ⟨0, by omega, rfl, rfl, Lib.hid (Below.refl _ _)⟩
  case round =>
    obtain ⟨k, hk, rfl, rfl, hb⟩ := hrel
    by_cases hlt : k < n
    · obtain ⟨p, hp⟩ : ∃ p, l[k]? = some p := ⟨l[k]'(by rw [HN.out]; exact hlt), List.getElem?_eq_getElem _⟩
      obtain ⟨ad, rfl, hab, hc⟩ := HR.out.sts hp
      have hg := gain_take l k hp x
      have hm1 := take_most l k x
      have hm2 := take_most l (k + 1) x
      have HP := Lib.hid hp
      have HC : Hid (∀ j v, (sv p)[j]? = some v → wr.cell? ((ad.add (k * 2)).add j) = some v) := Lib.hid (fun j v hv => (hb.out.cell (by rw [addr_add_block, addr_add_block]; omega)).trans (hc j v hv))
      have hr9 := range_new wr (sv p) 30
      have x0 := range_at hr9 0 (v := .int .i64 p.1) rfl
      have x1 := range_at hr9 1 (v := .int .i64 p.2) rfl
      have hb9 : Below wr.heap.size wr (wr.alloc (.cells (sv p).toArray 30)) := (Below.refl _ wr).alloc (Nat.le_refl _) _
      have HB9 := Lib.hid (hb.out.trans (hb9.mono hb.out.size))
      have HRG := Lib.hid hr9
      have hs9 : (wr.alloc (.cells (sv p).toArray 30)).heap.size = wr.heap.size + 1 := World.size_alloc ..
      have hall : (sv p).toArray.all (·.oneCell') = true := by simp [sv, Value.oneCell']
      have hcz : (#[Value.int .i64 0, .int .i64 0] : Array Value).size = (sv p).toArray.size := rfl
      have d3 : (k : Int) < (n : Int) := by omega
      clear hc hp hr9 hb9
      rw [hg] at hm2
      by_cases h1 : p.1 = x
      · have d1 : (p.1 == x) = true := by simp [h1]
        by_cases h2 : Cl.isS p
        · have e1 : Cl.gives p x = p.2 := if_pos ⟨h2, h1⟩
          have d2 : decide (Cl.isS p) = true := decide_eq_true h2
          rw [e1] at hg hm2
          generalize Cl.gain (l.take k) x = q at *
          have hw1 : IntKind.i64.wrap (q + p.2) = q + p.2 := by rw [IntKind.wrap_i64]; omega
          clear h1 h2 e1
          go_wp2_with (first | (go_at_call 14; fail) | ((with_reducible refine wpList_gate ?_); (refine wpList_load_any rfl 30 _ rfl _ rfl (sv p) _ HC.out Try.underlying30 rfl hi ?_)) | ((with_reducible refine wpList_gate ?_); (refine wpList_store_new rfl 30 _ _ rfl _ (sv p).toArray rfl rfl hi hcz hall ?_; generalize World.alloc wr _ = w9 at *)) | ((with_reducible refine wpList_gate ?_); (refine wpList_load_on 30 _ rfl wr.heap.size 0 rfl (sv p) _ HRG.out Try.underlying30 rfl hi (by kernel_rfl) ?_)))
          refine (counts_any p _).mono ?_
          rintro e w10 ⟨rfl, hb10⟩
          rw [d2]
          have y1 := (hb10.cell (p := ⟨wr.heap.size, 1, none⟩) (by dsimp only; omega)).trans x1
          have HB10 : Hid (Below w.heap.size w w10) := Lib.hid (HB9.out.trans (hb10.mono HB9.out.size))
          clear hb10 x0 x1 HC HB9 HRG
          go_wp2
          go_roundg (gk - 1)
          case measure => omega
          case rel => exact ⟨k + 1, by omega, congrArg _ hg.symm, by simp, HB10⟩
        · have e1 : Cl.gives p x = 0 := Cl.gives_no h2 x
          have d2 : decide (Cl.isS p) = false := decide_eq_false h2
          rw [e1, Int.add_zero] at hg
          generalize Cl.gain (l.take k) x = q at *
          clear h1 h2 e1
          go_wp2_with (first | (go_at_call 14; fail) | ((with_reducible refine wpList_gate ?_); (refine wpList_load_any rfl 30 _ rfl _ rfl (sv p) _ HC.out Try.underlying30 rfl hi ?_)) | ((with_reducible refine wpList_gate ?_); (refine wpList_store_new rfl 30 _ _ rfl _ (sv p).toArray rfl rfl hi hcz hall ?_; generalize World.alloc wr _ = w9 at *)) | ((with_reducible refine wpList_gate ?_); (refine wpList_load_on 30 _ rfl wr.heap.size 0 rfl (sv p) _ HRG.out Try.underlying30 rfl hi (by kernel_rfl) ?_)))
          refine (counts_any p _).mono ?_
          rintro e w10 ⟨rfl, hb10⟩
          rw [d2]
          have HB10 : Hid (Below w.heap.size w w10) := Lib.hid (HB9.out.trans (hb10.mono HB9.out.size))
          clear hb10 x0 x1 HC HB9 HRG
          go_wp2
          go_roundg (gk - 1)
          case measure => omega
          case rel => exact ⟨k + 1, by omega, congrArg _ hg.symm, by simp, HB10⟩
      · have d1 : (p.1 == x) = false := by simp [h1]
        have e1 : Cl.gives p x = 0 := if_neg (fun q => h1 q.2)
        rw [e1, Int.add_zero] at hg
        generalize Cl.gain (l.take k) x = q at *
        clear h1 e1
        go_wp2_with (first | (go_at_call 14; fail) | ((with_reducible refine wpList_gate ?_); (refine wpList_load_any rfl 30 _ rfl _ rfl (sv p) _ HC.out Try.underlying30 rfl hi ?_)) | ((with_reducible refine wpList_gate ?_); (refine wpList_store_new rfl 30 _ _ rfl _ (sv p).toArray rfl rfl hi hcz hall ?_; generalize World.alloc wr _ = w9 at *)))
        go_roundg (gk - 1)
        case measure => omega
        case rel => exact ⟨k + 1, by omega, congrArg _ hg.symm, by simp, HB9⟩
    · obtain rfl : k = n := by omega
      have d0 : decide ((k : Int) < (k : Int)) = false := by simp
      have e : l.take k = l := List.take_of_length_le (by rw [HN.out]; exact Nat.le_refl _)
      rw [e]
      go_wp2
      go_ret
      exact ⟨rfl, hb.out⟩
end Go.Proofs.Ytfdpogbhhocaeaa
