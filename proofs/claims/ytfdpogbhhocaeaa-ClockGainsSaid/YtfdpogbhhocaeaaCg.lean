/- The two conditions that read the map, and whether a node of a list meets one. -/
import Derived.Test.YtfdpogbhhocaeaaCf
namespace Go.Proofs.Ytfdpogbhhocaeaa
open Go.RowKit Go.Shelf Km

theorem fast_any (mb yb bm n : Nat) (f : Int → Int) (y x : Int) (w : World) (hc : w.cell? ⟨mb, 0, none⟩ = some (.map (some bm))) (hy : w.cell? ⟨yb, 0, none⟩ = some (.int .i64 y)) (hf : MapF w bm n f) (hx : in64 x) :
    Calls Try.prog 17 #[.int .i64 x, .pointer (some ⟨mb, 0, none⟩), .pointer (some ⟨yb, 0, none⟩)] w fun e w' => e = .returned (.bool (decide (y ≤ f x))) ∧ w' = w := by
  have HF := Lib.hid hf
  have HX := Lib.hid hx
  clear hf hx
  go_enter Try.func17, Try.ntmps17
  go_wp2_with (at_lookup; refine wpList_look rfl _ _ rfl bm n f rfl HF.out _ HX.out rfl ?_)
  go_ret
  exact ⟨rfl, rfl⟩

set_option maxRecDepth 100000 in
theorem Indexfast_any (v : Value) (zs : List Int) (mb yb bm n : Nat) (f : Int → Int) (y : Int) (w : World) (base : Nat) (hv : Nds base w v zs) (hz : ∀ x ∈ zs, in64 x)
    (hc : w.cell? ⟨mb, 0, none⟩ = some (.map (some bm))) (hy : w.cell? ⟨yb, 0, none⟩ = some (.int .i64 y)) (hf : MapF w bm n f) :
    Calls Try.prog 25 #[v, .func (.func 17) #[] #[.pointer (some ⟨mb, 0, none⟩), .pointer (some ⟨yb, 0, none⟩)]] w fun e w' => ∃ r : Int, e = .returned (.int .i64 r) ∧ decide (0 ≤ r) = zs.any (fun x => decide (y ≤ f x)) ∧ w' = w := by
  obtain ⟨A, c, rfl, h1, h2, hr, -⟩ := hv
  have hm9 : zs.length ≤ 9223372036854775807 := by unfold maxLen at h2; omega
  have HR := Lib.hid hr
  have HZ := Lib.hid hz
  have HF := Lib.hid hf
  have HC := Lib.hid hc
  have HY := Lib.hid hy
  clear hr hz hf hc hy h1 h2
  go_enter Try.func25, Try.ntmps25
  go_wp2_with fail
  go_loopg [8] zs.length (fun gh ix wr => ∃ k : Nat, gh + k = zs.length ∧ ix = .int .i64 (k : Int) ∧ wr = w ∧ (zs.take k).any (fun x => decide (y ≤ f x)) = false)
  case atStart => exact ⟨0, by omega, rfl, rfl, by simp⟩
  case round =>
    obtain ⟨k, hk, rfl, rfl, ha⟩ := hrel
    by_cases hlt : k < zs.length
    · obtain ⟨x, hx⟩ : ∃ x, zs[k]? = some x := ⟨zs[k], List.getElem?_eq_getElem hlt⟩
      obtain ⟨ad, rfl, -, hcx⟩ := HR.out k _ (i64s_get hx)
      have hmem : x ∈ zs := List.mem_of_getElem? hx
      have HS := Lib.hid (fast_any mb yb bm n f y x wr HC.out HY.out HF.out (HZ.out x hmem))
      have ht : zs.take (k + 1) = zs.take k ++ [x] := by rw [List.take_add_one, hx]; rfl
      have d3 : (k : Int) < (zs.length : Int) := by omega
      have HT : Hid ((zs.take (k + 1)).any (fun x => decide (y ≤ f x)) = decide (y ≤ f x)) := by show _ = _; rw [ht, List.any_append, ha, List.any_cons, List.any_nil, Bool.or_false, Bool.false_or]
      clear ht hx ha
      generalize hp : decide (y ≤ f x) = p at HS HT
      have HP := Lib.hid hp
      have HM := Lib.hid hmem
      clear hp hmem
      go_wp2_with (go_at_call 17; fail)
      refine HS.out.mono ?_
      rintro e w1 ⟨rfl, rfl⟩
      cases p with
      | false =>
        go_wp2
        go_roundg (gk - 1)
        case measure => omega
        case rel => exact ⟨k + 1, by omega, by go_num, rfl, HT.out⟩
      | true =>
        go_wp2
        go_ret
        exact ⟨_, rfl, by rw [List.any_eq_true.2 ⟨x, HM.out, HP.out⟩]; simp, rfl⟩
    · obtain rfl : k = zs.length := by omega
      have d0 : decide ((zs.length : Int) < (zs.length : Int)) = false := by simp
      rw [List.take_length] at ha
      have HA := Lib.hid ha
      clear ha
      go_wp2
      go_ret
      exact ⟨_, rfl, by rw [HA.out]; rfl, rfl⟩

theorem Containsfast_any (v : Value) (zs : List Int) (mb yb bm n : Nat) (f : Int → Int) (y : Int) (w : World) (base : Nat) (hv : Nds base w v zs) (hz : ∀ x ∈ zs, in64 x)
    (hc : w.cell? ⟨mb, 0, none⟩ = some (.map (some bm))) (hy : w.cell? ⟨yb, 0, none⟩ = some (.int .i64 y)) (hf : MapF w bm n f) :
    Calls Try.prog 19 #[v, .func (.func 17) #[] #[.pointer (some ⟨mb, 0, none⟩), .pointer (some ⟨yb, 0, none⟩)]] w fun e w' => e = .returned (.bool (zs.any (fun x => decide (y ≤ f x)))) ∧ w' = w := by
  have HS := Lib.hid (Indexfast_any v zs mb yb bm n f y w base hv hz hc hy hf)
  obtain ⟨A, c, rfl, -⟩ := hv
  generalize zs.any (fun x => decide (y ≤ f x)) = bb at *
  clear hz hc hy hf
  go_enter Try.func19, Try.ntmps19
  go_wp2_with (go_at_call 25; fail)
  refine HS.out.mono ?_
  rintro e w1 ⟨r, rfl, hr, rfl⟩
  go_wp2
  go_ret
  exact ⟨rfl, rfl⟩

theorem slow_any (mb yb bm n : Nat) (f : Int → Int) (y x : Int) (w : World) (hc : w.cell? ⟨mb, 0, none⟩ = some (.map (some bm))) (hy : w.cell? ⟨yb, 0, none⟩ = some (.int .i64 y)) (hf : MapF w bm n f) (hx : in64 x) :
    Calls Try.prog 18 #[.int .i64 x, .pointer (some ⟨mb, 0, none⟩), .pointer (some ⟨yb, 0, none⟩)] w fun e w' => e = .returned (.bool (decide (f x < y))) ∧ w' = w := by
  have HF := Lib.hid hf
  have HX := Lib.hid hx
  clear hf hx
  go_enter Try.func18, Try.ntmps18
  go_wp2_with (at_lookup; refine wpList_look rfl _ _ rfl bm n f rfl HF.out _ HX.out rfl ?_)
  go_ret
  exact ⟨rfl, rfl⟩

set_option maxRecDepth 100000 in
theorem Indexslow_any (v : Value) (zs : List Int) (mb yb bm n : Nat) (f : Int → Int) (y : Int) (w : World) (base : Nat) (hv : Nds base w v zs) (hz : ∀ x ∈ zs, in64 x)
    (hc : w.cell? ⟨mb, 0, none⟩ = some (.map (some bm))) (hy : w.cell? ⟨yb, 0, none⟩ = some (.int .i64 y)) (hf : MapF w bm n f) :
    Calls Try.prog 25 #[v, .func (.func 18) #[] #[.pointer (some ⟨mb, 0, none⟩), .pointer (some ⟨yb, 0, none⟩)]] w fun e w' => ∃ r : Int, e = .returned (.int .i64 r) ∧ decide (0 ≤ r) = zs.any (fun x => decide (f x < y)) ∧ w' = w := by
  obtain ⟨A, c, rfl, h1, h2, hr, -⟩ := hv
  have hm9 : zs.length ≤ 9223372036854775807 := by unfold maxLen at h2; omega
  have HR := Lib.hid hr
  have HZ := Lib.hid hz
  have HF := Lib.hid hf
  have HC := Lib.hid hc
  have HY := Lib.hid hy
  clear hr hz hf hc hy h1 h2
  go_enter Try.func25, Try.ntmps25
  go_wp2_with fail
  go_loopg [8] zs.length (fun gh ix wr => ∃ k : Nat, gh + k = zs.length ∧ ix = .int .i64 (k : Int) ∧ wr = w ∧ (zs.take k).any (fun x => decide (f x < y)) = false)
  case atStart => exact ⟨0, by omega, rfl, rfl, by simp⟩
  case round =>
    obtain ⟨k, hk, rfl, rfl, ha⟩ := hrel
    by_cases hlt : k < zs.length
    · obtain ⟨x, hx⟩ : ∃ x, zs[k]? = some x := ⟨zs[k], List.getElem?_eq_getElem hlt⟩
      obtain ⟨ad, rfl, -, hcx⟩ := HR.out k _ (i64s_get hx)
      have hmem : x ∈ zs := List.mem_of_getElem? hx
      have HS := Lib.hid (slow_any mb yb bm n f y x wr HC.out HY.out HF.out (HZ.out x hmem))
      have ht : zs.take (k + 1) = zs.take k ++ [x] := by rw [List.take_add_one, hx]; rfl
      have d3 : (k : Int) < (zs.length : Int) := by omega
      have HT : Hid ((zs.take (k + 1)).any (fun x => decide (f x < y)) = decide (f x < y)) := by show _ = _; rw [ht, List.any_append, ha, List.any_cons, List.any_nil, Bool.or_false, Bool.false_or]
      clear ht hx ha
      generalize hp : decide (f x < y) = p at HS HT
      have HP := Lib.hid hp
      have HM := Lib.hid hmem
      clear hp hmem
      go_wp2_with (go_at_call 18; fail)
      refine HS.out.mono ?_
      rintro e w1 ⟨rfl, rfl⟩
      cases p with
      | false =>
        go_wp2
        go_roundg (gk - 1)
        case measure => omega
        case rel => exact ⟨k + 1, by omega, by go_num, rfl, HT.out⟩
      | true =>
        go_wp2
        go_ret
        exact ⟨_, rfl, by rw [List.any_eq_true.2 ⟨x, HM.out, HP.out⟩]; simp, rfl⟩
    · obtain rfl : k = zs.length := by omega
      have d0 : decide ((zs.length : Int) < (zs.length : Int)) = false := by simp
      rw [List.take_length] at ha
      have HA := Lib.hid ha
      clear ha
      go_wp2
      go_ret
      exact ⟨_, rfl, by rw [HA.out]; rfl, rfl⟩

theorem Containsslow_any (v : Value) (zs : List Int) (mb yb bm n : Nat) (f : Int → Int) (y : Int) (w : World) (base : Nat) (hv : Nds base w v zs) (hz : ∀ x ∈ zs, in64 x)
    (hc : w.cell? ⟨mb, 0, none⟩ = some (.map (some bm))) (hy : w.cell? ⟨yb, 0, none⟩ = some (.int .i64 y)) (hf : MapF w bm n f) :
    Calls Try.prog 19 #[v, .func (.func 18) #[] #[.pointer (some ⟨mb, 0, none⟩), .pointer (some ⟨yb, 0, none⟩)]] w fun e w' => e = .returned (.bool (zs.any (fun x => decide (f x < y)))) ∧ w' = w := by
  have HS := Lib.hid (Indexslow_any v zs mb yb bm n f y w base hv hz hc hy hf)
  obtain ⟨A, c, rfl, -⟩ := hv
  generalize zs.any (fun x => decide (f x < y)) = bb at *
  clear hz hc hy hf
  go_enter Try.func19, Try.ntmps19
  go_wp2_with (go_at_call 25; fail)
  refine HS.out.mono ?_
  rintro e w1 ⟨r, rfl, hr, rfl⟩
  go_wp2
  go_ret
  exact ⟨rfl, rfl⟩
end Go.Proofs.Ytfdpogbhhocaeaa
