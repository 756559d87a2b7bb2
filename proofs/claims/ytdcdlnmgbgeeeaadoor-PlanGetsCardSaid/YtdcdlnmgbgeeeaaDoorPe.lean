/- Lists of another type; a number that is no index; what a plan names. -/
import Derived.Test.YtdcdlnmgbgeeeaaDoorPd
namespace Go.Proofs.YtdcdlnmgbgeeeaaDoor
open Go.RowKit Go.Shelf

theorem info_L : (Tryd.prog.info? 2).map (fun i => (i.zero, i.size, i.bytes)) = some (some (.int .i64 0), 1, 8) := by kernel_rfl
set_option maxRecDepth 100000 in
set_option maxHeartbeats 1000000 in
theorem convL_any (A : Option Addr) (n cap B : Nat) (xs : List Int) (w : World) (hx : Rd w B A (i64s xs)) (hn : xs.length = n) (hB : B ≤ w.heap.size) (hm : n ≤ 64) :
    Calls Tryd.prog 22 #[.slice A n cap] w fun e w' => ∃ v, e = .returned v ∧ w'.ownsRow w.heap.size 2 1 v xs.length (i64s xs) ∧ Below w.heap.size w w' := by
  obtain ⟨i0, hi, hz0, hz1, hz2⟩ := info_parts info_L
  have HX := Lib.hid hx
  have HN := Lib.hid hn
  clear hx hn
  go_enter Tryd.func22, Tryd.ntmps22
  go_wp2_with (at_make; go_must (refine wpList_make_full _ rfl _ _ 24 rfl w.heap.size 2 i0 (.int .i64 0) 1 Tryd.underlying24 hi hz0 hz1 .i64 .i64 (n : Int) (n : Int) n rfl rfl rfl rfl (by rw [hz2]; omega) (by unfold maxLen; omega) (Nat.le_refl _) ?_); intro w1 hown hgrow)
  rw [made_i64] at hown
  have hB1 := (Below.refl w.heap.size w).grown hgrow (Nat.le_refl _) (by simp)
  have HO1 := Lib.hid hown
  clear hown hgrow
  go_loopw [11] (fun ix wr => ∃ (j : Nat), ix = .int .i64 (j : Int) ∧ j ≤ n ∧
      wr.ownsRow w.heap.size 2 1 (.slice (some ⟨w.heap.size, 0, none⟩) n n) n (i64s (xs.take j ++ List.replicate (n - j) 0)) ∧ Below w.heap.size w wr)
    (fun ix _ => n - (intOf ix).toNat)
  case atStart => exact ⟨0, rfl, by omega, HO1.out, hB1⟩
  case round =>
    obtain ⟨j, rfl, hj, hown, hBw⟩ := hrel
    by_cases hlt : j < n
    · obtain ⟨x, hxk⟩ : ∃ x, xs[j]? = some x := ⟨xs[j]'(by have := HN.out; omega), List.getElem?_eq_getElem _⟩
      obtain ⟨ad, rfl, _, hc⟩ := (HX.out.below (hBw.mono hB)).getU hxk
      obtain ⟨d, hd⟩ : ∃ d, n - j = d + 1 := ⟨n - j - 1, by omega⟩
      have htl : (xs.take j).length = j := by rw [List.length_take]; have := HN.out; omega
      rw [hd] at hown
      have hcl : wr.cell? ⟨w.heap.size, j, none⟩ = some (.int .i64 0) := by
        rw [hown.cellAt j (by omega), List.getElem?_map]
        have := Wm.get_acc (xs.take j) d
        rw [htl] at this
        rw [this]; rfl
      have hfz := hown.frozenAt j
      have hst := hown.stored j (.int .i64 x)
      have hset := Wm.set_acc (xs.take j) d x
      rw [htl] at hset
      rw [i64s_set, hset] at hst
      have htk : xs.take j ++ [x] = xs.take (j + 1) := by rw [List.take_add_one, hxk]; rfl
      rw [htk] at hst
      have HST := Lib.hid hst.1
      have HBS := Lib.hid (hBw.setCell (p := ⟨w.heap.size, j, none⟩) (Nat.le_refl _) (.int .i64 x))
      have HDK : Hid (n - (j + 1) = d) := by show _ = _; omega
      clear hst hown hd hBw hset htk htl hxk
      go_wp2
      go_roundw
      case rel => exact ⟨j + 1, by go_num, by omega, by rw [HDK.out]; exact HST.out, HBS.out⟩
      case measure => simp [intOf]; omega
    · obtain rfl : j = n := by omega
      have HO : Hid (wr.ownsRow w.heap.size 2 1 (.slice (some ⟨w.heap.size, 0, none⟩) j j) xs.length (i64s xs)) := by
        have h := hown
        rw [Nat.sub_self, List.replicate_zero, List.append_nil, List.take_of_length_le (by have := HN.out; omega)] at h
        show World.ownsRow _ _ _ _ _ _ _
        rw [HN.out]
        exact h
      clear hown
      go_wp2
      go_ret
      exact ⟨_, rfl, HO.out, hBw⟩

theorem info_I : (Tryd.prog.info? 3).map (fun i => (i.zero, i.size, i.bytes)) = some (some (.int .i64 0), 1, 8) := by kernel_rfl
set_option maxRecDepth 100000 in
set_option maxHeartbeats 1000000 in
theorem convI_any (A : Option Addr) (n cap B : Nat) (xs : List Int) (w : World) (hx : Rd w B A (i64s xs)) (hn : xs.length = n) (hB : B ≤ w.heap.size) (hm : n ≤ 64) :
    Calls Tryd.prog 30 #[.slice A n cap] w fun e w' => ∃ v, e = .returned v ∧ w'.ownsRow w.heap.size 3 1 v xs.length (i64s xs) ∧ Below w.heap.size w w' := by
  obtain ⟨i0, hi, hz0, hz1, hz2⟩ := info_parts info_I
  have HX := Lib.hid hx
  have HN := Lib.hid hn
  clear hx hn
  go_enter Tryd.func30, Tryd.ntmps30
  go_wp2_with (at_make; go_must (refine wpList_make_full _ rfl _ _ 23 rfl w.heap.size 3 i0 (.int .i64 0) 1 Tryd.underlying23 hi hz0 hz1 .i64 .i64 (n : Int) (n : Int) n rfl rfl rfl rfl (by rw [hz2]; omega) (by unfold maxLen; omega) (Nat.le_refl _) ?_); intro w1 hown hgrow)
  rw [made_i64] at hown
  have hB1 := (Below.refl w.heap.size w).grown hgrow (Nat.le_refl _) (by simp)
  have HO1 := Lib.hid hown
  clear hown hgrow
  go_loopw [11] (fun ix wr => ∃ (j : Nat), ix = .int .i64 (j : Int) ∧ j ≤ n ∧
      wr.ownsRow w.heap.size 3 1 (.slice (some ⟨w.heap.size, 0, none⟩) n n) n (i64s (xs.take j ++ List.replicate (n - j) 0)) ∧ Below w.heap.size w wr)
    (fun ix _ => n - (intOf ix).toNat)
  case atStart => exact ⟨0, rfl, by omega, HO1.out, hB1⟩
  case round =>
    obtain ⟨j, rfl, hj, hown, hBw⟩ := hrel
    by_cases hlt : j < n
    · obtain ⟨x, hxk⟩ : ∃ x, xs[j]? = some x := ⟨xs[j]'(by have := HN.out; omega), List.getElem?_eq_getElem _⟩
      obtain ⟨ad, rfl, _, hc⟩ := (HX.out.below (hBw.mono hB)).getU hxk
      obtain ⟨d, hd⟩ : ∃ d, n - j = d + 1 := ⟨n - j - 1, by omega⟩
      have htl : (xs.take j).length = j := by rw [List.length_take]; have := HN.out; omega
      rw [hd] at hown
      have hcl : wr.cell? ⟨w.heap.size, j, none⟩ = some (.int .i64 0) := by
        rw [hown.cellAt j (by omega), List.getElem?_map]
        have := Wm.get_acc (xs.take j) d
        rw [htl] at this
        rw [this]; rfl
      have hfz := hown.frozenAt j
      have hst := hown.stored j (.int .i64 x)
      have hset := Wm.set_acc (xs.take j) d x
      rw [htl] at hset
      rw [i64s_set, hset] at hst
      have htk : xs.take j ++ [x] = xs.take (j + 1) := by rw [List.take_add_one, hxk]; rfl
      rw [htk] at hst
      have HST := Lib.hid hst.1
      have HBS := Lib.hid (hBw.setCell (p := ⟨w.heap.size, j, none⟩) (Nat.le_refl _) (.int .i64 x))
      have HDK : Hid (n - (j + 1) = d) := by show _ = _; omega
      clear hst hown hd hBw hset htk htl hxk
      go_wp2
      go_roundw
      case rel => exact ⟨j + 1, by go_num, by omega, by rw [HDK.out]; exact HST.out, HBS.out⟩
      case measure => simp [intOf]; omega
    · obtain rfl : j = n := by omega
      have HO : Hid (wr.ownsRow w.heap.size 3 1 (.slice (some ⟨w.heap.size, 0, none⟩) j j) xs.length (i64s xs)) := by
        have h := hown
        rw [Nat.sub_self, List.replicate_zero, List.append_nil, List.take_of_length_le (by have := HN.out; omega)] at h
        show World.ownsRow _ _ _ _ _ _ _
        rw [HN.out]
        exact h
      clear hown
      go_wp2
      go_ret
      exact ⟨_, rfl, HO.out, hBw⟩

/-! ### a number that is no index is none -/
namespace Pm
def sm (n : Int) : Int := if -1 ≤ n ∧ n ≤ 1000000 then n else -2
end Pm
set_option maxRecDepth 100000 in
theorem small_any (n : Int) (w : World) :
    Calls Tryd.prog 32 #[.int .i64 n] w fun e w' => e = .returned (.int .i64 (Pm.sm n)) ∧ w = w' := by
  have HI := Lib.hid (in_any n (-1) 1000000 w)
  by_cases h : -1 ≤ n ∧ n ≤ 1000000
  · have HE : Hid (Pm.sm n = n) := if_pos h
    rw [Pm.ask_yes h] at HI
    clear h
    go_enter Tryd.func32, Tryd.ntmps32
    go_wp2_with (go_at_call 26; refine HI.out.mono ?_; rintro e w' ⟨rfl, rfl⟩)
    go_ret
    rw [HE.out]
    exact ⟨rfl, rfl⟩
  · have HE : Hid (Pm.sm n = -2) := if_neg h
    rw [Pm.ask_no h] at HI
    clear h
    go_enter Tryd.func32, Tryd.ntmps32
    go_wp2_with (go_at_call 26; refine HI.out.mono ?_; rintro e w' ⟨rfl, rfl⟩)
    go_ret
    rw [HE.out]
    exact ⟨rfl, rfl⟩

set_option maxRecDepth 100000 in
set_option maxHeartbeats 1000000 in
theorem Names_any (x : Pm.Pl) (A : Option Addr) (n c : Nat) (A' : Option Addr) (n' c' : Nat) (t : Int) (w : World) :
    Calls Tryd.prog 18 #[pv x A n c A' n' c', .int .i64 t] w fun e w' => e = .returned (.bool (x.names t)) ∧ Below w.heap.size w w' := by
  have hx1 := Bx.new w x A n c A' n' c' 26
  have hb1 : Hid (Below w.heap.size w (w.alloc (.cells (pvs x A n c A' n' c').toArray 26))) := (Below.refl _ w).alloc (Nat.le_refl _) _
  have k1 := hx1.at 1 rfl
  have k2 := hx1.at 2 rfl
  have k3 := hx1.at 3 rfl
  have k4 := hx1.at 4 rfl
  have HN : Hid (x.names t = Pm.ask (0 ≤ t ∧ (t = x.t ∨ (t = x.p ∧ x.c < 100) ∨ t = x.s))) := rfl
  rw [pv_eq]
  clear hx1
  generalize pvs x A n c A' n' c' = L at *
  generalize x.t = xt at *
  generalize x.p = xp at *
  generalize x.s = xs at *
  generalize x.c = xc at *
  have way : t < 0 ∨ (0 ≤ t ∧ t = xt) ∨ (0 ≤ t ∧ t ≠ xt ∧ t = xp ∧ xc < 100) ∨ (0 ≤ t ∧ t ≠ xt ∧ ¬ (t = xp ∧ xc < 100)) := by omega
  rcases way with h | ⟨h, rfl⟩ | ⟨h, h1, rfl, h3⟩ | ⟨h, h1, h2⟩
  · have HE : Hid (x.names t = false) := HN.out.trans (Pm.ask_no (by omega))
    clear HN
    go_enter Tryd.func18, Tryd.ntmps18
    go_wp2
    go_ret
    exact ⟨ret_bool HE.out.symm, hb1.out⟩
  · have HE : Hid (x.names t = true) := HN.out.trans (Pm.ask_yes (by omega))
    have b1 : (t == t) = true := by simp
    clear HN
    go_enter Tryd.func18, Tryd.ntmps18
    go_wp2
    go_ret
    exact ⟨ret_bool HE.out.symm, hb1.out⟩
  · have HE : Hid (x.names t = true) := HN.out.trans (Pm.ask_yes (by omega))
    have b1 : (t == xt) = false := by simpa using h1
    have b2 : (t == t) = true := by simp
    clear HN
    go_enter Tryd.func18, Tryd.ntmps18
    go_wp2
    go_ret
    exact ⟨ret_bool HE.out.symm, hb1.out⟩
  · have HE : Hid (x.names t = (t == xs)) := by
      by_cases h3 : t = xs
      · rw [show (t == xs) = true from by simpa using h3]; exact HN.out.trans (Pm.ask_yes ⟨h, .inr (.inr h3)⟩)
      · rw [show (t == xs) = false from by simpa using h3]; exact HN.out.trans (Pm.ask_no (fun q => q.2.elim h1 (fun q => q.elim h2 h3)))
    have b1 : (t == xt) = false := by simpa using h1
    clear HN
    by_cases h3 : t = xp
    · have b2 : (t == xp) = true := by simpa using h3
      have h4 : ¬ xc < 100 := fun q => h2 ⟨h3, q⟩
      clear h2 h3
      go_enter Tryd.func18, Tryd.ntmps18
      go_wp2
      go_ret
      exact ⟨ret_bool HE.out.symm, hb1.out⟩
    · have b2 : (t == xp) = false := by simpa using h3
      clear h2 h3
      go_enter Tryd.func18, Tryd.ntmps18
      go_wp2
      go_ret
      exact ⟨ret_bool HE.out.symm, hb1.out⟩

set_option maxRecDepth 100000 in
set_option maxHeartbeats 1000000 in
theorem RNames_any (x : Pm.Pl) (A : Option Addr) (n c : Nat) (A' : Option Addr) (n' c' : Nat) (t : Int) (w : World) :
    Calls Tryd.prog 19 #[pv x A n c A' n' c', .int .i64 t] w fun e w' => e = .returned (.bool (x.names t)) ∧ Below w.heap.size w w' := by
  have hx1 := Bx.new w x A n c A' n' c' 26
  have hb1 : Hid (Below w.heap.size w (w.alloc (.cells (pvs x A n c A' n' c').toArray 26))) := (Below.refl _ w).alloc (Nat.le_refl _) _
  have k1 := hx1.at 1 rfl
  have k2 := hx1.at 2 rfl
  have k3 := hx1.at 3 rfl
  have k4 := hx1.at 4 rfl
  have HN : Hid (x.names t = Pm.ask (0 ≤ t ∧ (t = x.t ∨ (t = x.p ∧ x.c < 100) ∨ t = x.s))) := rfl
  rw [pv_eq]
  clear hx1
  generalize pvs x A n c A' n' c' = L at *
  generalize x.t = xt at *
  generalize x.p = xp at *
  generalize x.s = xs at *
  generalize x.c = xc at *
  have way : t < 0 ∨ (0 ≤ t ∧ t = xt) ∨ (0 ≤ t ∧ t ≠ xt ∧ t = xp ∧ xc < 100) ∨ (0 ≤ t ∧ t ≠ xt ∧ ¬ (t = xp ∧ xc < 100)) := by omega
  rcases way with h | ⟨h, rfl⟩ | ⟨h, h1, rfl, h3⟩ | ⟨h, h1, h2⟩
  · have HE : Hid (x.names t = false) := HN.out.trans (Pm.ask_no (by omega))
    clear HN
    go_enter Tryd.func19, Tryd.ntmps19
    go_wp2
    go_ret
    exact ⟨ret_bool HE.out.symm, hb1.out⟩
  · have HE : Hid (x.names t = true) := HN.out.trans (Pm.ask_yes (by omega))
    have b1 : (t == t) = true := by simp
    clear HN
    go_enter Tryd.func19, Tryd.ntmps19
    go_wp2
    go_ret
    exact ⟨ret_bool HE.out.symm, hb1.out⟩
  · have HE : Hid (x.names t = true) := HN.out.trans (Pm.ask_yes (by omega))
    have b1 : (t == xt) = false := by simpa using h1
    have b2 : (t == t) = true := by simp
    clear HN
    go_enter Tryd.func19, Tryd.ntmps19
    go_wp2
    go_ret
    exact ⟨ret_bool HE.out.symm, hb1.out⟩
  · have HE : Hid (x.names t = (t == xs)) := by
      by_cases h3 : t = xs
      · rw [show (t == xs) = true from by simpa using h3]; exact HN.out.trans (Pm.ask_yes ⟨h, .inr (.inr h3)⟩)
      · rw [show (t == xs) = false from by simpa using h3]; exact HN.out.trans (Pm.ask_no (fun q => q.2.elim h1 (fun q => q.elim h2 h3)))
    have b1 : (t == xt) = false := by simpa using h1
    clear HN
    by_cases h3 : t = xp
    · have b2 : (t == xp) = true := by simpa using h3
      have h4 : ¬ xc < 100 := fun q => h2 ⟨h3, q⟩
      clear h2 h3
      go_enter Tryd.func19, Tryd.ntmps19
      go_wp2
      go_ret
      exact ⟨ret_bool HE.out.symm, hb1.out⟩
    · have b2 : (t == xp) = false := by simpa using h3
      clear h2 h3
      go_enter Tryd.func19, Tryd.ntmps19
      go_wp2
      go_ret
      exact ⟨ret_bool HE.out.symm, hb1.out⟩
end Go.Proofs.YtdcdlnmgbgeeeaaDoor
