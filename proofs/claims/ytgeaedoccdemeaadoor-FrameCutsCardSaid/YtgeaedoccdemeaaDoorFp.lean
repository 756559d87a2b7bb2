/- The sum's bytes; what is alike; a copy; a frame written: the program's and the document's. -/
import Derived.Test.YtgeaedoccdemeaaDoorCs
import Derived.Test.YtgeaedoccdemeaaDoorKitS
import Derived.Test.YtgeaedoccdemeaaDoorFm
import Derived.Lib.SliceRun
namespace Go.Proofs.YtgeaedoccdemeaaDoor
open Go.RowKit Go.Shelf

set_option maxRecDepth 100000 in
set_option maxHeartbeats 1000000 in
theorem sumOf_any (A : Option Addr) (n cap B : Nat) (xs : List Int) (w : World) (hx : Rd w B A (u8s xs)) (hn : xs.length = n) (h1 : 1 ≤ n) (hnc : n ≤ cap) (hcap : cap ≤ maxLen) (hb : Fm.By xs) (ht : Tab w) :
    Calls Tryd.prog 18 #[.slice A n cap] w fun e w' => e = .returned (.slice (some ⟨w.heap.size, 0, none⟩) 4 4) ∧ w' = w.alloc (.cells (u8s (Fm.sum xs)).toArray 5) := by
  obtain ⟨i0, hi, hz0, hz1, hz2⟩ := info_parts info_u8
  have hsl : ∀ W, (Instr.slice 22 (.slice A n cap) (some (.int .i64 1)) none none).run Tryd.prog W = .ok (.slice (cutA A 1 cap) (n - 1) (cap - 1)) W := fun W => run_cut_l (P := Tryd.prog) Tryd.underlying22 (size_of_info hi hz1) A n cap 1 h1 W
  have hr := hx.dropU (k := 1) (cap := cap) (by omega)
  generalize cutA A 1 cap = A' at hsl hr
  have HC := Lib.hid (Sum_any A' (n - 1) (cap - 1) B (xs.drop 1) w hr (by rw [List.length_drop, hn]) (by omega) (hb.drop 1) ht)
  have HS : Hid (Fm.sum xs = Fm.be4 (Cm.crc 0#32 (xs.drop 1))) := rfl
  generalize Cm.crc 0#32 (xs.drop 1) = s at HC HS
  have hsf := Cm.V_fit s
  clear hx hr hb ht hi hz0 hz1 hz2
  go_enter Tryd.func18, Tryd.ntmps18
  go_wp2_with (go_at_call 23; refine HC.out.mono ?_; rintro e w' ⟨rfl, rfl⟩)
  go_ret
  rw [HS.out]
  exact ⟨rfl, rfl⟩

theorem Equal_any (A : Option Addr) (n cap B : Nat) (xs : List Int) (A' : Option Addr) (n' cap' B' : Nat) (ys : List Int) (w : World) (hx : Rd w B A (u8s xs)) (hn : xs.length = n) (hy : Rd w B' A' (u8s ys)) (hn' : ys.length = n') (hb : Fm.By xs) (hb' : Fm.By ys) :
    Calls Tryd.prog 25 #[.slice A n cap, .slice A' n' cap'] w fun e w' => e = .returned (.bool (decide (xs = ys))) ∧ w' = w := by
  have c1 := str_of (cap := cap) hx hn
  have c2 := str_of (cap := cap') hy hn'
  have HE := Lib.hid (str_beq hb hb')
  clear hx hy
  go_enter Tryd.func25, Tryd.ntmps25
  go_wp2
  go_ret
  exact ⟨ret_bool HE.out, rfl⟩

set_option maxRecDepth 100000 in
set_option maxHeartbeats 1000000 in
theorem Clone_any (ad : Addr) (n cap B : Nat) (xs : List Int) (w : World) (hx : Rd w B (some ad) (u8s xs)) (hn : xs.length = n) (hB : B ≤ w.heap.size) (hle : n ≤ 140737488355328) :
    Calls Tryd.prog 21 #[.slice (some ad) n cap] w fun e w' => ∃ v, e = .returned v ∧ w'.ownsRow w.heap.size 5 1 v xs.length (u8s xs) ∧ Below w.heap.size w w' := by
  obtain ⟨i0, hi, hz0, hz1, hz2⟩ := info_parts info_u8
  have hnl := fun W => Lib.run_eql_slice_nil (P := Tryd.prog) W 22 5 (some ad) n cap 0 0 Tryd.underlying22
  have HN := Lib.hid hn
  have hown := World.ownsRow_made (base := w.heap.size) (e := 5) (size := 1) w #[] 0 (Nat.le_refl _) (by unfold maxLen; omega) (by simp)
  clear hn
  go_enter Tryd.func21, Tryd.ntmps21
  go_wp2_with (at_builtin; refine wpList_app rfl _ _ 22 rfl w.heap.size 5 i0 (.int .u8 0) 1 Tryd.underlying22 hi hz0 hz1 hz2 rfl _ _ _ rfl hown B (some ad) n cap (u8s xs) rfl (by rw [List.length_map]; exact HN.out) (hx.alloc hB _) (oneCell_ints _ _) (by unfold maxLen; omega) (by omega) (by simp) ?_; intro v' w2 hown' hgrow _)
  go_ret
  refine ⟨v', rfl, ?_, below_app ((Below.refl _ w).alloc (Nat.le_refl _) _) hown hgrow (by simp)⟩
  rw [HN.out]
  simpa [u8s] using hown'

/-- the first four bytes, just laid -/
theorem own_hd (w : World) (k : Int) (n : Nat) : (w.alloc (.cells #[.int .u8 247, .int .u8 k, .int .u8 ((n : Int) / 256), .int .u8 ((n : Int) % 256)] 5)).ownsRow w.heap.size 5 1 (.slice (some ⟨w.heap.size, 0, none⟩) 4 4) 4 (u8s (Fm.hd k n)) := by
  exact own_new w w.heap.size 5 (u8s (Fm.hd k n)) 4 rfl (Nat.le_refl _) (by unfold maxLen; omega)

set_option maxRecDepth 100000 in
set_option maxHeartbeats 2000000 in
theorem Put_any (k : Int) (A : Option Addr) (n cap B : Nat) (xs : List Int) (w : World) (hk : 0 ≤ k ∧ k ≤ 255) (hx : Rd w B A (u8s xs)) (hn : xs.length = n) (_hnc : n ≤ cap) (_hcap : cap ≤ maxLen) (hB : B ≤ w.heap.size) (hb : Fm.By xs) (ht : Tab w) :
    Calls Tryd.prog 11 #[.int .u8 k, .slice A n cap] w fun e w' => ∃ v, e = .returned (.tuple #[v, .int .i64 (Fm.put k xs).2]) ∧
      w'.ownsRow w.heap.size 5 1 v (Fm.put k xs).1.length (u8s (Fm.put k xs).1) ∧ Below w.heap.size w w' := by
  by_cases hm : n ≤ 8192
  · have HP : Hid (Fm.put k xs = (Fm.pre k xs ++ Fm.sum (Fm.pre k xs), 0)) := Fm.put_ok (by omega)
    have HPB := Lib.hid (Fm.pre_by hk hb (by omega))
    have HPL := Lib.hid (Fm.pre_len k xs)
    have HX := Lib.hid hx
    have HN := Lib.hid hn
    obtain ⟨i0, hi, hz0, hz1, hz2⟩ := info_parts info_u8
    have hown := own_hd w k n
    have HE : Hid (Fm.hd k n ++ xs = Fm.pre k xs) := by show _ = _; rw [← hn]; rfl
    clear hx hb hn
    go_enter Tryd.func11, Tryd.ntmps11
    go_wp2_with (first
      | (at_builtin; refine wpList_app rfl _ _ 22 rfl w.heap.size 5 i0 (.int .u8 0) 1 Tryd.underlying22 hi hz0 hz1 hz2 rfl _ _ _ rfl hown B A n cap (u8s xs) rfl (by rw [List.length_map]; exact HN.out) (HX.out.alloc hB _) (oneCell_ints _ _) (by unfold maxLen; omega) (by omega) (by simp) ?_; intro v2 w2 hown2 hgrow2 _; have hb2 := below_app ((Below.refl w.heap.size w).alloc (Nat.le_refl _) _) hown hgrow2 (by simp); rw [← List.map_append, HE.out] at hown2; obtain ⟨A2, c2, rfl, hcp2, hcm2, hrd2⟩ := own_view hown2)
      | (go_at_call 18; refine (sumOf_any A2 (4 + n) c2 w2.heap.size (Fm.pre k xs) w2 hrd2 (by rw [HPL.out, HN.out]; omega) (by omega) hcp2 hcm2 HPB.out (ht.below hb2 (Nat.le_refl _))).mono ?_; rintro e w' ⟨rfl, rfl⟩)
      | (at_builtin; refine wpList_app rfl _ _ 22 rfl w.heap.size 5 i0 (.int .u8 0) 1 Tryd.underlying22 hi hz0 hz1 hz2 rfl _ _ _ rfl (own_below hown2 ((Below.refl _ w2).alloc (Nat.le_refl _) _) (Nat.le_refl _)) (w2.heap.size + 1) (some ⟨w2.heap.size, 0, none⟩) 4 4 (u8s (Fm.sum (Fm.pre k xs))) rfl rfl (by exact Rd.new w2 (w2.heap.size + 1) (u8s (Fm.sum (Fm.pre k xs))) 5 (0, 0) (by omega)) (oneCell_ints _ _) (by unfold maxLen; omega) (by omega) (by have := hb2.size; simp; omega) ?_; intro v3 w3 hown3 hgrow3 _; have hb3 := below_app (hb2.alloc hb2.size _) (own_below hown2 ((Below.refl _ w2).alloc (Nat.le_refl _) _) (Nat.le_refl _)) hgrow3 (by have := hb2.size; simp; omega); rw [← List.map_append] at hown3))
    go_ret2
    rw [HP.out]
    refine ⟨_, rfl, ?_, hb3⟩
    have hl : (Fm.pre k xs ++ Fm.sum (Fm.pre k xs)).length = 4 + n + 4 := by rw [List.length_append, HPL.out, HN.out]; show n + 4 + 4 = _; omega
    rw [hl]
    exact hown3
  · have HP := Lib.hid (Fm.put_many (k := k) (b := xs) (by omega))
    clear hx hb
    go_enter Tryd.func11, Tryd.ntmps11
    go_wp2
    go_ret2
    rw [HP.out]
    exact ⟨_, rfl, own_none, Below.refl _ _⟩

set_option maxRecDepth 100000 in
set_option maxHeartbeats 2000000 in
theorem RPut_any (k : Int) (A : Option Addr) (n cap B : Nat) (xs : List Int) (w : World) (hk : 0 ≤ k ∧ k ≤ 255) (hx : Rd w B A (u8s xs)) (hn : xs.length = n) (_hnc : n ≤ cap) (_hcap : cap ≤ maxLen) (hB : B ≤ w.heap.size) (hb : Fm.By xs) :
    Calls Tryd.prog 12 #[.int .u8 k, .slice A n cap] w fun e w' => ∃ v, e = .returned (.tuple #[v, .int .i64 (Fm.put k xs).2]) ∧
      w'.ownsRow w.heap.size 5 1 v (Fm.put k xs).1.length (u8s (Fm.put k xs).1) ∧ Below w.heap.size w w' := by
  by_cases hm : n ≤ 8192
  · have HP : Hid (Fm.put k xs = (Fm.pre k xs ++ Fm.be4 (Cm.crc 0#32 ((Fm.pre k xs).drop 1)), 0)) := Fm.put_ok (by omega)
    have HPB := Lib.hid (Fm.pre_by hk hb (by omega))
    have HPL := Lib.hid (Fm.pre_len k xs)
    have HX := Lib.hid hx
    have HN := Lib.hid hn
    obtain ⟨i0, hi, hz0, hz1, hz2⟩ := info_parts info_u8
    have hown := own_hd w k n
    have HE : Hid (Fm.hd k n ++ xs = Fm.pre k xs) := by show _ = _; rw [← hn]; rfl
    obtain ⟨s, hs⟩ : ∃ s, s = Cm.crc 0#32 ((Fm.pre k xs).drop 1) := ⟨_, rfl⟩
    have HS := Lib.hid hs
    rw [← hs] at HP
    have hsf := Cm.V_fit s
    clear hx hb hn hs
    go_enter Tryd.func12, Tryd.ntmps12
    go_wp2_with (first
      | (at_builtin; refine wpList_app rfl _ _ 22 rfl w.heap.size 5 i0 (.int .u8 0) 1 Tryd.underlying22 hi hz0 hz1 hz2 rfl _ _ _ rfl hown B A n cap (u8s xs) rfl (by rw [List.length_map]; exact HN.out) (HX.out.alloc hB _) (oneCell_ints _ _) (by unfold maxLen; omega) (by omega) (by simp) ?_; intro v2 w2 hown2 hgrow2 _; have hb2 := below_app ((Below.refl w.heap.size w).alloc (Nat.le_refl _) _) hown hgrow2 (by simp); rw [← List.map_append, HE.out] at hown2; obtain ⟨A2, c2, rfl, hcp2, hcm2, hrd2⟩ := own_view hown2; have hsl : ∀ W, (Instr.slice 22 (.slice A2 (4 + n) c2) (some (.int .i64 1)) none none).run Tryd.prog W = .ok (.slice (cutA A2 1 c2) (4 + n - 1) (c2 - 1)) W := (fun W => run_cut_l (P := Tryd.prog) Tryd.underlying22 (size_of_info hi hz1) A2 (4 + n) c2 1 (by omega) W); have hrd3 := hrd2.dropU (k := 1) (cap := c2) (by rw [HPL.out, HN.out]; omega); generalize cutA A2 1 c2 = A3 at hsl hrd3)
      | (go_at_call 19; refine (RSum_any _ _ _ w2.heap.size ((Fm.pre k xs).drop 1) w2 hrd3 (by rw [List.length_drop, HPL.out, HN.out]; omega) (by omega) (HPB.out.drop 1)).mono ?_; rw [← HS.out]; rintro e w' ⟨rfl, rfl⟩)
      | (at_builtin; refine wpList_app rfl _ _ 22 rfl w.heap.size 5 i0 (.int .u8 0) 1 Tryd.underlying22 hi hz0 hz1 hz2 rfl _ _ _ rfl (own_below hown2 ((Below.refl _ w2).alloc (Nat.le_refl _) _) (Nat.le_refl _)) (w2.heap.size + 1) (some ⟨w2.heap.size, 0, none⟩) 4 4 (u8s (Fm.be4 s)) rfl rfl (by exact Rd.new w2 (w2.heap.size + 1) (u8s (Fm.be4 s)) 5 (0, 0) (by omega)) (oneCell_ints _ _) (by unfold maxLen; omega) (by omega) (by have := hb2.size; simp; omega) ?_; intro v3 w3 hown3 hgrow3 _; have hb3 := below_app (hb2.alloc hb2.size _) (own_below hown2 ((Below.refl _ w2).alloc (Nat.le_refl _) _) (Nat.le_refl _)) hgrow3 (by have := hb2.size; simp; omega); rw [← List.map_append] at hown3))
    go_ret2
    rw [HP.out]
    refine ⟨_, rfl, ?_, hb3⟩
    have hl : (Fm.pre k xs ++ Fm.be4 s).length = 4 + n + 4 := by rw [List.length_append, HPL.out, HN.out]; show n + 4 + 4 = _; omega
    rw [hl]
    exact hown3
  · have HP := Lib.hid (Fm.put_many (k := k) (b := xs) (by omega))
    clear hx hb
    go_enter Tryd.func12, Tryd.ntmps12
    go_wp2
    go_ret2
    rw [HP.out]
    exact ⟨_, rfl, own_none, Below.refl _ _⟩
end Go.Proofs.YtgeaedoccdemeaaDoor
