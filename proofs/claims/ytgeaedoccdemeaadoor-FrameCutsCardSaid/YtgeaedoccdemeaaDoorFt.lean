/- All frames from the beginning on: the document's. -/
import Derived.Test.YtgeaedoccdemeaaDoorFs
namespace Go.Proofs.YtgeaedoccdemeaaDoor
open Go.RowKit Go.Shelf

theorem info_sl : (Tryd.prog.info? 22).map (fun i => (i.zero, i.size, i.bytes)) = some (some (.slice none 0 0), 1, 24) := by kernel_rfl
theorem info_parts_sl : ∃ i, Tryd.prog.info? 22 = some i ∧ i.zero = some (.slice none 0 0) ∧ i.size = 1 ∧ i.bytes = 24 := by
  have h := info_sl
  cases hi : Tryd.prog.info? 22 with
  | none => rw [hi] at h; cases h
  | some i => rw [hi] at h; simp only [Option.map_some, Option.some.injEq, Prod.mk.injEq] at h; exact ⟨i, rfl, h.1, h.2.1, h.2.2⟩

theorem drop_two (xs : List Int) (m k : Nat) : (xs.drop m).drop k = xs.drop (m + k) := List.drop_drop ..

theorem cat_more (fs : List (Int × List Int)) (k : Int) (b : List Int) : (Fm.cat (fs ++ [(k, b)])).length = (Fm.cat fs).length + (b.length + 8) := by
  rw [Fm.cat_app, List.length_append, Fm.cat_cons, Fm.cat_nil, List.append_nil, Fm.frm_len]

set_option maxRecDepth 100000 in
set_option maxHeartbeats 4000000 in
theorem RAll_any (A : Option Addr) (n cap B : Nat) (xs : List Int) (w : World) (hx : Rd w B A (u8s xs)) (hn : xs.length = n) (hnc : n ≤ cap) (hcap : cap ≤ maxLen) (hB : B ≤ w.heap.size) (hb : Fm.By xs) (hsm : n ≤ 4194304) :
    Calls Tryd.prog 16 #[.slice A n cap] w fun e w' => ∃ kv bv, e = .returned (.tuple #[kv, bv, .int .i64 (((Fm.cat (Fm.al xs)).length : Nat) : Int)]) ∧
      Acc w.heap.size w' kv bv ((Fm.al xs).map (·.1)) ((Fm.al xs).map (·.2)) ∧ Below w.heap.size w w' := by
  obtain ⟨i0, hi, hz0, hz1, hz2⟩ := info_parts info_u8
  obtain ⟨i1, hi1, hy0, hy1, hy2⟩ := info_parts_sl
  have HX := Lib.hid hx
  have HN := Lib.hid hn
  have HB := Lib.hid hb
  clear hx hn hb
  go_enter Tryd.func16, Tryd.ntmps16
  go_wp2_with fail
  go_loopw [5, 6, 7] (fun kv bv ax wr => ∃ (fs : List (Int × List Int)) (m : Nat), ax = .int .i64 (m : Int) ∧ m ≤ n ∧ Hid (Fm.al xs = fs ++ Fm.al (xs.drop m)) ∧ Hid (m = (Fm.cat fs).length) ∧ 8 * fs.length ≤ m ∧ Acc w.heap.size wr kv bv (fs.map (·.1)) (fs.map (·.2)) ∧ Below w.heap.size w wr)
    (fun _ _ ax _ => n - (intOf ax).toNat)
  case atStart => exact ⟨[], 0, rfl, by omega, Lib.hid rfl, Lib.hid rfl, by simp, Acc.nil _ _ (Nat.le_refl _), Below.refl _ _⟩
  case round =>
    obtain ⟨fs, m, rfl, hm, hS, hC, h8, hacc, hbw⟩ := hrel
    have HG := Lib.hid (RGet_any A n cap B xs (m : Int) wr (HX.out.below (hbw.mono hB)) HN.out hnc hcap (Nat.le_trans hB hbw.size) HB.out (by omega) (by omega))
    cases hg : Fm.g1 (xs.drop m) with
    | none =>
      have hE := Fm.get_none (b := xs) (n := m) (by rw [HN.out]; exact hm) hg
      have HS2 : Hid (Fm.al xs = fs) := by
        have h := hS.out
        rw [Fm.al_none hg, List.append_nil] at h
        exact h
      have HAC := Lib.hid hacc
      have HBW := Lib.hid hbw
      generalize Fm.get xs (m : Int) = q at HG hE
      obtain ⟨q1, q2, q3, q4⟩ := q
      dsimp only at HG hE
      have hq : (q4 != 0) = true := by rw [bne_iff_ne]; exact hE
      clear hS hg hacc hbw hE
      go_wp2_with (go_at_call 14; refine HG.out.mono ?_; rintro e w1 ⟨v, rfl, -, hb1⟩)
      go_ret3
      rw [HS2.out, ← hC.out]
      exact ⟨u5, u6, rfl, HAC.out.below hb1, HBW.out.trans (hb1.mono HBW.out.size)⟩
    | some p =>
      obtain ⟨k, b⟩ := p
      have hE := Fm.get_some (b := xs) (n := m) (by rw [HN.out]; exact hm) HB.out hg
      obtain ⟨hl, hk, -, hle, -, -⟩ := Fm.g1_some (HB.out.drop m) hg
      rw [List.length_drop, HN.out] at hle
      have HS2 : Hid (Fm.al xs = (fs ++ [(k, b)]) ++ Fm.al (xs.drop (m + (b.length + 8)))) := by
        have h := hS.out
        rw [Fm.al_some hg, drop_two] at h
        rw [List.append_assoc]
        exact h
      have HC2 : Hid (m + (b.length + 8) = (Fm.cat (fs ++ [(k, b)])).length) := by
        show _ = _
        rw [cat_more, ← hC.out]
      rw [hE] at HG
      dsimp only at HG
      have HAC := Lib.hid hacc
      have HBW := Lib.hid hbw
      clear hS hC hg hacc hbw hE
      go_wp2_with (go_at_call 14; fail)
      refine HG.out.mono ?_
      rintro e w1 ⟨v, rfl, hown, hb1⟩
      have acc1 := HAC.out.below hb1
      have bod1 := Bod.fresh HAC.out hb1.size hown
      obtain ⟨Av, cv, rfl, -, -, -⟩ := bod1
      have bod1 := Bod.fresh HAC.out hb1.size hown
      have acc1a := acc1.below ((Below.refl w1.heap.size w1).alloc (Nat.le_refl _) (.cells #[.int .u8 k] 5))
      have bod1a := bod1.keep (w' := w1.alloc (.cells #[.int .u8 k] 5)) (ok' := fun g => w.heap.size ≤ g ∧ g < (w1.alloc (.cells #[.int .u8 k] 5)).heap.size ∧ u5.ownBlock ≠ some g ∧ u6.ownBlock ≠ some g) (fun g hg => ⟨Below.heap_alloc _ _ _ hg.2.1, hg.1, by simp; omega, hg.2.2⟩)
      have B1 := Lib.hid (HBW.out.trans (hb1.mono HBW.out.size))
      have hl1 : (fs.map (·.1)).length = fs.length := by simp
      have hl2 : (fs.map (·.2)).length = fs.length := by simp
      go_wp2_with (first
        | (at_builtin; refine wpList_app rfl _ _ 22 rfl w.heap.size 5 i0 (.int .u8 0) 1 Tryd.underlying22 hi hz0 hz1 hz2 rfl _ _ _ rfl acc1a.parts.1 (w1.heap.size + 1) (some ⟨w1.heap.size, 0, none⟩) 1 1 [.int .u8 k] rfl rfl (by exact Rd.new w1 (w1.heap.size + 1) [.int .u8 k] 5 (0, 0) (by omega)) (by simp [Value.oneCell']) (by unfold maxLen; omega) (by omega) (by have := B1.out.size; simp; omega) ?_; intro kv2 w2 hown2 hgrow2 hblk2; have acc2 := Acc.kinds acc1a hgrow2 hown2 hblk2; have bod2 := Bod.kinds bod1a hgrow2 hblk2; have B2 := Lib.hid (below_app (B1.out.alloc B1.out.size _) acc1a.parts.1 hgrow2 (by have := B1.out.size; simp; omega)); have acc2a := acc2.below ((Below.refl w2.heap.size w2).alloc (Nat.le_refl _) (.cells #[.slice Av b.length cv] 22)); have bod2a := bod2.keep (w' := w2.alloc (.cells #[.slice Av b.length cv] 22)) (ok' := fun g => w.heap.size ≤ g ∧ g < (w2.alloc (.cells #[.slice Av b.length cv] 22)).heap.size ∧ kv2.ownBlock ≠ some g ∧ u6.ownBlock ≠ some g) (fun g hg => ⟨Below.heap_alloc _ _ _ hg.2.1, hg.1, by simp; omega, hg.2.2⟩); obtain ⟨us, hus⟩ := acc2a.parts.2; clear hown2 acc2 bod2 hgrow2)
        | (at_builtin; refine wpList_app rfl _ _ 30 rfl w.heap.size 22 i1 (.slice none 0 0) 24 Tryd.underlying30 hi1 hy0 hy1 hy2 rfl _ _ _ rfl hus (w2.heap.size + 1) (some ⟨w2.heap.size, 0, none⟩) 1 1 [.slice Av b.length cv] rfl rfl (by exact Rd.new w2 (w2.heap.size + 1) [.slice Av b.length cv] 22 (0, 0) (by omega)) (by simp [Value.oneCell']) (by unfold maxLen; omega) (by omega) (by have := B2.out.size; simp; omega) ?_; intro bv2 w3 hown3 hgrow3 hblk3; have acc3 := Acc.bodies acc2a bod2a hus hgrow3 hown3 hblk3; have B3 := Lib.hid (below_app (B2.out.alloc B2.out.size _) hus hgrow3 (by have := B2.out.size; simp; omega)); clear hown3 hgrow3))
      go_roundw
      case rel => exact ⟨fs ++ [(k, b)], m + (b.length + 8), by go_num, by omega, HS2, HC2, by simp; omega, by rw [List.map_append, List.map_append]; exact acc3, B3.out⟩
      case measure => simp [intOf]; omega
end Go.Proofs.YtgeaedoccdemeaaDoor
