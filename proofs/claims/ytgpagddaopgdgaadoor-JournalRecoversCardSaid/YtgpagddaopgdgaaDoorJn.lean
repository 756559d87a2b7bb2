/- A journal's calls: a record appended, the tail synced: the program's and the document's. -/
import Derived.Test.YtgpagddaopgdgaaDoorJl
namespace Go.Proofs.YtgpagddaopgdgaaDoor
open Go.RowKit Go.Shelf Km

section
variable {w w' w'' : World} {S : Nat → Prop} {g : Nat} {s s' : Jm.St} {kv rv : Value}

set_option maxRecDepth 100000 in
set_option maxHeartbeats 2000000 in
theorem append_any (h : JAt w S g s kv rv) (k : Int) (A : Option Addr) (n cap B : Nat) (xs : List Int) (hk : 0 ≤ k ∧ k ≤ 255) (hx : Rd w B A (u8s xs)) (hn : xs.length = n) (hnc : n ≤ cap) (hcap : cap ≤ maxLen) (hB : B ≤ w.heap.size) (hb : Fm.By xs) (ht : HTab w)
    (hz : Jm.size s ≤ 16777216) :
    Calls Tryd.prog 12 #[.pointer (some ⟨g, 0, none⟩), .int .u8 k, .slice A n cap] w fun e w' => e = .returned (.int .i64 (Jm.append s k xs).2) ∧ Did S w w' g (Jm.append s k xs).1 := by
  obtain ⟨w1, hw1⟩ : ∃ w1, w1 = w.alloc (.cells #[.pointer (some ⟨g, 0, none⟩)] 24) := ⟨_, rfl⟩
  have hb1 : Below w.heap.size w w1 := by rw [hw1]; exact (Below.refl _ w).alloc (Nat.le_refl _) _
  have hs1 : w1.heap.size = w.heap.size + 1 := by rw [hw1, World.size_alloc]
  have hc1 : w1.cell? ⟨w.heap.size, 0, none⟩ = some (.pointer (some ⟨g, 0, none⟩)) := by rw [hw1]; exact (Boxed.new w _ _).cell
  have HP := Lib.hid (FPut_any k A n cap B xs w1 hk (hx.below (hb1.mono hB)) hn hnc hcap (Nat.le_trans hB hb1.size) hb (ht.below hb1 (Nat.le_refl _)))
  by_cases hm : 8192 < xs.length
  · rw [Jm.append_many hm]
    rw [Fm.put_many hm] at HP
    have HD : Hid (∀ w', Below w.heap.size w w' → Did S w w' g s) := fun w' q => Did.of (h.below q) (Out.below q)
    clear h hx ht hb hc1
    go_enter Tryd.func12, Tryd.ntmps12
    go_wp2_with (go_at_call 29; fail)
    rw [← hw1]
    refine HP.out.mono ?_
    rintro e w2 ⟨v, rfl, hown, hb2⟩
    obtain ⟨A2, c2, rfl, -, -, -⟩ := own_view hown
    clear hown
    go_wp2
    go_ret
    refine ⟨rfl, HD.out _ ?_⟩
    exact (hb1.trans (hb2.mono hb1.size)).alloc (by have := hb2.size; omega) _
  rw [Fm.put_ok (by omega)] at HP
  dsimp only at HP
  have HFL := Lib.hid (Fm.frm_len k xs)
  have HFB := Lib.hid (Fm.frm_by hk hb (by omega))
  generalize hfx : Fm.frm k xs = fx at HP HFL HFB
  have HJ := Lib.hid (fun (W : World) (q : Below w.heap.size w W) => h.below q)
  have hSl := h.lt
  have he0 := Jm.eff_kept s
  have HA : Hid ((Jm.append s k xs).2 = (Jm.eff s).2 ∧ ((Jm.eff s).2 = 0 → (Jm.append s k xs).1 = { (Jm.eff s).1 with rest := (Jm.eff s).1.rest ++ fx }) ∧ ((Jm.eff s).2 ≠ 0 → (Jm.append s k xs).1 = (Jm.eff s).1)) := by
    by_cases h0 : (Jm.eff s).2 = 0
    · rw [Jm.append_ok hm h0]
      exact ⟨h0.symm, fun _ => by rw [he0.2, hfx], fun q => absurd h0 q⟩
    · rw [Jm.append_err hm h0]
      exact ⟨rfl, fun q => absurd q h0, fun _ => rfl⟩
  have hze : Jm.size (Jm.eff s).1 ≤ 16777216 := by rw [Jm.size_eff]; exact hz
  have HQ : Hid (∀ (w3 : World) (D base : Nat) (v : Value), Below w.heap.size w w3 → w3.cell? ⟨w.heap.size, 0, none⟩ = some (.pointer (some ⟨g, 0, none⟩)) → w3.cell? ⟨D, 0, none⟩ = some v → w.heap.size ≤ D → w.heap.size ≤ base → w3.ownsRow base 5 1 v fx.length (u8s fx) →
      Calls Tryd.prog 30 #[.pointer (some ⟨g, 0, none⟩), .func (.func 31) #[] #[.pointer (some ⟨w.heap.size, 0, none⟩), .pointer (some ⟨D, 0, none⟩)]] w3 fun e w' => e = .returned (.int .i64 (Jm.append s k xs).2) ∧ Did S w w' g (Jm.append s k xs).1) := by
    intro w3 D base v q1 q2 q3 q4 q5 q6
    have nS : ∀ b, w.heap.size ≤ b → ¬ S b := fun b hb hs => by have := hSl b hs; omega
    rw [HA.out.1]
    refine (perform_any (Q := fun w' => Did S w3 w' g (Jm.append s k xs).1) (HJ.out w3 q1) 31 _ (fun W => callFunc_enter Tryd.func31 rfl rfl _ _) (fun h0 w' k1 k2 => ?_) (fun h0 w' k1 k2 => ?_)).mono ?_
    · refine (appends_any (k1.sx (w := w3)) (B := w.heap.size) (D := D) (base := base) (v := v) (b := fx) (cell_out q2 k2 (nS _ (Nat.le_refl _))) ?_ (cell_out q3 k2 (nS _ q4)) ?_ (own_out q6 k2 fun b hs => by have := hSl b hs; omega) HFB.out (by rw [HFL.out]; omega) hze).mono ?_
      · exact fun q => q.elim (nS _ (Nat.le_refl _)) (fun q => by have := World.block_lt_of_cell? w3 _ q2; dsimp only at this; omega)
      · exact fun q => q.elim (nS _ q4) (fun q => by have := World.block_lt_of_cell? w3 _ q3; dsimp only at this; omega)
      · rintro e w'' ⟨rfl, d⟩
        rw [HA.out.2.1 h0]
        exact ⟨rfl, (Did.of k1 k2).trans d⟩
    · rw [HA.out.2.2 h0]
      exact Did.of k1 k2
    · rintro e w' ⟨rfl, d⟩
      exact ⟨rfl, d.pre q1⟩
  clear h hx hb ht HA hm he0 hfx hz hze HJ hSl
  generalize Jm.append s k xs = r at HQ ⊢
  go_enter Tryd.func12, Tryd.ntmps12
  go_wp2_with (go_at_call 29; fail)
  rw [← hw1]
  refine HP.out.mono ?_
  rintro e w2 ⟨v, rfl, hown, hb2⟩
  obtain ⟨A2, c2, rfl, -, -, -⟩ := own_view hown
  have hb2' := hb1.trans (hb2.mono hb1.size)
  obtain ⟨w3, hw3⟩ : ∃ w3, w3 = w2.alloc (.cells #[.slice A2 fx.length c2] 29) := ⟨_, rfl⟩
  have hs2 : w.heap.size < w2.heap.size := by have := hb2.size; omega
  have hb3 : Below w.heap.size w w3 := by rw [hw3]; exact hb2'.alloc (by omega) _
  have hc2 : w2.cell? ⟨w.heap.size, 0, none⟩ = some (.pointer (some ⟨g, 0, none⟩)) := (hb2.cell (by dsimp only; omega)).trans hc1
  have hc3 : w3.cell? ⟨w.heap.size, 0, none⟩ = some (.pointer (some ⟨g, 0, none⟩)) := by rw [hw3]; exact (World.cell?_alloc_lt _ _ _ (by dsimp only; omega)).trans hc2
  have hd3 : w3.cell? ⟨w2.heap.size, 0, none⟩ = some (.slice A2 fx.length c2) := by rw [hw3]; exact (Boxed.new w2 _ _).cell
  have ho3 : w3.ownsRow w1.heap.size 5 1 (.slice A2 fx.length c2) fx.length (u8s fx) := by rw [hw3]; exact own_below hown ((Below.refl _ w2).alloc (Nat.le_refl _) _) (Nat.le_refl _)
  have HC := Lib.hid (HQ.out w3 w2.heap.size w1.heap.size _ hb3 hc3 hd3 (by omega) hb1.size ho3)
  clear hown hb2 hb2' hb3 hc3 hd3 ho3 hc1
  go_wp2_with (go_at_call 30; fail)
  rw [← hw3]
  refine HC.out.mono ?_
  rintro e w' ⟨rfl, hd⟩
  go_wp2
  go_ret
  exact ⟨rfl, hd⟩

set_option maxRecDepth 100000 in
set_option maxHeartbeats 2000000 in
theorem rappend_any (h : JAt w S g s kv rv) (k : Int) (A : Option Addr) (n cap B : Nat) (xs : List Int) (hk : 0 ≤ k ∧ k ≤ 255) (hx : Rd w B A (u8s xs)) (hn : xs.length = n) (hnc : n ≤ cap) (hcap : cap ≤ maxLen) (hB : B ≤ w.heap.size) (hb : Fm.By xs)
    (hz : Jm.size s ≤ 16777216) :
    Calls Tryd.prog 13 #[.pointer (some ⟨g, 0, none⟩), .int .u8 k, .slice A n cap] w fun e w' => e = .returned (.int .i64 (Jm.append s k xs).2) ∧ Did S w w' g (Jm.append s k xs).1 := by
  have HP := Lib.hid (FRPut_any k A n cap B xs w hk hx hn hnc hcap hB hb)
  by_cases hm : 8192 < xs.length
  · rw [Jm.append_many hm]
    rw [Fm.put_many hm] at HP
    have HD : Hid (∀ w', Below w.heap.size w w' → Did S w w' g s) := fun w' q => Did.of (h.below q) (Out.below q)
    clear h hx hb
    go_enter Tryd.func13, Tryd.ntmps13
    go_wp2_with (go_at_call 28; fail)
    refine HP.out.mono ?_
    rintro e w2 ⟨v, rfl, hown, hb2⟩
    obtain ⟨A2, c2, rfl, -, -, -⟩ := own_view hown
    clear hown
    go_wp2
    go_ret
    exact ⟨rfl, HD.out _ hb2⟩
  rw [Fm.put_ok (by omega)] at HP
  dsimp only at HP
  have HFL := Lib.hid (Fm.frm_len k xs)
  have HFB := Lib.hid (Fm.frm_by hk hb (by omega))
  have hSl := h.lt
  have he0 := Jm.eff_kept s
  have hze : Jm.size (Jm.eff s).1 ≤ 16777216 := by rw [Jm.size_eff]; exact hz
  by_cases h0 : (Jm.eff s).2 = 0
  · rw [Jm.append_ok hm h0]
    rw [← he0.2]
    generalize Fm.frm k xs = fx at HP HFL HFB
    have HJ := Lib.hid (fun (W : World) (q : Below w.heap.size w W) => reffect_any (h.below q))
    have HS := Lib.hid (fun (W W' : World) (q : Below w.heap.size w W) (d : Did S W W' g { (Jm.eff s).1 with rest := (Jm.eff s).1.rest ++ fx }) => d.pre q)
    rw [h0] at HJ
    clear h hx hb he0 h0 hz
    generalize (Jm.eff s).1 = s1 at *
    obtain ⟨i0, hi, hz0, hz1, hz2⟩ := info_parts info_u8
    unfold Jm.size at hze
    go_enter Tryd.func13, Tryd.ntmps13
    go_wp2_with (go_at_call 28; fail)
    refine HP.out.mono ?_
    rintro e w2 ⟨v, rfl, hown, hb2⟩
    obtain ⟨A2, c2, rfl, -, -, -⟩ := own_view hown
    have HO := Lib.hid hown
    have HB2 := Lib.hid hb2
    clear hown hb2
    go_wp2_with (go_at_call 17; fail)
    refine (HJ.out w2 HB2.out).mono ?_
    rintro e w3 ⟨rfl, k1, k2⟩
    obtain ⟨c1, -⟩ := k1.at 1 rfl
    have HO3 := Lib.hid (own_out HO.out k2 hSl)
    obtain ⟨Av, cv, ev, hv1, hv2, hvd, -⟩ := own_view0 HO3.out
    injection ev with ev1 ev2 ev3
    subst ev1 ev3
    have HK := Lib.hid (k1.sx (w := w2))
    have HT := Lib.hid (fun (W : World) (d : Did (Sx S w2 w3) w3 W g { s1 with rest := s1.rest ++ fx }) => ((Did.of k1 k2).trans d).pre HB2.out)
    clear k1 k2 ev2 HS HB2
    go_wp2_with (at_builtin; go_must (refine wpList_app rfl _ _ 29 rfl 0 5 i0 (.int .u8 0) 1 Tryd.underlying29 hi hz0 hz1 hz2 rfl rv s1.rest.length (u8s s1.rest) rfl HK.out.rr w3.heap.size A2 fx.length c2 (u8s fx) rfl (by rw [List.length_map]) hvd (oneCell_ints _ _) (by have := HFL.out; unfold maxLen; omega) (by have := HFL.out; omega) (Nat.zero_le _) ?_); intro v4 w4 hown4 hgrow4 hblk4; obtain ⟨A4, c4, rfl, -, -, -⟩ := own_view hown4; have hown4' : w4.ownsRow 0 5 1 (.slice A4 (s1.rest.length + fx.length) c4) (s1.rest ++ fx).length (u8s (s1.rest ++ fx)) := (by rw [List.length_append, show u8s (s1.rest ++ fx) = u8s s1.rest ++ u8s fx from List.map_append]; exact hown4); obtain ⟨⟨c4a, f4a⟩, HD⟩ := HK.out.adding hgrow4 HFB.out hown4' hblk4; clear hown4 hown4' hgrow4 hblk4)
    go_ret
    exact ⟨rfl, HT.out _ HD.out⟩
  · rw [Jm.append_err hm h0]
    generalize Fm.frm k xs = fx at HP HFL HFB
    have HJ := Lib.hid (fun (W : World) (q : Below w.heap.size w W) => reffect_any (h.below q))
    clear h hx hb he0 hz hm
    have hne : ((Jm.eff s).2 != 0) = true := by rw [bne_iff_ne]; exact h0
    generalize Jm.eff s = s1 at *
    obtain ⟨s1, er⟩ := s1
    dsimp only at *
    go_enter Tryd.func13, Tryd.ntmps13
    go_wp2_with (go_at_call 28; fail)
    refine HP.out.mono ?_
    rintro e w2 ⟨v, rfl, hown, hb2⟩
    obtain ⟨A2, c2, rfl, -, -, -⟩ := own_view hown
    have HB2 := Lib.hid hb2
    clear hown hb2
    go_wp2_with (go_at_call 17; fail)
    refine (HJ.out w2 HB2.out).mono ?_
    rintro e w3 ⟨rfl, k1, k2⟩
    have HT := Lib.hid ((Did.of k1 k2).pre HB2.out)
    clear k1 k2 HJ
    go_wp2
    go_ret
    exact ⟨rfl, HT.out⟩
end
end Go.Proofs.YtgpagddaopgdgaaDoor
