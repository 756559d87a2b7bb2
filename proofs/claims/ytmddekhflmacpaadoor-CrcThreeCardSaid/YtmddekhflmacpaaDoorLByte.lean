import Derived.Test.YtmddekhflmacpaaDoorLSums
namespace Go.Proofs.YtmddekhflmacpaaDoor
open Go.RowKit Go.Shelf

theorem v_ne {p q : BitVec 32} (h : p ≠ q) : (Cm.V p != Cm.V q) = true := by
  rw [bne_iff_ne]
  exact fun e => h (Cm.V_inj e)

set_option maxRecDepth 100000 in
set_option maxHeartbeats 2000000 in
theorem byte_walk (a0 : Option Addr) (len0 cap0 : Nat) (z0 : List Int) (a1 a2 : Int) (w : World) (w0 : RowOf .u8 w a0 len0 cap0 z0) (w1 : (Lit.int .u16 a1).wf = true) (w2 : (Lit.int .u8 a2).wf = true)
    (_s0 : cap0 * 1 ≤ 140737488351232) (t0 : TabAt w) :
    Calls Tryd.prog 5 #[.slice a0 len0 cap0, .int .u16 a1, .int .u8 a2] w fun e w' => e = .returned (.bool true) ∧ Below w.heap.size w w' := by
  obtain ⟨xs, hn, hc, hm, hr, hw⟩ := row_rd w0
  have b1 := wf_u16 w1
  have b2 := wf_u8' w2
  have HB := Lib.hid (wf_u8 hw)
  have HN := Lib.hid hn
  have hml : len0 ≤ maxLen := by omega
  clear w0 w1 w2 hw hn
  by_cases hz : len0 = 0
  · subst hz
    have h0 : (((0 : Nat) : Int) == 0) = true := rfl
    go_enter Tryd.func5, Tryd.ntmps5
    go_wp2_with (go_at_call 9; refine (head_any _ t0.tab).mono ?_; rintro e w1 ⟨rfl, hb1⟩)
    go_ret
    exact ⟨rfl, hb1⟩
  have h0 : ((len0 : Int) == 0) = false := by rw [beq_eq_false_iff_ne]; omega
  by_cases hy : a2 = 0
  · subst hy
    go_enter Tryd.func5, Tryd.ntmps5
    go_wp2_with (go_at_call 9; refine (head_any _ t0.tab).mono ?_; rintro e w1 ⟨rfl, hb1⟩)
    go_ret
    exact ⟨rfl, hb1⟩
  have h1 : (a2 == 0) = false := by rw [beq_eq_false_iff_ne]; exact hy
  obtain ⟨at', rfl⟩ := Int.eq_ofNat_of_zero_le b1.1
  obtain ⟨i, hi⟩ : ∃ i, i = at' % len0 := ⟨_, rfl⟩
  have hil : i < len0 := by rw [hi]; exact Nat.mod_lt _ (by omega)
  have hrem : ((at' : Int) % (len0 : Int)) = (i : Int) := by rw [hi]; rfl
  obtain ⟨x, hx⟩ : ∃ x, xs[i]? = some x := ⟨xs[i]'(by rw [HN.out]; exact hil), List.getElem?_eq_getElem _⟩
  have hxb := HB.out x (List.mem_of_getElem? hx)
  obtain ⟨y, hxy⟩ : ∃ y, bits .xor .u8 x a2 = y := ⟨_, rfl⟩
  have hyb : 0 ≤ y ∧ y ≤ 255 := by rw [← hxy]; exact (Cm.b8_xor hxb b2).2
  obtain ⟨p, hp⟩ : ∃ p, p = Cm.crc 0#32 (xs.set i y) := ⟨_, rfl⟩
  obtain ⟨q, hq⟩ : ∃ q, q = Cm.crc 0#32 xs := ⟨_, rfl⟩
  have hne := v_ne (p := p) (q := q) (by rw [hp, hq, ← hxy]; exact Cm.crc_byte hx hxb b2 hy 0#32)
  have HP := Lib.hid hp
  have HQ := Lib.hid hq
  have HX := Lib.hid hx
  have HBS : Hid (∀ u ∈ xs.set i y, 0 ≤ u ∧ u ≤ 255) := fun u hu => by
    rcases List.mem_or_eq_of_mem_set hu with h | h
    · exact HB.out u h
    · rw [h]; exact hyb
  have HLS : Hid ((xs.set i y).length = len0) := by show _ = _; rw [List.length_set]; exact HN.out
  obtain ⟨i0, hi0, hz0, hz1, hz2⟩ := info_parts info_u8
  clear hi hx hp hq hy
  go_enter Tryd.func5, Tryd.ntmps5
  go_wp2_with (first
    | (go_at_call 9; refine (head_any _ t0.tab).mono ?_; rintro e w1 ⟨rfl, hb1⟩; have ht1 := t0.tab.below hb1 (Nat.le_refl _); have hmade := World.ownsRow_made (base := w1.heap.size) (e := 5) (size := 1) w1 #[] 0 (Nat.le_refl _) (by unfold maxLen; omega) (by simp))
    | (at_builtin; (refine wpList_app rfl _ _ 23 rfl w1.heap.size 5 i0 (.int .u8 0) 1 Tryd.underlying23 hi0 hz0 hz1 hz2 rfl _ _ _ rfl hmade w.heap.size a0 len0 cap0 (u8s xs) rfl (by rw [List.length_map]; exact HN.out) ((hr.below hb1).alloc hb1.size _) (oneCell_ints _ _) (by unfold maxLen; omega) (by omega) (by simp) ?_; intro v2 w2 hown2 hgrow2 _; have hb2 := below_app ((Below.refl w1.heap.size w1).alloc (Nat.le_refl _) _) hmade hgrow2 (by simp); rw [Nat.zero_add, List.nil_append] at hown2; obtain ⟨g, c2, rfl, hge, hgl⟩ := hown2.form (by omega); have hcl : w2.cell? ⟨g, i, none⟩ = some (.int .u8 x) := (by rw [hown2.cellAt i (by omega), List.getElem?_map, HX.out]; rfl); have hfz := hown2.frozenAt i; have hst := hown2.stored i (.int .u8 y); rw [u8s_set] at hst; have HST := Lib.hid hst.1; have HB2 := Lib.hid ((hb2.setCell (p := ⟨g, i, none⟩) hge (.int .u8 y))); clear hst hgrow2 hb2 hown2 hmade))
    | (go_at_call 10; fail))
  have hb3 := hb1.trans (HB2.out.mono hb1.size)
  have ht3 := ht1.below HB2.out (Nat.le_refl _)
  obtain ⟨A3, c3, hv3, hcp3, hcm3, hrd3⟩ := own_view HST.out
  injection hv3 with e1 e2 e3
  subst e1 e3
  have HS1 := Lib.hid (Sum_any (some ⟨g, 0, none⟩) len0 c2 _ (xs.set i y) _ hrd3 HLS.out hml HBS.out ht3)
  have HS2 := Lib.hid (Sum_any a0 len0 cap0 w.heap.size xs _ (hr.below hb3) HN.out hml HB.out ht3)
  rw [← HP.out] at HS1
  rw [← HQ.out] at HS2
  have HE := Lib.hid hb3
  clear hb3 ht3 hrd3 hr ht1 HB2 HST hb1
  refine HS1.out.mono ?_
  rintro e w' ⟨rfl, rfl⟩
  go_wp2_with fail
  refine HS2.out.mono ?_
  rintro e w' ⟨rfl, rfl⟩
  go_wp2_with fail
  go_ret
  exact ⟨rfl, HE.out⟩
end Go.Proofs.YtmddekhflmacpaaDoor
