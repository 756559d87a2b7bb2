/- FrameGets, walked. -/
import Derived.Test.YtgeaedoccdemeaaDoorFj
namespace Go.Proofs.YtgeaedoccdemeaaDoor
open Go.RowKit Go.Shelf

/-- nothing from block B on has turned -/
def Far (B : Nat) (w w' : World) : Prop := w.heap.size = w'.heap.size ∧ ∀ g, B ≤ g → w'.heap[g]? = w.heap[g]?
theorem Far.set {B : Nat} {w w' : World} (h : Far B w w') {a : Addr} (ha : a.block < B) (v : Value) : Far B w (w'.setCell a v) :=
  ⟨by rw [h.1]; simp [World.setCell], fun g hg => (Below.heap_setCell _ _ _ g (by omega)).trans (h.2 g hg)⟩

set_option maxRecDepth 100000 in
set_option maxHeartbeats 4000000 in
theorem gets_walk (a0 : Option Addr) (len0 cap0 : Nat) (z0 : List Int) (a1 : Int) (w : World) (w0 : RowOf .u8 w a0 len0 cap0 z0) (w1 : (Lit.int .i64 a1).wf = true)
    (_s0 : cap0 * 1 ≤ 140737488351232) (u0 : cap0 ≤ 1048576) (t0 : TabAt w) :
    Calls Tryd.prog 4 #[.slice a0 len0 cap0, .int .i64 a1] w fun e w' => e = .returned (.bool true) ∧ Below w.heap.size w w' := by
  have b1 := wf_i64 w1
  obtain ⟨xs, hn0, hc0, hm0, hr0, hw0⟩ := row_rd w0
  have HB : Hid (Fm.By xs) := wf_u8 hw0
  have HN := Lib.hid hn0
  have HR := Lib.hid hr0
  clear w0 w1 hw0 hn0 hr0
  obtain ⟨i0, hi, hz0, hz1, hz2⟩ := info_parts info_u8
  go_enter Tryd.func4, Tryd.ntmps4
  go_wp2_with (first
    | (go_at_call 10; refine (head_any _ t0.tab).mono ?_; rintro e w1 ⟨rfl, hb1⟩; have hmade := World.ownsRow_made (base := w1.heap.size) (e := 5) (size := 1) w1 #[] 0 (Nat.le_refl _) (by unfold maxLen; omega) (by simp))
    | (at_builtin; refine wpList_app rfl _ _ 22 rfl w1.heap.size 5 i0 (.int .u8 0) 1 Tryd.underlying22 hi hz0 hz1 hz2 rfl _ _ _ rfl hmade w.heap.size a0 len0 cap0 (u8s xs) rfl (by rw [List.length_map]; exact HN.out) ((HR.out.below hb1).alloc hb1.size _) (oneCell_ints _ _) (by unfold maxLen; omega) (by omega) (by simp) ?_; intro vo w2 hown2 hgrow2 _; have hb2 := below_app ((Below.refl w1.heap.size w1).alloc (Nat.le_refl _) _) hmade hgrow2 (by simp); rw [Nat.zero_add, List.nil_append] at hown2; obtain ⟨A2, c2, rfl, hcp2, hcm2, hrd2⟩ := own_view hown2)
    | (go_at_call 13; fail))
  have HW2 := Lib.hid (hb1.trans (hb2.mono hb1.size))
  have HS1 := Lib.hid hb1.size
  have HO2 := Lib.hid hown2
  have HR2 := Lib.hid hrd2
  have HB2 := Lib.hid hb2
  clear hmade hown2 hgrow2 hrd2 hb1 hb2
  have hs2 := HW2.out.size
  obtain ⟨q, hq⟩ : ∃ q, q = Fm.get xs a1 := ⟨_, rfl⟩
  have HQ := Lib.hid hq
  clear hq
  refine (Get_any A2 len0 c2 w2.heap.size xs a1 w2 HR2.out HN.out hcp2 hcm2 (Nat.le_refl _) HB.out (t0.tab.below HW2.out (Nat.le_refl _)) b1.1 b1.2).mono ?_
  rw [← HQ.out]
  rintro e w3 ⟨vx, rfl, hox, hb3⟩
  have HB3 := Lib.hid hb3
  have HOX := Lib.hid hox
  obtain ⟨Ax, cx, rfl, -, -, -⟩ := own_view hox
  clear hb3 hox
  have HW3 := Lib.hid (HW2.out.trans (HB3.out.mono hs2))
  go_wp2_with fail
  refine (RGet_any a0 len0 cap0 w.heap.size xs a1 w3 (HR.out.below HW3.out) HN.out hc0 hm0 HW3.out.size HB.out b1.1 b1.2).mono ?_
  rw [← HQ.out]
  rintro e w4 ⟨vy, rfl, hoy, hb4⟩
  have HB4 := Lib.hid hb4
  have HOY := Lib.hid hoy
  obtain ⟨Ay, cy, rfl, -, -, -⟩ := own_view hoy
  clear hb4 hoy
  have HW4 := Lib.hid (HW3.out.trans (HB4.out.mono HW3.out.size))
  have HB24 := Lib.hid (HB3.out.trans (HB4.out.mono HB3.out.size))
  go_wp2_with fail
  obtain ⟨fs, hfs⟩ : ∃ fs, fs = Fm.al xs := ⟨_, rfl⟩
  have HFS := Lib.hid hfs
  clear hfs
  refine (All_any A2 len0 c2 w2.heap.size xs w4 (HR2.out.below HB24.out) HN.out hcp2 hcm2 HB24.out.size HB.out (t0.tab.below HW4.out (Nat.le_refl _)) (by omega)).mono ?_
  rw [← HFS.out]
  rintro e w5 ⟨km, sm, rfl, accM, hb5⟩
  have HB5 := Lib.hid hb5
  have HAM := Lib.hid accM
  obtain ⟨Am, cm, -, As, cs, rfl, rfl, -⟩ := accM.outF
  clear hb5 accM
  have HW5 := Lib.hid (HW4.out.trans (HB5.out.mono HW4.out.size))
  go_wp2_with fail
  refine (RAll_any a0 len0 cap0 w.heap.size xs w5 (HR.out.below HW5.out) HN.out hc0 hm0 HW5.out.size HB.out (by omega)).mono ?_
  rw [← HFS.out]
  rintro e w6 ⟨kn, tn, rfl, accN, hb6⟩
  have HB6 := Lib.hid hb6
  have HAN := Lib.hid accN
  obtain ⟨An, cn, -, At, ct, rfl, rfl, -⟩ := accN.outF
  clear hb6 accN
  have HW6 := Lib.hid (HW5.out.trans (HB6.out.mono HW5.out.size))
  have HB26 := Lib.hid (HB24.out.trans ((HB5.out.trans (HB6.out.mono HB5.out.size)).mono HB24.out.size))
  have KO := Lib.hid (own_below HO2.out HB26.out (Nat.le_refl _))
  have HG : Hid (∀ g, A2 = some ⟨g, 0, none⟩ → w1.heap.size ≤ g ∧ g < w2.heap.size) := fun g e => HO2.out.lt g (by rw [e]; rfl)
  have hcm2' := hcm2
  unfold maxLen at hcm2'
  have hs12 := HB2.out.size
  have hs26 := HB26.out.size
  have HSZ := Lib.hid (And.intro HB3.out.size (And.intro HB4.out.size (And.intro HB5.out.size HB6.out.size)))
  clear hz0 hz1 hz2 hi hcm2 hm0
  go_wp2_with fail
  go_loopw [21] (fun ix wr => ∃ (k : Nat) (us : List Int), ix = .int .i64 (k : Int) ∧ k ≤ len0 ∧ us.length = len0 ∧ wr.ownsRow w1.heap.size 5 1 (.slice A2 len0 c2) len0 (u8s us) ∧ Hid (Far w2.heap.size w6 wr ∧ Below w1.heap.size w6 wr))
    (fun ix _ => len0 - (intOf ix).toNat)
  case atStart => exact ⟨0, xs, rfl, by omega, HN.out, KO.out, ⟨rfl, fun _ _ => rfl⟩, Below.refl _ _⟩
  case round =>
    obtain ⟨k, us, rfl, hk, hul, hown, HK⟩ := hrel
    by_cases hlt : k < len0
    · obtain ⟨g, cap', hv, hge, hgl⟩ := hown.form (by omega)
      obtain rfl : A2 = some ⟨g, 0, none⟩ := by injection hv
      have hg2 := HG.out g rfl
      obtain ⟨y, hy⟩ : ∃ y, us[k]? = some y := ⟨us[k], List.getElem?_eq_getElem (by omega)⟩
      have hcl : wr.cell? ⟨g, k, none⟩ = some (.int .u8 y) := by rw [hown.cellAt k (by omega), List.getElem?_map, hy]; rfl
      have hfz := hown.frozenAt k
      have hst := hown.stored k (.int .u8 ((y + 1) % 256))
      rw [u8s_set] at hst
      have HS := Lib.hid hst.1
      have HK2 := Lib.hid (And.intro (HK.out.1.set (a := ⟨g, k, none⟩) hg2.2 (.int .u8 ((y + 1) % 256))) (HK.out.2.setCell (p := ⟨g, k, none⟩) hg2.1 (.int .u8 ((y + 1) % 256))))
      have HUL : Hid ((us.set k ((y + 1) % 256)).length = len0) := by
        show _ = _
        rw [List.length_set]; exact hul
      clear HK hst hown hv hy hul
      go_wp2
      go_roundw
      case rel => exact ⟨k + 1, _, by go_num, by omega, HUL.out, HS.out, HK2⟩
      case measure => simp [intOf]; omega
    · obtain ⟨hfar, hbel⟩ := HK.out
      have hfb : ∀ {base : Nat} {e : TypeId} {v : Value} {n : Nat} {l : List Value}, w2.heap.size ≤ base → w6.ownsRow base e 1 v n l → wr.ownsRow base e 1 v n l := fun {base e v n l} hb ho => own_same ho fun g eg => hfar.2 g (Nat.le_trans hb (ho.lt g eg).1)
      obtain ⟨z3, z4, z5, z6⟩ := HSZ.out
      have c1 := str_of (cap := cx) (Rd.of_own (hfb (Nat.le_refl _) (own_below HOX.out (HB4.out.trans ((HB5.out.trans (HB6.out.mono z5)).mono z4)) (Nat.le_refl _)))) rfl
      have c2' := str_of (cap := cy) (Rd.of_own (hfb z3 (own_below HOY.out (HB5.out.trans (HB6.out.mono z5)) (Nat.le_refl _)))) rfl
      have aM := (HAM.out.below HB6.out).keep (w' := wr) (by rw [hfar.1]; exact Nat.le_refl _) (fun g hg _ => hfar.2 g (by omega))
      have aN := HAN.out.keep (w' := wr) (by rw [hfar.1]; exact Nat.le_refl _) (fun g hg _ => hfar.2 g (by omega))
      obtain ⟨Bm, dm, vm, Bs, ds, em, es, -, -, rm, rs, bm⟩ := aM.outF
      obtain ⟨Bn, dn, vn, Bt, dt, en, et, -, -, rn, rt, bn⟩ := aN.outF
      cases em
      cases es
      cases en
      cases et
      have c3 := str_of (n := fs.length) (cap := cm) rm (by rw [List.length_map])
      have c4 := str_of (n := fs.length) (cap := cn) rn (by rw [List.length_map])
      have hby := (al_by HB.out).2
      rw [← HFS.out] at hby
      have hfl : fs.length ≤ maxLen := by
        have h1 := (al_len HB.out)
        rw [← HFS.out, HN.out] at h1
        unfold maxLen; omega
      have HSA := Lib.hid (Same_any As At fs.length fs.length cs ct _ _ vm vn (fs.map (·.2)) (fs.map (·.2)) wr rs rt bm bn (by rw [List.length_map]) (by rw [List.length_map]) hfl hby hby)
      rw [decide_eq_true (rfl : fs.map (·.2) = fs.map (·.2))] at HSA
      have HE := Lib.hid (HW6.out.trans (hbel.mono HS1.out))
      clear hfar hbel hfb aM aN rm rs bm rn rt bn hby HK hown
      go_wp2_with (go_at_call 17; refine HSA.out.mono ?_; rintro e w' ⟨rfl, nd, rfl⟩)
      go_ret
      exact ⟨rfl, below_drawn HE.out nd⟩
end Go.Proofs.YtgeaedoccdemeaaDoor
