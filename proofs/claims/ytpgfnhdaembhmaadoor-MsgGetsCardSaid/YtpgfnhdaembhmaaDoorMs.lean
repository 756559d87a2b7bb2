/- A message out of a kind and a body, and out of a frame: the document's. -/
import Derived.Test.YtpgfnhdaembhmaaDoorMv
import Derived.Test.YtpgfnhdaembhmaaDoorMo
namespace Go.Proofs.YtpgfnhdaembhmaaDoor
open Go.RowKit Go.Shelf

/-- while a body is read: the result's box, the message's box -/
structure Rofs (w W : World) (b9 : Nat) (x : Mm.Ms) (l : Lo) : Prop where
  m8 : W.rangeAt b9 0 (mvs x l)
  t8 : W.there b9 0 26
  t4 : W.there w.heap.size 0 26
  ms : MsAt W W.heap.size x l
  fr : LoFr (b9 + 1) l
  h1 : w.heap.size < b9
  h3 : b9 < W.heap.size
  bel : Below w.heap.size w W
section
variable {w W W2 : World} {b9 : Nat} {x x' : Mm.Ms} {l l' : Lo}
theorem Rofs.below (h : Rofs w W b9 x l) (hb : Below W.heap.size W W2) : Rofs w W2 b9 x l := by
  have h1 := h.h1
  have h3 := h.h3
  exact ⟨range_below h.m8 hb h3, there_below h.t8 hb h3, there_below h.t4 hb (by omega), (h.ms.below hb (Nat.le_refl _)).more hb.size, h.fr, h1, Nat.lt_of_lt_of_le h3 hb.size, h.bel.trans (hb.mono h.bel.size)⟩
theorem Rofs.set (h : Rofs w W b9 x l) {p : Nat} {xs ys zs cs : List Value} (e : mvs x l = xs ++ (ys ++ zs)) (e' : mvs x' l' = xs ++ (cs ++ zs)) (hp : xs.length = p) (hl : ys.length = cs.length)
    (hms : MsAt W W.heap.size x' l') (hfr : LoFr (b9 + 1) l') : Rofs w (W.setCells b9 p cs) b9 x' l' := by
  have h1 := h.h1
  have h3 := h.h3
  have hg := grown_set b9 cs p W
  have h26 := mvs_len x l
  rw [e, List.length_append, List.length_append] at h26
  refine ⟨?_, World.there_setCells h.t8 b9 p cs, there_grown h.t4 hg (by omega) (by omega), (hms.other hfr hg (by omega) (Nat.le_refl _)).more hg.size, hfr, h1, Nat.lt_of_lt_of_le h3 hg.size, below_grown h.bel hg (by omega) h.bel.size⟩
  rw [e']
  have hm := h.m8
  rw [e] at hm
  exact range_set hm (by omega) hl (there_part h.t8 (Nat.zero_le _) (by omega))
theorem Rofs.plan (h : Rofs w W b9 x l) (p : Pm.Pl) (A1 : Option Addr) (n1 c1 : Nat) (A2 : Option Addr) (n2 c2 : Nat) (hp : PlAt W W.heap.size p A1 n1 c1 A2 n2 c2) (f1 : Fr (b9 + 1) A1) (f2 : Fr (b9 + 1) A2) :
    Rofs w (W.setCells b9 11 (pvs p A1 n1 c1 A2 n2 c2)) b9 { x with plan := p } { l with A1 := A1, n1 := n1, c1 := c1, A2 := A2, n2 := n2, c2 := c2 } := by
  have m := h.ms
  have o := m.ok
  exact h.set (xs := [.int .i64 x.k, .int .i64 x.f, .int .i64 x.t, .int .i64 x.e, .int .i64 x.b, .int .i64 x.a, .int .i64 x.n, .int .i64 x.ti, .int .u64 x.up, .int .i64 x.co, .bool x.has]) (ys := pvs x.plan l.A1 l.n1 l.c1 l.A2 l.n2 l.c2)
    (zs := [.slice l.A3 l.n3 l.c3, .slice l.A4 l.n4 l.c4, .slice l.A5 l.n5 l.c5]) rfl rfl rfl rfl
    ⟨⟨o.k, o.f, o.t, o.e, o.b, o.a, o.n, o.ti, o.up, o.co, hp.ok, o.id, o.se, o.pa⟩, hp, m.r3, m.l3, m.c3, m.m3, m.r4, m.l4, m.c4, m.m4, m.r5, m.l5, m.c5, m.m5⟩ ⟨f1, f2, h.fr.f3, h.fr.f4, h.fr.f5⟩
theorem Rofs.id (h : Rofs w W b9 x l) (v : List Int) (D : Option Addr) (m c : Nat) (hr : Rd W W.heap.size D (i64s v)) (hl : v.length = m) (hc : m ≤ c) (hm : c ≤ maxLen) (hf : Wm.Fits v) (f : Fr (b9 + 1) D) :
    Rofs w (W.setCell ⟨b9, 23, none⟩ (.slice D m c)) b9 { x with id := v } { l with A3 := D, n3 := m, c3 := c } := by
  have q := h.ms
  have o := q.ok
  exact h.set (p := 23) (xs := (mvs x l).take 23) (ys := [.slice l.A3 l.n3 l.c3]) (cs := [.slice D m c])
    (zs := [.slice l.A4 l.n4 l.c4, .slice l.A5 l.n5 l.c5]) rfl rfl rfl rfl
    ⟨⟨o.k, o.f, o.t, o.e, o.b, o.a, o.n, o.ti, o.up, o.co, o.plan, hf, o.se, o.pa⟩, q.pl, hr, hl, hc, hm, q.r4, q.l4, q.c4, q.m4, q.r5, q.l5, q.c5, q.m5⟩ ⟨h.fr.f1, h.fr.f2, f, h.fr.f4, h.fr.f5⟩
theorem Rofs.se (h : Rofs w W b9 x l) (v : List Int) (D : Option Addr) (m c : Nat) (hr : Rd W W.heap.size D (u8s v)) (hl : v.length = m) (hc : m ≤ c) (hm : c ≤ maxLen) (hf : Fm.By v) (f : Fr (b9 + 1) D) :
    Rofs w (W.setCell ⟨b9, 24, none⟩ (.slice D m c)) b9 { x with se := v } { l with A4 := D, n4 := m, c4 := c } := by
  have q := h.ms
  have o := q.ok
  exact h.set (p := 24) (xs := (mvs x l).take 24) (ys := [.slice l.A4 l.n4 l.c4]) (cs := [.slice D m c])
    (zs := [.slice l.A5 l.n5 l.c5]) rfl rfl rfl rfl
    ⟨⟨o.k, o.f, o.t, o.e, o.b, o.a, o.n, o.ti, o.up, o.co, o.plan, o.id, hf, o.pa⟩, q.pl, q.r3, q.l3, q.c3, q.m3, hr, hl, hc, hm, q.r5, q.l5, q.c5, q.m5⟩ ⟨h.fr.f1, h.fr.f2, h.fr.f3, f, h.fr.f5⟩
theorem Rofs.pa (h : Rofs w W b9 x l) (v : List Int) (D : Option Addr) (m c : Nat) (hr : Rd W W.heap.size D (u8s v)) (hl : v.length = m) (hc : m ≤ c) (hm : c ≤ maxLen) (hf : Fm.By v) (f : Fr (b9 + 1) D) :
    Rofs w (W.setCell ⟨b9, 25, none⟩ (.slice D m c)) b9 { x with pa := v } { l with A5 := D, n5 := m, c5 := c } := by
  have q := h.ms
  have o := q.ok
  exact h.set (p := 25) (xs := (mvs x l).take 25) (ys := [.slice l.A5 l.n5 l.c5]) (cs := [.slice D m c])
    (zs := []) rfl rfl rfl rfl
    ⟨⟨o.k, o.f, o.t, o.e, o.b, o.a, o.n, o.ti, o.up, o.co, o.plan, o.id, o.se, hf⟩, q.pl, q.r3, q.l3, q.c3, q.m3, q.r4, q.l4, q.c4, q.m4, hr, hl, hc, hm⟩ ⟨h.fr.f1, h.fr.f2, h.fr.f3, h.fr.f4, f⟩
theorem Rofs.cell (h : Rofs w W b9 x l) (j : Nat) {v : Value} (hv : (mvs x l)[j]? = some v) : W.cell? ⟨b9, j, none⟩ = some v ∧ W.frozen? ⟨b9, j, none⟩ = false := by
  have hj : j < 26 := by
    have := (List.getElem?_eq_some_iff.1 hv).1
    rwa [mvs_len] at this
  have := (h.t8 j hj).2
  rw [Nat.zero_add] at this
  exact ⟨range_at h.m8 j hv, this⟩
/-- a row made since the message's box lies elsewhere -/
theorem rd_set {A : Option Addr} {vs : List Value} (h : Rd W W.heap.size A vs) (f : Fr (b9 + 1) A) (p : Nat) (v : Value) : Rd (W.setCell ⟨b9, p, none⟩ v) (W.setCell ⟨b9, p, none⟩ v).heap.size A vs :=
  (h.other f (grown_set1 b9 p v W) (Nat.lt_succ_self _) (Nat.le_refl _)).more (grown_set1 b9 p v W).size
end

/-- the message of ten numbers, as it is written down -/
def tenK (k a0 a1 a2 a3 a4 a5 a6 a7 a8 a9 : Int) : Mm.Ms := ⟨k, a0, a1, a2, a3, a4, a5, a6, a7 % 18446744073709551616, a8, a9 == 1, Pm.zero, [], [], []⟩
theorem tenK_eq {k a0 a1 a2 a3 a4 a5 a6 a7 a8 a9 : Int} (hf : Wm.Fits [a0, a1, a2, a3, a4, a5, a6, a7, a8, a9]) : tenK k a0 a1 a2 a3 a4 a5 a6 a7 a8 a9 = Mm.msOf k [a0, a1, a2, a3, a4, a5, a6, a7, a8, a9] := by
  have e9 : (a9 == 1) = decide (a9 = 1) := by rw [Bool.eq_iff_iff, beq_iff_eq, decide_eq_true_iff]
  unfold tenK
  have h7 : a7 % 18446744073709551616 = Pm.us a7 := uw (Pm.fit_at hf 7)
  rw [h7, e9]
  rfl

set_option maxRecDepth 100000 in
set_option maxHeartbeats 16000000 in
theorem ROf_any (k : Int) (A : Option Addr) (n cap B : Nat) (xs : List Int) (w : World) (hk : 0 ≤ k ∧ k ≤ 255) (hx : Rd w B A (u8s xs)) (hn : xs.length = n) (hnc : n ≤ cap) (hcap : cap ≤ maxLen) (hB : B ≤ w.heap.size) (hb : Fm.By xs) :
    Calls Tryd.prog 19 #[.int .u8 k, .slice A n cap] w fun e w' => ∃ l, e = .returned (.tuple #[mv (Mm.of k xs).1 l, .int .i64 (Mm.of k xs).2]) ∧ MsAt w' w'.heap.size (Mm.of k xs).1 l ∧ LoFr w.heap.size l ∧ Below w.heap.size w w' := by
  have hk64 : IntKind.i64.wrap k = k := by simp [IntKind.wrap, IntKind.signed, IntKind.bits]; omega
  have HK := Lib.hid hk
  have hz1 : (w.alloc (.cells (mvs Mm.zero Lo.zero).toArray 30)).heap.size = w.heap.size + 1 := World.size_alloc ..
  have hb1 : Below w.heap.size w (w.alloc (.cells (mvs Mm.zero Lo.zero).toArray 30)) := (Below.refl _ w).alloc (Nat.le_refl _) _
  have ht4 : (w.alloc (.cells (mvs Mm.zero Lo.zero).toArray 30)).there w.heap.size 0 26 := there_new w (mvs Mm.zero Lo.zero) 30
  have HI0 := Lib.hid (RInts_any A n cap B xs 0 _ (hx.below (hb1.mono hB)) hn hnc hcap (by omega) hb (by omega) (by omega))
  have H1 := Lib.hid (And.intro hz1 (And.intro hb1 ht4))
  have HX := Lib.hid hx
  have HBY := Lib.hid hb
  have HNL := Lib.hid hn
  have HF0 := Lib.hid (Mm.rints_fits (n := 0) hb)
  have HPL := Lib.hid (Mm.pl_ints (s := (0, 0)) hb (fun _ => ⟨0, rfl, Nat.zero_le _⟩))
  rw [Mm.thenR_ok (s := (0, 0)) rfl] at HPL
  have HP2 := Lib.hid (Mm.pl_s2 hb)
  have HP3 := Lib.hid (Mm.pl_s3 hb)
  have HP4 := Lib.hid (Mm.pl_s4 hb)
  have HF3 : Hid (Wm.Fits (Mm.s3 xs).1) := Mm.fits_ints hb (Mm.pl_s2 hb)
  have HF4 : Hid (Fm.By (Mm.s4 xs).1) := Mm.by_text hb (Mm.pl_s3 hb)
  have HF5 : Hid (Fm.By (Mm.s5 xs).1) := Mm.by_text hb (Mm.pl_s4 hb)
  have HS3 : Hid (Mm.s3 xs = Mm.thenR [] (Mm.s2 xs).2 (Wm.rints xs)) := rfl
  have HS4 : Hid (Mm.s4 xs = Mm.thenR [] (Mm.s3 xs).2 (Wm.rtext xs)) := rfl
  have HS5 : Hid (Mm.s5 xs = Mm.thenR [] (Mm.s4 xs).2 (Wm.rtext xs)) := rfl
  have HB2 : Hid ((Mm.s2 xs).2.2 ≠ 0 → Mm.of k xs = (Mm.zero, 51)) := Mm.bad2
  have HB3 : Hid ((Mm.s3 xs).2.2 ≠ 0 → Mm.of k xs = (Mm.zero, 51)) := Mm.bad3
  have HB4 : Hid ((Mm.s4 xs).2.2 ≠ 0 → Mm.of k xs = (Mm.zero, 51)) := Mm.bad4
  have HB5 : Hid ((Mm.s5 xs).2.2 ≠ 0 → Mm.of k xs = (Mm.zero, 51)) := Mm.bad5
  have HBL : Hid ((Mm.s5 xs).2.1 ≠ (xs.length : Int) → Mm.of k xs = (Mm.zero, 51)) := Mm.badL
  have HBR : Hid ((Mm.got k xs).right = false → Mm.of k xs = (Mm.zero, 51)) := Mm.badR
  have HBE : Hid ((Wm.rints xs 0).2.2 ≠ 0 → Mm.of k xs = (Mm.zero, 51)) := Mm.badE
  have HBP : Hid ((Wm.rints xs 0).2.2 = 0 → ¬ Mm.Pn (Wm.rints xs 0).1 → Mm.of k xs = (Mm.zero, 51)) := fun h1 h2 => Mm.badP h1 HF0.out h2
  have HOK : Hid ((Wm.rints xs 0).2.2 = 0 → Mm.Pn (Wm.rints xs 0).1 → (Mm.s5 xs).2.2 = 0 → (Mm.s5 xs).2.1 = (xs.length : Int) → (Mm.got k xs).right = true → Mm.of k xs = (Mm.got k xs, 0)) := fun h1 h2 h3 h4 h5 => Mm.of_end h1 HF0.out h2 h3 h4 h5
  have HSY : Hid ((Wm.rints xs 0).2.2 = 0 → Mm.Pn (Wm.rints xs 0).1 → (Wm.rints xs 0).1.getD 9 0 = 1 → Mm.s2 xs = Mm.rP xs (Wm.rints xs 0).2.1) := Mm.s2_yes
  have HSN : Hid ((Wm.rints xs 0).2.2 = 0 → Mm.Pn (Wm.rints xs 0).1 → (Wm.rints xs 0).1.getD 9 0 ≠ 1 → Mm.s2 xs = (Pm.zero, (Wm.rints xs 0).2.1, 0)) := Mm.s2_not
  have HG : Hid ((Wm.rints xs 0).2.2 = 0 → Mm.Pn (Wm.rints xs 0).1 → Mm.got k xs = { Mm.msOf k (Wm.rints xs 0).1 with plan := (Mm.s2 xs).1, id := (Mm.s3 xs).1, se := (Mm.s4 xs).1, pa := (Mm.s5 xs).1 }) := fun h1 h2 => by
    show ({ Mm.msOf k (Mm.rN xs 0).1 with plan := (Mm.s2 xs).1, id := (Mm.s3 xs).1, se := (Mm.s4 xs).1, pa := (Mm.s5 xs).1 } : Mm.Ms) = _
    rw [Mm.rN_ok h1 h2.1]
  clear hx hb hn hb1 ht4 hz1 hk
  have HF0' : Hid (Wm.Fits (Wm.rints xs 0).1) := HF0.out
  clear HF0
  generalize Mm.of k xs = Y at *
  generalize Mm.got k xs = X at *
  generalize Mm.s5 xs = q5 at *
  generalize Mm.s4 xs = q4 at *
  generalize Mm.s3 xs = q3 at *
  generalize Mm.s2 xs = q2 at *
  generalize Wm.rints xs 0 = q0 at *
  obtain ⟨l0, p0, e0⟩ := q0
  dsimp only at *
  go_enter Tryd.func19, Tryd.ntmps19
  go_wp2_with (go_at_call 48; fail)
  refine HI0.out.mono ?_
  rintro e w2 ⟨v2, rfl, hown2, hb2⟩
  obtain ⟨z1, b1, t1⟩ := H1.out
  have hz2 : w.heap.size + 1 ≤ w2.heap.size := by have := hb2.size; rwa [z1] at this
  have hw2 := Lib.hid (b1.trans (hb2.mono (by omega)))
  have ht2 := Lib.hid (there_below t1 hb2 (by omega))
  rw [z1] at hown2
  obtain ⟨A2, c2, rfl, hcp2, hcm2, hrd2⟩ := own_view hown2
  have HOWN := Lib.hid hown2
  have HRD := Lib.hid hrd2
  clear hown2 hb2 z1 b1 t1 H1 HI0 hrd2
  by_cases he0 : e0 = 0
  case neg =>
    have HE := Lib.hid (HBE.out he0)
    have hq : (e0 != 0) = true := by rw [bne_iff_ne]; exact he0
    clear he0
    go_wp2_with (first | ((with_reducible refine wpList_gate ?_); refine wpList_build rfl 30 _ rfl #[] rfl (mvs Mm.zero Lo.zero).toArray zmsg_built ?_) | ((with_reducible refine wpList_gate ?_); refine wpList_store_mid rfl 30 _ _ rfl w.heap.size 0 (mvs Mm.zero Lo.zero).toArray rfl rfl ht2.out info_msg (mvs_one _ _) ?_))
    refine bodyPost_ret (results_ct rfl _ _ w.heap.size (mvs Mm.zero Lo.zero) _ rfl (World.rangeAt_setCells_same _ _ _ _ ht2.out) Tryd.underlying30 rfl info_msg) rfl ?_
    rw [HE.out]
    exact ⟨Lo.zero, rfl, MsAt.zero _ _, LoFr.zero _, below_grown hw2.out (grown_set w.heap.size _ 0 _) (Nat.le_refl _) (Below.size hw2.out)⟩
  subst he0
  have HPN := Lib.hid (plain_any A2 l0.length c2 w2.heap.size l0 w2 HRD.out rfl)
  by_cases hpn : Mm.Pn l0
  case neg =>
    have HE := Lib.hid (HBP.out rfl hpn)
    rw [Pm.ask_no hpn] at HPN
    clear hpn
    go_wp2_with (go_at_call 49; fail)
    refine HPN.out.mono ?_
    rintro e w2' ⟨rfl, rfl⟩
    go_wp2_with (first | ((with_reducible refine wpList_gate ?_); refine wpList_build rfl 30 _ rfl #[] rfl (mvs Mm.zero Lo.zero).toArray zmsg_built ?_) | ((with_reducible refine wpList_gate ?_); refine wpList_store_mid rfl 30 _ _ rfl w.heap.size 0 (mvs Mm.zero Lo.zero).toArray rfl rfl ht2.out info_msg (mvs_one _ _) ?_))
    refine bodyPost_ret (results_ct rfl _ _ w.heap.size (mvs Mm.zero Lo.zero) _ rfl (World.rangeAt_setCells_same _ _ _ _ ht2.out) Tryd.underlying30 rfl info_msg) rfl ?_
    rw [HE.out]
    exact ⟨Lo.zero, rfl, MsAt.zero _ _, LoFr.zero _, below_grown hw2.out (grown_set w.heap.size _ 0 _) (Nat.le_refl _) (Below.size hw2.out)⟩
  rw [Pm.ask_yes hpn] at HPN
  have HPP := Lib.hid hpn
  have hl10 := hpn.1
  rw [hl10] at HOWN HPN ⊢
  obtain ⟨g, c2', hc2', hge2, hgl2⟩ := HOWN.out.form (by omega)
  have hlt2 := HOWN.out.lt
  cases hc2'
  have hgw := (hlt2 g rfl).2
  obtain ⟨a0, a1, a2, a3, a4, a5, a6, a7, a8, a9, rfl⟩ : ∃ a0 a1 a2 a3 a4 a5 a6 a7 a8 a9, l0 = [a0, a1, a2, a3, a4, a5, a6, a7, a8, a9] := by
    match l0, hl10 with
    | [a0, a1, a2, a3, a4, a5, a6, a7, a8, a9], _ => exact ⟨a0, a1, a2, a3, a4, a5, a6, a7, a8, a9, rfl⟩
  have HFF : Hid (∀ (i : Nat) (v : Value), (i64s [a0, a1, a2, a3, a4, a5, a6, a7, a8, a9])[i]? = some v → ∀ (W : World), Below w2.heap.size w2 W → W.cell? ⟨g, i, none⟩ = some v) := fun i v hv W h => by
    have := range_at (range_of_own HOWN.out) i hv
    rw [h.cell (by show g < _; exact hgw)]
    exact this
  have HTE := Lib.hid (tenK_eq (k := k) HF0'.out)
  have HMP : Hid ((Mm.msOf k [a0, a1, a2, a3, a4, a5, a6, a7, a8, a9]).plan = Pm.zero) := rfl
  have HG' := Lib.hid (HG.out rfl HPP.out)
  have HOK' := Lib.hid (HOK.out rfl HPP.out)
  have HSY' := Lib.hid (HSY.out rfl HPP.out)
  have HSN' := Lib.hid (HSN.out rfl HPP.out)
  have HXO : Hid (tenK k a0 a1 a2 a3 a4 a5 a6 a7 a8 a9).Ok := by rw [HTE.out]; exact Mm.ok_msOf (Mm.k_fit HK.out) HF0'.out
  clear hl10 hpn hlt2 HBE HBP HG HOK HSY HSN HOWN HRD HPP
  go_wp2_with (go_at_call 49; fail)
  refine HPN.out.mono ?_
  rintro e w2' ⟨rfl, rfl⟩
  clear HPN
  go_wp2_with fail
  refine region_C (fun W => Below w2.heap.size w2 W) (by kernel_rfl) ?_
  have hC : Below w2.heap.size w2 w2.drew := (Below.refl _ _).drew
  refine anyC_take (i := 0) (v := ?v0_1) (a' := ?a0_1) rfl (by kernel_rfl) (by kernel_rfl) (by kernel_rfl) (fun _ _ _ h => h) hC ?w0_1 ?y0_1 ?f0_1 ?r0_1
  case w0_1 => kernel_rfl
  case y0_1 => (intro w hC; go_simp; try with_reducible rfl)
  case f0_1 => (go_simp; try with_reducible rfl)
  refine anyC_take (i := 1) (v := ?v1_2) (a' := ?a1_2) rfl (by kernel_rfl) (by kernel_rfl) (by kernel_rfl) (fun _ _ _ h => h) hC ?w1_2 ?y1_2 ?f1_2 ?r1_2
  case w1_2 => kernel_rfl
  case y1_2 => (intro w hC; go_simp; try with_reducible rfl)
  case f1_2 => (go_simp; try with_reducible rfl)
  refine anyC_take (i := 2) (v := ?v2_3) (a' := ?a2_3) rfl (by kernel_rfl) (by kernel_rfl) (by kernel_rfl) (fun _ _ _ h => h) hC ?w2_3 ?y2_3 ?f2_3 ?r2_3
  case w2_3 => kernel_rfl
  case y2_3 => (intro w hC; go_simp; try with_reducible rfl)
  case f2_3 => (go_simp; try with_reducible rfl)
  refine anyC_take (i := 5) (v := ?v5_4) (a' := ?a5_4) rfl (by kernel_rfl) (by kernel_rfl) (by kernel_rfl) (fun _ _ _ h => h) hC ?w5_4 ?y5_4 ?f5_4 ?r5_4
  case w5_4 => kernel_rfl
  case y5_4 => (intro w hC; go_simp; try with_reducible rfl)
  case f5_4 => (go_simp; try with_reducible rfl)
  refine anyC_take (i := 8) (v := ?v8_5) (a' := ?a8_5) rfl (by kernel_rfl) (by kernel_rfl) (by kernel_rfl) (fun _ _ _ h => h) hC ?w8_5 ?y8_5 ?f8_5 ?r8_5
  case w8_5 => kernel_rfl
  case y8_5 => (intro w hC; go_simp; try with_reducible rfl)
  case f8_5 => (go_simp; try with_reducible rfl)
  refine anyC_take (i := 11) (v := ?v11_6) (a' := ?a11_6) rfl (by kernel_rfl) (by kernel_rfl) (by kernel_rfl) (fun _ _ _ h => h) hC ?w11_6 ?y11_6 ?f11_6 ?r11_6
  case w11_6 => kernel_rfl
  case y11_6 => (intro w hC; go_simp; try with_reducible rfl)
  case f11_6 => (go_simp; try with_reducible rfl)
  refine anyC_take (i := 14) (v := ?v14_7) (a' := ?a14_7) rfl (by kernel_rfl) (by kernel_rfl) (by kernel_rfl) (fun _ _ _ h => h) hC ?w14_7 ?y14_7 ?f14_7 ?r14_7
  case w14_7 => kernel_rfl
  case y14_7 => (intro w hC; go_simp; try with_reducible rfl)
  case f14_7 => (go_simp; try with_reducible rfl)
  refine anyC_take (i := 17) (v := ?v17_8) (a' := ?a17_8) rfl (by kernel_rfl) (by kernel_rfl) (by kernel_rfl) (fun _ _ _ h => h) hC ?w17_8 ?y17_8 ?f17_8 ?r17_8
  case w17_8 => kernel_rfl
  case y17_8 => (intro w hC; go_simp; try with_reducible rfl)
  case f17_8 => (go_simp; try with_reducible rfl)
  refine anyC_take (i := 20) (v := ?v20_9) (a' := ?a20_9) rfl (by kernel_rfl) (by kernel_rfl) (by kernel_rfl) (fun _ _ _ h => h) hC ?w20_9 ?y20_9 ?f20_9 ?r20_9
  case w20_9 => kernel_rfl
  case y20_9 => (intro w hC; go_simp; try with_reducible rfl)
  case f20_9 => (go_simp; try with_reducible rfl)
  refine anyC_take (i := 23) (v := ?v23_10) (a' := ?a23_10) rfl (by kernel_rfl) (by kernel_rfl) (by kernel_rfl) (fun _ _ _ h => h) hC ?w23_10 ?y23_10 ?f23_10 ?r23_10
  case w23_10 => kernel_rfl
  case y23_10 => (intro w hC; go_simp; try with_reducible rfl)
  case f23_10 => (go_simp; try with_reducible rfl)
  refine anyC_take (i := 27) (v := ?v27_11) (a' := ?a27_11) rfl (by kernel_rfl) (by kernel_rfl) (by kernel_rfl) (fun _ _ _ h => h) hC ?w27_11 ?y27_11 ?f27_11 ?r27_11
  case w27_11 => kernel_rfl
  case y27_11 => (intro w hC; go_simp; try with_reducible rfl)
  case f27_11 => (go_simp; try with_reducible rfl)
  refine anyC_take (i := 30) (v := ?v30_12) (a' := ?a30_12) rfl (by kernel_rfl) (by kernel_rfl) (by kernel_rfl) (fun _ _ _ h => h) hC ?w30_12 ?y30_12 ?f30_12 ?r30_12
  case w30_12 => kernel_rfl
  case y30_12 => (intro w hC; go_simp; try with_reducible rfl)
  case f30_12 => (go_simp; try with_reducible rfl)
  refine anyC_take (i := 3) (v := ?v3_13) (a' := ?a3_13) rfl (by kernel_rfl) (by kernel_rfl) (by kernel_rfl) (fun _ _ _ h => h) hC ?w3_13 ?y3_13 ?f3_13 ?r3_13
  case w3_13 => kernel_rfl
  case y3_13 => (intro w hC; have h4 := HFF.out 0 _ rfl w hC; go_simp; try with_reducible rfl)
  case f3_13 => (go_simp; try with_reducible rfl)
  refine anyC_take (i := 4) (v := ?v4_14) (a' := ?a4_14) rfl (by kernel_rfl) (by kernel_rfl) (by kernel_rfl) (fun _ _ _ h => h) hC ?w4_14 ?y4_14 ?f4_14 ?r4_14
  case w4_14 => kernel_rfl
  case y4_14 => (intro w hC; have h4 := HFF.out 0 _ rfl w hC; go_simp; try with_reducible rfl)
  case f4_14 => (go_simp; try with_reducible rfl)
  refine anyC_take (i := 6) (v := ?v6_15) (a' := ?a6_15) rfl (by kernel_rfl) (by kernel_rfl) (by kernel_rfl) (fun _ _ _ h => h) hC ?w6_15 ?y6_15 ?f6_15 ?r6_15
  case w6_15 => kernel_rfl
  case y6_15 => (intro w hC; go_simp; try with_reducible rfl)
  case f6_15 => (go_simp; try with_reducible rfl)
  refine anyC_take (i := 9) (v := ?v9_16) (a' := ?a9_16) rfl (by kernel_rfl) (by kernel_rfl) (by kernel_rfl) (fun _ _ _ h => h) hC ?w9_16 ?y9_16 ?f9_16 ?r9_16
  case w9_16 => kernel_rfl
  case y9_16 => (intro w hC; go_simp; try with_reducible rfl)
  case f9_16 => (go_simp; try with_reducible rfl)
  refine anyC_take (i := 12) (v := ?v12_17) (a' := ?a12_17) rfl (by kernel_rfl) (by kernel_rfl) (by kernel_rfl) (fun _ _ _ h => h) hC ?w12_17 ?y12_17 ?f12_17 ?r12_17
  case w12_17 => kernel_rfl
  case y12_17 => (intro w hC; go_simp; try with_reducible rfl)
  case f12_17 => (go_simp; try with_reducible rfl)
  refine anyC_take (i := 15) (v := ?v15_18) (a' := ?a15_18) rfl (by kernel_rfl) (by kernel_rfl) (by kernel_rfl) (fun _ _ _ h => h) hC ?w15_18 ?y15_18 ?f15_18 ?r15_18
  case w15_18 => kernel_rfl
  case y15_18 => (intro w hC; go_simp; try with_reducible rfl)
  case f15_18 => (go_simp; try with_reducible rfl)
  refine anyC_take (i := 18) (v := ?v18_19) (a' := ?a18_19) rfl (by kernel_rfl) (by kernel_rfl) (by kernel_rfl) (fun _ _ _ h => h) hC ?w18_19 ?y18_19 ?f18_19 ?r18_19
  case w18_19 => kernel_rfl
  case y18_19 => (intro w hC; go_simp; try with_reducible rfl)
  case f18_19 => (go_simp; try with_reducible rfl)
  refine anyC_take (i := 21) (v := ?v21_20) (a' := ?a21_20) rfl (by kernel_rfl) (by kernel_rfl) (by kernel_rfl) (fun _ _ _ h => h) hC ?w21_20 ?y21_20 ?f21_20 ?r21_20
  case w21_20 => kernel_rfl
  case y21_20 => (intro w hC; go_simp; try with_reducible rfl)
  case f21_20 => (go_simp; try with_reducible rfl)
  refine anyC_take (i := 24) (v := ?v24_21) (a' := ?a24_21) rfl (by kernel_rfl) (by kernel_rfl) (by kernel_rfl) (fun _ _ _ h => h) hC ?w24_21 ?y24_21 ?f24_21 ?r24_21
  case w24_21 => kernel_rfl
  case y24_21 => (intro w hC; go_simp; try with_reducible rfl)
  case f24_21 => (go_simp; try with_reducible rfl)
  refine anyC_take (i := 28) (v := ?v28_22) (a' := ?a28_22) rfl (by kernel_rfl) (by kernel_rfl) (by kernel_rfl) (fun _ _ _ h => h) hC ?w28_22 ?y28_22 ?f28_22 ?r28_22
  case w28_22 => kernel_rfl
  case y28_22 => (intro w hC; go_simp; try with_reducible rfl)
  case f28_22 => (go_simp; try with_reducible rfl)
  refine anyC_take (i := 31) (v := ?v31_23) (a' := ?a31_23) rfl (by kernel_rfl) (by kernel_rfl) (by kernel_rfl) (fun _ _ _ h => h) hC ?w31_23 ?y31_23 ?f31_23 ?r31_23
  case w31_23 => kernel_rfl
  case y31_23 => (intro w hC; go_simp; try with_reducible rfl)
  case f31_23 => (go_simp; try with_reducible rfl)
  refine anyC_take (i := 7) (v := ?v7_24) (a' := ?a7_24) rfl (by kernel_rfl) (by kernel_rfl) (by kernel_rfl) (fun _ _ _ h => h) hC ?w7_24 ?y7_24 ?f7_24 ?r7_24
  case w7_24 => kernel_rfl
  case y7_24 => (intro w hC; have h4 := HFF.out 1 _ rfl w hC; go_simp; try with_reducible rfl)
  case f7_24 => (go_simp; try with_reducible rfl)
  refine anyC_take (i := 10) (v := ?v10_25) (a' := ?a10_25) rfl (by kernel_rfl) (by kernel_rfl) (by kernel_rfl) (fun _ _ _ h => h) hC ?w10_25 ?y10_25 ?f10_25 ?r10_25
  case w10_25 => kernel_rfl
  case y10_25 => (intro w hC; have h4 := HFF.out 2 _ rfl w hC; go_simp; try with_reducible rfl)
  case f10_25 => (go_simp; try with_reducible rfl)
  refine anyC_take (i := 13) (v := ?v13_26) (a' := ?a13_26) rfl (by kernel_rfl) (by kernel_rfl) (by kernel_rfl) (fun _ _ _ h => h) hC ?w13_26 ?y13_26 ?f13_26 ?r13_26
  case w13_26 => kernel_rfl
  case y13_26 => (intro w hC; have h4 := HFF.out 3 _ rfl w hC; go_simp; try with_reducible rfl)
  case f13_26 => (go_simp; try with_reducible rfl)
  refine anyC_take (i := 16) (v := ?v16_27) (a' := ?a16_27) rfl (by kernel_rfl) (by kernel_rfl) (by kernel_rfl) (fun _ _ _ h => h) hC ?w16_27 ?y16_27 ?f16_27 ?r16_27
  case w16_27 => kernel_rfl
  case y16_27 => (intro w hC; have h4 := HFF.out 4 _ rfl w hC; go_simp; try with_reducible rfl)
  case f16_27 => (go_simp; try with_reducible rfl)
  refine anyC_take (i := 19) (v := ?v19_28) (a' := ?a19_28) rfl (by kernel_rfl) (by kernel_rfl) (by kernel_rfl) (fun _ _ _ h => h) hC ?w19_28 ?y19_28 ?f19_28 ?r19_28
  case w19_28 => kernel_rfl
  case y19_28 => (intro w hC; have h4 := HFF.out 5 _ rfl w hC; go_simp; try with_reducible rfl)
  case f19_28 => (go_simp; try with_reducible rfl)
  refine anyC_take (i := 22) (v := ?v22_29) (a' := ?a22_29) rfl (by kernel_rfl) (by kernel_rfl) (by kernel_rfl) (fun _ _ _ h => h) hC ?w22_29 ?y22_29 ?f22_29 ?r22_29
  case w22_29 => kernel_rfl
  case y22_29 => (intro w hC; have h4 := HFF.out 6 _ rfl w hC; go_simp; try with_reducible rfl)
  case f22_29 => (go_simp; try with_reducible rfl)
  refine anyC_take (i := 25) (v := ?v25_30) (a' := ?a25_30) rfl (by kernel_rfl) (by kernel_rfl) (by kernel_rfl) (fun _ _ _ h => h) hC ?w25_30 ?y25_30 ?f25_30 ?r25_30
  case w25_30 => kernel_rfl
  case y25_30 => (intro w hC; have h4 := HFF.out 7 _ rfl w hC; go_simp; try with_reducible rfl)
  case f25_30 => (go_simp; try with_reducible rfl)
  refine anyC_take (i := 29) (v := ?v29_31) (a' := ?a29_31) rfl (by kernel_rfl) (by kernel_rfl) (by kernel_rfl) (fun _ _ _ h => h) hC ?w29_31 ?y29_31 ?f29_31 ?r29_31
  case w29_31 => kernel_rfl
  case y29_31 => (intro w hC; have h4 := HFF.out 8 _ rfl w hC; go_simp; try with_reducible rfl)
  case f29_31 => (go_simp; try with_reducible rfl)
  refine anyC_take (i := 32) (v := ?v32_32) (a' := ?a32_32) rfl (by kernel_rfl) (by kernel_rfl) (by kernel_rfl) (fun _ _ _ h => h) hC ?w32_32 ?y32_32 ?f32_32 ?r32_32
  case w32_32 => kernel_rfl
  case y32_32 => (intro w hC; have h4 := HFF.out 9 _ rfl w hC; go_simp; try with_reducible rfl)
  case f32_32 => (go_simp; try with_reducible rfl)
  refine anyC_take (i := 26) (v := ?v26_33) (a' := ?a26_33) rfl (by kernel_rfl) (by kernel_rfl) (by kernel_rfl) (fun _ _ _ h => h) hC ?w26_33 ?y26_33 ?f26_33 ?r26_33
  case w26_33 => kernel_rfl
  case y26_33 => (intro w hC; go_simp; try with_reducible rfl)
  case f26_33 => (go_simp; try with_reducible rfl)
  refine anyC_take (i := 33) (v := ?v33_34) (a' := ?a33_34) rfl (by kernel_rfl) (by kernel_rfl) (by kernel_rfl) (fun _ _ _ h => h) hC ?w33_34 ?y33_34 ?f33_34 ?r33_34
  case w33_34 => kernel_rfl
  case y33_34 => (intro w hC; go_simp; try with_reducible rfl)
  case f33_34 => (go_simp; try with_reducible rfl)
  refine anyC_take (i := 34) (v := ?v34_35) (a' := ?a34_35) rfl (by kernel_rfl) (by kernel_rfl) (by kernel_rfl) (fun _ _ _ h => h) hC ?w34_35 ?y34_35 ?f34_35 ?r34_35
  case w34_35 => kernel_rfl
  case y34_35 => (intro W hW; exact by refine exec_build 30 #[(0, .tmp 34), (1, .tmp 37), (2, .tmp 40), (3, .tmp 43), (4, .tmp 46), (5, .tmp 49), (6, .tmp 52), (7, .tmp 55), (8, .tmp 59), (9, .tmp 62), (10, .tmp 66)] ?_ #[(0, .int .i64 k), (1, .int .i64 a0), (2, .int .i64 a1), (3, .int .i64 a2), (4, .int .i64 a3), (5, .int .i64 a4), (6, .int .i64 a5), (7, .int .i64 a6), (8, .int .u64 (a7 % 18446744073709551616)), (9, .int .i64 a8), (10, .bool (a9 == 1))] (by kernel_rfl) (mvs (tenK k a0 a1 a2 a3 a4 a5 a6 a7 a8 a9) Lo.zero).toArray (by kernel_rfl) <;> rfl)
  case f34_35 => (go_simp; try with_reducible rfl)
  refine anyC_one (i := 35) rfl (by kernel_rfl) (by kernel_rfl) (fun K hK => ?_)
  go_simp
  have hC35 : Below w2.heap.size w2 (w2.alloc (.cells (mvs Mm.zero Lo.zero).toArray 30)).drew := ((Below.refl _ _).alloc (Nat.le_refl _) _).drew
  refine hK _ _ ⟨hC35, ?_⟩
  clear hK K
  refine anyC_one (i := 36) rfl (by kernel_rfl) (by kernel_rfl) (fun K hK => ?_)
  refine op_store_drew 30 (.tmp 9) (.tmp 67) rfl _ (mvs (tenK k a0 a1 a2 a3 a4 a5 a6 a7 a8 a9) Lo.zero).toArray w2.heap.size rfl rfl rfl info_msg rfl (mvs_one _ _) ?_
  have hC36 : Below w2.heap.size w2 (w2.alloc (.cells (mvs (tenK k a0 a1 a2 a3 a4 a5 a6 a7 a8 a9) Lo.zero).toArray 30)).drew := ((Below.refl _ _).alloc (Nat.le_refl _) _).drew
  refine hK _ _ ⟨hC36, ?_⟩
  clear hK K hC35 hC
  go_simp
  refine anyC_done (by kernel_rfl) ?_
  have h5 : Rofs w (w2.alloc (.cells (mvs (tenK k a0 a1 a2 a3 a4 a5 a6 a7 a8 a9) Lo.zero).toArray 30)).drew w2.heap.size (tenK k a0 a1 a2 a3 a4 a5 a6 a7 a8 a9) Lo.zero := by
    have hz : (w2.alloc (.cells (mvs (tenK k a0 a1 a2 a3 a4 a5 a6 a7 a8 a9) Lo.zero).toArray 30)).heap.size = w2.heap.size + 1 := World.size_alloc ..
    refine ⟨range_new w2 (mvs (tenK k a0 a1 a2 a3 a4 a5 a6 a7 a8 a9) Lo.zero) 30, ?_, there_below ht2.out hC36 (by omega), ?_, LoFr.zero _, by omega, ?_, hw2.out.trans (hC36.mono (by omega))⟩
    · rw [World.there_drew]; exact there_new w2 (mvs (tenK k a0 a1 a2 a3 a4 a5 a6 a7 a8 a9) Lo.zero) 30
    · exact ⟨HXO.out, PlAt.zero _ _, Rd.nil _ _ _, rfl, Nat.le_refl _, Nat.zero_le _, Rd.nil _ _ _, rfl, Nat.le_refl _, Nat.zero_le _, Rd.nil _ _ _, rfl, Nat.le_refl _, Nat.zero_le _⟩
    · show _ < (w2.alloc _).heap.size
      rw [hz]; exact Nat.lt_succ_self _
  obtain ⟨k10, -⟩ := h5.cell 10 rfl
  have k10' : (w2.alloc (.cells (mvs (tenK k a0 a1 a2 a3 a4 a5 a6 a7 a8 a9) Lo.zero).toArray 30)).drew.cell? ⟨w2.heap.size, 10, none⟩ = some (.bool (a9 == 1)) := k10
  clear k10
  generalize World.drew (World.alloc w2 _) = w5 at *
  rw [HTE.out] at h5
  generalize Mm.msOf k [a0, a1, a2, a3, a4, a5, a6, a7, a8, a9] = M0 at *
  have H5 := Lib.hid h5
  clear h5 hC36 HTE HXO HFF ht2 hw2 HF0' hge2 hgl2 hgw hz2
  have way : a9 = 1 ∨ a9 ≠ 1 := by omega
  rcases way with h9 | h9
  case' inl =>
    have HQ := Lib.hid (HSY'.out h9)
    rw [show (a9 == 1) = true from by rw [h9]; rfl] at k10'
    clear h9 HSN' HSY'
    have hpb := HPL.out.bounds HNL.out hnc hcap rfl
    have HT1 := Lib.hid (RText_any A n cap B xs p0 w5 (HX.out.below (H5.out.bel.mono hB)) HNL.out hnc hcap (Nat.le_trans hB H5.out.bel.size) HBY.out hpb.1 hpb.2)
    have hb6 := Mm.by_text (s := (p0, 0)) HBY.out HPL.out
    rw [Mm.thenR_ok (s := (p0, 0)) rfl] at hb6
    have HB6 := Lib.hid hb6
    have HR1 : Hid ((Wm.rtext xs p0).2.2 ≠ 0 → q2.2.2 ≠ 0) := fun h => by rw [HQ.out, Mm.rP_err h]; exact h
    have HR2 : Hid ((Wm.rtext xs p0).2.2 = 0 → (Pm.get (Wm.rtext xs p0).1).2 ≠ 0 → q2.2.2 ≠ 0) := fun h h2 => by rw [HQ.out, Mm.rP_no h h2]; exact h2
    have HR3 : Hid ((Wm.rtext xs p0).2.2 = 0 → (Pm.get (Wm.rtext xs p0).1).2 = 0 → q2 = ((Pm.get (Wm.rtext xs p0).1).1, (Wm.rtext xs p0).2.1, 0)) := fun h h2 => by rw [HQ.out, Mm.rP_ok h h2]
    clear hpb hb6 HPL HQ
    generalize Wm.rtext xs p0 = q6 at *
    obtain ⟨t6, n6, e6⟩ := q6
    dsimp only at *
    go_wp2_with (go_at_call 50; fail)
    refine HT1.out.mono ?_
    rintro e w6 ⟨v6, rfl, hown6, hb6⟩
    obtain ⟨A6, c6, rfl, hc6, hm6, hrd6⟩ := own_view hown6
    have H6 := Lib.hid (H5.out.below hb6)
    have HGP := Lib.hid (RGet_all A6 t6.length c6 w6.heap.size t6 w6 hrd6 rfl hc6 hm6 (Nat.le_refl _) HB6.out)
    clear hown6 hb6 hrd6 HT1 H5 k10'
    go_wp2_with (go_at_call 51; fail)
    refine HGP.out.mono ?_
    rintro e w7 ⟨A1, n1, c1, A2', n2', c2', rfl, hpl, hf1, hf2, hb7⟩
    generalize Pm.get t6 = P at *
    obtain ⟨P1, P2⟩ := P
    dsimp only at *
    have h7 := H6.out.below hb7
    have hb8 : Below w7.heap.size w7 (w7.alloc (.cells (pvs P1 A1 n1 c1 A2' n2' c2').toArray 27)) := (Below.refl _ _).alloc (Nat.le_refl _) _
    have H8 := Lib.hid (h7.below hb8)
    have HPL8 := Lib.hid ((hpl.below hb8 (Nat.le_refl _)).more hb8.size)
    have HF1 := Lib.hid (hf1.mono H6.out.h3)
    have HF2 := Lib.hid (hf2.mono H6.out.h3)
    have HR13 := Lib.hid (range_new w7 (pvs P1 A1 n1 c1 A2' n2' c2') 27)
    have ho13 := Lib.hid (pvs_one P1 A1 n1 c1 A2' n2' c2')
    have hi13 : Hid ((Tryd.prog.info? 27).map (·.size) = some (pvs P1 A1 n1 c1 A2' n2' c2').length) := info_plan
    have hj13 : Hid ((Tryd.prog.info? 27).map (·.size) = some (pvs P1 A1 n1 c1 A2' n2' c2').toArray.size) := info_plan
    have hs13 : Hid (12 = (pvs P1 A1 n1 c1 A2' n2' c2').toArray.size) := rfl
    have HT8 : Hid ((w7.alloc (.cells (pvs P1 A1 n1 c1 A2' n2' c2').toArray 27)).there w2.heap.size 11 (pvs P1 A1 n1 c1 A2' n2' c2').toArray.size) := there_part H8.out.t8 (p := 11) (m := 12) (Nat.zero_le _) (by omega)
    clear hpl hf1 hf2 hb7 h7 hb8 H6 HGP HB6
    rw [pv_eq]
    obtain ⟨PV, hPV⟩ : ∃ PV, PV = pvs P1 A1 n1 c1 A2' n2' c2' := ⟨_, rfl⟩
    have HPV := Lib.hid hPV
    rw [← hPV] at H8 HPL8 HR13 ho13 hi13 hj13 hs13 HT8 ⊢
    clear hPV
    by_cases hz6 : e6 = 0
    case neg =>
      have HE := Lib.hid (HB2.out (HR1.out hz6))
      have hq : (e6 != 0) = true := by rw [bne_iff_ne]; exact hz6
      clear hz6
      go_wp2_with (first | ((with_reducible refine wpList_gate ?_); refine wpList_store_new rfl 27 _ _ rfl _ PV.toArray rfl rfl hj13.out hs13.out ho13.out ?_; generalize World.alloc w7 _ = w8 at *) | ((with_reducible refine wpList_gate ?_); refine wpList_build rfl 30 _ rfl #[] rfl (mvs Mm.zero Lo.zero).toArray zmsg_built ?_) | ((with_reducible refine wpList_gate ?_); refine wpList_store_mid rfl 30 _ _ rfl w.heap.size 0 (mvs Mm.zero Lo.zero).toArray rfl rfl H8.out.t4 info_msg (mvs_one _ _) ?_))
      refine bodyPost_ret (results_ct rfl _ _ w.heap.size (mvs Mm.zero Lo.zero) _ rfl (World.rangeAt_setCells_same _ _ _ _ H8.out.t4) Tryd.underlying30 rfl info_msg) rfl ?_
      rw [HE.out]
      exact ⟨Lo.zero, rfl, MsAt.zero _ _, LoFr.zero _, below_grown H8.out.bel (grown_set w.heap.size _ 0 _) (Nat.le_refl _) (Below.size H8.out.bel)⟩
    have hq6 : (e6 != 0) = false := by rw [bne_eq_false_iff_eq]; exact hz6
    by_cases hz7 : P2 = 0
    case neg =>
      have HE := Lib.hid (HB2.out (HR2.out hz6 hz7))
      have hq : (P2 != 0) = true := by rw [bne_iff_ne]; exact hz7
      clear hz6 hz7
      go_wp2_with (first | ((with_reducible refine wpList_gate ?_); refine wpList_store_new rfl 27 _ _ rfl _ PV.toArray rfl rfl hj13.out hs13.out ho13.out ?_; generalize World.alloc w7 _ = w8 at *) | ((with_reducible refine wpList_gate ?_); refine wpList_build rfl 30 _ rfl #[] rfl (mvs Mm.zero Lo.zero).toArray zmsg_built ?_) | ((with_reducible refine wpList_gate ?_); refine wpList_store_mid rfl 30 _ _ rfl w.heap.size 0 (mvs Mm.zero Lo.zero).toArray rfl rfl H8.out.t4 info_msg (mvs_one _ _) ?_))
      refine bodyPost_ret (results_ct rfl _ _ w.heap.size (mvs Mm.zero Lo.zero) _ rfl (World.rangeAt_setCells_same _ _ _ _ H8.out.t4) Tryd.underlying30 rfl info_msg) rfl ?_
      rw [HE.out]
      exact ⟨Lo.zero, rfl, MsAt.zero _ _, LoFr.zero _, below_grown H8.out.bel (grown_set w.heap.size _ 0 _) (Nat.le_refl _) (Below.size H8.out.bel)⟩
    have hq7 : (P2 != 0) = false := by rw [bne_eq_false_iff_eq]; exact hz7
    have hq2 := HR3.out hz6 hz7
    obtain rfl : n6 = q2.2.1 := by rw [hq2]
    obtain rfl : P1 = q2.1 := by rw [hq2]
    have HZ2 : Hid (q2.2.2 = 0) := by rw [hq2]; exact Lib.hid rfl
    clear hq2 HR1 HR2 HR3 hz6 hz7
    obtain ⟨x, l, hx0, h9⟩ : ∃ x l, Hid (x = { M0 with plan := q2.1 }) ∧ Hid (Rofs w ((w7.alloc (.cells PV.toArray 27)).setCells w2.heap.size 11 PV.toArray.toList) w2.heap.size x l) := ⟨_, _, Lib.hid rfl, by
      have := H8.out.plan q2.1 A1 n1 c1 A2' n2' c2' HPL8.out HF1.out HF2.out
      rw [← HPV.out] at this
      exact this⟩
    clear HPV H8 HPL8 HF1 HF2
    go_wp2_with (first | ((with_reducible refine wpList_gate ?_); refine wpList_store_new rfl 27 _ _ rfl _ PV.toArray rfl rfl hj13.out hs13.out ho13.out ?_; generalize World.alloc w7 _ = w8 at *) | ((with_reducible refine wpList_gate ?_); refine wpList_load_mid rfl 27 _ rfl w7.heap.size 0 rfl PV _ HR13.out Tryd.underlying27 rfl hi13.out ?_) | ((with_reducible refine wpList_gate ?_); refine wpList_store_mid rfl 27 _ _ rfl w2.heap.size 11 PV.toArray rfl rfl HT8.out hj13.out ho13.out ?_; generalize World.setCells _ _ _ _ = w9 at *) | (go_at_call 48; fail))
    clear HR13 HT8 hi13 hj13 hs13 ho13 hq6 hq7
  case' inr =>
    have hq2 := HSN'.out h9
    rw [show (a9 == 1) = false from by rw [beq_eq_false_iff_ne]; exact h9] at k10'
    obtain rfl : p0 = q2.2.1 := by rw [hq2]
    have HZ2 : Hid (q2.2.2 = 0) := by rw [hq2]; exact Lib.hid rfl
    obtain ⟨w9, x, l, hw9, hx0, h9'⟩ : ∃ w9 x l, w9 = w5 ∧ Hid (x = { M0 with plan := q2.1 }) ∧ Hid (Rofs w w9 w2.heap.size x l) := ⟨w5, { M0 with plan := q2.1 }, Lo.zero, rfl, Lib.hid rfl, by
      have e : ({ M0 with plan := q2.1 } : Mm.Ms) = M0 := by
        have : M0.plan = Pm.zero := HMP.out
        rw [hq2]
        rw [← this]
      rw [e]
      exact H5⟩
    subst hw9
    have h9 := h9'
    clear h9' HSN' HSY' hq2 H5 HPL
    go_wp2_with (go_at_call 48; fail)
    clear k10'
  all_goals
    clear HK hk64 HMP
    have HI3 := Lib.hid (RInts_any A n cap B xs q2.2.1 w9 (HX.out.below (h9.out.bel.mono hB)) HNL.out hnc hcap (Nat.le_trans hB h9.out.bel.size) HBY.out (HP2.out.bounds HNL.out hnc hcap HZ2.out).1 (HP2.out.bounds HNL.out hnc hcap HZ2.out).2)
    rw [show Wm.rints xs q2.2.1 = q3 from by rw [HS3.out, Mm.thenR_ok HZ2.out]] at HI3
    clear HZ2 HB2 HP2 HS3
    refine HI3.out.mono ?_
    rintro e w10 ⟨v, rfl, hown, hb⟩
    obtain ⟨D3, d3, rfl, hc3, hm3, hrd⟩ := own_view hown
    have HF3D := Lib.hid ((own_fr hown).mono h9.out.h3)
    have h10 := Lib.hid (h9.out.below hb)
    have HD3 := Lib.hid hrd
    clear hown hb hrd HI3 h9
    by_cases hz3 : q3.2.2 = 0
    case neg =>
      have HE := Lib.hid (HB3.out hz3)
      have hq : (q3.2.2 != 0) = true := by rw [bne_iff_ne]; exact hz3
      clear hz3
      go_wp2_with (first | ((with_reducible refine wpList_gate ?_); refine wpList_build rfl 30 _ rfl #[] rfl (mvs Mm.zero Lo.zero).toArray zmsg_built ?_) | ((with_reducible refine wpList_gate ?_); refine wpList_store_mid rfl 30 _ _ rfl w.heap.size 0 (mvs Mm.zero Lo.zero).toArray rfl rfl h10.out.t4 info_msg (mvs_one _ _) ?_))
      refine bodyPost_ret (results_ct rfl _ _ w.heap.size (mvs Mm.zero Lo.zero) _ rfl (World.rangeAt_setCells_same _ _ _ _ h10.out.t4) Tryd.underlying30 rfl info_msg) rfl ?_
      rw [HE.out]
      exact ⟨Lo.zero, rfl, MsAt.zero _ _, LoFr.zero _, below_grown h10.out.bel (grown_set w.heap.size _ 0 _) (Nat.le_refl _) (Below.size h10.out.bel)⟩
    have hq3 : (q3.2.2 != 0) = false := by rw [bne_eq_false_iff_eq]; exact hz3
    have HI4 := Lib.hid (RText_any A n cap B xs q3.2.1 w10 (HX.out.below (h10.out.bel.mono hB)) HNL.out hnc hcap (Nat.le_trans hB h10.out.bel.size) HBY.out (HP3.out.bounds HNL.out hnc hcap hz3).1 (HP3.out.bounds HNL.out hnc hcap hz3).2)
    rw [show Wm.rtext xs q3.2.1 = q4 from by rw [HS4.out, Mm.thenR_ok hz3]] at HI4
    clear hz3 HB3 HP3 HS4
    go_wp2_with (go_at_call 50; fail)
    refine HI4.out.mono ?_
    rintro e w11 ⟨v, rfl, hown, hb⟩
    obtain ⟨D4, d4, rfl, hc4, hm4, hrd⟩ := own_view hown
    have HF4D := Lib.hid ((own_fr hown).mono h10.out.h3)
    have h11 := Lib.hid (h10.out.below hb)
    have HD4 := Lib.hid hrd
    have HD3b := Lib.hid ((HD3.out.below hb).more hb.size)
    clear hown hb hrd HI4 h10 HD3 hq3
    by_cases hz4 : q4.2.2 = 0
    case neg =>
      have HE := Lib.hid (HB4.out hz4)
      have hq : (q4.2.2 != 0) = true := by rw [bne_iff_ne]; exact hz4
      clear hz4
      go_wp2_with (first | ((with_reducible refine wpList_gate ?_); refine wpList_build rfl 30 _ rfl #[] rfl (mvs Mm.zero Lo.zero).toArray zmsg_built ?_) | ((with_reducible refine wpList_gate ?_); refine wpList_store_mid rfl 30 _ _ rfl w.heap.size 0 (mvs Mm.zero Lo.zero).toArray rfl rfl h11.out.t4 info_msg (mvs_one _ _) ?_))
      refine bodyPost_ret (results_ct rfl _ _ w.heap.size (mvs Mm.zero Lo.zero) _ rfl (World.rangeAt_setCells_same _ _ _ _ h11.out.t4) Tryd.underlying30 rfl info_msg) rfl ?_
      rw [HE.out]
      exact ⟨Lo.zero, rfl, MsAt.zero _ _, LoFr.zero _, below_grown h11.out.bel (grown_set w.heap.size _ 0 _) (Nat.le_refl _) (Below.size h11.out.bel)⟩
    have hq4 : (q4.2.2 != 0) = false := by rw [bne_eq_false_iff_eq]; exact hz4
    have HI5 := Lib.hid (RText_any A n cap B xs q4.2.1 w11 (HX.out.below (h11.out.bel.mono hB)) HNL.out hnc hcap (Nat.le_trans hB h11.out.bel.size) HBY.out (HP4.out.bounds HNL.out hnc hcap hz4).1 (HP4.out.bounds HNL.out hnc hcap hz4).2)
    rw [show Wm.rtext xs q4.2.1 = q5 from by rw [HS5.out, Mm.thenR_ok hz4]] at HI5
    clear hz4 HB4 HP4 HS5
    go_wp2_with (go_at_call 50; fail)
    refine HI5.out.mono ?_
    rintro e w12 ⟨v, rfl, hown, hb⟩
    obtain ⟨D5, d5, rfl, hc5, hm5, hrd⟩ := own_view hown
    have HF5D := Lib.hid ((own_fr hown).mono h11.out.h3)
    have h12 := Lib.hid (h11.out.below hb)
    have HD5 := Lib.hid hrd
    have HD4b := Lib.hid ((HD4.out.below hb).more hb.size)
    have HD3c := Lib.hid ((HD3b.out.below hb).more hb.size)
    clear hown hb hrd HI5 h11 HD4 HD3b hq4
    by_cases hz5 : q5.2.2 = 0
    case neg =>
      have HE := Lib.hid (HB5.out hz5)
      have hq : (q5.2.2 != 0) = true := by rw [bne_iff_ne]; exact hz5
      clear hz5
      go_wp2_with (first | ((with_reducible refine wpList_gate ?_); refine wpList_build rfl 30 _ rfl #[] rfl (mvs Mm.zero Lo.zero).toArray zmsg_built ?_) | ((with_reducible refine wpList_gate ?_); refine wpList_store_mid rfl 30 _ _ rfl w.heap.size 0 (mvs Mm.zero Lo.zero).toArray rfl rfl h12.out.t4 info_msg (mvs_one _ _) ?_))
      refine bodyPost_ret (results_ct rfl _ _ w.heap.size (mvs Mm.zero Lo.zero) _ rfl (World.rangeAt_setCells_same _ _ _ _ h12.out.t4) Tryd.underlying30 rfl info_msg) rfl ?_
      rw [HE.out]
      exact ⟨Lo.zero, rfl, MsAt.zero _ _, LoFr.zero _, below_grown h12.out.bel (grown_set w.heap.size _ 0 _) (Nat.le_refl _) (Below.size h12.out.bel)⟩
    have hq5 : (q5.2.2 != 0) = false := by rw [bne_eq_false_iff_eq]; exact hz5
    by_cases ha5 : q5.2.1 = (n : Int)
    case neg =>
      have HE := Lib.hid (HBL.out (by rw [HNL.out]; exact ha5))
      have hq : (q5.2.1 != (n : Int)) = true := by rw [bne_iff_ne]; exact ha5
      clear ha5 hz5
      go_wp2_with (first | ((with_reducible refine wpList_gate ?_); refine wpList_build rfl 30 _ rfl #[] rfl (mvs Mm.zero Lo.zero).toArray zmsg_built ?_) | ((with_reducible refine wpList_gate ?_); refine wpList_store_mid rfl 30 _ _ rfl w.heap.size 0 (mvs Mm.zero Lo.zero).toArray rfl rfl h12.out.t4 info_msg (mvs_one _ _) ?_))
      refine bodyPost_ret (results_ct rfl _ _ w.heap.size (mvs Mm.zero Lo.zero) _ rfl (World.rangeAt_setCells_same _ _ _ _ h12.out.t4) Tryd.underlying30 rfl info_msg) rfl ?_
      rw [HE.out]
      exact ⟨Lo.zero, rfl, MsAt.zero _ _, LoFr.zero _, below_grown h12.out.bel (grown_set w.heap.size _ 0 _) (Nat.le_refl _) (Below.size h12.out.bel)⟩
    have hqa : (q5.2.1 != (n : Int)) = false := by rw [bne_eq_false_iff_eq]; exact ha5
    have HOK2 := Lib.hid (HOK'.out hz5 (by rw [HNL.out]; exact ha5))
    have s1 := h12.out.id q3.1 D3 _ d3 HD3c.out rfl hc3 hm3 HF3.out HF3D.out
    have s2 := s1.se q4.1 D4 _ d4 (rd_set HD4b.out HF4D.out 23 _) rfl hc4 hm4 HF4.out HF4D.out
    have s3 := s2.pa q5.1 D5 _ d5 (rd_set (rd_set HD5.out HF5D.out 23 _) HF5D.out 24 _) rfl hc5 hm5 HF5.out HF5D.out
    obtain ⟨kc3, fc3⟩ := h12.out.cell 23 rfl
    obtain ⟨kc4, fc4⟩ := s1.cell 24 rfl
    obtain ⟨kc5, fc5⟩ := s2.cell 25 rfl
    obtain ⟨x5, l5, hx5, S3⟩ : ∃ x' l', Hid (x' = { x with id := q3.1, se := q4.1, pa := q5.1 }) ∧ Hid (Rofs w (((w12.setCell ⟨w2.heap.size, 23, none⟩ (.slice D3 q3.1.length d3)).setCell ⟨w2.heap.size, 24, none⟩ (.slice D4 q4.1.length d4)).setCell ⟨w2.heap.size, 25, none⟩ (.slice D5 q5.1.length d5)) w2.heap.size x' l') := ⟨_, _, Lib.hid rfl, s3⟩
    have hXe : X = x5 := by rw [HG'.out, hx5.out, hx0.out]
    rw [hXe] at HBR HOK2
    clear s1 s2 s3 HD3c HD4b HD5 HF3D HF4D HF5D hXe HG' hx5 hx0 HOK' ha5 hz5 HBL HB5 hc3 hc4 hc5 hm3 hm4 hm5 HF3 HF4 HF5 h12 HX HBY hnc hcap
    have hi5 : Hid ((Tryd.prog.info? 30).map (·.size) = some (mvs x5 l5).length) := info_msg
    have hj5 : Hid ((Tryd.prog.info? 30).map (·.size) = some (mvs x5 l5).toArray.size) := info_msg
    have ho5 := Lib.hid (mvs_one x5 l5)
    have HM5 := Lib.hid S3.out.m8
    obtain ⟨L, hL⟩ : ∃ L, L = mvs x5 l5 := ⟨_, rfl⟩
    have HL := Lib.hid hL
    rw [← hL] at hi5 hj5 ho5 HM5
    clear hL
    go_wp2_with (first | ((with_reducible refine wpList_gate ?_); generalize World.setCell (World.setCell (World.setCell w12 _ _) _ _) _ _ = w13 at *; refine wpList_load_mid rfl 30 _ rfl w2.heap.size 0 rfl L _ HM5.out Tryd.underlying30 rfl hi5.out ?_) | (go_at_call 15; fail))
    have HRR := Lib.hid (RMRight_any x5 l5 w13.heap.size w13 S3.out.ms (Nat.le_refl _))
    unfold mv at HRR
    rw [← HL.out] at HRR
    clear kc3 kc4 kc5 fc3 fc4 fc5 hq5 hqa
    refine HRR.out.mono ?_
    rintro e w14 ⟨rfl, hb14⟩
    have S4 := Lib.hid (S3.out.below hb14)
    have HM6 : Hid (w14.rangeAt w2.heap.size 0 L) := by rw [HL.out]; exact S4.out.m8
    have HT6 : Hid (w14.there w.heap.size 0 L.toArray.size) := by rw [HL.out]; exact S4.out.t4
    clear hb14 S3 HM5 HRR
    cases hrr : x5.right
    case false =>
      have HE := Lib.hid (HBR.out hrr)
      clear hrr
      go_wp2_with (first | ((with_reducible refine wpList_gate ?_); refine wpList_build rfl 30 _ rfl #[] rfl (mvs Mm.zero Lo.zero).toArray zmsg_built ?_) | ((with_reducible refine wpList_gate ?_); refine wpList_store_mid rfl 30 _ _ rfl w.heap.size 0 (mvs Mm.zero Lo.zero).toArray rfl rfl S4.out.t4 info_msg (mvs_one _ _) ?_))
      refine bodyPost_ret (results_ct rfl _ _ w.heap.size (mvs Mm.zero Lo.zero) _ rfl (World.rangeAt_setCells_same _ _ _ _ S4.out.t4) Tryd.underlying30 rfl info_msg) rfl ?_
      rw [HE.out]
      exact ⟨Lo.zero, rfl, MsAt.zero _ _, LoFr.zero _, below_grown S4.out.bel (grown_set w.heap.size _ 0 _) (Nat.le_refl _) (Below.size S4.out.bel)⟩
    have HE := Lib.hid (HOK2.out hrr)
    clear hrr
    go_wp2_with (first | ((with_reducible refine wpList_gate ?_); refine wpList_load_mid rfl 30 _ rfl w2.heap.size 0 rfl L _ HM6.out Tryd.underlying30 rfl hi5.out ?_) | ((with_reducible refine wpList_gate ?_); refine wpList_store_mid rfl 30 _ _ rfl w.heap.size 0 L.toArray rfl rfl HT6.out hj5.out ho5.out ?_))
    refine bodyPost_ret (results_ct rfl _ _ w.heap.size L _ rfl (World.rangeAt_setCells_same _ _ _ _ HT6.out) Tryd.underlying30 rfl hi5.out) rfl ?_
    rw [HE.out, HL.out]
    have hgs := grown_set w.heap.size (mvs x5 l5) 0 w14
    have hlt := S4.out.h1
    exact ⟨l5, rfl, (S4.out.ms.other S4.out.fr hgs (by omega) (Nat.le_refl _)).more hgs.size, S4.out.fr.mono (by omega), below_grown S4.out.bel hgs (Nat.le_refl _) (Below.size S4.out.bel)⟩
end Go.Proofs.YtpgfnhdaembhmaaDoor
