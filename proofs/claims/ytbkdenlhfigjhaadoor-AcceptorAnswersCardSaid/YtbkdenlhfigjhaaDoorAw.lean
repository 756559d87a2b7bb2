/- A record written, and replayed where the journal took it: the program's. -/
import Derived.Test.YtbkdenlhfigjhaaDoorAj
namespace Go.Proofs.YtbkdenlhfigjhaaDoor
open Go.RowKit Go.Shelf Km Kx Kc Kt
set_option linter.unusedVariables false
set_option linter.unusedSimpArgs false
/-- the acceptor behind a record that was to be remembered -/
noncomputable def Ac.wrote (a : Ac) (s : Jm.St) (x : Mm.Ms) (p : Pt) : Ac := if (keep s x).2 = true then a.replay x p else a
theorem Ac.wrote_no {a : Ac} {s : Jm.St} {x : Mm.Ms} {p : Pt} (h : (keep s x).2 = false) : a.wrote s x p = a := if_neg (by rw [h]; decide)
theorem Ac.wrote_yes {a : Ac} {s : Jm.St} {x : Mm.Ms} {p : Pt} (h : (keep s x).2 = true) : a.wrote s x p = a.replay x p := if_pos h
section
variable {w0 w : World} {ga g : Nat} {a : Ac} {s : Jm.St} {l : List (Nat × List Value)} {r : List Rw} {F : Fz}
set_option maxRecDepth 100000 in
set_option maxHeartbeats 2000000 in
theorem write_any (h : Jbx w0 w g s ((ga, a.cells g) :: l) r F) (x : Mm.Ms) (lo : Lo) (hm : MsOk x lo) (hs : Within (mfz x lo) F) (ht : Tab w0) (hh : HTab w0) (hz : Jm.size s ≤ 16000000) :
    Calls Tryd.prog 51 #[.pointer (some ⟨g, 0, none⟩), .agg (mvs x lo).toArray, .func (.func 52) #[.pointer (some ⟨ga, 32, none⟩)] #[]] w fun e w' =>
      e = .returned (.bool (keep s x).2) ∧ Jbx w0 w' g (keep s x).1 ((ga, (a.wrote s x (mpt x lo)).cells g) :: l) r F := by
  obtain ⟨ok, KA, KC, RA, RC, HB0⟩ := h
  have HB := Lib.hid HB0
  have HBo : Hid (∀ {W : World} {l' r'}, Bxs w0 W l' r' F → Calls Tryd.prog 57 #[.agg (mvs x lo).toArray] W fun e w' => ∃ v, e = .returned (.tuple #[.int .u8 x.bodyE.1, v, .int .i64 x.bodyE.2.2]) ∧ w'.ownsRow W.heap.size 5 1 v x.bodyE.2.1.length (u8s x.bodyE.2.1) ∧ Below W.heap.size W w') :=
    Lib.hid (fun hB => MBody_any x lo _ _ (hm.at hs hB) (Nat.le_refl _) (ht.below hB.below (Nat.le_refl _)))
  clear HB0
  cases hR : x.right with
  | false =>
    rw [Mm.bodyE_no hR] at HBo
    have HK := Lib.hid (show keep s x = (s, false) from if_neg (by rw [hR]; decide))
    have HW := Lib.hid (show a.wrote s x (mpt x lo) = a from Ac.wrote_no (by rw [HK.out]))
    clear hm hs hR
    generalize a.wrote s x (mpt x lo) = a' at *
    generalize keep s x = ks at *
    go_enter Tryd.func51, Tryd.ntmps51
    go_wp2_with (first | (go_at_call 57; refine (HBo.out HB.out).mono ?_; rintro e w_ ⟨v, rfl, hown_, hb_⟩; replace HB := Lib.hid (HB.out.call hb_); clear hb_ hown_) | (first | ((with_reducible refine Kx.absorb HB ?_); clear HB; intro w_ HB) | ((with_reducible refine Kx.box_gate ?_); (first | refine Kx.boxa HB rfl ?_ | refine Kx.boxt HB rfl rfl ?_ | refine Kx.box1 HB rfl rfl ?_); clear HB; intro b_ w_ HB; refine Kx.fr ?_) | ((with_reducible refine Kx.alloc_gate ?_); (first | refine Kx.ala HB ?_ | refine Kx.al1 HB ?_); clear HB; intro b_ w_ HB; refine Kx.fr ?_) | ((with_reducible refine Kx.loads_gate ?_); first | refine Kx.l1 HB rfl rfl ?_ | refine Kx.la HB rfl ?_ | refine Kx.lo HB rfl HC.out ?_) | ((with_reducible refine Kx.loadg_gate ?_); first | refine Kx.l1g HB rfl rfl rfl ?_ | refine Kx.lag HB rfl rfl ?_ | refine Kx.log HB rfl HC.out rfl ?_) | ((with_reducible refine Kx.store_gate ?_); (first | refine Kx.stwa HB rfl rfl ?_ | refine Kx.sta HB rfl rfl ?_ | refine Kx.stc HB rfl rfl ?_ | refine Kx.stt HB rfl rfl rfl ?_ | refine Kx.st1 HB rfl rfl rfl ?_); clear HB; intro w_ HB)))
    go_ret
    rw [HK.out, HW.out]
    exact ⟨rfl, ok, KA, KC, RA, RC, HB.out.tail⟩
  | true =>
    rw [Mm.bodyE_ok hR] at HBo
    have hk : 0 ≤ x.k ∧ x.k ≤ 255 := by have := (Mm.right_iff.1 hR); have h1 := this.1; have h2 := this.2.1; omega
    have hby := Mm.body_by hm.ok hR
    have hbl := Mm.body_len hR
    have HAp : Hid (∀ {W : World} {l' r'}, Jbx w0 W g s l' r' F → ∀ (v : Value), W.ownsRow w0.heap.size 5 1 v x.body.length (u8s x.body) → ∃ A c, v = .slice A x.body.length c ∧ Calls Tryd.prog 58 #[.pointer (some ⟨g, 0, none⟩), .int .u8 x.k, .slice A x.body.length c] W fun e w' => e = .returned (.int .i64 (Jm.append s x.k x.body).2) ∧ Jbx w0 w' g (Jm.append s x.k x.body).1 l' r' F) :=
      Lib.hid (fun hB v hown => by
        obtain ⟨A, c, rfl⟩ := own_slice hown
        obtain ⟨A2, c2, e, k1, k2, -⟩ := own_view hown
        cases e
        exact ⟨A, c, rfl, append_x hB x.k A _ c _ x.body hk (Rd.of_own hown) rfl k1 k2 (Nat.le_refl _) hby hh (by omega)⟩)
    have hsz := (Jm.size_append s x.k x.body).1
    have HSy : Hid (∀ {W : World} {l' r'}, Jbx w0 W g (Jm.append s x.k x.body).1 l' r' F → Calls Tryd.prog 59 #[.pointer (some ⟨g, 0, none⟩)] W fun e w' => e = .returned (.int .i64 (Jm.sync (Jm.append s x.k x.body).1).2) ∧ Jbx w0 w' g (Jm.sync (Jm.append s x.k x.body).1).1 l' r' F) :=
      Lib.hid (fun hB => sync_x hB (by omega))
    have HK : Hid (keep s x = if (Jm.append s x.k x.body).2 = 0 then ((Jm.sync (Jm.append s x.k x.body).1).1, decide ((Jm.sync (Jm.append s x.k x.body).1).2 = 0)) else ((Jm.append s x.k x.body).1, false)) := Lib.hid (if_pos hR)
    have hin : ∀ W, (callFunc 52 #[.pointer (some ⟨ga, 32, none⟩), .agg (mvs x lo).toArray]).run Tryd.prog W = .ok (.enter 52 #[.pointer (some ⟨ga, 32, none⟩), .agg (mvs x lo).toArray]) W := fun W => callFunc_enter Tryd.func52 rfl rfl _ _
    have HW0 := Lib.hid (fun q : (keep s x).2 = false => Ac.wrote_no (a := a) (p := mpt x lo) q)
    have HW1 := Lib.hid (fun q : (keep s x).2 = true => Ac.wrote_yes (a := a) (p := mpt x lo) q)
    have HOk := Lib.hid ok
    clear hm hs hR hk hby hbl hsz ok hz
    generalize a.wrote s x (mpt x lo) = a' at *
    generalize keep s x = ks at *
    generalize Jm.append s x.k x.body = ap at *
    generalize Jm.sync ap.1 = sy at *
    go_enter Tryd.func51, Tryd.ntmps51
    go_wp2_with (first | (go_at_call 57; fail) | (first | ((with_reducible refine Kx.absorb HB ?_); clear HB; intro w_ HB) | ((with_reducible refine Kx.box_gate ?_); (first | refine Kx.boxa HB rfl ?_ | refine Kx.boxt HB rfl rfl ?_ | refine Kx.box1 HB rfl rfl ?_); clear HB; intro b_ w_ HB; refine Kx.fr ?_) | ((with_reducible refine Kx.alloc_gate ?_); (first | refine Kx.ala HB ?_ | refine Kx.al1 HB ?_); clear HB; intro b_ w_ HB; refine Kx.fr ?_) | ((with_reducible refine Kx.loads_gate ?_); first | refine Kx.l1 HB rfl rfl ?_ | refine Kx.la HB rfl ?_ | refine Kx.lo HB rfl HC.out ?_) | ((with_reducible refine Kx.loadg_gate ?_); first | refine Kx.l1g HB rfl rfl rfl ?_ | refine Kx.lag HB rfl rfl ?_ | refine Kx.log HB rfl HC.out rfl ?_) | ((with_reducible refine Kx.store_gate ?_); (first | refine Kx.stwa HB rfl rfl ?_ | refine Kx.sta HB rfl rfl ?_ | refine Kx.stc HB rfl rfl ?_ | refine Kx.stt HB rfl rfl rfl ?_ | refine Kx.st1 HB rfl rfl rfl ?_); clear HB; intro w_ HB)))
    refine (HBo.out HB.out).mono ?_
    rintro e w2 ⟨v, rfl, hown, hb2⟩
    have h2 := HB.out.call hb2
    obtain ⟨A, c, rfl, HC⟩ := HAp.out (l' := _) (r' := _) ⟨HOk.out, _, _, _, _, h2.swap⟩ v (own_mono hown HB.out.size)
    have HCA := Lib.hid HC
    clear HC h2 hb2 hown HB
    by_cases ha : ap.2 = 0
    · rw [if_pos ha] at HK
      have ea : (ap.2 != 0) = false := by simpa using ha
      clear ha
      go_wp2_with (go_at_call 58; fail)
      refine HCA.out.mono ?_
      rintro e w3 ⟨rfl, HJ3⟩
      have HCS := Lib.hid (HSy.out HJ3)
      clear HCA HJ3
      by_cases hc : sy.2 = 0
      · rw [decide_eq_true hc] at HK
        have ec : (sy.2 != 0) = false := by simpa using hc
        clear hc
        have HWy := Lib.hid (HW1.out (by rw [HK.out]))
        go_wp2_with (go_at_call 59; fail)
        refine HCS.out.mono ?_
        rintro e w4 ⟨rfl, hok, KA', KC', RA', RC', HB4⟩
        have HOk4 := Lib.hid hok
        have HB := Lib.hid HB4
        clear HCS HB4 hok
        go_wp2_with (first | (refine (replay_any HB.out.third _ _).mono ?_; rintro e w_ ⟨rfl, HB5⟩; replace HB := Lib.hid HB5; clear HB5) | (first | ((with_reducible refine Kx.absorb HB ?_); clear HB; intro w_ HB) | ((with_reducible refine Kx.box_gate ?_); (first | refine Kx.boxa HB rfl ?_ | refine Kx.boxt HB rfl rfl ?_ | refine Kx.box1 HB rfl rfl ?_); clear HB; intro b_ w_ HB; refine Kx.fr ?_) | ((with_reducible refine Kx.alloc_gate ?_); (first | refine Kx.ala HB ?_ | refine Kx.al1 HB ?_); clear HB; intro b_ w_ HB; refine Kx.fr ?_) | ((with_reducible refine Kx.loads_gate ?_); first | refine Kx.l1 HB rfl rfl ?_ | refine Kx.la HB rfl ?_ | refine Kx.lo HB rfl HC.out ?_) | ((with_reducible refine Kx.loadg_gate ?_); first | refine Kx.l1g HB rfl rfl rfl ?_ | refine Kx.lag HB rfl rfl ?_ | refine Kx.log HB rfl HC.out rfl ?_) | ((with_reducible refine Kx.store_gate ?_); (first | refine Kx.stwa HB rfl rfl ?_ | refine Kx.sta HB rfl rfl ?_ | refine Kx.stc HB rfl rfl ?_ | refine Kx.stt HB rfl rfl rfl ?_ | refine Kx.st1 HB rfl rfl rfl ?_); clear HB; intro w_ HB)))
        go_ret
        rw [HK.out, HWy.out]
        exact ⟨rfl, HOk4.out, _, _, _, _, HB.out.swap.tail3⟩
      · rw [decide_eq_false hc] at HK
        have ec : (sy.2 != 0) = true := by simpa using hc
        clear hc
        have HWy := Lib.hid (HW0.out (by rw [HK.out]))
        go_wp2_with (go_at_call 59; refine HCS.out.mono ?_; rintro e w4 ⟨rfl, HJ4⟩)
        go_ret
        rw [HK.out, HWy.out]
        obtain ⟨hok, KA', KC', RA', RC', HB4⟩ := HJ4
        exact ⟨rfl, hok, _, _, _, _, HB4.tail2⟩
    · rw [if_neg ha] at HK
      have ea : (ap.2 != 0) = true := by simpa using ha
      clear ha
      have HWy := Lib.hid (HW0.out (by rw [HK.out]))
      go_wp2_with (go_at_call 58; refine HCA.out.mono ?_; rintro e w3 ⟨rfl, HJ3⟩)
      go_ret
      rw [HK.out, HWy.out]
      obtain ⟨hok, KA', KC', RA', RC', HB4⟩ := HJ3
      exact ⟨rfl, hok, _, _, _, _, HB4.tail2⟩
end
end Go.Proofs.YtbkdenlhfigjhaaDoor
