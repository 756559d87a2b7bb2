/- A journal opened: the document's. -/
import Derived.Test.YtgpagddaopgdgaaDoorJp
namespace Go.Proofs.YtgpagddaopgdgaaDoor
open Go.RowKit Go.Shelf Km

section
variable {w w' w'' : World} {S : Nat → Prop} {g : Nat} {s s' : Jm.St} {kv rv : Value}

theorem own_empty (w : World) (b : Nat) (hb : b ≤ w.heap.size) : (w.alloc (.cells #[] 5)).ownsRow b 5 1 (.slice (some ⟨w.heap.size, 0, none⟩) 0 0) 0 [] :=
  World.ownsRow_made (base := b) (e := 5) (size := 1) w #[] 0 hb (by unfold maxLen; omega) (by simp)

set_option maxRecDepth 100000 in
set_option maxHeartbeats 2000000 in
theorem ropen_any (h : JAt w S g s kv rv) (hz : Jm.size s ≤ 4194304) :
    Calls Tryd.prog 23 #[.pointer (some ⟨g, 0, none⟩)] w fun e w' => ∃ kk bb, e = .returned (.tuple #[kk, bb, .int .i64 (Jm.opn s).2.2]) ∧ Told w.heap.size w' kk bb (Jm.opn s).2.1 ∧ ∃ S', Jat w' S' g (Jm.opn s).1 ∧ Out S w w' ∧ (∀ b, S' b → Sx S w w' b) ∧ (∀ b, S b → S' b) := by
  have j2 := h.norest
  have j3 := j2.offs false
  obtain ⟨c1, f1⟩ := h.at 1 rfl
  obtain ⟨c3, f3⟩ := h.at 3 rfl
  have o3' := (h.setOut 1 (.slice none 0 0)).trans ((j2.setOut 3 (.bool false)).more fun _ q => .inl q)
  obtain ⟨w2, hw2⟩ : ∃ w2, w2 = (w.setCell ⟨g, 1, none⟩ (.slice none 0 0)).setCell ⟨g, 3, none⟩ (.bool false) := ⟨_, rfl⟩
  rw [← hw2] at o3'
  have o3 : Out S w w2 := o3'
  have j3 : JAt w2 S g (Jm.up s) kv (.slice none 0 0) := by rw [hw2]; exact j3
  have hwl' : Jm.whole s ≤ s.kept.length := whole_le h.ok
  have hok := j3.ok
  obtain ⟨Ak, ck, rfl, hk1, hk2, hkd, -⟩ := own_view0 (show w2.ownsRow 0 5 1 kv s.kept.length (u8s s.kept) from j3.kr)
  have c0 : w.cell? ⟨g, 0, none⟩ = some (.slice Ak s.kept.length ck) := (h.at 0 rfl).1
  unfold Jm.size at hz
  have HC := Lib.hid (RAll_any Ak s.kept.length ck w2.heap.size s.kept w2 hkd rfl hk1 hk2 (Nat.le_refl _) hok.k (by omega))
  rw [show (Fm.cat (Fm.al s.kept)).length = Jm.whole s from rfl] at HC
  have HJ := Lib.hid (fun (W : World) (q : Below w2.heap.size w2 W) => j3.below q)
  have HO := Lib.hid (fun (W : World) (q : Below w2.heap.size w2 W) => o3.trans ((Out.below q).more fun _ q => .inl q : Out (Sx S w w2) w2 W))
  have hs2 := o3.size
  have HL := Lib.hid h.lt
  clear hkd j2 j3 o3 o3' h
  go_enter Tryd.func23, Tryd.ntmps23
  go_wp2_with (go_at_call 38; fail)
  rw [← hw2]
  clear hw2 c1 f1 c3 f3
  refine HC.out.mono ?_
  rintro e w3 ⟨kk, bb, rfl, hacc, hb3⟩
  obtain ⟨A3, c3, vs, A4, c4, rfl, rfl, -⟩ := hacc.outF
  have hcx : w3.cell? ⟨g, 0, none⟩ = some (.slice Ak s.kept.length ck) := ((HJ.out _ hb3).at 0 rfl).1
  have hs3 := hb3.size
  have HB3 := Lib.hid hb3
  have HAl : Hid (Told w.heap.size w3 (.slice A3 (Fm.al s.kept).length c3) (.slice A4 (Fm.al s.kept).length c4) (Fm.al s.kept)) := hacc.mono hs2
  clear hacc hb3 HC c0
  generalize (Fm.al s.kept).length = nl at *
  by_cases hw : Jm.whole s < s.kept.length
  · have hd1 : decide (((Jm.whole s : Nat) : Int) < (s.kept.length : Int)) = true := by simpa using hw
    have HE := Lib.hid (reffect_any (HJ.out w3 HB3.out))
    by_cases h0 : (Jm.eff (Jm.up s)).2 = 0
    · have HR := Lib.hid (Jm.opn_cut hw h0)
      have he0 := (Jm.eff_kept (Jm.up s)).1
      rw [h0] at HE
      have he1 : (Jm.eff (Jm.up s)).1.kept.take (Jm.whole s) = s.kept.take (Jm.whole s) := by rw [he0]; rfl
      generalize (Jm.eff (Jm.up s)).1 = s1 at *
      obtain ⟨i0, hi, hz0, hz1, hz2⟩ := info_parts info_u8
      have hsl : ∀ W, (Instr.slice 29 (.slice Ak s.kept.length ck) none (some (.int .i64 ((Jm.whole s : Nat) : Int))) none).run Tryd.prog W = .ok (.slice (cutA Ak 0 ck) (Jm.whole s) ck) W := fun W => run_cut_h (P := Tryd.prog) Tryd.underlying29 (size_of_info hi hz1) Ak s.kept.length ck (Jm.whole s) (by omega) W
      have hln : (s.kept.take (Jm.whole s)).length = Jm.whole s := by rw [List.length_take]; omega
      have HCut := Lib.hid (fun (W : World) (q : Rd W W.heap.size Ak (u8s s.kept)) => rd_cut0 (n := Jm.whole s) q hk1)
      generalize cutA Ak 0 ck = Ac at hsl HCut
      go_wp2_with (go_at_call 17; fail)
      refine HE.out.mono ?_
      rintro e w4 ⟨rfl, k1, k2⟩
      have c0 : w4.cell? ⟨g, 0, none⟩ = some (.slice Ak s.kept.length ck) := (k1.at 0 rfl).1
      clear hcx
      have hsz4 := k2.size
      have hkr : w4.ownsRow 0 5 1 (.slice Ak s.kept.length ck) s.kept.length (u8s s.kept) := by
        have := k1.kr
        rw [he0] at this
        exact this
      obtain ⟨A8, c8, e8, -, -, hrd8, -⟩ := own_view0 hkr
      injection e8 with e81 e82 e83
      subst e81 e83
      have hrd := HCut.out w4 hrd8
      have hown := own_empty w4 w4.heap.size (Nat.le_refl _)
      have hby : Fm.By (s.kept.take (Jm.whole s)) := hok.k.take _
      have HF : Hid (∀ (w6 : World) (v6 : Value), Below w4.heap.size w4 w6 → w6.ownsRow w4.heap.size 5 1 v6 (Jm.whole s) (u8s (s.kept.take (Jm.whole s))) →
          (w6.cell? ⟨g, 0, none⟩ = some (.slice Ak s.kept.length ck) ∧ w6.frozen? ⟨g, 0, none⟩ = false) ∧ Hid (Told w.heap.size (w6.setCell ⟨g, 0, none⟩ v6) (.slice A3 nl c3) (.slice A4 nl c4) (Fm.al s.kept) ∧ ∃ S', Jat (w6.setCell ⟨g, 0, none⟩ v6) S' g { s1 with kept := s.kept.take (Jm.whole s) } ∧ Out S w (w6.setCell ⟨g, 0, none⟩ v6) ∧
            (∀ b, S' b → Sx S w (w6.setCell ⟨g, 0, none⟩ v6) b) ∧ (∀ b, S b → S' b))) := by
        intro w6 v6 q1 q2
        have k6 := k1.below q1
        obtain ⟨m1, m2⟩ := k1.fresh q1 hby (by rw [hln]; exact q2)
        have o1 : Out S w3 (w6.setCell ⟨g, 0, none⟩ v6) := k2.trans (m2.more fun _ q => .inl q)
        have o2 : Out S w (w6.setCell ⟨g, 0, none⟩ v6) := (HO.out _ HB3.out).trans (o1.more fun _ q => .inl q)
        have hz6 := set_size w6 ⟨g, 0, none⟩ v6
        refine ⟨k6.at 0 rfl, Acc.keep (w := w3) HAl.out o1.size (fun b h1 h2 => o1.block b h2 (fun q => by have := HL.out b q; omega)), Sx S w4 w6, ⟨_, _, m1⟩, o2, fun b q => q.imp id (fun q => ⟨by omega, by rw [hz6]; exact q.2⟩), fun b q => .inl q⟩
      have hzb : ∀ W, Below w4.heap.size w4 W → w4.heap.size ≤ W.heap.size := fun W q => q.size
      have c0a : (w4.alloc (.cells #[] 5)).cell? ⟨g, 0, none⟩ = some (.slice Ak s.kept.length ck) := (World.cell?_alloc_lt _ _ _ (k1.lt g k1.sg)).trans c0
      clear hkr hrd8 k1 k2 he1 he0 HCut
      go_wp2_with (at_builtin; go_must (refine wpList_app rfl _ _ 29 rfl w4.heap.size 5 i0 (.int .u8 0) 1 Tryd.underlying29 hi hz0 hz1 hz2 rfl _ _ _ rfl hown w4.heap.size Ac (Jm.whole s) ck (u8s (s.kept.take (Jm.whole s))) rfl (by rw [List.length_map]; exact hln) (hrd.alloc (Nat.le_refl _) _) (oneCell_ints _ _) (by unfold maxLen; omega) (by omega) (by simp) ?_); intro v6 w6 hown6 hgrow6 _; have hb6 := below_app ((Below.refl _ w4).alloc (Nat.le_refl _) _) hown hgrow6 (by simp); rw [List.nil_append, Nat.zero_add] at hown6; obtain ⟨A6, c6, rfl, -, -, -⟩ := own_view hown6; obtain ⟨⟨c6a, f6a⟩, HZ⟩ := HF.out w6 _ hb6 hown6; clear hown6 hgrow6 hb6 hown)
      go_ret3
      rw [HR.out]
      exact ⟨_, _, rfl, HZ.out⟩
    · have HR := Lib.hid (Jm.opn_err hw h0)
      have hne : ((Jm.eff (Jm.up s)).2 != 0) = true := by rw [bne_iff_ne]; exact h0
      have he9 := (Jm.eff_err (Jm.up s)).resolve_left h0
      rw [he9] at HE
      go_wp2_with (go_at_call 17; refine HE.out.mono ?_; rintro e w4 ⟨rfl, k1⟩)
      go_ret3
      rw [HR.out]
      have hx := (HO.out _ HB3.out).trans (k1.2.more fun _ q => .inl q : Out (Sx S w w3) w3 w4)
      exact ⟨_, _, rfl, Acc.nil _ _ hx.size, S, ⟨_, _, k1.1⟩, hx, fun _ q => .inl q, fun _ q => q⟩
  · have hd1 : decide (((Jm.whole s : Nat) : Int) < (s.kept.length : Int)) = false := by simpa using hw
    have HE := Lib.hid (Jm.opn_all hw)
    go_wp2
    go_ret3
    rw [HE.out]
    exact ⟨_, _, rfl, HAl.out, S, ⟨_, _, HJ.out _ HB3.out⟩, HO.out _ HB3.out, fun _ q => .inl q, fun _ q => q⟩
end
end Go.Proofs.YtgpagddaopgdgaaDoor
