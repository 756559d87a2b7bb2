/- A message's frame: the document's. -/
import Derived.Test.YtpgfnhdaembhmaaDoorMn
namespace Go.Proofs.YtpgfnhdaembhmaaDoor
open Go.RowKit Go.Shelf

set_option maxRecDepth 100000 in
set_option maxHeartbeats 2000000 in
theorem RMPut_any (x : Mm.Ms) (l : Lo) (B : Nat) (w : World) (hp : MsAt w B x l) (hB : B ≤ w.heap.size) :
    Calls Tryd.prog 11 #[mv x l] w fun e w' => ∃ v, e = .returned (.tuple #[v, .int .i64 x.put.2]) ∧ w'.ownsRow w.heap.size 5 1 v x.put.1.length (u8s x.put.1) ∧ Below w.heap.size w w' := by
  have hx1 := Mx.new w x l 30
  have hb1 : Hid (Below w.heap.size w (w.alloc (.cells (mvs x l).toArray 30))) := (Below.refl _ w).alloc (Nat.le_refl _) _
  have hz1 : w.heap.size ≤ (w.alloc (.cells (mvs x l).toArray 30)).heap.size := by rw [World.size_alloc]; omega
  have HR : Hid ((w.alloc (.cells (mvs x l).toArray 30)).rangeAt w.heap.size 0 (mvs x l)) := hx1
  have HBO := Lib.hid (RMBody_any x l B (w.alloc (.cells (mvs x l).toArray 30)) (hp.below hb1.out hB) (Nat.le_trans hB hz1))
  have hlen := Lib.hid (info_mv x l)
  have hz := Lib.hid hz1
  have hok := Lib.hid hp.ok
  unfold mv at HBO ⊢
  generalize mvs x l = L at *
  clear hx1 hz1 hp
  cases hr : x.right with
  | false =>
    have HE := Lib.hid (Mm.put_no hr)
    rw [Mm.bodyE_no hr] at HBO
    clear hr
    go_enter Tryd.func11, Tryd.ntmps11
    go_wp2_with (first | (refine wpList_load_mid rfl 30 _ rfl w.heap.size 0 rfl L _ HR.out Tryd.underlying30 rfl hlen.out ?_) | (go_at_call 13; refine HBO.out.mono ?_; rintro e w2 ⟨v, rfl, hown, hb2⟩))
    go_ret2
    rw [HE.out]
    exact ⟨_, rfl, own_none, hb1.out.trans (hb2.mono hz.out)⟩
  | true =>
    have HE := Lib.hid (Mm.put_frame hr)
    have HBY := Lib.hid (Mm.body_by hok.out hr)
    have hk : Hid (0 ≤ x.k ∧ x.k ≤ 255) := by obtain ⟨h1, h2, -⟩ := Mm.right_iff.1 hr; exact ⟨by omega, by omega⟩
    rw [Mm.bodyE_ok hr] at HBO
    clear hr
    go_enter Tryd.func11, Tryd.ntmps11
    go_wp2_with (first | (refine wpList_load_mid rfl 30 _ rfl w.heap.size 0 rfl L _ HR.out Tryd.underlying30 rfl hlen.out ?_) | (go_at_call 13; fail))
    refine HBO.out.mono ?_
    rintro e w2 ⟨v, rfl, hown, hb2⟩
    obtain ⟨A2, c2, rfl, hcp2, hcm2, hrd⟩ := own_view hown
    have hbw := Lib.hid (hb1.out.trans (hb2.mono hz.out))
    have HF := Lib.hid (FRPut_any x.k A2 _ c2 w2.heap.size x.body w2 hk.out hrd rfl hcp2 hcm2 (Nat.le_refl _) HBY.out)
    rw [HE.out] at HF
    clear hown hb2 hrd HBO
    go_wp2_with (go_at_call 23; fail)
    refine HF.out.mono ?_
    rintro e w3 ⟨v3, rfl, hown3, hb3⟩
    go_wp2
    go_ret2
    exact ⟨_, rfl, own_mono hown3 hbw.out.size, hbw.out.trans (hb3.mono hbw.out.size)⟩
end Go.Proofs.YtpgfnhdaembhmaaDoor
