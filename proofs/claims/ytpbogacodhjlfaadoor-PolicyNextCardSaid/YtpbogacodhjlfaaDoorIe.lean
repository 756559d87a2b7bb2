/- Whether a config is right, and its zero plan: the program's. -/
import Derived.Test.YtpbogacodhjlfaaDoorId
import Derived.Test.YtpbogacodhjlfaaDoorHa
namespace Go.Proofs.YtpbogacodhjlfaaDoor
open Go.RowKit Go.Shelf Km Kx Kc Kt
set_option linter.unusedVariables false

def rightB (c : Cf) (xs : List Int) : Bool := rightNodesB c xs && rightTimesB c xs && rightPenaltiesB c xs && rightCountsB c xs
theorem right_iff (c : Cf) (xs : List Int) : rightB c xs = true ↔ ConfP c xs := by
  unfold rightB rightNodesB rightTimesB rightPenaltiesB rightCountsB
  simp only [Bool.and_eq_true, Gm.inAll_iff, beq_iff_eq, List.forall_mem_cons, List.not_mem_nil, false_implies, implies_true, and_true]
  constructor
  · rintro ⟨⟨⟨⟨⟨⟨⟨⟨hf, hd, hro⟩, ht⟩, ho⟩, hn⟩, hti⟩, ⟨⟨a1, a2, a3, a4, a5, a6, a7, a8, a9, a10, a11, a12⟩, hm⟩⟩, ⟨hh, hsu⟩, hre⟩, ⟨⟨⟨⟨⟨hr, hfa⟩, hfi, hst⟩, hb⟩, hca⟩, hroo⟩, htr⟩
    exact ⟨hf, hd, hro, ht, ho, hn, hti, a1, a2, a3, a4, a5, a6, a7, a8, a9, a10, a11, a12, hm, hr, hfa, hb, hh, hsu, hre, hfi, hst, hca, hroo, htr⟩
  · rintro ⟨hf, hd, hro, ht, ho, hn, hti, a1, a2, a3, a4, a5, a6, a7, a8, a9, a10, a11, a12, hm, hr, hfa, hb, hh, hsu, hre, hfi, hst, hca, hroo, htr⟩
    exact ⟨⟨⟨⟨⟨⟨⟨⟨hf, hd, hro⟩, ht⟩, ho⟩, hn⟩, hti⟩, ⟨⟨a1, a2, a3, a4, a5, a6, a7, a8, a9, a10, a11, a12⟩, hm⟩⟩, ⟨hh, hsu⟩, hre⟩, ⟨⟨⟨⟨⟨hr, hfa⟩, hfi, hst⟩, hb⟩, hca⟩, hroo⟩, htr⟩

set_option maxRecDepth 100000 in
set_option maxHeartbeats 2000000 in
theorem PRight_b (c : Cf) (xs : List Int) (w : World) (hr : Rd w w.heap.size c.ta (Kc.i64s xs)) (hl : xs.length = c.tn) :
    Calls Tryd.prog 7 #[.agg (cf c).toArray] w fun e w' => e = .returned (.bool (rightB c xs)) ∧ Below w.heap.size w w' := by
  have HB := Lib.hid (Bxs.start w)
  have H1 : Hid (∀ W, Below w.heap.size w W → Calls Tryd.prog 29 #[.agg (cf c).toArray] W fun e w' => e = .returned (.bool (rightNodesB c xs)) ∧ Below W.heap.size W w') := Lib.hid (fun W hb => rightNodes_any c xs W ((hr.below hb).more hb.size) hl)
  have H2 : Hid (∀ W, Below w.heap.size w W → Calls Tryd.prog 30 #[.agg (cf c).toArray] W fun e w' => e = .returned (.bool (rightTimesB c xs)) ∧ Below W.heap.size W w') := Lib.hid (fun W hb => rightTimes_any c xs W ((hr.below hb).more hb.size) hl)
  have H3 : Hid (∀ W, Below w.heap.size w W → Calls Tryd.prog 31 #[.agg (cf c).toArray] W fun e w' => e = .returned (.bool (rightPenaltiesB c xs)) ∧ Below W.heap.size W w') := Lib.hid (fun W hb => rightPenalties_any c xs W ((hr.below hb).more hb.size) hl)
  have H4 : Hid (∀ W, Below w.heap.size w W → Calls Tryd.prog 32 #[.agg (cf c).toArray] W fun e w' => e = .returned (.bool (rightCountsB c xs)) ∧ Below W.heap.size W w') := Lib.hid (fun W hb => rightCounts_any c xs W ((hr.below hb).more hb.size) hl)
  unfold rightB
  clear hr hl
  generalize rightNodesB c xs = b1 at *
  generalize rightTimesB c xs = b2 at *
  generalize rightPenaltiesB c xs = b3 at *
  generalize rightCountsB c xs = b4 at *
  cases b1 <;> cases b2 <;> cases b3
  all_goals
    go_enter Tryd.func7, Tryd.ntmps7
    go_wp2_with (first | (go_at_call 29; refine Calls.mono (H1.out _ HB.out.below) ?_; rintro e w_ ⟨rfl, hb_⟩; replace HB := Lib.hid (HB.out.call hb_); clear hb_) | (go_at_call 30; refine Calls.mono (H2.out _ HB.out.below) ?_; rintro e w_ ⟨rfl, hb_⟩; replace HB := Lib.hid (HB.out.call hb_); clear hb_) | (go_at_call 31; refine Calls.mono (H3.out _ HB.out.below) ?_; rintro e w_ ⟨rfl, hb_⟩; replace HB := Lib.hid (HB.out.call hb_); clear hb_) | (go_at_call 32; refine Calls.mono (H4.out _ HB.out.below) ?_; rintro e w_ ⟨rfl, hb_⟩; replace HB := Lib.hid (HB.out.call hb_); clear hb_) | (first | ((with_reducible refine Kx.absorb HB ?_); clear HB; intro w_ HB) | ((with_reducible refine Kx.box_gate ?_); (first | refine Kx.boxa HB rfl ?_ | refine Kx.boxt HB rfl rfl ?_ | refine Kx.box1 HB rfl rfl ?_); clear HB; intro b_ w_ HB; refine Kx.fr ?_) | ((with_reducible refine Kx.alloc_gate ?_); (first | refine Kx.ala HB ?_ | refine Kx.al1 HB ?_); clear HB; intro b_ w_ HB; refine Kx.fr ?_) | ((with_reducible refine Kx.loads_gate ?_); first | refine Kx.l1 HB rfl rfl ?_ | refine Kx.la HB rfl ?_ | refine Kx.lo HB rfl HC.out ?_) | ((with_reducible refine Kx.loadg_gate ?_); first | refine Kx.l1g HB rfl rfl rfl ?_ | refine Kx.lag HB rfl rfl ?_ | refine Kx.log HB rfl HC.out rfl ?_) | ((with_reducible refine Kx.store_gate ?_); (first | refine Kx.stwa HB rfl rfl ?_ | refine Kx.sta HB rfl rfl ?_ | refine Kx.stc HB rfl rfl ?_ | refine Kx.stt HB rfl rfl rfl ?_ | refine Kx.st1 HB rfl rfl rfl ?_); clear HB; intro w_ HB)))
    go_ret
    exact ⟨rfl, HB.out.below⟩

/-- what plan's table of bounds holds -/
def Gm.bnds : List Int := [0, 9223372036854775807, -1, 15, -1, 15, -1, 15, 0, 100, 0, 1099511627776, 0, 1099511627776, 0, 1099511627776, 0, 65535, 0, 65535]
/-- the tables that the program's calls read -/
structure Tabs (w : World) : Prop where
  d : DTab w
  b : BTab w
  s : ∀ k, k < 20 → w.cell? ⟨0, k, none⟩ = some (.int .i64 (Gm.bnds.getD k 0))
end Go.Proofs.YtpbogacodhjlfaaDoor
