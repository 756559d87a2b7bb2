import Derived.Test.YtnipaifkgjbanaaKit2
namespace Go.Proofs.Ytnipaifkgjbanaa
open Go.RowKit Go.Shelf

set_option maxRecDepth 100000 in
set_option maxHeartbeats 1000000 in
theorem cuts_walk (a0 a1 : Int) (w0 : (Lit.int .i64 a0).wf = true) (w1 : (Lit.int .u8 a1).wf = true) (w : World) :
    Calls Try.prog 8 #[.int .i64 a0, .int .u8 a1] w fun e w' => e = .returned (.bool true) ∧ Below w.heap.size w w' := by
  have b0 := wf_i64 w0
  have b1 : 0 ≤ a1 ∧ a1 ≤ 255 := by simpa [Lit.wf, IntKind.min, IntKind.max, IntKind.signed, IntKind.bits] using w1
  clear w0 w1
  obtain ⟨c, rfl⟩ := Int.eq_ofNat_of_zero_le b1.1
  have hpl := Wm.pint_len a0
  have HB := Lib.hid (Wm.pint_byte b0.1 b0.2)
  have HM := Lib.hid (Nat.mod_lt c (show 0 < (Wm.pint a0).length by omega))
  have HR := Lib.hid (Wm.rd_cut (n := a0) HM.out)
  have hc := b1.2
  clear b1
  go_enter Try.func8, Try.ntmps8
  go_wp2_with (first | (go_at_call 11; refine (head_any _).mono ?_; rintro e w1 ⟨rfl, hb1⟩) | (go_at_call 14; refine (PutInt_any _ _ b0.1 b0.2).mono ?_; rintro e w2 ⟨v, rfl, hown, hb2⟩; obtain ⟨g, cap, rfl, -, -⟩ := hown.form (by omega); have hcp := own_cap hown; have hml := HM.out) | (go_at_call 12; go_must (refine (Int_any _ (c % (Wm.pint a0).length) cap _ ((Wm.pint a0).take (c % (Wm.pint a0).length)) 0 _ (by exact Rd.takeU (Rd.of_own hown) _) (by rw [List.length_take]; have := HM.out; omega) (by have := own_cap hown; have := HM.out; omega) (own_capMax hown) (fun x hx => HB.out x (List.mem_of_mem_take hx)) (by omega) (by omega)).mono ?_); rw [HR.out]; rintro e w' ⟨rfl, rfl⟩))
  go_ret
  exact ⟨rfl, hb1.trans (hb2.mono hb1.size)⟩
end Go.Proofs.Ytnipaifkgjbanaa
