import Derived.Test.YtmddekhflmacpaaDoorLSums
namespace Go.Proofs.YtmddekhflmacpaaDoor
open Go.RowKit Go.Shelf

theorem own_list (s : BitVec 32) : [Cm.V s % 256, Cm.V s / 256 % 256, Cm.V s / 65536 % 256, Cm.V s / 16777216] = [((s.toNat % 256 : Nat) : Int), ((s.toNat / 256 % 256 : Nat) : Int), ((s.toNat / 65536 % 256 : Nat) : Int), ((s.toNat / 16777216 % 256 : Nat) : Int)] := by
  have h := s.isLt
  unfold Cm.V
  rw [show s.toNat / 16777216 % 256 = s.toNat / 16777216 by omega]
  simp
theorem own_bits (s : BitVec 32) : Cm.V (Cm.crc s [Cm.V s % 256, Cm.V s / 256 % 256, Cm.V s / 65536 % 256, Cm.V s / 16777216]) = 558161692 := by
  rw [own_list]
  show Cm.V (~~~(Cm.stp (Cm.stp (Cm.stp (Cm.stp (~~~s) _) _) _) _)) = _
  rw [Cm.word4]
  have e : ~~~s ^^^ s = 4294967295#32 := by
    apply BitVec.eq_of_getLsbD_eq
    intro i hi
    have : ∀ j : Fin 32, (4294967295#32).getLsbD j.val = true := by decide
    rw [this ⟨i, hi⟩, BitVec.getLsbD_xor, BitVec.getLsbD_not]
    simp [hi]
  rw [e]
  decide +kernel
theorem own_fit (s : BitVec 32) : ∀ x ∈ [Cm.V s % 256, Cm.V s / 256 % 256, Cm.V s / 65536 % 256, Cm.V s / 16777216], 0 ≤ x ∧ x ≤ 255 := by
  have h := Cm.V_fit s
  intro x hx
  simp only [List.mem_cons, List.not_mem_nil, or_false] at hx
  omega

set_option maxRecDepth 100000 in
set_option maxHeartbeats 2000000 in
theorem own_walk (a0 : Option Addr) (len0 cap0 : Nat) (z0 : List Int) (w : World) (w0 : RowOf .u8 w a0 len0 cap0 z0) (_s0 : cap0 * 1 ≤ 140737488351232) (t0 : TabAt w) :
    Calls Tryd.prog 8 #[.slice a0 len0 cap0] w fun e w' => e = .returned (.bool true) ∧ Below w.heap.size w w' := by
  obtain ⟨xs, hn, hc, hm, hr, hw⟩ := row_rd w0
  have HB := Lib.hid (wf_u8 hw)
  have HN := Lib.hid hn
  have hml : len0 ≤ maxLen := by omega
  clear w0 hw hn
  obtain ⟨s, hs⟩ : ∃ s, s = Cm.crc 0#32 xs := ⟨_, rfl⟩
  have HS := Lib.hid hs
  have HO := Lib.hid (own_bits s)
  have hsf := Cm.V_fit s
  clear hs
  go_enter Tryd.func8, Tryd.ntmps8
  go_wp2_with (first
    | (go_at_call 9; refine (head_any _ t0.tab).mono ?_; rintro e w1 ⟨rfl, hb1⟩; have ht1 := t0.tab.below hb1 (Nat.le_refl _); have hr1 := hr.below hb1)
    | (go_at_call 10; refine (Sum_any a0 len0 cap0 w.heap.size xs _ hr1 HN.out hml HB.out ht1).mono ?_; rw [← HS.out]; rintro e w' ⟨rfl, rfl⟩)
    | (go_at_call 12; refine (Add_any s (some ⟨w1.heap.size, 0, none⟩) 4 4 (w1.heap.size + 1) [Cm.V s % 256, Cm.V s / 256 % 256, Cm.V s / 65536 % 256, Cm.V s / 16777216] _ (by exact Rd.new w1 (w1.heap.size + 1) (u8s [Cm.V s % 256, Cm.V s / 256 % 256, Cm.V s / 65536 % 256, Cm.V s / 16777216]) 5 (0, 0) (by omega)) rfl (by unfold maxLen; omega) (own_fit s) (ht1.alloc _)).mono ?_; rw [HO.out]; rintro e w' ⟨rfl, rfl⟩))
  go_ret
  exact ⟨rfl, hb1.alloc hb1.size _⟩
end Go.Proofs.YtmddekhflmacpaaDoor
