import Derived.Test.YtmddekhflmacpaaDoorCh
namespace Go.Proofs.YtmddekhflmacpaaDoor
open Go.RowKit Go.Shelf

/-- the table, as a row's list gives it -/
def TabAt (w : World) : Prop := ∀ k, k < 16 → w.cell? ⟨0, k, none⟩ = some (.int .u32 (([0, 498536548, 997073096, 651767980, 1994146192, 1802195444, 1303535960, 1342533948, 3988292384, 4027552580, 3604390888, 3412177804, 2607071920, 2262029012, 2685067896, 3183342108] : List Int).getD k 0))
theorem TabAt.tab {w : World} (h : TabAt w) : Tab w := h
theorem wf_u32 {n : Int} (h : (Lit.int .u32 n).wf = true) : 0 ≤ n ∧ n ≤ 4294967295 := by
  simpa [Lit.wf, IntKind.min, IntKind.max, IntKind.signed, IntKind.bits] using h
theorem wf_u16 {n : Int} (h : (Lit.int .u16 n).wf = true) : 0 ≤ n ∧ n ≤ 65535 := by
  simpa [Lit.wf, IntKind.min, IntKind.max, IntKind.signed, IntKind.bits] using h
theorem wf_u8' {n : Int} (h : (Lit.int .u8 n).wf = true) : 0 ≤ n ∧ n ≤ 255 := by
  simpa [Lit.wf, IntKind.min, IntKind.max, IntKind.signed, IntKind.bits] using h

set_option maxRecDepth 100000 in
set_option maxHeartbeats 1000000 in
theorem sums_walk (a0 : Int) (a1 : Option Addr) (len1 cap1 : Nat) (z1 : List Int) (w : World) (w0 : (Lit.int .u32 a0).wf = true) (w1 : RowOf .u8 w a1 len1 cap1 z1) (_s1 : cap1 * 1 ≤ 140737488351232) (t0 : TabAt w) :
    Calls Tryd.prog 3 #[.int .u32 a0, .slice a1 len1 cap1] w fun e w' => e = .returned (.bool true) ∧ Below w.heap.size w w' := by
  have b0 := wf_u32 w0
  obtain ⟨s, rfl, -⟩ := Cm.V_of b0.1 b0.2
  obtain ⟨xs, hn, hc, hm, hr, hw⟩ := row_rd w1
  have HB := Lib.hid (wf_u8 hw)
  have HN := Lib.hid hn
  have hml : len1 ≤ maxLen := by omega
  clear w0 w1 hw hn hc hm
  go_enter Tryd.func3, Tryd.ntmps3
  go_wp2_with (first
    | (go_at_call 9; refine (head_any _ t0.tab).mono ?_; rintro e w1 ⟨rfl, hb1⟩; have ht1 := t0.tab.below hb1 (Nat.le_refl _); have hr1 := hr.below hb1)
    | (go_at_call 10; refine (Sum_any a1 len1 cap1 w.heap.size xs _ hr1 HN.out hml HB.out ht1).mono ?_; rintro e w' ⟨rfl, rfl⟩)
    | (go_at_call 11; refine (RSum_any a1 len1 cap1 w.heap.size xs _ hr1 HN.out hml HB.out).mono ?_; rintro e w' ⟨rfl, rfl⟩)
    | (go_at_call 12; refine (Add_any s a1 len1 cap1 w.heap.size xs _ hr1 HN.out hml HB.out ht1).mono ?_; rintro e w' ⟨rfl, rfl⟩)
    | (go_at_call 13; refine (RAdd_any s a1 len1 cap1 w.heap.size xs _ hr1 HN.out hml HB.out).mono ?_; rintro e w' ⟨rfl, rfl⟩))
  go_ret
  exact ⟨rfl, hb1⟩
end Go.Proofs.YtmddekhflmacpaaDoor
