/- The sums of rows from the beginning on. -/
import Derived.Test.YtgeaedoccdemeaaDoorCa
namespace Go.Proofs.YtgeaedoccdemeaaDoor
open Go.RowKit Go.Shelf

theorem Add_any0 (A : Option Addr) (n cap B : Nat) (xs : List Int) (w : World) (hx : Rd w B A (u8s xs)) (hn : xs.length = n) (hm : n ≤ maxLen) (hb : ∀ x ∈ xs, 0 ≤ x ∧ x ≤ 255) (ht : Tab w) :
    Calls Tryd.prog 27 #[.int .u32 0, .slice A n cap] w fun e w' => e = .returned (.int .u32 (Cm.V (Cm.crc 0#32 xs))) ∧ w = w' := by
  have h := Add_any 0#32 A n cap B xs w hx hn hm hb ht
  rwa [← Cm.V_zero] at h
theorem RAdd_any0 (A : Option Addr) (n cap B : Nat) (xs : List Int) (w : World) (hx : Rd w B A (u8s xs)) (hn : xs.length = n) (hm : n ≤ maxLen) (hb : ∀ x ∈ xs, 0 ≤ x ∧ x ≤ 255) :
    Calls Tryd.prog 24 #[.int .u32 0, .slice A n cap] w fun e w' => e = .returned (.int .u32 (Cm.V (Cm.crc 0#32 xs))) ∧ w = w' := by
  have h := RAdd_any 0#32 A n cap B xs w hx hn hm hb
  rwa [← Cm.V_zero] at h

set_option maxRecDepth 100000 in
set_option maxHeartbeats 1000000 in
theorem Sum_any (A : Option Addr) (n cap B : Nat) (xs : List Int) (w : World) (hx : Rd w B A (u8s xs)) (hn : xs.length = n) (hm : n ≤ maxLen) (hb : ∀ x ∈ xs, 0 ≤ x ∧ x ≤ 255) (ht : Tab w) :
    Calls Tryd.prog 23 #[.slice A n cap] w fun e w' => e = .returned (.int .u32 (Cm.V (Cm.crc 0#32 xs))) ∧ w = w' := by
  have HC := Lib.hid (Add_any0 A n cap B xs w hx hn hm hb ht)
  clear hx hn hm hb ht
  go_enter Tryd.func23, Tryd.ntmps23
  go_wp2_with (go_at_call 27; refine HC.out.mono ?_; rintro e w' ⟨rfl, rfl⟩)
  go_ret
  exact ⟨rfl, rfl⟩
set_option maxRecDepth 100000 in
set_option maxHeartbeats 1000000 in
theorem RSum_any (A : Option Addr) (n cap B : Nat) (xs : List Int) (w : World) (hx : Rd w B A (u8s xs)) (hn : xs.length = n) (hm : n ≤ maxLen) (hb : ∀ x ∈ xs, 0 ≤ x ∧ x ≤ 255) :
    Calls Tryd.prog 19 #[.slice A n cap] w fun e w' => e = .returned (.int .u32 (Cm.V (Cm.crc 0#32 xs))) ∧ w = w' := by
  have HC := Lib.hid (RAdd_any0 A n cap B xs w hx hn hm hb)
  clear hx hn hm hb
  go_enter Tryd.func19, Tryd.ntmps19
  go_wp2_with (go_at_call 24; refine HC.out.mono ?_; rintro e w' ⟨rfl, rfl⟩)
  go_ret
  exact ⟨rfl, rfl⟩
/-- the table, as a row's list gives it -/
def TabAt (w : World) : Prop := ∀ k, k < 16 → w.cell? ⟨0, k, none⟩ = some (.int .u32 (([0, 498536548, 997073096, 651767980, 1994146192, 1802195444, 1303535960, 1342533948, 3988292384, 4027552580, 3604390888, 3412177804, 2607071920, 2262029012, 2685067896, 3183342108] : List Int).getD k 0))
theorem TabAt.tab {w : World} (h : TabAt w) : Tab w := h
theorem wf_u32 {n : Int} (h : (Lit.int .u32 n).wf = true) : 0 ≤ n ∧ n ≤ 4294967295 := by
  simpa [Lit.wf, IntKind.min, IntKind.max, IntKind.signed, IntKind.bits] using h
theorem wf_u16 {n : Int} (h : (Lit.int .u16 n).wf = true) : 0 ≤ n ∧ n ≤ 65535 := by
  simpa [Lit.wf, IntKind.min, IntKind.max, IntKind.signed, IntKind.bits] using h
theorem wf_u8' {n : Int} (h : (Lit.int .u8 n).wf = true) : 0 ≤ n ∧ n ≤ 255 := by
  simpa [Lit.wf, IntKind.min, IntKind.max, IntKind.signed, IntKind.bits] using h
end Go.Proofs.YtgeaedoccdemeaaDoor
