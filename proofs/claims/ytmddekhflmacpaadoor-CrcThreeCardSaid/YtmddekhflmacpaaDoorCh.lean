/- The sums of rows from the beginning on; the live question. -/
import Derived.Test.YtmddekhflmacpaaDoorCa
import Derived.Lib.SlBytesConst
namespace Go.Proofs.YtmddekhflmacpaaDoor
open Go.RowKit Go.Shelf

theorem Add_any0 (A : Option Addr) (n cap B : Nat) (xs : List Int) (w : World) (hx : Rd w B A (u8s xs)) (hn : xs.length = n) (hm : n ≤ maxLen) (hb : ∀ x ∈ xs, 0 ≤ x ∧ x ≤ 255) (ht : Tab w) :
    Calls Tryd.prog 12 #[.int .u32 0, .slice A n cap] w fun e w' => e = .returned (.int .u32 (Cm.V (Cm.crc 0#32 xs))) ∧ w = w' := by
  have h := Add_any 0#32 A n cap B xs w hx hn hm hb ht
  rwa [← Cm.V_zero] at h
theorem RAdd_any0 (A : Option Addr) (n cap B : Nat) (xs : List Int) (w : World) (hx : Rd w B A (u8s xs)) (hn : xs.length = n) (hm : n ≤ maxLen) (hb : ∀ x ∈ xs, 0 ≤ x ∧ x ≤ 255) :
    Calls Tryd.prog 13 #[.int .u32 0, .slice A n cap] w fun e w' => e = .returned (.int .u32 (Cm.V (Cm.crc 0#32 xs))) ∧ w = w' := by
  have h := RAdd_any 0#32 A n cap B xs w hx hn hm hb
  rwa [← Cm.V_zero] at h

set_option maxRecDepth 100000 in
set_option maxHeartbeats 1000000 in
theorem Sum_any (A : Option Addr) (n cap B : Nat) (xs : List Int) (w : World) (hx : Rd w B A (u8s xs)) (hn : xs.length = n) (hm : n ≤ maxLen) (hb : ∀ x ∈ xs, 0 ≤ x ∧ x ≤ 255) (ht : Tab w) :
    Calls Tryd.prog 10 #[.slice A n cap] w fun e w' => e = .returned (.int .u32 (Cm.V (Cm.crc 0#32 xs))) ∧ w = w' := by
  have HC := Lib.hid (Add_any0 A n cap B xs w hx hn hm hb ht)
  clear hx hn hm hb ht
  go_enter Tryd.func10, Tryd.ntmps10
  go_wp2_with (go_at_call 12; refine HC.out.mono ?_; rintro e w' ⟨rfl, rfl⟩)
  go_ret
  exact ⟨rfl, rfl⟩
set_option maxRecDepth 100000 in
set_option maxHeartbeats 1000000 in
theorem RSum_any (A : Option Addr) (n cap B : Nat) (xs : List Int) (w : World) (hx : Rd w B A (u8s xs)) (hn : xs.length = n) (hm : n ≤ maxLen) (hb : ∀ x ∈ xs, 0 ≤ x ∧ x ≤ 255) :
    Calls Tryd.prog 11 #[.slice A n cap] w fun e w' => e = .returned (.int .u32 (Cm.V (Cm.crc 0#32 xs))) ∧ w = w' := by
  have HC := Lib.hid (RAdd_any0 A n cap B xs w hx hn hm hb)
  clear hx hn hm hb
  go_enter Tryd.func11, Tryd.ntmps11
  go_wp2_with (go_at_call 13; refine HC.out.mono ?_; rintro e w' ⟨rfl, rfl⟩)
  go_ret
  exact ⟨rfl, rfl⟩

theorem crc9 : Cm.V (Cm.crc 0#32 [49, 50, 51, 52, 53, 54, 55, 56, 57]) = 3421780262 := by decide +kernel

set_option maxRecDepth 100000 in
set_option maxHeartbeats 2000000 in
theorem head_any (w : World) (ht : Tab w) : Calls Tryd.prog 9 #[] w fun e w' => e = .returned (.bool true) ∧ Below w.heap.size w w' := by
  have h9 := crc9
  have h0 : Cm.V (Cm.crc 0#32 []) = 0 := by decide +kernel
  have kc := Lib.run_convert_bytes_const (P := Tryd.prog) w 23 5 #[.int .u8 49, .int .u8 50, .int .u8 51, .int .u8 52, .int .u8 53, .int .u8 54, .int .u8 55, .int .u8 56, .int .u8 57] 9 9 Tryd.underlying23 Tryd.underlying5
  obtain ⟨w1, hw1⟩ : ∃ w1, w1 = w.alloc (.cells #[.int .u8 49, .int .u8 50, .int .u8 51, .int .u8 52, .int .u8 53, .int .u8 54, .int .u8 55, .int .u8 56, .int .u8 57] 5 (9, 10)) := ⟨_, rfl⟩
  have R1 : Hid (Rd w1 (w.heap.size + 1) (some ⟨w.heap.size, 0, none⟩) (u8s [49, 50, 51, 52, 53, 54, 55, 56, 57])) := by rw [hw1]; exact Rd.new w (w.heap.size + 1) (u8s [49, 50, 51, 52, 53, 54, 55, 56, 57]) 5 (9, 10) (by omega)
  have T1 : Hid (Tab w1) := by rw [hw1]; exact ht.alloc _
  have hb1 : Below w.heap.size w w1 := by rw [hw1]; exact (Below.refl _ w).alloc (Nat.le_refl _) _
  have HB := Lib.hid hb1
  rw [show (#[Value.int .u8 49, .int .u8 50, .int .u8 51, .int .u8 52, .int .u8 53, .int .u8 54, .int .u8 55, .int .u8 56, .int .u8 57] : Array Value).size = 9 from rfl] at kc
  rw [← hw1] at kc
  clear hw1 ht hb1
  have R4 : Hid (Rd ((w1.alloc (.cells #[.int .u8 0] 5)).alloc (.cells #[.int .u8 0] 5)) (w1.heap.size + 2) (some ⟨w1.heap.size + 1, 0, none⟩) (u8s [0])) := by
    have h := Rd.new (w1.alloc (.cells #[.int .u8 0] 5)) (w1.heap.size + 2) (u8s [0]) 5 (0, 0) (by simp)
    rw [World.size_alloc] at h
    exact h
  go_enter Tryd.func9, Tryd.ntmps9
  go_wp2_with (first
    | (go_at_call 10; refine (Sum_any (some ⟨w.heap.size, 0, none⟩) 9 9 (w.heap.size + 1) [49, 50, 51, 52, 53, 54, 55, 56, 57] w1 R1.out rfl (by unfold maxLen; omega) (by decide) T1.out).mono ?_; rw [h9]; rintro e w' ⟨rfl, rfl⟩)
    | (go_at_call 10; refine (Sum_any none 0 0 0 [] w1 (Rd.nil _ _ _) rfl (by unfold maxLen; omega) (by simp) T1.out).mono ?_; rw [h0]; rintro e w' ⟨rfl, rfl⟩)
    | (go_at_call 12; refine (Add_any0 (some ⟨w1.heap.size, 0, none⟩) 1 1 (w1.heap.size + 1) [0] (w1.alloc (.cells #[.int .u8 0] 5)) (by exact Rd.new w1 (w1.heap.size + 1) (u8s [0]) 5 (0, 0) (by omega)) rfl (by unfold maxLen; omega) (by decide) (T1.out.alloc _)).mono ?_; rintro e w' ⟨rfl, rfl⟩)
    | (go_at_call 10; refine (Sum_any (some ⟨w1.heap.size + 1, 0, none⟩) 1 1 (w1.heap.size + 2) [0] ((w1.alloc (.cells #[.int .u8 0] 5)).alloc (.cells #[.int .u8 0] 5)) R4.out rfl (by unfold maxLen; omega) (by decide) ((T1.out.alloc _).alloc _)).mono ?_; rintro e w' ⟨rfl, rfl⟩))
  go_ret
  exact ⟨rfl, (HB.out.alloc HB.out.size _).alloc (by simp; have := HB.out.size; omega) _⟩
end Go.Proofs.YtmddekhflmacpaaDoor
