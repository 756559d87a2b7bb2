import Derived.Test.YtnipaifkgjbanaaW14
import Derived.Test.YtnipaifkgjbanaaWm6
namespace Go.Proofs.Ytnipaifkgjbanaa
open Go.RowKit Go.Shelf

set_option maxRecDepth 100000 in
set_option maxHeartbeats 8000000 in
theorem back_early (a0 : Option Addr) (len0 cap0 : Nat) (a1 : Int) (a2 : Option Addr) (len2 cap2 : Nat) (a3 : Option Addr) (len3 cap3 : Nat) (a4 : Option Addr) (len4 cap4 : Nat) (w : World)
    (ss ls : List Int) (hn2 : ss.length = len2) (hn3 : ls.length = len3) (hr2 : Rd w w.heap.size a2 (u8s ss)) (hr3 : Rd w w.heap.size a3 (i64s ls)) (hf : Wm.Fits ls)
    (hlong : 4096 < len2 ∨ 64 < len3 ∨ 100000 < len0 ∨ 100000 < len4) :
    Calls Try.prog 6 #[.slice a0 len0 cap0, .int .i64 a1, .slice a2 len2 cap2, .slice a3 len3 cap3, .slice a4 len4 cap4] w fun e w' => e = .returned (.bool true) ∧ Below w.heap.size w w' := by
  have HF : Hid (Wm.Fits ls) := hf
  have HR2 := Lib.hid hr2
  have HR3 := Lib.hid hr3
  clear hf hr2 hr3
  have HP := Lib.hid (fun (w1 : World) (hb : Below w.heap.size w w1) => PutText_all a2 len2 cap2 w.heap.size ss w1 (HR2.out.below hb) hn2 hb.size)
  have HQ := Lib.hid (fun (w1 : World) (hb : Below w.heap.size w w1) => PutInts_all a3 len3 cap3 w.heap.size ls w1 (HR3.out.below hb) hn3 HF.out hb.size)
  by_cases h1 : 4096 < len2 <;> by_cases h2 : 64 < len3
  · rw [Wm.ptextE_many (by omega)] at HP
    rw [Wm.pintsE_many (by omega)] at HQ
    clear hlong
    go_enter Try.func6, Try.ntmps6
    go_wp2_with (first | (go_at_call 11; refine (head_any _).mono ?_; rintro e w1 ⟨rfl, hb1⟩) | (go_at_call 16; refine (HP.out _ hb1).mono ?_; rintro e w2 ⟨vt, rfl, -, hb2⟩; have hb12 := hb1.trans (hb2.mono hb1.size)) | (go_at_call 20; refine (HQ.out _ hb12).mono ?_; rintro e w3 ⟨vu, rfl, -, hb3⟩; have hb13 := hb12.trans (hb3.mono hb12.size)))
    go_ret
    exact ⟨ret_bool (by simp; omega), hb13⟩
  · rw [Wm.ptextE_many (by omega)] at HP
    rw [Wm.pintsE_ok (by omega)] at HQ
    clear hlong
    go_enter Try.func6, Try.ntmps6
    go_wp2_with (first | (go_at_call 11; refine (head_any _).mono ?_; rintro e w1 ⟨rfl, hb1⟩) | (go_at_call 16; refine (HP.out _ hb1).mono ?_; rintro e w2 ⟨vt, rfl, -, hb2⟩; have hb12 := hb1.trans (hb2.mono hb1.size)) | (go_at_call 20; refine (HQ.out _ hb12).mono ?_; rintro e w3 ⟨vu, rfl, -, hb3⟩; have hb13 := hb12.trans (hb3.mono hb12.size)))
    go_ret
    exact ⟨ret_bool (by simp; omega), hb13⟩
  · rw [Wm.ptextE_ok (by omega)] at HP
    rw [Wm.pintsE_many (by omega)] at HQ
    clear hlong
    go_enter Try.func6, Try.ntmps6
    go_wp2_with (first | (go_at_call 11; refine (head_any _).mono ?_; rintro e w1 ⟨rfl, hb1⟩) | (go_at_call 16; refine (HP.out _ hb1).mono ?_; rintro e w2 ⟨vt, rfl, -, hb2⟩; have hb12 := hb1.trans (hb2.mono hb1.size)) | (go_at_call 20; refine (HQ.out _ hb12).mono ?_; rintro e w3 ⟨vu, rfl, -, hb3⟩; have hb13 := hb12.trans (hb3.mono hb12.size)))
    go_ret
    exact ⟨ret_bool (by simp; omega), hb13⟩
  · rw [Wm.ptextE_ok (by omega)] at HP
    rw [Wm.pintsE_ok (by omega)] at HQ
    by_cases h3 : 100000 < len0
    · clear hlong
      go_enter Try.func6, Try.ntmps6
      go_wp2_with (first | (go_at_call 11; refine (head_any _).mono ?_; rintro e w1 ⟨rfl, hb1⟩) | (go_at_call 16; refine (HP.out _ hb1).mono ?_; rintro e w2 ⟨vt, rfl, -, hb2⟩; have hb12 := hb1.trans (hb2.mono hb1.size)) | (go_at_call 20; refine (HQ.out _ hb12).mono ?_; rintro e w3 ⟨vu, rfl, -, hb3⟩; have hb13 := hb12.trans (hb3.mono hb12.size)))
      go_ret
      exact ⟨ret_bool (by simp; omega), hb13⟩
    · have h4 : 100000 < len4 := by omega
      clear hlong
      go_enter Try.func6, Try.ntmps6
      go_wp2_with (first | (go_at_call 11; refine (head_any _).mono ?_; rintro e w1 ⟨rfl, hb1⟩) | (go_at_call 16; refine (HP.out _ hb1).mono ?_; rintro e w2 ⟨vt, rfl, -, hb2⟩; have hb12 := hb1.trans (hb2.mono hb1.size)) | (go_at_call 20; refine (HQ.out _ hb12).mono ?_; rintro e w3 ⟨vu, rfl, -, hb3⟩; have hb13 := hb12.trans (hb3.mono hb12.size)))
      go_ret
      exact ⟨ret_bool (by simp; omega), hb13⟩
end Go.Proofs.Ytnipaifkgjbanaa
