/- Whether ten numbers may begin a body: the document's. -/
import Derived.Test.YtpgfnhdaembhmaaDoorMa
namespace Go.Proofs.YtpgfnhdaembhmaaDoor
open Go.RowKit Go.Shelf

namespace Mm
def Pn (l : List Int) : Prop := l.length = 10 ∧ Nd (l.getD 0 0) ∧ Nd (l.getD 1 0) ∧ 0 ≤ l.getD 7 0 ∧ l.getD 7 0 ≤ 65535 ∧ 0 ≤ l.getD 8 0 ∧ l.getD 8 0 ≤ 1000 ∧ (l.getD 9 0 = 0 ∨ l.getD 9 0 = 1)
end Mm

set_option maxRecDepth 100000 in
set_option maxHeartbeats 2000000 in
theorem plain_any (A : Option Addr) (n c B : Nat) (xs : List Int) (w : World) (hx : Rd w B A (i64s xs)) (hn : xs.length = n) :
    Calls Tryd.prog 49 #[.slice A n c] w fun e w' => e = .returned (.bool (Pm.ask (Mm.Pn xs))) ∧ w = w' := by
  by_cases h10 : n = 10
  case neg =>
    have hb : ((n : Int) != 10) = true := by rw [bne_iff_ne]; omega
    have HE := Lib.hid (Pm.ask_no (q := Mm.Pn xs) (fun h => h10 (by rw [← hn]; exact h.1)))
    clear hx h10
    go_enter Tryd.func49, Tryd.ntmps49
    go_wp2
    go_ret
    exact ⟨ret_bool HE.out.symm, rfl⟩
  subst h10
  have cell : ∀ j, j < 10 → ∃ ad, A = some ad ∧ w.cell? (ad.add j) = some (.int .i64 (xs.getD j 0)) := fun j hj => by
    obtain ⟨ad, e, _, hc⟩ := hx.getU (i := j) (x := xs.getD j 0) (by rw [List.getD_eq_getElem?_getD, List.getElem?_eq_getElem (by omega)]; rfl)
    exact ⟨ad, e, hc⟩
  obtain ⟨ad, rfl, -⟩ := cell 0 (by omega)
  have cl : ∀ j, j < 10 → w.cell? (ad.add j) = some (.int .i64 (xs.getD j 0)) := fun j hj => by
    obtain ⟨ad', e, hc⟩ := cell j hj
    cases e
    exact hc
  have HCL := Lib.hid cl
  have HN := Lib.hid hn
  clear cell hx cl
  go_enter Tryd.func49, Tryd.ntmps49
  go_wp2
  go_loopw [3] (fun ix wr => ∃ k : Nat, ix = .int .i64 (k : Int) ∧ k ≤ 2 ∧ Hid (∀ j, j < k → Mm.Nd (xs.getD j 0)) ∧ Hid (w = wr)) (fun ix _ => 2 - (intOf ix).toNat)
  case atStart => exact ⟨0, rfl, by omega, (fun _ h => absurd h (Nat.not_lt_zero _)), Lib.hid rfl⟩
  case round =>
    obtain ⟨k, rfl, hk, hT, hW⟩ := hrel
    obtain rfl := hW.out
    clear hW
    by_cases hlt : k < 2
    · have hc := HCL.out k (by omega)
      have HK : Hid (Mm.Pn xs → Mm.Nd (xs.getD k 0)) := fun h => by
        match k, hlt with
        | 0, _ => exact h.2.1
        | 1, _ => exact h.2.2.1
      generalize hv : xs.getD k 0 = v at *
      by_cases h1 : v < 0
      · have HE := Lib.hid (Pm.ask_no (fun h => by have := (HK.out h).1; omega))
        clear hv
        go_wp2
        go_ret
        exact ⟨ret_bool HE.out.symm, rfl⟩
      by_cases h2 : 255 < v
      · have HE := Lib.hid (Pm.ask_no (fun h => by have := (HK.out h).2; omega))
        clear hv
        go_wp2
        go_ret
        exact ⟨ret_bool HE.out.symm, rfl⟩
      have hT' : Hid (∀ j, j < k + 1 → Mm.Nd (xs.getD j 0)) := fun j hj => by
        by_cases e : j = k
        · rw [e, hv]; exact ⟨by omega, by omega⟩
        · exact hT.out j (by omega)
      clear hv
      go_wp2
      go_roundw
      case rel => exact ⟨k + 1, by go_num, by omega, hT'.out, by trivial⟩
      case measure => simp [intOf]; omega
    · obtain rfl : k = 2 := by omega
      have c7 := HCL.out 7 (by omega)
      have c8 := HCL.out 8 (by omega)
      have c9 := HCL.out 9 (by omega)
      have HQ : Hid (Pm.ask (Mm.Pn xs) = Pm.ask (0 ≤ xs.getD 7 0 ∧ xs.getD 7 0 ≤ 65535 ∧ 0 ≤ xs.getD 8 0 ∧ xs.getD 8 0 ≤ 1000 ∧ (xs.getD 9 0 = 0 ∨ xs.getD 9 0 = 1))) :=
        congrArg Pm.ask (propext ⟨fun h => h.2.2.2, fun h => ⟨HN.out, hT.out 0 (by omega), hT.out 1 (by omega), h⟩⟩)
      rw [show ad.add 7 = ⟨ad.block, ad.off + 7, none⟩ from rfl] at c7
      rw [show ad.add 8 = ⟨ad.block, ad.off + 8, none⟩ from rfl] at c8
      rw [show ad.add 9 = ⟨ad.block, ad.off + 9, none⟩ from rfl] at c9
      clear HCL HN hT
      generalize xs.getD 7 0 = a at *
      generalize xs.getD 8 0 = b at *
      generalize xs.getD 9 0 = d at *
      have z0 : (d == 0) = decide (d = 0) := by rw [Bool.eq_iff_iff, beq_iff_eq, decide_eq_true_iff]
      have z1 : (d == 1) = decide (d = 1) := by rw [Bool.eq_iff_iff, beq_iff_eq, decide_eq_true_iff]
      by_cases p1 : 0 ≤ a
      case neg =>
        have HE := Lib.hid (HQ.out.trans (Pm.ask_no (fun h => p1 h.1)))
        clear HQ
        go_wp2
        go_ret
        exact ⟨ret_bool HE.out.symm, rfl⟩
      by_cases p2 : a ≤ 65535
      case neg =>
        have HE := Lib.hid (HQ.out.trans (Pm.ask_no (fun h => p2 h.2.1)))
        clear HQ
        go_wp2
        go_ret
        exact ⟨ret_bool HE.out.symm, rfl⟩
      by_cases p3 : 0 ≤ b
      case neg =>
        have HE := Lib.hid (HQ.out.trans (Pm.ask_no (fun h => p3 h.2.2.1)))
        clear HQ
        go_wp2
        go_ret
        exact ⟨ret_bool HE.out.symm, rfl⟩
      by_cases p4 : b ≤ 1000
      case neg =>
        have HE := Lib.hid (HQ.out.trans (Pm.ask_no (fun h => p4 h.2.2.2.1)))
        clear HQ
        go_wp2
        go_ret
        exact ⟨ret_bool HE.out.symm, rfl⟩
      by_cases p5 : d = 0
      · subst p5
        have HE := Lib.hid (HQ.out.trans (Pm.ask_yes ⟨p1, p2, p3, p4, .inl rfl⟩))
        clear HQ
        go_wp2
        go_ret
        exact ⟨ret_bool HE.out.symm, rfl⟩
      by_cases p6 : d = 1
      · subst p6
        have HE := Lib.hid (HQ.out.trans (Pm.ask_yes ⟨p1, p2, p3, p4, .inr rfl⟩))
        clear HQ
        go_wp2
        go_ret
        exact ⟨ret_bool HE.out.symm, rfl⟩
      · have p5' : (d == 0) = false := by rw [z0, decide_eq_false p5]
        have p6' : (d == 1) = false := by rw [z1, decide_eq_false p6]
        have HE := Lib.hid (HQ.out.trans (Pm.ask_no (fun h => h.2.2.2.2.elim p5 p6)))
        clear HQ
        clear z0 z1 p5 p6
        go_wp2
        go_ret
        exact ⟨ret_bool HE.out.symm, rfl⟩
end Go.Proofs.YtpgfnhdaembhmaaDoor
