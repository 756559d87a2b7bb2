/- ProbeLate: what its calls answer. -/
import Derived.Test.YtijbdkeefaaeeaaPe
namespace Go.Proofs.Ytijbdkeefaaeeaa
open Go.RowKit Go.Shelf Km Kx Kc

theorem wf_u8' {a : Int} (h : (Lit.int .u8 a).wf = true) : 0 ≤ a ∧ a ≤ 255 := wf_u8 (xs := [a]) (fun n hn => by rw [List.mem_singleton] at hn; subst hn; exact h) a (List.mem_singleton.2 rfl)
theorem wf_u16' {a : Int} (h : (Lit.int .u16 a).wf = true) : 0 ≤ a ∧ a ≤ 65535 := by
  simpa [Lit.wf, IntKind.min, IntKind.max, IntKind.signed, IntKind.bits] using h

/-- first it is sent, then it is given up -/
theorem late_first (st : Hm.Hy) (nn sc e w n k : Int) (h0 : 0 ≤ n) (h1 : n ≤ 65535) : Pm.tick ⟨n, false, nn, sc, st⟩ e w 2 2 n k = (⟨Pm.bd (n + Pm.bd e), true, k, n, st⟩, true) := by
  rw [Pm.tick_go (Pm.late_no rfl) (by simp [Pm.goes])]
  unfold Pm.sent
  rw [Pm.bd_id h0 (by omega)]
theorem late_second (st : Hm.Hy) (x e w n k o : Int) (h0 : 0 ≤ n) (h1 : n ≤ 65535) (w0 : 1 ≤ w) (w1 : w ≤ 256) :
    ∃ q b, Pm.tick ⟨x, true, k, n, st⟩ e w 2 2 (n + w) o = (q, b) ∧ q.st = Hm.next st false 2 2 ∧ (q.open_ = true → q.nonce = o ∧ b = true) := by
  have hd : Pm.due ⟨x, true, k, n, st⟩ w (n + w) = true := by
    unfold Pm.due
    rw [Pm.bd_id h0 (by omega), Pm.bd_id (n := w) (by omega) (by omega)]
    simp
  by_cases hg : Pm.goes (Pm.shut ⟨x, true, k, n, st⟩ false 2 2) (n + w) = true
  · exact ⟨_, _, Pm.tick_go (Pm.late_yes hd) hg, rfl, fun _ => ⟨rfl, rfl⟩⟩
  · exact ⟨_, _, Pm.tick_no (Pm.late_yes hd) (by simpa using hg), rfl, fun h => by cases h⟩
theorem late_third {q : Pm.Pr} {r f n o : Int} (h : q.open_ = true → q.nonce = o) (hn : n ≠ o) : Pm.alive q r f n = q := by
  by_cases ho : q.open_ = true
  · exact Pm.alive_other (by rw [h ho]; exact hn)
  · exact Pm.alive_shut (by simpa using ho)
theorem late_state (u : Bool) (r : Int) : (Hm.next ⟨u, r⟩ false 2 2 = ⟨true, 1⟩) ∨ u = false ∨ r ≠ 0 := by
  cases u with
  | false => exact .inr (.inl rfl)
  | true =>
    by_cases hr : r = 0
    · subst hr; exact .inl (by decide)
    · exact .inr (.inr hr)
end Go.Proofs.Ytijbdkeefaaeeaa
