/- A journal's effect: the program's, with what it does, and the document's. -/
import Derived.Test.YtgpagddaopgdgaaDoorJh
namespace Go.Proofs.YtgpagddaopgdgaaDoor
open Go.RowKit Go.Shelf Km

section
variable {w : World} {S : Nat → Prop} {g : Nat} {s : Jm.St} {kv rv : Value}

theorem callFunc_enter {P : Program} {f : FuncId} {fn : Func} {c : Code} (hf : P.funcs[f]? = some fn) (hname : (fn.name == "runtime.NumGoroutine") = false) (hb : fn.body = some c) (args : Array Value) (w : World) :
    (callFunc f args).run P w = .ok (.enter f args) w := by
  have h1 : fn.name ≠ "runtime.NumGoroutine" := by simpa using hname
  simp [callFunc, hf, h1, hb]

theorem JAt.hid {w' : World} {s' : Jm.St} {kv' rv' : Value} (k : JAt w' S g s' kv' rv') (o : Out S w w') : Hid (JAt w' S g s' kv' rv' ∧ Out S w w') := ⟨k, o⟩

theorem JAt.burned (h : JAt w S g s kv rv) (h0 : 0 < s.burn) : JAt (w.setCell ⟨g, 2, none⟩ (.int .i64 (s.burn - 1))) S g { s with burn := s.burn - 1 } kv rv :=
  h.burn _ ⟨h.ok.k, h.ok.r, (by show -1 ≤ s.burn - 1; omega), (by show s.burn - 1 ≤ _; have := h.ok.hi; omega)⟩

set_option maxRecDepth 100000 in
set_option maxHeartbeats 1000000 in
theorem perform_any {Q : World → Prop} (h : JAt w S g s kv rv) (f : FuncId) (lb : Array Value) (hin : ∀ W, (callFunc f lb).run Tryd.prog W = .ok (.enter f lb) W)
    (hD : (Jm.eff s).2 = 0 → ∀ w', JAt w' S g (Jm.eff s).1 kv rv → Out S w w' → Calls Tryd.prog f lb w' fun e w'' => e = .returned (.tuple #[]) ∧ Q w'')
    (hE : (Jm.eff s).2 ≠ 0 → ∀ w', JAt w' S g (Jm.eff s).1 kv rv → Out S w w' → Q w') :
    Calls Tryd.prog 30 #[.pointer (some ⟨g, 0, none⟩), .func (.func f) #[] lb] w fun e w' => e = .returned (.int .i64 (Jm.eff s).2) ∧ Q w' := by
  obtain ⟨c3, f3⟩ := h.at 3 rfl
  obtain ⟨c2, f2⟩ := h.at 2 rfl
  by_cases h1 : s.off = true
  · rw [Jm.eff_off h1] at hE ⊢
    have HQ := Lib.hid (hE (by show (61 : Int) ≠ 0; decide) w h Out.refl)
    rw [h1] at c3
    clear h hD hE f2 f3
    go_enter Tryd.func30, Tryd.ntmps30
    go_wp2
    go_ret
    exact ⟨rfl, HQ.out⟩
  have h1' : s.off = false := by simpa using h1
  rw [h1'] at c3
  by_cases h2 : s.burn = 0
  · rw [Jm.eff_zero h1' h2] at hE ⊢
    have HQ := Lib.hid (hE (by show (61 : Int) ≠ 0; decide))
    have HF := Lib.hid (fall_any h)
    rw [h2] at c2
    clear h hD hE f2 f3 h1 h1' h2
    go_enter Tryd.func30, Tryd.ntmps30
    go_wp2_with (go_at_call 35; refine HF.out.mono ?_; rintro e w' ⟨rfl, k1, k2⟩)
    go_ret
    exact ⟨rfl, HQ.out _ k1 k2⟩
  by_cases h3 : 0 < s.burn
  · rw [Jm.eff_some h1' h3] at hD ⊢
    have HC := Lib.hid (hD rfl _ (h.burned h3) (h.setOut 2 _))
    have hw : IntKind.i64.wrap (s.burn - 1) = s.burn - 1 := IntWalk.i64_in _ (by have := h.ok.hi; omega)
    have hn : (s.burn == 0) = false := by simpa using h2
    generalize s.burn = n at *
    clear h hD hE f3 h1 h1'
    go_enter Tryd.func30, Tryd.ntmps30
    go_wp2_with (refine HC.out.mono ?_; rintro e w' ⟨rfl, k1⟩)
    go_ret
    exact ⟨rfl, k1⟩
  · rw [Jm.eff_none h1' (by omega)] at hD ⊢
    have HC := Lib.hid (hD rfl _ h Out.refl)
    have hn : (s.burn == 0) = false := by simpa using h2
    generalize s.burn = n at *
    clear h hD hE f3 f2 h1 h1'
    go_enter Tryd.func30, Tryd.ntmps30
    go_wp2_with (refine HC.out.mono ?_; rintro e w' ⟨rfl, k1⟩)
    go_ret
    exact ⟨rfl, k1⟩

set_option maxRecDepth 100000 in
set_option maxHeartbeats 1000000 in
theorem reffect_any (h : JAt w S g s kv rv) :
    Calls Tryd.prog 17 #[.pointer (some ⟨g, 0, none⟩)] w fun e w' => e = .returned (.int .i64 (Jm.eff s).2) ∧ JAt w' S g (Jm.eff s).1 kv rv ∧ Out S w w' := by
  obtain ⟨c3, f3⟩ := h.at 3 rfl
  obtain ⟨c2, f2⟩ := h.at 2 rfl
  by_cases h1 : s.off = true
  · rw [Jm.eff_off h1]
    have HQ := h.hid (w := w) Out.refl
    rw [h1] at c3
    clear h f2 f3
    go_enter Tryd.func17, Tryd.ntmps17
    go_wp2
    go_ret
    exact ⟨rfl, HQ.out⟩
  have h1' : s.off = false := by simpa using h1
  by_cases h2 : s.burn = 0
  · rw [Jm.eff_zero h1' h2]
    have k1 := h.offs true
    have k2 := k1.burn (-1) (Jm.ok_fall k1.ok)
    obtain ⟨d2, g2⟩ := k1.at 2 rfl
    have HQ := k2.hid ((h.setOut 3 (.bool true)).trans ((k1.setOut 2 (.int .i64 (-1))).more fun _ q => .inl q))
    rw [h1'] at c3
    rw [h2] at c2
    clear h h1 h1' h2 k1 k2
    go_enter Tryd.func17, Tryd.ntmps17
    go_wp2
    go_ret
    exact ⟨rfl, HQ.out⟩
  rw [h1'] at c3
  by_cases h3 : 0 < s.burn
  · rw [Jm.eff_some h1' h3]
    have HQ := (h.burned h3).hid (h.setOut 2 (.int .i64 (s.burn - 1)))
    have hw : IntKind.i64.wrap (s.burn - 1) = s.burn - 1 := IntWalk.i64_in _ (by have := h.ok.hi; omega)
    have hn : (s.burn == 0) = false := by simpa using h2
    generalize s.burn = n at *
    clear h f3 h1 h1'
    go_enter Tryd.func17, Tryd.ntmps17
    go_wp2
    go_ret
    exact ⟨rfl, HQ.out⟩
  · rw [Jm.eff_none h1' (by omega)]
    have HQ := h.hid (w := w) Out.refl
    have hn : (s.burn == 0) = false := by simpa using h2
    generalize s.burn = n at *
    clear h f3 f2 h1 h1'
    go_enter Tryd.func17, Tryd.ntmps17
    go_wp2
    go_ret
    exact ⟨rfl, HQ.out⟩

set_option maxRecDepth 100000 in
set_option maxHeartbeats 1000000 in
theorem effect_any (h : JAt w S g s kv rv) :
    Calls Tryd.prog 16 #[.pointer (some ⟨g, 0, none⟩)] w fun e w' => e = .returned (.int .i64 (Jm.eff s).2) ∧ JAt w' S g (Jm.eff s).1 kv rv ∧ Out S w w' := by
  have HC := Lib.hid (perform_any (Q := fun w' => JAt w' S g (Jm.eff s).1 kv rv ∧ Out S w w') h 34 #[] (fun W => callFunc_enter Tryd.func34 rfl rfl _ _)
    (fun _ w' k1 k2 => none_any.mono (by rintro e w'' ⟨rfl, rfl⟩; exact ⟨rfl, k1, k2⟩)) (fun _ w' k1 k2 => ⟨k1, k2⟩))
  clear h
  go_enter Tryd.func16, Tryd.ntmps16
  go_wp2_with (go_at_call 30; refine HC.out.mono ?_; rintro e w' ⟨rfl, k1⟩)
  go_ret
  exact ⟨rfl, k1⟩
end
end Go.Proofs.YtgpagddaopgdgaaDoor
