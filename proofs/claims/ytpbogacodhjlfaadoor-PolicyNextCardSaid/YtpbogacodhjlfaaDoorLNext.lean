/- PolicyNext, walked. -/
import Derived.Test.YtpbogacodhjlfaaDoorJe
import Derived.Test.YtpbogacodhjlfaaDoorHp
import Derived.Test.YtpbogacodhjlfaaDoorHs
namespace Go.Proofs.YtpbogacodhjlfaaDoor
open Go.RowKit Go.Shelf Km Kx Kc Kt
set_option linter.unusedVariables false

theorem told_few {c : Cf} {xs : List Int} {p q : Gm.Pl} {up : Nat} {now : Int} (h : tell c xs p up now = some q) (hp : p.ch.length ≤ 1000) : q.pen.length ≤ 9000000 ∧ q.ch.length ≤ 9000000 := by
  unfold tell at h
  split at h
  case isFalse => cases h
  case isTrue h1 =>
  obtain ⟨hc, -, -⟩ := h1
  obtain ⟨rfl, -⟩ := Gm.next_some h
  have h3 := hc.targets
  have hn : (gc c xs).n ≤ 16 := by show c.targets.toNat ≤ 16; omega
  refine ⟨by rw [nx_pen']; omega, ?_⟩
  by_cases hm : Gm.May (gc c xs) p (up % 2 ^ (gc c xs).n) (Gm.clamp now p.st)
  · rw [Gm.nx_may hm]
    show (Gm.newCh _ _ _).length ≤ _
    unfold Gm.newCh
    rw [List.length_append, List.length_drop]
    simp only [List.length_cons, List.length_nil]
    omega
  · by_cases hg : Gm.Grows (gc c xs) p (Gm.clamp now p.st)
    · rw [Gm.nx_grow hm hg]; show p.ch.length ≤ _; omega
    · rw [Gm.nx_stay hm hg]; show p.ch.length ≤ _; omega
/-- two answers that tell the same -/
theorem told_two {c : Cf} {xs : List Int} {p : Gm.Pl} {up : Nat} {now : Int} {a q : Pt} {b1 b2 : Bool} (hp : p.ch.length ≤ 1000) (h1 : b1 = true → tell c xs p up now = some a.x) (h2 : b1 = false → tell c xs p up now = none ∧ a.x = noPlan)
    (h3 : b2 = true → tell c xs p up now = some q.x) (h4 : b2 = false → tell c xs p up now = none ∧ q.x = noPlan) (ho : a.Ok) : b1 = b2 ∧ a.x = q.x ∧ a.n ≤ 9000000 ∧ a.n' ≤ 9000000 := by
  have hl : a.x.pen.length ≤ 9000000 ∧ a.x.ch.length ≤ 9000000 → a.n ≤ 9000000 ∧ a.n' ≤ 9000000 := fun h => by rw [ho.n, ho.n'] at h; exact h
  cases b1 with
  | true =>
    have e1 := h1 rfl
    cases b2 with
    | true =>
      have e2 := h3 rfl
      rw [e1] at e2
      exact ⟨rfl, Option.some.inj e2, hl (told_few e1 hp)⟩
    | false => have e2 := (h4 rfl).1; rw [e1] at e2; cases e2
  | false =>
    obtain ⟨e1, e3⟩ := h2 rfl
    cases b2 with
    | true => have e2 := h3 rfl; rw [e1] at e2; cases e2
    | false => exact ⟨rfl, by rw [e3, (h4 rfl).2], hl (by rw [e3]; exact ⟨by decide, by decide⟩)⟩
/-- the zero plan of any config -/
noncomputable def zx (c : Cf) (xs : List Int) : Gm.Pl := open Classical in if ConfP c xs then Gm.zero (gc c xs) else noPlan
theorem zx_of {c : Cf} {xs : List Int} {q : Pt} (h1 : ConfP c xs → q.x = Gm.zero (gc c xs)) (h2 : ¬ ConfP c xs → q.x = noPlan) : q.x = zx c xs := by
  unfold zx
  split
  · rename_i h; exact h1 h
  · rename_i h; exact h2 h
theorem zx_pt (c : Cf) (xs : List Int) : ∃ q : Pt, q.Ok ∧ q.x = zx c xs := by
  unfold zx
  split
  · rename_i h
    exact ⟨⟨Gm.zero (gc c xs), none, (gc c xs).n, 0, none, 0, 0⟩, ⟨zp_ok _, List.length_replicate .., rfl, Nat.le_refl _⟩, rfl⟩
  · exact ⟨noPt, noPt_okm, rfl⟩
theorem zx_few {c : Cf} {xs : List Int} {q : Pt} (ho : q.Ok) (h : q.x = zx c xs) : q.n ≤ 9000000 ∧ q.n' ≤ 9000000 := by
  have h2 : q.x.pen.length ≤ 9000000 ∧ q.x.ch.length ≤ 9000000 := by
    rw [h]
    unfold zx
    split
    · rename_i hc
      have h3 := hc.targets
      refine ⟨?_, by show (0 : Nat) ≤ _; omega⟩
      show (List.replicate _ _).length ≤ _
      rw [List.length_replicate]
      show c.targets.toNat ≤ _
      omega
    · exact ⟨by decide, by decide⟩
  rw [ho.n, ho.n'] at h2
  exact h2

set_option maxRecDepth 100000 in
set_option maxHeartbeats 4000000 in
theorem next_long (c : Cf) (xs : List Int) (y : Pt) (up now : Int) (w : World) (ht : Tabs w) (hl : 1000 < c.tn ∨ 1000 < y.n ∨ 1000 < y.n') :
    Calls Tryd.prog 3 #[.agg (cf c).toArray, .agg y.cells.toArray, .int .u64 up, .int .i64 now] w fun e w' => e = .returned (.bool true) ∧ Below w.heap.size w w' := by
  have HB := Lib.hid (Bxs.start w)
  have HT := Lib.hid ht
  clear ht
  have HCT : Hid ((cf c)[5]? = some (.slice c.ta c.tn c.tc)) := Lib.hid rfl
  have HY1 : Hid (y.cells[10]? = some (.slice y.A y.n y.c)) := Lib.hid rfl
  have HY2 : Hid (y.cells[11]? = some (.slice y.A' y.n' y.c')) := Lib.hid rfl
  by_cases h1 : 1000 < c.tn
  · have d1 : decide ((1000 : Int) < (c.tn : Int)) = true := decide_eq_true (by omega)
    clear h1 hl
    go_enter Tryd.func3, Tryd.ntmps3
    go_wp2_with (first | (go_at_call 4; refine Calls.mono (head_any _ (HT.out.below HB.out.below (Nat.le_refl _))) ?_; rintro e w_ ⟨rfl, hb_⟩; replace HB := Lib.hid (HB.out.call hb_); clear hb_) | (first | ((with_reducible refine Kx.absorb HB ?_); clear HB; intro w_ HB) | ((with_reducible refine Kx.box_gate ?_); (first | refine Kx.boxa HB rfl ?_ | refine Kx.boxt HB rfl rfl ?_ | refine Kx.box1 HB rfl rfl ?_); clear HB; intro b_ w_ HB; refine Kx.fr ?_) | ((with_reducible refine Kx.alloc_gate ?_); (first | refine Kx.ala HB ?_ | refine Kx.al1 HB ?_); clear HB; intro b_ w_ HB; refine Kx.fr ?_) | ((with_reducible refine Kx.loads_gate ?_); first | refine Kx.l1 HB rfl rfl ?_ | refine Kx.la HB rfl ?_ | refine Kx.lo HB rfl HC.out ?_) | ((with_reducible refine Kx.loadg_gate ?_); first | refine Kx.l1g HB rfl rfl rfl ?_ | refine Kx.lag HB rfl rfl ?_ | refine Kx.log HB rfl HC.out rfl ?_) | ((with_reducible refine Kx.store_gate ?_); (first | refine Kx.stwa HB rfl rfl ?_ | refine Kx.sta HB rfl rfl ?_ | refine Kx.stc HB rfl rfl ?_ | refine Kx.stt HB rfl rfl rfl ?_ | refine Kx.st1 HB rfl rfl rfl ?_); clear HB; intro w_ HB)))
    go_ret
    exact ⟨rfl, HB.out.below⟩
  · have d1 : decide ((1000 : Int) < (c.tn : Int)) = false := decide_eq_false (by omega)
    by_cases h2 : 1000 < y.n
    · have d2 : decide ((1000 : Int) < (y.n : Int)) = true := decide_eq_true (by omega)
      clear h1 h2 hl
      go_enter Tryd.func3, Tryd.ntmps3
      go_wp2_with (first | (go_at_call 4; refine Calls.mono (head_any _ (HT.out.below HB.out.below (Nat.le_refl _))) ?_; rintro e w_ ⟨rfl, hb_⟩; replace HB := Lib.hid (HB.out.call hb_); clear hb_) | (first | ((with_reducible refine Kx.absorb HB ?_); clear HB; intro w_ HB) | ((with_reducible refine Kx.box_gate ?_); (first | refine Kx.boxa HB rfl ?_ | refine Kx.boxt HB rfl rfl ?_ | refine Kx.box1 HB rfl rfl ?_); clear HB; intro b_ w_ HB; refine Kx.fr ?_) | ((with_reducible refine Kx.alloc_gate ?_); (first | refine Kx.ala HB ?_ | refine Kx.al1 HB ?_); clear HB; intro b_ w_ HB; refine Kx.fr ?_) | ((with_reducible refine Kx.loads_gate ?_); first | refine Kx.l1 HB rfl rfl ?_ | refine Kx.la HB rfl ?_ | refine Kx.lo HB rfl HC.out ?_) | ((with_reducible refine Kx.loadg_gate ?_); first | refine Kx.l1g HB rfl rfl rfl ?_ | refine Kx.lag HB rfl rfl ?_ | refine Kx.log HB rfl HC.out rfl ?_) | ((with_reducible refine Kx.store_gate ?_); (first | refine Kx.stwa HB rfl rfl ?_ | refine Kx.sta HB rfl rfl ?_ | refine Kx.stc HB rfl rfl ?_ | refine Kx.stt HB rfl rfl rfl ?_ | refine Kx.st1 HB rfl rfl rfl ?_); clear HB; intro w_ HB)))
      go_ret
      exact ⟨rfl, HB.out.below⟩
    · have d2 : decide ((1000 : Int) < (y.n : Int)) = false := decide_eq_false (by omega)
      have d3 : decide ((1000 : Int) < (y.n' : Int)) = true := decide_eq_true (by omega)
      clear h1 h2 hl
      go_enter Tryd.func3, Tryd.ntmps3
      go_wp2_with (first | (go_at_call 4; refine Calls.mono (head_any _ (HT.out.below HB.out.below (Nat.le_refl _))) ?_; rintro e w_ ⟨rfl, hb_⟩; replace HB := Lib.hid (HB.out.call hb_); clear hb_) | (first | ((with_reducible refine Kx.absorb HB ?_); clear HB; intro w_ HB) | ((with_reducible refine Kx.box_gate ?_); (first | refine Kx.boxa HB rfl ?_ | refine Kx.boxt HB rfl rfl ?_ | refine Kx.box1 HB rfl rfl ?_); clear HB; intro b_ w_ HB; refine Kx.fr ?_) | ((with_reducible refine Kx.alloc_gate ?_); (first | refine Kx.ala HB ?_ | refine Kx.al1 HB ?_); clear HB; intro b_ w_ HB; refine Kx.fr ?_) | ((with_reducible refine Kx.loads_gate ?_); first | refine Kx.l1 HB rfl rfl ?_ | refine Kx.la HB rfl ?_ | refine Kx.lo HB rfl HC.out ?_) | ((with_reducible refine Kx.loadg_gate ?_); first | refine Kx.l1g HB rfl rfl rfl ?_ | refine Kx.lag HB rfl rfl ?_ | refine Kx.log HB rfl HC.out rfl ?_) | ((with_reducible refine Kx.store_gate ?_); (first | refine Kx.stwa HB rfl rfl ?_ | refine Kx.sta HB rfl rfl ?_ | refine Kx.stc HB rfl rfl ?_ | refine Kx.stt HB rfl rfl rfl ?_ | refine Kx.st1 HB rfl rfl rfl ?_); clear HB; intro w_ HB)))
      go_ret
      exact ⟨rfl, HB.out.below⟩

set_option maxRecDepth 100000 in
set_option maxHeartbeats 8000000 in
theorem next_walk (y0 : Cf × List Int) (y : Pt) (a2 now : Int) (w : World) (hc : CfAt w y0.1 y0.2) (hp : PAt w w.heap.size y.x y.A y.n y.c y.A' y.n' y.c') (w2 : (Lit.int .u64 a2).wf = true) (w3 : (Lit.int .i64 now).wf = true) (ht : Tabs w) :
    Calls Tryd.prog 3 #[.agg (cf y0.1).toArray, .agg y.cells.toArray, .int .u64 a2, .int .i64 now] w fun e w' => e = .returned (.bool true) ∧ Below w.heap.size w w' := by
  obtain ⟨c, xs⟩ := y0
  dsimp only at hc ⊢
  by_cases hlong : 1000 < c.tn ∨ 1000 < y.n ∨ 1000 < y.n'
  · exact next_long c xs y a2 now w ht hlong
  have hin := wf_i64 w3
  obtain ⟨up, rfl, hup⟩ : ∃ up : Nat, a2 = (up : Int) ∧ up < 18446744073709551616 := by
    have h : 0 ≤ a2 ∧ a2 ≤ 18446744073709551615 := by simpa [Lit.wf, IntKind.min, IntKind.max, IntKind.signed, IntKind.bits] using w2
    exact ⟨a2.toNat, by omega, by omega⟩
  have d1 : decide ((1000 : Int) < (c.tn : Int)) = false := decide_eq_false (by omega)
  have d2 : decide ((1000 : Int) < (y.n : Int)) = false := decide_eq_false (by omega)
  have d3 : decide ((1000 : Int) < (y.n' : Int)) = false := decide_eq_false (by omega)
  have hn : y.n ≤ 1000 ∧ y.n' ≤ 1000 := by omega
  have HB0 := Bxs.start w
  have HB := Lib.hid (((HB0.stayOld hp.ch).stayOld hp.pen).stayOld hc.rd)
  have hyo : y.Ok := ⟨hp.ok, hp.n, hp.n', hp.k'⟩
  have HCT : Hid ((cf c)[5]? = some (.slice c.ta c.tn c.tc)) := Lib.hid rfl
  have HT := Lib.hid ht
  have HL := Lib.hid hc.len
  have HY := Lib.hid (⟨hyo, hn, hup, hin, by rw [hyo.n']; omega⟩ : y.Ok ∧ _ ∧ _ ∧ _ ∧ y.x.ch.length ≤ 1000)
  clear hlong hin hup hn HB0 hyo hc hp w2 w3 ht
  go_enter Tryd.func3, Tryd.ntmps3
  go_wp2_with (first | (go_at_call 5; fail) | (go_at_call 4; refine Calls.mono (head_any _ (HT.out.below HB.out.below (Nat.le_refl _))) ?_; rintro e w_ ⟨rfl, hb_⟩; replace HB := Lib.hid (HB.out.call hb_); clear hb_) | (first | ((with_reducible refine Kx.absorb HB ?_); clear HB; intro w_ HB) | ((with_reducible refine Kx.box_gate (d := some 4) ?_); (first | refine Kx.boxa HB rfl ?_ | refine Kx.boxt HB rfl rfl ?_ | refine Kx.box1 HB rfl rfl ?_); clear HB; intro b4 w_ HB; refine Kx.fr ?_) | ((with_reducible refine Kx.alloc_gate (d := some 4) ?_); (first | refine Kx.ala HB ?_ | refine Kx.al1 HB ?_); clear HB; intro b4 w_ HB; refine Kx.fr ?_) | ((with_reducible refine Kx.box_gate (d := some 5) ?_); (first | refine Kx.boxa HB rfl ?_ | refine Kx.boxt HB rfl rfl ?_ | refine Kx.box1 HB rfl rfl ?_); clear HB; intro b5 w_ HB; refine Kx.fr ?_) | ((with_reducible refine Kx.alloc_gate (d := some 5) ?_); (first | refine Kx.ala HB ?_ | refine Kx.al1 HB ?_); clear HB; intro b5 w_ HB; refine Kx.fr ?_) | ((with_reducible refine Kx.box_gate ?_); (first | refine Kx.boxa HB rfl ?_ | refine Kx.boxt HB rfl rfl ?_ | refine Kx.box1 HB rfl rfl ?_); clear HB; intro b_ w_ HB; refine Kx.fr ?_) | ((with_reducible refine Kx.alloc_gate ?_); (first | refine Kx.ala HB ?_ | refine Kx.al1 HB ?_); clear HB; intro b_ w_ HB; refine Kx.fr ?_) | ((with_reducible refine Kx.loads_gate ?_); first | refine Kx.l1 HB rfl rfl ?_ | refine Kx.la HB rfl ?_ | refine Kx.lo HB rfl HC.out ?_) | ((with_reducible refine Kx.loadg_gate ?_); first | refine Kx.l1g HB rfl rfl rfl ?_ | refine Kx.lag HB rfl rfl ?_ | refine Kx.log HB rfl HC.out rfl ?_) | ((with_reducible refine Kx.store_gate ?_); (first | refine Kx.stwa HB rfl rfl ?_ | refine Kx.sta HB rfl rfl ?_ | refine Kx.stc HB rfl rfl ?_ | refine Kx.stt HB rfl rfl rfl ?_ | refine Kx.st1 HB rfl rfl rfl ?_); clear HB; intro w_ HB)))
  refine (PNext_any c xs y up now _ (HT.out.below HB.out.below (Nat.le_refl _)) (HB.out.stayRdM (List.mem_cons_self ..)) HL.out (HY.out.1.stays HB.out (fun q hq => List.mem_cons_of_mem _ hq)) HY.out.2.1 HY.out.2.2.1 HY.out.2.2.2.1).mono ?_
  rintro e w1 ⟨a, b1, rfl, hb_, n1, n2, aok, yes1, no1⟩
  replace HB := Lib.hid (HB.out.stayNew2 hb_ n1 n2 (fun q hq => List.mem_cons_of_mem _ hq))
  have HA := Lib.hid (⟨aok, yes1, no1⟩ : _ ∧ _ ∧ _)
  clear hb_ n1 n2 aok yes1 no1
  go_wp2_with (first | (go_at_call 6; fail) | (first | ((with_reducible refine Kx.absorb HB ?_); clear HB; intro w_ HB) | ((with_reducible refine Kx.box_gate (d := some 10) ?_); (first | refine Kx.boxa HB rfl ?_ | refine Kx.boxt HB rfl rfl ?_ | refine Kx.box1 HB rfl rfl ?_); clear HB; intro b10 w_ HB; refine Kx.fr ?_) | ((with_reducible refine Kx.alloc_gate (d := some 10) ?_); (first | refine Kx.ala HB ?_ | refine Kx.al1 HB ?_); clear HB; intro b10 w_ HB; refine Kx.fr ?_) | ((with_reducible refine Kx.box_gate ?_); (first | refine Kx.boxa HB rfl ?_ | refine Kx.boxt HB rfl rfl ?_ | refine Kx.box1 HB rfl rfl ?_); clear HB; intro b_ w_ HB; refine Kx.fr ?_) | ((with_reducible refine Kx.alloc_gate ?_); (first | refine Kx.ala HB ?_ | refine Kx.al1 HB ?_); clear HB; intro b_ w_ HB; refine Kx.fr ?_) | ((with_reducible refine Kx.loads_gate ?_); first | refine Kx.l1 HB rfl rfl ?_ | refine Kx.la HB rfl ?_ | refine Kx.lo HB rfl HC.out ?_) | ((with_reducible refine Kx.loadg_gate ?_); first | refine Kx.l1g HB rfl rfl rfl ?_ | refine Kx.lag HB rfl rfl ?_ | refine Kx.log HB rfl HC.out rfl ?_) | ((with_reducible refine Kx.store_gate ?_); (first | refine Kx.stwa HB rfl rfl ?_ | refine Kx.sta HB rfl rfl ?_ | refine Kx.stc HB rfl rfl ?_ | refine Kx.stt HB rfl rfl rfl ?_ | refine Kx.st1 HB rfl rfl rfl ?_); clear HB; intro w_ HB)))
  refine (RNext_any c xs y up now _ (HB.out.stayRdM (List.mem_append_right a.fz (List.mem_cons_self ..))) HL.out (HY.out.1.stays HB.out (fun q hq => List.mem_append_right a.fz (List.mem_cons_of_mem _ hq))) HY.out.2.1 HY.out.2.2.1 HY.out.2.2.2.1).mono ?_
  rintro e w2 ⟨b, b2, rfl, hb_, n1, n2, bok, yes2, no2⟩
  replace HB := Lib.hid (HB.out.stayNew2 hb_ n1 n2 (fun q hq => List.mem_append_right a.fz (List.mem_cons_of_mem _ hq)))
  obtain ⟨rfl, hab, ha1⟩ := told_two HY.out.2.2.2.2 HA.out.2.1 HA.out.2.2 yes2 no2 HA.out.1
  have HAB := Lib.hid (⟨HA.out.1, bok, hab, ha1⟩ : a.Ok ∧ b.Ok ∧ _ ∧ _)
  clear hb_ n1 n2 bok yes2 no2 hab ha1 HA
  go_wp2_with (first | (go_at_call 7; fail) | (first | ((with_reducible refine Kx.absorb HB ?_); clear HB; intro w_ HB) | ((with_reducible refine Kx.box_gate (d := some 12) ?_); (first | refine Kx.boxa HB rfl ?_ | refine Kx.boxt HB rfl rfl ?_ | refine Kx.box1 HB rfl rfl ?_); clear HB; intro b12 w_ HB; refine Kx.fr ?_) | ((with_reducible refine Kx.alloc_gate (d := some 12) ?_); (first | refine Kx.ala HB ?_ | refine Kx.al1 HB ?_); clear HB; intro b12 w_ HB; refine Kx.fr ?_) | ((with_reducible refine Kx.box_gate ?_); (first | refine Kx.boxa HB rfl ?_ | refine Kx.boxt HB rfl rfl ?_ | refine Kx.box1 HB rfl rfl ?_); clear HB; intro b_ w_ HB; refine Kx.fr ?_) | ((with_reducible refine Kx.alloc_gate ?_); (first | refine Kx.ala HB ?_ | refine Kx.al1 HB ?_); clear HB; intro b_ w_ HB; refine Kx.fr ?_) | ((with_reducible refine Kx.loads_gate ?_); first | refine Kx.l1 HB rfl rfl ?_ | refine Kx.la HB rfl ?_ | refine Kx.lo HB rfl HC.out ?_) | ((with_reducible refine Kx.loadg_gate ?_); first | refine Kx.l1g HB rfl rfl rfl ?_ | refine Kx.lag HB rfl rfl ?_ | refine Kx.log HB rfl HC.out rfl ?_) | ((with_reducible refine Kx.store_gate ?_); (first | refine Kx.stwa HB rfl rfl ?_ | refine Kx.sta HB rfl rfl ?_ | refine Kx.stc HB rfl rfl ?_ | refine Kx.stt HB rfl rfl rfl ?_ | refine Kx.st1 HB rfl rfl rfl ?_); clear HB; intro w_ HB)))
  obtain ⟨F, HB2, HF1, HF2, HF3⟩ : ∃ F, Hid (Bxs w _ [(b12, b.cells), (b10, a.cells), (b5, y.cells), (b4, cf c)] [] F) ∧ Hid ((c.ta, i64s xs) ∈ F) ∧ Hid (∀ q ∈ a.fz, q ∈ F) ∧ Hid (∀ q ∈ b.fz, q ∈ F) :=
    ⟨_, HB, Lib.hid (List.mem_append_right b.fz (List.mem_append_right a.fz (List.mem_cons_self ..))), Lib.hid (fun q hq => List.mem_append_right b.fz (List.mem_append_left _ hq)), Lib.hid (fun q hq => List.mem_append_left _ hq)⟩
  clear HB
  have HB := HB2
  clear HB2
  obtain ⟨z0, hz0⟩ := zx_pt c xs
  have HZ0 := Lib.hid hz0
  have HS : Hid (∀ q p : Pt, q.Ok ∧ q.x = zx c xs → p.Ok ∧ p.x = zx c xs → ∀ W, Bxs w W [(b12, b.cells), (b10, a.cells), (b5, y.cells), (b4, cf c)] [] (p.fz ++ (q.fz ++ F)) → Calls Tryd.prog 9 #[.agg q.cells.toArray, .agg p.cells.toArray] W fun e w' => e = .returned (.bool true) ∧ Below W.heap.size W w') := Lib.hid (fun q p hq hp W hW =>
    PSame_eq q p (by rw [hq.2, hp.2]) W (hq.1.stays hW (fun z hz => List.mem_append_right _ (List.mem_append_left _ hz))) (hp.1.stays hW (fun z hz => List.mem_append_left _ hz)) (zx_few hq.1 hq.2))
  have HS2 : Hid (∀ q p : Pt, ∀ W, Bxs w W [(b12, b.cells), (b10, a.cells), (b5, y.cells), (b4, cf c)] [] (p.fz ++ (q.fz ++ F)) → Calls Tryd.prog 9 #[.agg a.cells.toArray, .agg b.cells.toArray] W fun e w' => e = .returned (.bool true) ∧ Below W.heap.size W w') := Lib.hid (fun q p W hW =>
    PSame_eq a b HAB.out.2.2.1 W (HAB.out.1.stays hW (fun z hz => List.mem_append_right _ (List.mem_append_right _ (HF2.out z hz)))) (HAB.out.2.1.stays hW (fun z hz => List.mem_append_right _ (List.mem_append_right _ (HF3.out z hz)))) HAB.out.2.2.2)
  have H1 : Hid (∀ W, Bxs w W [(b12, b.cells), (b10, a.cells), (b5, y.cells), (b4, cf c)] [] F → Calls Tryd.prog 7 #[.agg (cf c).toArray] W fun e w' => e = .returned (.bool (rightB c xs)) ∧ Below W.heap.size W w') := Lib.hid (fun W hW => PRight_b c xs W (hW.stayRdM HF1.out) HL.out)
  have H2 : Hid (∀ W, Bxs w W [(b12, b.cells), (b10, a.cells), (b5, y.cells), (b4, cf c)] [] F → Calls Tryd.prog 8 #[.agg (cf c).toArray] W fun e w' => e = .returned (.bool (rightB c xs)) ∧ Below W.heap.size W w') := Lib.hid (fun W hW => (R13Right_any c xs W.heap.size W (hW.stayRdM HF1.out) (Nat.le_refl _) HL.out).mono fun e w' h => says_of h _ (right_iff c xs))
  have H3 : Hid (∀ W, Bxs w W [(b12, b.cells), (b10, a.cells), (b5, y.cells), (b4, cf c)] [] F → Calls Tryd.prog 10 #[.agg (cf c).toArray] W (ZeroSays W c xs)) := Lib.hid (fun W hW => PZero_any c xs W (HT.out.below hW.below (Nat.le_refl _)) (hW.stayRdM HF1.out) HL.out)
  have H4 : Hid (∀ (q : Pt) W, Bxs w W [(b12, b.cells), (b10, a.cells), (b5, y.cells), (b4, cf c)] [] (q.fz ++ F) → Calls Tryd.prog 11 #[.agg (cf c).toArray] W (ZeroSays W c xs)) := Lib.hid (fun q W hW => RZero_any c xs W (hW.stayRdM (List.mem_append_right _ HF1.out)) HL.out)
  clear hz0 HY
  generalize rightB c xs = rb at *
  refine Kx.region_x HB (fun i => false) (by kernel_rfl) ?_
  refine Kx.tk 0 rfl ?_
  refine Kx.tk 1 rfl ?_
  first | refine Kx.xl1 2 rfl rfl rfl ?_ | refine Kx.xla 2 rfl rfl ?_ | refine Kx.xlo 2 rfl rfl HC.out ?_
  first | refine Kx.xl1 4 rfl rfl rfl ?_ | refine Kx.xla 4 rfl rfl ?_ | refine Kx.xlo 4 rfl rfl HC.out ?_
  refine anyW_call (i := 3) (v := ?v3_10) (f := ?g3_10) (args := ?s3_10) (a' := ?a3_10) (by first | exact Kx.bears_x | exact bears_u | assumption) rfl (by kernel_rfl) (by kernel_rfl) (by kernel_rfl) (fun _ _ _ h => h) (by kernel_rfl) ?c3_10 ?w3_10 ?y3_10 ?f3_10 ?r3_10
  case w3_10 => kernel_rfl
  case y3_10 => (intro W hW; go_simp; first | (refine ⟨?_, ?_⟩ <;> with_reducible rfl) | with_reducible rfl)
  case c3_10 => (intro W hW; refine Calls.mono (H1.out W hW) ?_; rintro e w_ ⟨rfl, hb_⟩; refine ⟨?_, by first | exact hb_ | exact hb_ ▸ Below.refl _ _⟩; with_reducible rfl)
  case f3_10 => (go_simp; try with_reducible rfl)
  refine anyW_call (i := 5) (v := ?v5_11) (f := ?g5_11) (args := ?s5_11) (a' := ?a5_11) (by first | exact Kx.bears_x | exact bears_u | assumption) rfl (by kernel_rfl) (by kernel_rfl) (by kernel_rfl) (fun _ _ _ h => h) (by kernel_rfl) ?c5_11 ?w5_11 ?y5_11 ?f5_11 ?r5_11
  case w5_11 => kernel_rfl
  case y5_11 => (intro W hW; go_simp; first | (refine ⟨?_, ?_⟩ <;> with_reducible rfl) | with_reducible rfl)
  case c5_11 => (intro W hW; refine Calls.mono (H2.out W hW) ?_; rintro e w_ ⟨rfl, hb_⟩; refine ⟨?_, by first | exact hb_ | exact hb_ ▸ Below.refl _ _⟩; with_reducible rfl)
  case f5_11 => (go_simp; try with_reducible rfl)
  refine Kx.tk 6 rfl ?_
  refine Kx.tk 7 rfl ?_
  refine Kx.tk 8 rfl ?_
  first | refine Kx.xl1 9 rfl rfl rfl ?_ | refine Kx.xla 9 rfl rfl ?_ | refine Kx.xlo 9 rfl rfl HC.out ?_
  first | refine Kx.xl1 11 rfl rfl rfl ?_ | refine Kx.xla 11 rfl rfl ?_ | refine Kx.xlo 11 rfl rfl HC.out ?_
  refine anyW_at (i := 10) (by kernel_rfl) ?three
  case three =>
  refine AtW.call (α := {q : Pt // q.Ok ∧ q.x = zx c xs}) ⟨z0, HZ0.out⟩ (fun q => .agg q.1.cells.toArray) (fun q w' => Bxs w w' [(b12, b.cells), (b10, a.cells), (b5, y.cells), (b4, cf c)] [] (q.1.fz ++ F)) (fun q => bears_x) (fun q W k => k.stayLess (fun z hz => List.mem_append_right _ hz)) (f := ?g1) (args := ?s1) rfl (by kernel_rfl) 58 rfl ?y1 ?c1 ?r1
  case y1 => (intro W hW; go_simp; first | (refine ⟨?_, ?_⟩ <;> with_reducible rfl) | with_reducible rfl)
  case c1 =>
    intro W hW
    refine (H3.out W hW).mono ?_
    rintro e w' ⟨q, rfl, hb, n1, n2, ok, e1, e2⟩
    exact ⟨⟨q, ok, zx_of e1 e2⟩, rfl, hW.stayNew2 hb n1 n2 (fun q' hq => by cases hq)⟩
  case r1 =>
  rintro ⟨q, hq⟩
  dsimp only
  refine Kx.framedW (by simp only [Act.put, List.setIfInBounds_toArray, List.set_cons_succ, List.set_cons_zero] <;> rfl) ?_
  refine anyW_at (i := 12) (by kernel_rfl) ?four
  case four =>
  refine AtW.call (α := {q : Pt // q.Ok ∧ q.x = zx c xs}) ⟨z0, HZ0.out⟩ (fun p => .agg p.1.cells.toArray) (fun p w' => Bxs w w' [(b12, b.cells), (b10, a.cells), (b5, y.cells), (b4, cf c)] [] (p.1.fz ++ (q.fz ++ F))) (fun q => bears_x) (fun q W k => k.stayLess (fun z hz => List.mem_append_right _ hz)) (f := ?g2) (args := ?s2) rfl (by kernel_rfl) 60 rfl ?y2 ?c2 ?r2
  case y2 => (intro W hW; go_simp; first | (refine ⟨?_, ?_⟩ <;> with_reducible rfl) | with_reducible rfl)
  case c2 =>
    intro W hW
    refine (H4.out q W hW).mono ?_
    rintro e w' ⟨p, rfl, hb, n1, n2, ok, e1, e2⟩
    exact ⟨⟨p, ok, zx_of e1 e2⟩, rfl, hW.stayNew2 hb n1 n2 (fun q' hq => by cases hq)⟩
  case r2 =>
  rintro ⟨p, hp⟩
  dsimp only
  refine Kx.framedW (by simp only [Act.put, List.setIfInBounds_toArray, List.set_cons_succ, List.set_cons_zero] <;> rfl) ?_
  refine anyW_call (i := 13) (v := ?v13_12) (f := ?g13_12) (args := ?s13_12) (a' := ?a13_12) (by first | exact Kx.bears_x | exact bears_u | assumption) rfl (by kernel_rfl) (by kernel_rfl) (by kernel_rfl) (fun _ _ _ h => h) (by kernel_rfl) ?c13_12 ?w13_12 ?y13_12 ?f13_12 ?r13_12
  case w13_12 => kernel_rfl
  case y13_12 => (intro W hW; go_simp; first | (refine ⟨?_, ?_⟩ <;> with_reducible rfl) | with_reducible rfl)
  case c13_12 => (intro W hW; refine Calls.mono (HS.out q p hq hp W hW) ?_; rintro e w_ ⟨rfl, hb_⟩; refine ⟨?_, by first | exact hb_ | exact hb_ ▸ Below.refl _ _⟩; with_reducible rfl)
  case f13_12 => (go_simp; try with_reducible rfl)
  refine Kx.tk 14 rfl ?_
  refine Kx.tk 15 rfl ?_
  refine Kx.tk 16 rfl ?_
  refine Kx.tk 17 rfl ?_
  refine Kx.tk 18 rfl ?_
  refine Kx.tk 19 rfl ?_
  refine Kx.tk 20 rfl ?_
  first | refine Kx.xl1 21 rfl rfl rfl ?_ | refine Kx.xla 21 rfl rfl ?_ | refine Kx.xlo 21 rfl rfl HC.out ?_
  first | refine Kx.xl1 22 rfl rfl rfl ?_ | refine Kx.xla 22 rfl rfl ?_ | refine Kx.xlo 22 rfl rfl HC.out ?_
  refine anyW_call (i := 23) (v := ?v23_13) (f := ?g23_13) (args := ?s23_13) (a' := ?a23_13) (by first | exact Kx.bears_x | exact bears_u | assumption) rfl (by kernel_rfl) (by kernel_rfl) (by kernel_rfl) (fun _ _ _ h => h) (by kernel_rfl) ?c23_13 ?w23_13 ?y23_13 ?f23_13 ?r23_13
  case w23_13 => kernel_rfl
  case y23_13 => (intro W hW; go_simp; first | (refine ⟨?_, ?_⟩ <;> with_reducible rfl) | with_reducible rfl)
  case c23_13 => (intro W hW; refine Calls.mono (HS2.out q p W hW) ?_; rintro e w_ ⟨rfl, hb_⟩; refine ⟨?_, by first | exact hb_ | exact hb_ ▸ Below.refl _ _⟩; with_reducible rfl)
  case f23_13 => (go_simp; try with_reducible rfl)
  refine Kx.tk 24 rfl ?_
  refine Kx.tk 25 rfl ?_
  refine anyW_done (by kernel_rfl) ?_
  clear HB
  intro w_ HB_
  have HB := Lib.hid HB_
  clear HB_
  go_wp2_with fail
  go_ret
  exact ⟨rfl, HB.out.below⟩
end Go.Proofs.YtpbogacodhjlfaaDoor
