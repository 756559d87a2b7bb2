/- A region that draws its order, told over a class of worlds C, further: some operations (D), that wait for all the others, may leave C. No program in it. -/
import Derived.Test.YtdcdlnmgbgeeeaaDoorKitD
namespace Go.Proofs.YtdcdlnmgbgeeeaaDoor
open Go

section
variable {P : Program} {ops : Array Oper} {md : Region.Mode} {Q : Exit → Act → World → Prop} {C : World → Prop} {D : Nat → Bool}

/-- whichever order comes: each operation leaves a world of C, or is one of D, and at the end Q holds -/
def anyE (P : Program) (md : Region.Mode) (ops : Array Oper) (Q : Exit → Act → World → Prop) (C : World → Prop) (D : Nat → Bool) : Nat → Array Bool → Act → World → Prop
  | 0, listed, a, w => Region.ready md ops listed = [] ∧ Q .normal a w
  | n + 1, listed, a, w => (Region.ready md ops listed = [] → Q .normal a w) ∧
      ∀ i ∈ Region.ready md ops listed, wpOp P ops Q i (fun a' w' => (D i = true ∨ C w') ∧ anyE P md ops Q C D n (listed.setIfInBounds i true) a' w') a w

theorem any_of_E : ∀ (n : Nat) (listed : Array Bool) (a : Act) (w : World), anyE P md ops Q C D n listed a w → wpAny P md ops Q n listed a w
  | 0, _, _, _, h => h
  | n + 1, _, _, _, h => ⟨h.1, fun i hi => wpOp_mono (fun _ _ k => any_of_E n _ _ _ k.2) (h.2 i hi)⟩

/-- the operations of D wait for operation i -/
def waits (md : Region.Mode) (ops : Array Oper) (D : Nat → Bool) (i : Nat) : Bool :=
  !D i && (List.range ops.size).all fun j => !D j || (match ops[j]? with | some oj => oj.after.toList.any (fun e => Region.binds md e && e.on == i) | none => true)

theorem waits_spec {i : Nat} (h : waits md ops D i = true) : D i = false ∧ ∀ j oj, ops[j]? = some oj → D j = true → ∃ e ∈ oj.after, Region.binds md e = true ∧ e.on = i := by
  unfold waits at h
  rw [Bool.and_eq_true, List.all_eq_true] at h
  refine ⟨by simpa using h.1, fun j oj hj hd => ?_⟩
  have hlt : j < ops.size := (Array.getElem?_eq_some_iff.1 hj).1
  have h2 := h.2 j (List.mem_range.2 hlt)
  rw [hd, hj] at h2
  simp only [Bool.not_true, Bool.false_or, List.any_eq_true, Bool.and_eq_true, beq_iff_eq] at h2
  obtain ⟨e, he, hb, ho⟩ := h2
  exact ⟨e, by simpa using he, hb, ho⟩

theorem anyE_first {i : Nat} {oi : Oper} {v : Value} (hi : ops[i]? = some oi) (hs : ∀ (j : Nat) (o : Oper) cs b, ops[j]? = some o → o.op ≠ .select cs b)
    (hQ : ∀ c a w, Q (.panic c) (a.put oi.dst v) w → Q (.panic c) a w) (hwt : waits md ops D i = true) :
    ∀ (n : Nat) (listed : Array Bool) (a : Act) (w : World), C w →
      (∀ j oj, ops[j]? = some oj → j ≠ i → listed.getD j true = false → (∀ e ∈ oj.after, Region.binds md e = true → e.on ≠ i) → oi.apart ops oj = true) →
      i ∈ Region.ready md ops listed → Tells C P ops oi v a → anyE P md ops Q C D n (listed.setIfInBounds i true) (a.put oi.dst v) w → anyE P md ops Q C D (n + 1) listed a w := by
  intro n
  induction n with
  | zero =>
    intro listed a w hw hap hr hy h
    refine ⟨fun e => absurd hr (by rw [e]; exact List.not_mem_nil), fun j hj => ?_⟩
    by_cases e : j = i
    · subst e; exact hy.here hi hw ⟨.inr hw, h⟩
    · exact absurd (ready_mono hj e) (by rw [h.1]; exact List.not_mem_nil)
  | succ n ih =>
    intro listed a w hw hap hr hy h
    refine ⟨fun e => absurd hr (by rw [e]; exact List.not_mem_nil), fun j hj => ?_⟩
    by_cases e : j = i
    · subst e; exact hy.here hi hw ⟨.inr hw, h⟩
    obtain ⟨hun, oj, hoj, hall⟩ := mem_ready.1 hj
    have hun2 := (mem_ready.1 hr).1
    have hoff : ∀ x ∈ oj.after, Region.binds md x = true → x.on ≠ i := fun x hx hb he => by
      have h1 := hall x hx hb
      rw [he] at h1
      by_cases hlt : i < listed.size
      · simp only [Array.getD_eq_getD_getElem?, Array.getElem?_eq_getElem hlt, Option.getD_some] at h1 hun2
        rw [h1] at hun2
        cases hun2
      · simp [Array.getElem?_eq_none (Nat.le_of_not_lt hlt)] at h1
    have hdj : D j = false := by
      cases hd : D j with
      | false => rfl
      | true =>
        obtain ⟨x, hx, hb, ho⟩ := (waits_spec hwt).2 j oj hoj hd
        exact absurd ho (hoff x hx hb)
    refine wpOp_mono (fun a' w' k => ⟨k.2.1, ih _ a' w' (k.2.1.resolve_left (by rw [hdj]; decide)) (fun m om hm hmi hmu hmo => hap m om hm hmi ?_ hmo) (ready_mono hr (Ne.symm e)) k.1 ?_⟩)
      (hy.swap hoj (hap j oj hoj e hun hoff) (fun cs b => hs i oi cs b hi) (fun cs b => hs j oj cs b hoj) hQ (h.2 j (ready_mono hj e)))
    · by_cases hjm : j = m
      · subst hjm; exact hun
      · rwa [getD_set_ne true hjm] at hmu
    · rw [Array.setIfInBounds_comm _ _ e]
      exact k.2.2

theorem anyE_firstBy {i : Nat} {oi : Oper} {v : Value} (hi : ops[i]? = some oi) (hs : ∀ (j : Nat) (o : Oper) cs b, ops[j]? = some o → o.op ≠ .select cs b)
    (hQ : ∀ c a w, Q (.panic c) (a.put oi.dst v) w → Q (.panic c) a w) (hwt : waits md ops D i = true) :
    ∀ (n : Nat) (listed : Array Bool) (a : Act) (w : World), C w →
      (∀ j oj, ops[j]? = some oj → j ≠ i → listed.getD j true = false → (∀ e ∈ oj.after, Region.binds md e = true → e.on ≠ i) → oi.apart ops oj = true) →
      i ∈ Region.ready md ops listed → TellsBy C P ops oi v a → anyE P md ops Q C D n (listed.setIfInBounds i true) (a.put oi.dst v) w → anyE P md ops Q C D (n + 1) listed a w := by
  intro n
  induction n with
  | zero =>
    intro listed a w hw hap hr hy h
    refine ⟨fun e => absurd hr (by rw [e]; exact List.not_mem_nil), fun j hj => ?_⟩
    by_cases e : j = i
    · subst e; exact hy.here hi hw ⟨.inr hw, h⟩
    · exact absurd (ready_mono hj e) (by rw [h.1]; exact List.not_mem_nil)
  | succ n ih =>
    intro listed a w hw hap hr hy h
    refine ⟨fun e => absurd hr (by rw [e]; exact List.not_mem_nil), fun j hj => ?_⟩
    by_cases e : j = i
    · subst e; exact hy.here hi hw ⟨.inr hw, h⟩
    obtain ⟨hun, oj, hoj, hall⟩ := mem_ready.1 hj
    have hun2 := (mem_ready.1 hr).1
    have hoff : ∀ x ∈ oj.after, Region.binds md x = true → x.on ≠ i := fun x hx hb he => by
      have h1 := hall x hx hb
      rw [he] at h1
      by_cases hlt : i < listed.size
      · simp only [Array.getD_eq_getD_getElem?, Array.getElem?_eq_getElem hlt, Option.getD_some] at h1 hun2
        rw [h1] at hun2
        cases hun2
      · simp [Array.getElem?_eq_none (Nat.le_of_not_lt hlt)] at h1
    have hdj : D j = false := by
      cases hd : D j with
      | false => rfl
      | true =>
        obtain ⟨x, hx, hb, ho⟩ := (waits_spec hwt).2 j oj hoj hd
        exact absurd ho (hoff x hx hb)
    refine wpOp_mono (fun a' w' k => ⟨k.2.1, ih _ a' w' (k.2.1.resolve_left (by rw [hdj]; decide)) (fun m om hm hmi hmu hmo => hap m om hm hmi ?_ hmo) (ready_mono hr (Ne.symm e)) k.1 ?_⟩)
      (hy.swap hoj (hap j oj hoj e hun hoff) (fun cs b => hs i oi cs b hi) (fun cs b => hs j oj cs b hoj) hQ (h.2 j (ready_mono hj e)))
    · by_cases hjm : j = m
      · subst hjm; exact hun
      · rwa [getD_set_ne true hjm] at hmu
    · rw [Array.setIfInBounds_comm _ _ e]
      exact k.2.2

/-- an operation that tells v in all worlds of C, taken first; the frame behind it as it is written out -/
theorem anyE_take {i : Nat} {oi : Oper} {v : Value} {listed : Array Bool} {a a' : Act} {w : World} {n : Nat} (hi : ops[i]? = some oi) (hs : Region.noSelect ops = true) (hf : Region.free md ops listed i = true) (hr : (Region.ready md ops listed).contains i = true)
    (hQ : ∀ c a w, Q (.panic c) (a.put oi.dst v) w → Q (.panic c) a w) (hw : C w) (hwt : waits md ops D i = true) (hn : Region.wanted oi (yielded ops a.tmps) = true) (hy : ∀ w, C w → (execOp a.eval oi).run P w = .ok (.value v) w) (ha : a.put oi.dst v = a')
    (h : anyE P md ops Q C D n (listed.setIfInBounds i true) a' w) : anyE P md ops Q C D (n + 1) listed a w :=
  anyE_first hi (Region.noSelect_spec hs) hQ hwt n listed a w hw (Region.free_spec hi hf) (by simpa using hr) (.inl ⟨hn, hy⟩) (by rw [ha]; exact h)

/-- a call that tells v in all worlds of C and leaves them, taken first; the frame behind it as it is written out -/
theorem anyE_call {i : Nat} {oi : Oper} {v : Value} {f : FuncId} {args : Array Value} {listed : Array Bool} {a a' : Act} {w : World} {n : Nat} (hi : ops[i]? = some oi) (hs : Region.noSelect ops = true) (hf : Region.free md ops listed i = true) (hr : (Region.ready md ops listed).contains i = true)
    (hQ : ∀ c a w, Q (.panic c) (a.put oi.dst v) w → Q (.panic c) a w) (hw : C w) (hwt : waits md ops D i = true) (hc : ∀ w, C w → Calls P f args w fun e w' => e = .returned v ∧ w' = w) (hn : Region.wanted oi (yielded ops a.tmps) = true)
    (hy : ∀ w, C w → (execOp a.eval oi).run P w = .ok (.enter f args) w) (ha : a.put oi.dst v = a')
    (h : anyE P md ops Q C D n (listed.setIfInBounds i true) a' w) : anyE P md ops Q C D (n + 1) listed a w :=
  anyE_firstBy hi (Region.noSelect_spec hs) hQ hwt n listed a w hw (Region.free_spec hi hf) (by simpa using hr) ⟨hn, f, args, fun w hcw => ⟨hy w hcw, hc w hcw⟩⟩ (by rw [ha]; exact h)

/-- one operation alone is ready -/
theorem anyE_one {i : Nat} {oi : Oper} {listed : Array Bool} {a : Act} {w : World} {n : Nat} (hi : ops[i]? = some oi) (hr : Region.ready md ops listed = [i]) (hn : Region.wanted oi (yielded ops a.tmps) = true)
    (h : ∀ K : Act → World → Prop, (∀ a' w', Kept C w' (anyE P md ops Q C D n (listed.setIfInBounds i true) a' w') → K a' w') → oi.wp P a w K Q) : anyE P md ops Q C D (n + 1) listed a w :=
  ⟨fun e => (by rw [hr] at e; cases e), fun j hj => by
    rw [hr, List.mem_singleton] at hj
    subst hj
    simp only [wpOp, hi, hn, if_true]
    exact .inl (h _ fun a' w' k => ⟨.inr k.1, k.2⟩)⟩
/-- one of D alone is ready -/
theorem anyE_late {i : Nat} {oi : Oper} {listed : Array Bool} {a : Act} {w : World} {n : Nat} (hi : ops[i]? = some oi) (hr : Region.ready md ops listed = [i]) (hn : Region.wanted oi (yielded ops a.tmps) = true) (hd : D i = true)
    (h : ∀ K : Act → World → Prop, (∀ a' w', anyE P md ops Q C D n (listed.setIfInBounds i true) a' w' → K a' w') → oi.wp P a w K Q) : anyE P md ops Q C D (n + 1) listed a w :=
  ⟨fun e => (by rw [hr] at e; cases e), fun j hj => by
    rw [hr, List.mem_singleton] at hj
    subst hj
    simp only [wpOp, hi, hn, if_true]
    exact .inl (h _ fun a' w' k => ⟨.inl hd, k⟩)⟩
theorem anyE_done {listed : Array Bool} {a : Act} {w : World} {n : Nat} (hr : Region.ready md ops listed = []) (h : Q .normal a w) : anyE P md ops Q C D n listed a w := by
  cases n with
  | zero => exact ⟨hr, h⟩
  | succ n => exact ⟨fun _ => h, fun j hj => by rw [hr] at hj; cases hj⟩
/-- a region that draws, told over C but for D -/
theorem region_E {id : Nat} {a : Act} {w : World} (C : World → Prop) (D : Nat → Bool) (hm : P.follows .mixedOrders = true)
    (h : anyE P .any ops Q C D ops.size (Array.replicate ops.size false) a w.drew) : (Code.region id ops true).wp P Q a w :=
  wp_region_any hm (any_of_E _ _ _ _ h)
end
end Go.Proofs.YtdcdlnmgbgeeeaaDoor
