/- A region that draws its order, told over a class of worlds, further: a call that leaves the world as it is goes first, as a reading does. No program in it. -/
import Derived.Test.YtdcdlnmgbgeeeaaDoorKitC
namespace Go.Proofs.YtdcdlnmgbgeeeaaDoor
open Go

section
variable {P : Program} {ops : Array Oper} {md : Region.Mode} {Q : Exit → Act → World → Prop} {C : World → Prop}

/-- in each world of C the call tells v and leaves the world -/
def TellsBy (C : World → Prop) (P : Program) (ops : Array Oper) (o : Oper) (v : Value) (a : Act) : Prop :=
  Region.wanted o (yielded ops a.tmps) = true ∧ ∃ f args, ∀ w, C w → (execOp a.eval o).run P w = .ok (.enter f args) w ∧ Calls P f args w fun e w' => e = .returned v ∧ w' = w

theorem TellsBy.here {i : Nat} {o : Oper} {v : Value} {a : Act} {w : World} (hi : ops[i]? = some o) (h : TellsBy C P ops o v a) (hw : C w) {K : Act → World → Prop} (hk : K (a.put o.dst v) w) : wpOp P ops Q i K a w := by
  obtain ⟨h1, f, args, h2⟩ := h
  obtain ⟨h3, h4⟩ := h2 w hw
  simp only [wpOp, hi, h1, if_true]
  refine .inl ?_
  unfold Oper.wp
  rw [h3]
  simp only [Oper.upon]
  refine Calls.mono h4 ?_
  rintro e w' ⟨rfl, rfl⟩
  exact hk

theorem TellsBy.like {o : Oper} {v : Value} {a b : Act} (h : TellsBy C P ops o v a) (he : execOp b.eval o = execOp a.eval o) (hw : Region.wanted o (yielded ops b.tmps) = Region.wanted o (yielded ops a.tmps)) : TellsBy C P ops o v b := by
  obtain ⟨h1, f, args, h2⟩ := h
  exact ⟨hw ▸ h1, f, args, fun w hc => he ▸ h2 w hc⟩

/-- another operation, taken behind it, can be taken ahead of it -/
theorem TellsBy.swap {j : Nat} {oi oj : Oper} {v : Value} (hj : ops[j]? = some oj) (hap : oi.apart ops oj = true) (hsi : ∀ cs b, oi.op ≠ .select cs b) (hsj : ∀ cs b, oj.op ≠ .select cs b)
    (hQ : ∀ c a w, Q (.panic c) (a.put oi.dst v) w → Q (.panic c) a w) {K : Act → World → Prop} {a : Act} {w : World} (hy : TellsBy C P ops oi v a) (h : wpOp P ops Q j K (a.put oi.dst v) w) :
    wpOp P ops Q j (fun a' w' => TellsBy C P ops oi v a' ∧ K (a'.put oi.dst v) w') a w := by
  obtain ⟨d1, d2, d3⟩ := Oper.apart_spec hap
  have stay : ∀ (b : Act) (u : Value), TellsBy C P ops oi v b → TellsBy C P ops oi v (b.put oj.dst u) := fun b u hb =>
    hb.like (execOp_put oi hsi b oj.dst u d3) (wanted_put oi b oj.dst u d3)
  have both : ∀ (b : Act) (u : Value) (w' : World), TellsBy C P ops oi v b → K ((b.put oi.dst v).put oj.dst u) w' → TellsBy C P ops oi v (b.put oj.dst u) ∧ K ((b.put oj.dst u).put oi.dst v) w' := fun b u w' hb hk =>
    ⟨stay b u hb, (Act.put_comm b v u d2) ▸ hk⟩
  have same := execOp_put oj hsj a oi.dst v d1
  simp only [wpOp, hj, wanted_put oj a oi.dst v d1] at h ⊢
  by_cases hw : Region.wanted oj (yielded ops a.tmps) = true
  · simp only [hw, if_true] at h ⊢
    refine h.imp (fun g => ?_) (fun g => ⟨?_, g.2⟩)
    · unfold Oper.wp at g ⊢
      rw [same] at g
      cases hr : (execOp a.eval oj).run P w with
      | halt x w' =>
        rw [hr] at g
        cases x <;> simp only [Oper.upon] at g ⊢
        exact hQ _ _ _ g
      | ok t w' =>
        rw [hr] at g
        cases t <;> simp only [Oper.upon] at g ⊢
        case value u => exact both a u w' hy g
        case skip => exact both a undef w' hy g
        case defer d =>
          rw [Act.put_defers] at g
          exact both _ undef w' (hy.like rfl rfl) g
        case enter f args =>
          refine Calls.mono g fun e w'' k => ?_
          cases e with
          | returned u => exact both a u w'' hy k
          | panicked c => exact hQ _ _ _ k
          | outgrown => exact k
        case row r args => exact Rows.mono g fun u w'' k => both a u w'' hy k
    · have := g.1
      unfold Oper.asks at this ⊢
      rwa [same] at this
  · simp only [hw] at h ⊢
    exact both a undef w hy h

theorem anyC_firstBy {i : Nat} {oi : Oper} {v : Value} (hi : ops[i]? = some oi) (hs : ∀ (j : Nat) (o : Oper) cs b, ops[j]? = some o → o.op ≠ .select cs b)
    (hQ : ∀ c a w, Q (.panic c) (a.put oi.dst v) w → Q (.panic c) a w) :
    ∀ (n : Nat) (listed : Array Bool) (a : Act) (w : World), C w →
      (∀ j oj, ops[j]? = some oj → j ≠ i → listed.getD j true = false → (∀ e ∈ oj.after, Region.binds md e = true → e.on ≠ i) → oi.apart ops oj = true) →
      i ∈ Region.ready md ops listed → TellsBy C P ops oi v a → anyC P md ops Q C n (listed.setIfInBounds i true) (a.put oi.dst v) w → anyC P md ops Q C (n + 1) listed a w := by
  intro n
  induction n with
  | zero =>
    intro listed a w hw hap hr hy h
    refine ⟨fun e => absurd hr (by rw [e]; exact List.not_mem_nil), fun j hj => ?_⟩
    by_cases e : j = i
    · subst e; exact hy.here hi hw ⟨hw, h⟩
    · exact absurd (ready_mono hj e) (by rw [h.1]; exact List.not_mem_nil)
  | succ n ih =>
    intro listed a w hw hap hr hy h
    refine ⟨fun e => absurd hr (by rw [e]; exact List.not_mem_nil), fun j hj => ?_⟩
    by_cases e : j = i
    · subst e; exact hy.here hi hw ⟨hw, h⟩
    obtain ⟨hun, oj, hoj, hall⟩ := mem_ready.1 hj
    have hun2 := (mem_ready.1 hr).1
    have hoff : ∀ x ∈ oj.after, Region.binds md x = true → x.on ≠ i := fun x hx hb he => by
      have h1 := hall x hx hb
      rw [he] at h1
      by_cases hlt : i < listed.size
      · simp only [Array.getD_eq_getD_getElem?, Array.getElem?_eq_getElem hlt, Option.getD_some] at h1 hun2
        rw [h1] at hun2
        cases hun2
      · simp [Array.getElem?_eq_none (Nat.le_of_not_lt hlt)] at h1
    refine wpOp_mono (fun a' w' k => ⟨k.2.1, ih _ a' w' k.2.1 (fun m om hm hmi hmu hmo => hap m om hm hmi ?_ hmo) (ready_mono hr (Ne.symm e)) k.1 ?_⟩)
      (hy.swap hoj (hap j oj hoj e hun hoff) (fun cs b => hs i oi cs b hi) (fun cs b => hs j oj cs b hoj) hQ (h.2 j (ready_mono hj e)))
    · by_cases hjm : j = m
      · subst hjm; exact hun
      · rwa [getD_set_ne true hjm] at hmu
    · rw [Array.setIfInBounds_comm _ _ e]
      exact k.2.2

/-- a call that tells v in all worlds of C and leaves them, taken first; the frame behind it as it is written out -/
theorem anyC_call {i : Nat} {oi : Oper} {v : Value} {f : FuncId} {args : Array Value} {listed : Array Bool} {a a' : Act} {w : World} {n : Nat} (hi : ops[i]? = some oi) (hs : Region.noSelect ops = true) (hf : Region.free md ops listed i = true) (hr : (Region.ready md ops listed).contains i = true)
    (hQ : ∀ c a w, Q (.panic c) (a.put oi.dst v) w → Q (.panic c) a w) (hw : C w) (hc : ∀ w, C w → Calls P f args w fun e w' => e = .returned v ∧ w' = w) (hn : Region.wanted oi (yielded ops a.tmps) = true)
    (hy : ∀ w, C w → (execOp a.eval oi).run P w = .ok (.enter f args) w) (ha : a.put oi.dst v = a')
    (h : anyC P md ops Q C n (listed.setIfInBounds i true) a' w) : anyC P md ops Q C (n + 1) listed a w :=
  anyC_firstBy hi (Region.noSelect_spec hs) hQ n listed a w hw (Region.free_spec hi hf) (by simpa using hr) ⟨hn, f, args, fun w hcw => ⟨hy w hcw, hc w hcw⟩⟩ (by rw [ha]; exact h)
end
end Go.Proofs.YtdcdlnmgbgeeeaaDoor
