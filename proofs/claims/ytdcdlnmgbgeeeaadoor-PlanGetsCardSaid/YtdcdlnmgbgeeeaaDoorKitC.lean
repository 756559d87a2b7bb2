/- A region that draws its order, where every world that it can reach lies in a class C: an operation that tells one value in all worlds of C, and leaves the world, goes first. So what reads old memory never parts the walk, whatever is made beside it. No program in it. -/
import Derived.Test.YtdcdlnmgbgeeeaaDoorKit
import Derived.WalkKit
import Derived.Orders
namespace Go.Proofs.YtdcdlnmgbgeeeaaDoor
open Go

section
variable {P : Program} {ops : Array Oper} {md : Region.Mode} {Q : Exit → Act → World → Prop} {C : World → Prop}

/-- whichever order comes: each operation leaves a world of C, and at the end Q holds -/
def anyC (P : Program) (md : Region.Mode) (ops : Array Oper) (Q : Exit → Act → World → Prop) (C : World → Prop) : Nat → Array Bool → Act → World → Prop
  | 0, listed, a, w => Region.ready md ops listed = [] ∧ Q .normal a w
  | n + 1, listed, a, w => (Region.ready md ops listed = [] → Q .normal a w) ∧
      ∀ i ∈ Region.ready md ops listed, wpOp P ops Q i (fun a' w' => C w' ∧ anyC P md ops Q C n (listed.setIfInBounds i true) a' w') a w

theorem any_of_C : ∀ (n : Nat) (listed : Array Bool) (a : Act) (w : World), anyC P md ops Q C n listed a w → wpAny P md ops Q n listed a w
  | 0, _, _, _, h => h
  | n + 1, _, _, _, h => ⟨h.1, fun i hi => wpOp_mono (fun _ _ k => any_of_C n _ _ _ k.2) (h.2 i hi)⟩

/-- in each world of C the operation tells v, or it is not wanted -/
def Tells (C : World → Prop) (P : Program) (ops : Array Oper) (o : Oper) (v : Value) (a : Act) : Prop :=
  (Region.wanted o (yielded ops a.tmps) = true ∧ ∀ w, C w → (execOp a.eval o).run P w = .ok (.value v) w) ∨ (Region.wanted o (yielded ops a.tmps) = false ∧ v = undef)

theorem Tells.here {i : Nat} {o : Oper} {v : Value} {a : Act} {w : World} (hi : ops[i]? = some o) (h : Tells C P ops o v a) (hw : C w) {K : Act → World → Prop} (hk : K (a.put o.dst v) w) : wpOp P ops Q i K a w := by
  rcases h with ⟨h1, h2⟩ | ⟨h1, rfl⟩
  · simp only [wpOp, hi, h1, if_true]
    exact .inl (by simpa only [Oper.wp, h2 w hw, Oper.upon] using hk)
  · simp only [wpOp, hi, h1]
    exact hk

theorem Tells.like {o : Oper} {v : Value} {a b : Act} (h : Tells C P ops o v a) (he : execOp b.eval o = execOp a.eval o) (hw : Region.wanted o (yielded ops b.tmps) = Region.wanted o (yielded ops a.tmps)) : Tells C P ops o v b :=
  h.imp (fun g => ⟨hw ▸ g.1, he ▸ g.2⟩) (fun g => ⟨hw ▸ g.1, g.2⟩)

/-- another operation, taken behind it, can be taken ahead of it -/
theorem Tells.swap {j : Nat} {oi oj : Oper} {v : Value} (hj : ops[j]? = some oj) (hap : oi.apart ops oj = true) (hsi : ∀ cs b, oi.op ≠ .select cs b) (hsj : ∀ cs b, oj.op ≠ .select cs b)
    (hQ : ∀ c a w, Q (.panic c) (a.put oi.dst v) w → Q (.panic c) a w) {K : Act → World → Prop} {a : Act} {w : World} (hy : Tells C P ops oi v a) (h : wpOp P ops Q j K (a.put oi.dst v) w) :
    wpOp P ops Q j (fun a' w' => Tells C P ops oi v a' ∧ K (a'.put oi.dst v) w') a w := by
  obtain ⟨d1, d2, d3⟩ := Oper.apart_spec hap
  have stay : ∀ (b : Act) (u : Value), Tells C P ops oi v b → Tells C P ops oi v (b.put oj.dst u) := fun b u hb =>
    hb.like (execOp_put oi hsi b oj.dst u d3) (wanted_put oi b oj.dst u d3)
  have both : ∀ (b : Act) (u : Value) (w' : World), Tells C P ops oi v b → K ((b.put oi.dst v).put oj.dst u) w' → Tells C P ops oi v (b.put oj.dst u) ∧ K ((b.put oj.dst u).put oi.dst v) w' := fun b u w' hb hk =>
    ⟨stay b u hb, (Act.put_comm b v u d2) ▸ hk⟩
  have same := execOp_put oj hsj a oi.dst v d1
  simp only [wpOp, hj, wanted_put oj a oi.dst v d1] at h ⊢
  by_cases hw : Region.wanted oj (yielded ops a.tmps) = true
  · simp only [hw, if_true] at h ⊢
    refine h.imp (fun g => ?_) (fun g => ⟨?_, g.2⟩)
    · unfold Oper.wp at g ⊢
      rw [same] at g
      cases hr : (execOp a.eval oj).run P w with
      | halt x w' =>
        rw [hr] at g
        cases x <;> simp only [Oper.upon] at g ⊢
        exact hQ _ _ _ g
      | ok t w' =>
        rw [hr] at g
        cases t <;> simp only [Oper.upon] at g ⊢
        case value u => exact both a u w' hy g
        case skip => exact both a undef w' hy g
        case defer d =>
          rw [Act.put_defers] at g
          exact both _ undef w' (hy.like rfl rfl) g
        case enter f args =>
          refine Calls.mono g fun e w'' k => ?_
          cases e with
          | returned u => exact both a u w'' hy k
          | panicked c => exact hQ _ _ _ k
          | outgrown => exact k
        case row r args => exact Rows.mono g fun u w'' k => both a u w'' hy k
    · have := g.1
      unfold Oper.asks at this ⊢
      rwa [same] at this
  · simp only [hw] at h ⊢
    exact both a undef w hy h

theorem anyC_first {i : Nat} {oi : Oper} {v : Value} (hi : ops[i]? = some oi) (hs : ∀ (j : Nat) (o : Oper) cs b, ops[j]? = some o → o.op ≠ .select cs b)
    (hQ : ∀ c a w, Q (.panic c) (a.put oi.dst v) w → Q (.panic c) a w) :
    ∀ (n : Nat) (listed : Array Bool) (a : Act) (w : World), C w →
      (∀ j oj, ops[j]? = some oj → j ≠ i → listed.getD j true = false → (∀ e ∈ oj.after, Region.binds md e = true → e.on ≠ i) → oi.apart ops oj = true) →
      i ∈ Region.ready md ops listed → Tells C P ops oi v a → anyC P md ops Q C n (listed.setIfInBounds i true) (a.put oi.dst v) w → anyC P md ops Q C (n + 1) listed a w := by
  intro n
  induction n with
  | zero =>
    intro listed a w hw hap hr hy h
    refine ⟨fun e => absurd hr (by rw [e]; exact List.not_mem_nil), fun j hj => ?_⟩
    by_cases e : j = i
    · subst e; exact hy.here hi hw ⟨hw, h⟩
    · exact absurd (ready_mono hj e) (by rw [h.1]; exact List.not_mem_nil)
  | succ n ih =>
    intro listed a w hw hap hr hy h
    refine ⟨fun e => absurd hr (by rw [e]; exact List.not_mem_nil), fun j hj => ?_⟩
    by_cases e : j = i
    · subst e; exact hy.here hi hw ⟨hw, h⟩
    obtain ⟨hun, oj, hoj, hall⟩ := mem_ready.1 hj
    have hun2 := (mem_ready.1 hr).1
    have hoff : ∀ x ∈ oj.after, Region.binds md x = true → x.on ≠ i := fun x hx hb he => by
      have h1 := hall x hx hb
      rw [he] at h1
      by_cases hlt : i < listed.size
      · simp only [Array.getD_eq_getD_getElem?, Array.getElem?_eq_getElem hlt, Option.getD_some] at h1 hun2
        rw [h1] at hun2
        cases hun2
      · simp [Array.getElem?_eq_none (Nat.le_of_not_lt hlt)] at h1
    refine wpOp_mono (fun a' w' k => ⟨k.2.1, ih _ a' w' k.2.1 (fun m om hm hmi hmu hmo => hap m om hm hmi ?_ hmo) (ready_mono hr (Ne.symm e)) k.1 ?_⟩)
      (hy.swap hoj (hap j oj hoj e hun hoff) (fun cs b => hs i oi cs b hi) (fun cs b => hs j oj cs b hoj) hQ (h.2 j (ready_mono hj e)))
    · by_cases hjm : j = m
      · subst hjm; exact hun
      · rwa [getD_set_ne true hjm] at hmu
    · rw [Array.setIfInBounds_comm _ _ e]
      exact k.2.2

/-- an operation that tells v in all worlds of C, taken first; the frame behind it as it is written out -/
theorem anyC_take {i : Nat} {oi : Oper} {v : Value} {listed : Array Bool} {a a' : Act} {w : World} {n : Nat} (hi : ops[i]? = some oi) (hs : Region.noSelect ops = true) (hf : Region.free md ops listed i = true) (hr : (Region.ready md ops listed).contains i = true)
    (hQ : ∀ c a w, Q (.panic c) (a.put oi.dst v) w → Q (.panic c) a w) (hw : C w) (hn : Region.wanted oi (yielded ops a.tmps) = true) (hy : ∀ w, C w → (execOp a.eval oi).run P w = .ok (.value v) w) (ha : a.put oi.dst v = a')
    (h : anyC P md ops Q C n (listed.setIfInBounds i true) a' w) : anyC P md ops Q C (n + 1) listed a w :=
  anyC_first hi (Region.noSelect_spec hs) hQ n listed a w hw (Region.free_spec hi hf) (by simpa using hr) (.inl ⟨hn, hy⟩) (by rw [ha]; exact h)

/-- an operation that is not wanted, passed over first -/
theorem anyC_skip {i : Nat} {oi : Oper} {listed : Array Bool} {a a' : Act} {w : World} {n : Nat} (hi : ops[i]? = some oi) (hs : Region.noSelect ops = true) (hf : Region.free md ops listed i = true) (hr : (Region.ready md ops listed).contains i = true)
    (hQ : ∀ c a w, Q (.panic c) (a.put oi.dst undef) w → Q (.panic c) a w) (hw : C w) (hn : Region.wanted oi (yielded ops a.tmps) = false) (ha : a.put oi.dst undef = a')
    (h : anyC P md ops Q C n (listed.setIfInBounds i true) a' w) : anyC P md ops Q C (n + 1) listed a w :=
  anyC_first hi (Region.noSelect_spec hs) hQ n listed a w hw (Region.free_spec hi hf) (by simpa using hr) (.inr ⟨hn, rfl⟩) (by rw [ha]; exact h)

/-- a world of C, and X -/
def Kept (C : World → Prop) (w : World) (X : Prop) : Prop := C w ∧ X

/-- one operation alone is ready -/
theorem anyC_one {i : Nat} {oi : Oper} {listed : Array Bool} {a : Act} {w : World} {n : Nat} (hi : ops[i]? = some oi) (hr : Region.ready md ops listed = [i]) (hn : Region.wanted oi (yielded ops a.tmps) = true)
    (h : ∀ K : Act → World → Prop, (∀ a' w', Kept C w' (anyC P md ops Q C n (listed.setIfInBounds i true) a' w') → K a' w') → oi.wp P a w K Q) : anyC P md ops Q C (n + 1) listed a w :=
  ⟨fun e => (by rw [hr] at e; cases e), fun j hj => by
    rw [hr, List.mem_singleton] at hj
    subst hj
    simp only [wpOp, hi, hn, if_true]
    exact .inl (h _ fun a' w' k => k)⟩

theorem anyC_done {listed : Array Bool} {a : Act} {w : World} {n : Nat} (hr : Region.ready md ops listed = []) (h : Q .normal a w) : anyC P md ops Q C n listed a w := by
  cases n with
  | zero => exact ⟨hr, h⟩
  | succ n => exact ⟨fun _ => h, fun j hj => by rw [hr] at hj; cases hj⟩

/-- append of a slice, nil or not, behind a row of the call's own, as one operation of a region -/
theorem op_app {K : Act → World → Prop} {w : World} {a : Act} {o : Oper} (s x : Operand) (t : TypeId) (ho : o.op = .call { callee := .builtin .append, args := #[s, x], argTypes := #[t, t] })
    (base : Nat) (e : TypeId) (i : TypeInfo) (z : Value) (bytes : Nat) (ht : P.underlying t = some (.slice e)) (hi : P.info? e = some i) (hz : i.zero = some z) (hsize : i.size = 1) (hby : i.bytes = bytes) (hzs : z.cells.size = 1)
    (v : Value) (n : Nat) (xs : List Value) (hs : a.eval s = v) (hown : w.ownsRow base e 1 v n xs)
    (B : Nat) (A : Option Addr) (m c : Nat) (news : List Value) (hx : a.eval x = .slice A m c) (hm : news.length = m) (hr : Rd w B A news) (h1 : ∀ u ∈ news, u.oneCell' = true)
    (h63 : n + m ≤ maxLen) (hbytes : (n + m) * bytes ≤ 140737488355328) (hbase : base ≤ w.heap.size)
    (h : ∀ v' w', w'.ownsRow base e 1 v' (n + m) (xs ++ news) → w.grownBy w' v.ownBlock → K (a.put o.dst v') w') : o.wp P a w K Q := by
  obtain ⟨v', w', hrun, h2, h3, _⟩ := run_app (P := P) w base t o.type e i z bytes ht hi hz hsize hby hzs v n xs hown B A m c news hm hr h1 h63 hbytes hbase
  unfold Oper.wp execOp
  simp only [ho, resolve, invoke, builtin, Sem.run_bind, Sem.run_pure, Result.andThen_ok, List.map_toArray, List.map_cons, List.map_nil, hs, hx, hrun]
  exact h v' w' h2 h3

/-- a region that draws, told over C -/
theorem region_C {id : Nat} {a : Act} {w : World} (C : World → Prop) (hm : P.follows .mixedOrders = true)
    (h : anyC P .any ops Q C ops.size (Array.replicate ops.size false) a w.drew) : (Code.region id ops true).wp P Q a w :=
  wp_region_any hm (any_of_C _ _ _ _ h)
end
end Go.Proofs.YtdcdlnmgbgeeeaaDoor
