/- A row that reads as a list and either is the owner's or has no room left: what a cut with no spare room leaves, and an append to it. No program in it. -/
import Derived.Test.YtceleihfdpgpiaaBK
namespace Go.Proofs.Ytceleihfdpgpiaa
open Go.RowKit

/-- a row that reads as xs: the owner's, or the head of one of the owner's, cut without room (an append to it begins anew) -/
def Orow (w : World) (base : Nat) (e : TypeId) (v : Value) (n : Nat) (xs : List Value) : Prop :=
  w.ownsRow base e 1 v n xs ∨ ∃ g m cap ys, v = .slice (some ⟨g, 0, none⟩) n n ∧ w.ownsRow base e 1 (.slice (some ⟨g, 0, none⟩) m cap) m ys ∧ n ≤ m ∧ xs = ys.take n

section
variable {w w' : World} {base : Nat} {e : TypeId} {v : Value} {n : Nat} {xs : List Value}
theorem own_same (h : w.ownsRow base e 1 v n xs) (hb : ∀ g, v.ownBlock = some g → w'.heap[g]? = w.heap[g]?) : w'.ownsRow base e 1 v n xs := by
  refine ⟨h.1, ?_⟩
  rcases h.2 with h | ⟨g, cap, cur, rfl, h1, h2, h3⟩
  · exact .inl h
  · exact .inr ⟨g, cap, cur, rfl, h1, (hb g rfl).trans h2, h3⟩
theorem own_lower (h : w.ownsRow base e 1 v n xs) {b : Nat} (hb : b ≤ base) : w.ownsRow b e 1 v n xs := by
  refine ⟨h.1, ?_⟩
  rcases h.2 with h | ⟨g, cap, cur, rfl, h1, h2, h3⟩
  · exact .inl h
  · exact .inr ⟨g, cap, cur, rfl, by omega, h2, h3⟩
theorem Orow.of (h : w.ownsRow base e 1 v n xs) : Orow w base e v n xs := .inl h
theorem Orow.nil (w : World) (base : Nat) (e : TypeId) : Orow w base e (.slice none 0 0) 0 [] := .inl (World.ownsRow_nil w base e 1)
theorem Orow.view (h : Orow w base e v n xs) : w.ownsRow base e 1 v n xs ∨ (xs.length = n ∧ n ≤ maxLen ∧ ∃ g, v = .slice (some ⟨g, 0, none⟩) n n ∧ base ≤ g ∧ g < w.heap.size ∧ Rd w w.heap.size (some ⟨g, 0, none⟩) xs) := by
  rcases h with h | ⟨g, m, cap, ys, rfl, h1, h2, rfl⟩
  · exact .inl h
  · have hl := h1.1
    have hg := h1.lt g rfl
    have hm : m ≤ maxLen := by
      rcases h1.2 with ⟨q, _⟩ | ⟨_, _, _, q, _, _, q1, q2, _⟩
      · cases q
      · cases q; omega
    exact .inr ⟨by rw [List.length_take]; omega, by omega, g, rfl, hg.1, hg.2, (Rd.of_own h1).take n⟩
theorem Orow.len (h : Orow w base e v n xs) : xs.length = n := h.view.elim (fun q => by have := q.1; omega) (·.1)
theorem Orow.form (h : Orow w base e v n xs) : ∃ A cap, v = .slice A n cap ∧ n ≤ cap ∧ cap ≤ maxLen ∧ Rd w w.heap.size A xs ∧ ∀ ad, A = some ad → ∃ g, ad = ⟨g, 0, none⟩ ∧ base ≤ g ∧ g < w.heap.size := by
  rcases h.view with h | ⟨h1, h2, g, rfl, h3, h4, h5⟩
  · rcases h.2 with ⟨rfl, rfl⟩ | ⟨g, cap, cur, rfl, h1, h2, h3, h4, _, _⟩
    · exact ⟨none, 0, rfl, Nat.le_refl _, by decide, Rd.of_own h, fun ad q => nomatch q⟩
    · exact ⟨_, cap, rfl, h3, h4, Rd.of_own h, fun ad q => by cases q; exact ⟨g, rfl, h1, (h.lt g rfl).2⟩⟩
  · exact ⟨_, n, rfl, Nat.le_refl _, h2, h5, fun ad q => by cases q; exact ⟨g, rfl, h3, h4⟩⟩
theorem Orow.lt (h : Orow w base e v n xs) : ∀ g, v.ownBlock = some g → base ≤ g ∧ g < w.heap.size := by
  obtain ⟨A, cap, rfl, _, _, _, h4⟩ := h.form
  intro g hg
  cases A with
  | none => cases hg
  | some ad => obtain ⟨b, rfl, h5, h6⟩ := h4 ad rfl; cases hg; exact ⟨h5, h6⟩
theorem Orow.same (h : Orow w base e v n xs) (hb : ∀ g, v.ownBlock = some g → w'.heap[g]? = w.heap[g]?) (_ : w.heap.size ≤ w'.heap.size) : Orow w' base e v n xs := by
  rcases h with h | ⟨g, m, cap, ys, rfl, h1, h2, rfl⟩
  · exact .inl (own_same h hb)
  · exact .inr ⟨g, m, cap, ys, rfl, own_same h1 (fun k hk => hb k hk), h2, rfl⟩
theorem Orow.lower (h : Orow w base e v n xs) {b : Nat} (hb : b ≤ base) : Orow w b e v n xs := by
  rcases h with h | ⟨g, m, cap, ys, rfl, h1, h2, rfl⟩
  · exact .inl (own_lower h hb)
  · exact .inr ⟨g, m, cap, ys, rfl, own_lower h1 hb, h2, rfl⟩
/-- the first k of it, without room -/
theorem Orow.head {A : Option Addr} {cap k : Nat} (h : Orow w base e (.slice A n cap) n xs) (hk : k ≤ n) : Orow w base e (.slice A k k) k (xs.take k) := by
  rcases h with h | ⟨g, m, cap', ys, q, h1, h2, rfl⟩
  · cases A with
    | none =>
      have hn : n = 0 := by
        rcases h.2 with ⟨_, q⟩ | ⟨_, _, _, q, _⟩
        · exact q
        · cases q
      have h0 : k = 0 := by omega
      subst h0
      exact .inl (by simpa using World.ownsRow_nil w base e 1)
    | some ad =>
      have : ∃ g, ad = ⟨g, 0, none⟩ := by
        rcases h.2 with ⟨q, _⟩ | ⟨g, _, _, q, _⟩
        · cases q
        · cases q; exact ⟨g, rfl⟩
      obtain ⟨g, rfl⟩ := this
      exact .inr ⟨g, n, cap, xs, rfl, h, hk, rfl⟩
  · cases q
    exact .inr ⟨g, m, cap', ys, rfl, h1, by omega, by rw [List.take_take, Nat.min_eq_left hk]⟩
/-- an element written -/
theorem Orow.stored {ad : Addr} {cap : Nat} (h : Orow w base e (.slice (some ad) n cap) n xs) (j : Nat) (u : Value) :
    w.frozen? (ad.add j) = false ∧ Orow (w.setCell (ad.add j) u) base e (.slice (some ad) n cap) n (xs.set j u) ∧ w.grownBy (w.setCell (ad.add j) u) (some ad.block) := by
  have hadd : ∀ g : Nat, (⟨g, 0, none⟩ : Addr).add j = ⟨g, j, none⟩ := fun g => by
    unfold Addr.add
    split
    · rename_i q; rw [q]
    · simp
  rcases h with h | ⟨g, m, cap', ys, q, h1, h2, rfl⟩
  · have : ∃ g, ad = ⟨g, 0, none⟩ := by
      rcases h.2 with ⟨q, _⟩ | ⟨g, _, _, q, _⟩
      · cases q
      · cases q; exact ⟨g, rfl⟩
    obtain ⟨g, rfl⟩ := this
    rw [hadd]
    exact ⟨h.frozenAt j, .inl (h.stored j u).1, (h.stored j u).2⟩
  · cases q
    rw [hadd]
    exact ⟨h1.frozenAt j, .inr ⟨g, m, cap', _, rfl, (h1.stored j u).1, h2, by rw [List.take_set]⟩, (h1.stored j u).2⟩
end

/-- the cut [:k:k] -/
theorem run_cut_hm {P : Program} {t e : TypeId} (ht : P.underlying t = some (.slice e)) (he : ∀ w, (sizeOf e).run P w = .ok 1 w) (A : Option Addr) (n cap k : Nat) (hk : k ≤ cap) (w : World) :
    (Instr.slice t (.slice A n cap) none (some (.int .i64 (k : Int))) (some (.int .i64 (k : Int)))).run P w = .ok (.slice A k k) w := by
  have he' : P.elem t = e := by simp [Program.elem, ht]
  rw [run_slice_hm (P := P) w t A n cap (by rw [he']; exact ht) .i64 .i64 (k : Int) (k : Int) (by omega) (by omega) (by omega), he', he]
  cases A <;> simp [Result.andThen, sliced, Addr.add]
/-- the cut [0:k:k] -/
theorem run_cut_lhm {P : Program} {t e : TypeId} (ht : P.underlying t = some (.slice e)) (he : ∀ w, (sizeOf e).run P w = .ok 1 w) (A : Option Addr) (n cap k : Nat) (hk : k ≤ cap) (w : World) :
    (Instr.slice t (.slice A n cap) (some (.int .i64 0)) (some (.int .i64 (k : Int))) (some (.int .i64 (k : Int)))).run P w = .ok (.slice A k k) w := by
  have he' : P.elem t = e := by simp [Program.elem, ht]
  rw [run_slice_lhm (P := P) w t A n cap (by rw [he']; exact ht) .i64 .i64 .i64 0 (k : Int) (k : Int) (by omega) (by omega) (by omega) (by omega), he', he]
  cases A <;> simp [Result.andThen, sliced, Addr.add]

/-- an append to it -/
theorem run_oapp {P : Program} (w : World) (base : Nat) (t ty e : TypeId) (i : TypeInfo) (z : Value) (bytes : Nat) (ht : P.underlying t = some (.slice e)) (hi : P.info? e = some i) (hz : i.zero = some z)
    (hsize : i.size = 1) (hby : i.bytes = bytes) (hzs : z.cells.size = 1)
    (v : Value) (n : Nat) (xs : List Value) (hown : Orow w base e v n xs)
    (B : Nat) (A : Option Addr) (m c : Nat) (news : List Value) (hm : news.length = m) (hr : Rd w B A news) (h1 : ∀ u ∈ news, u.oneCell' = true)
    (h63 : n + m ≤ maxLen) (hbytes : (n + m) * bytes ≤ 140737488355328) (hbase : base ≤ w.heap.size) :
    ∃ v' w', (Builtin.append_ #[t, t] ty #[v, .slice A m c]).run P w = .ok v' w' ∧ Orow w' base e v' (n + m) (xs ++ news) ∧ w.grownBy w' v.ownBlock ∧
      (v'.ownBlock = v.ownBlock ∨ v'.ownBlock = some w.heap.size) := by
  have hown0 := hown
  rcases hown.view with hown | ⟨hl, hn, g, rfl, hg, hlt, hrd⟩
  · obtain ⟨v', w', q1, q2, q3, q4⟩ := run_app (P := P) w base t ty e i z bytes ht hi hz hsize hby hzs v n xs hown B A m c news hm hr h1 h63 hbytes hbase
    exact ⟨v', w', q1, .inl q2, q3, q4⟩
  · by_cases h0 : m = 0
    · subst h0
      have hx : news = [] := List.eq_nil_of_length_eq_zero hm
      subst hx
      refine ⟨_, w, ?_, (by simpa using hown0), ⟨rfl, rfl, rfl, Nat.le_refl _, fun _ _ _ => rfl⟩, .inl rfl⟩
      cases A <;> simp [Builtin.append_, run_underlying ht, sizeOf, typeInfo, hi, Builtin.lenOf, Builtin.firstCells, loadCells, loadCellsFrom, storeCells]
    · cases A with
      | none => obtain ⟨_, q, _⟩ := hr.get (k := 0) (by omega); cases q
      | some ad =>
        have hsmall : n + m ≤ 9223372036854775807 := by simp only [maxLen] at h63; omega
        have hrun := run_append_grow (P := P) w t ty e i z ht hi hz ⟨g, 0, none⟩ n n xs (by rw [hsize]; omega) (fun j u hj => by obtain ⟨ad', q, _, hc⟩ := hrd j u hj; cases q; exact hc) ad m c news (by rw [hsize]; omega)
          (fun j u hj => by obtain ⟨ad', q, _, hc⟩ := hr j u hj; cases q; exact hc) (by omega) (by omega) (growslice_fits (by omega) (by rw [hby]; exact hbytes))
        have hge := grownCap_ge w (n + m) n e
        have hcm : grownCap w (n + m) n e ≤ maxLen := grownCap_le_maxLen w (n + m) n e h63
        have hlen : (xs ++ news).length = n + m := by rw [List.length_append, hl, hm]
        refine ⟨_, _, hrun, .inl ⟨by rw [hlen]; omega, .inr ⟨w.heap.size, _, _, rfl, hbase, heap_alloc_new w.drew _, hge, hcm, ?_, ?_⟩⟩, ⟨rfl, rfl, rfl, by simp, fun k hk _ => heap_alloc_old w.drew _ k hk⟩, .inr rfl⟩
        · simp only [Array.size_append, List.size_toArray, size_zeroCells, hzs, hl, hm]
          omega
        · simp only [Array.toList_append, Nat.mul_one]
          rw [← hlen]
          exact List.take_left
theorem wpList_oapp {P : Program} {w : World} {ops : Array Oper} {rest : List Oper} {o : Oper} {a : Act} {Q : Exit → Act → World → Prop} (hgd : o.guard = none) (s x : Operand) (t : TypeId)
    (ho : o.op = .call { callee := .builtin .append, args := #[s, x], argTypes := #[t, t] })
    (base : Nat) (e : TypeId) (i : TypeInfo) (z : Value) (bytes : Nat) (ht : P.underlying t = some (.slice e)) (hi : P.info? e = some i) (hz : i.zero = some z)
    (hsize : i.size = 1) (hby : i.bytes = bytes) (hzs : z.cells.size = 1)
    (v : Value) (n : Nat) (xs : List Value) (hs : a.eval s = v) (hown : Orow w base e v n xs)
    (B : Nat) (A : Option Addr) (m c : Nat) (news : List Value) (hx : a.eval x = .slice A m c) (hm : news.length = m) (hr : Rd w B A news) (h1 : ∀ u ∈ news, u.oneCell' = true)
    (h63 : n + m ≤ maxLen) (hbytes : (n + m) * bytes ≤ 140737488355328) (hbase : base ≤ w.heap.size)
    (h : ∀ v' w', Orow w' base e v' (n + m) (xs ++ news) → w.grownBy w' v.ownBlock → (v'.ownBlock = v.ownBlock ∨ v'.ownBlock = some w.heap.size) → wpList P ops Q rest (a.put o.dst v') w') : wpList P ops Q (o :: rest) a w := by
  refine wpList_plain hgd fun K hK => ?_
  obtain ⟨v', w', hrun, h2, h3, h4⟩ := run_oapp (P := P) w base t o.type e i z bytes ht hi hz hsize hby hzs v n xs hown B A m c news hm hr h1 h63 hbytes hbase
  unfold Oper.wp execOp
  simp only [ho, resolve, invoke, builtin, Sem.run_bind, Sem.run_pure, Result.andThen_ok, List.map_toArray, List.map_cons, List.map_nil, hs, hx, hrun]
  exact hK _ _ (h v' w' h2 h3 h4)
/-- as one operation of a region -/
theorem op_oapp {P : Program} {Q : Exit → Act → World → Prop} {K : Act → World → Prop} {w : World} {a : Act} {o : Oper} (s x : Operand) (t : TypeId) (ho : o.op = .call { callee := .builtin .append, args := #[s, x], argTypes := #[t, t] })
    (base : Nat) (e : TypeId) (i : TypeInfo) (z : Value) (bytes : Nat) (ht : P.underlying t = some (.slice e)) (hi : P.info? e = some i) (hz : i.zero = some z) (hsize : i.size = 1) (hby : i.bytes = bytes) (hzs : z.cells.size = 1)
    (v : Value) (n : Nat) (xs : List Value) (hs : a.eval s = v) (hown : Orow w base e v n xs)
    (B : Nat) (A : Option Addr) (m c : Nat) (news : List Value) (hx : a.eval x = .slice A m c) (hm : news.length = m) (hr : Rd w B A news) (h1 : ∀ u ∈ news, u.oneCell' = true)
    (h63 : n + m ≤ maxLen) (hbytes : (n + m) * bytes ≤ 140737488355328) (hbase : base ≤ w.heap.size)
    (h : ∀ v' w', Orow w' base e v' (n + m) (xs ++ news) → w.grownBy w' v.ownBlock → (v'.ownBlock = v.ownBlock ∨ v'.ownBlock = some w.heap.size) → K (a.put o.dst v') w') : o.wp P a w K Q := by
  obtain ⟨v', w', hrun, h2, h3, h4⟩ := run_oapp (P := P) w base t o.type e i z bytes ht hi hz hsize hby hzs v n xs hown B A m c news hm hr h1 h63 hbytes hbase
  unfold Oper.wp execOp
  simp only [ho, resolve, invoke, builtin, Sem.run_bind, Sem.run_pure, Result.andThen_ok, List.map_toArray, List.map_cons, List.map_nil, hs, hx, hrun]
  exact h v' w' h2 h3 h4
end Go.Proofs.Ytceleihfdpgpiaa
