/- An append behind the tail of a row of the call's own (l[k:], with room, or without). No program in it. -/
import Derived.Test.YtpbogacodhjlfaaDoorKitP
namespace Go.Proofs.YtpbogacodhjlfaaDoor
open Go.RowKit Go.Shelf Km Kx

/-- with room: the row itself grows -/
theorem run_app_tail {P : Program} (w : World) (base : Nat) (t ty e : TypeId) (i : TypeInfo) (z : Value) (bytes : Nat) (ht : P.underlying t = some (.slice e)) (hi : P.info? e = some i) (hz : i.zero = some z) (hsize : i.size = 1) (hby : i.bytes = bytes) (hzs : z.cells.size = 1)
    (g N cap k m c2 : Nat) (xs : List Value) (hown : w.ownsRow base e 1 (.slice (some ⟨g, 0, none⟩) N cap) N xs) (hN : N = k + m) (hc2 : cap = c2 + k) (hroom : m + 1 ≤ c2) (b : Addr) (c : Nat) (v : Value) (hv : w.cell? (b.add 0) = some v) (h1 : v.oneCell' = true) (hN1 : N ≤ 1000) (hb8 : bytes ≤ 1024) (hbase : base ≤ w.heap.size) :
    ∃ w', (Builtin.append_ #[t, t] ty #[.slice (some ⟨g, k, none⟩) m c2, .slice (some b) 1 c]).run P w = .ok (.slice (some ⟨g, k, none⟩) (m + 1) c2) w' ∧ w'.ownsRow base e 1 (.slice (some ⟨g, 0, none⟩) (N + 1) cap) (N + 1) (xs ++ [v]) ∧ w.grownBy w' (some g) := by
  have hnews : ∀ j u, [v][j]? = some u → w.cell? (b.add j) = some u := fun j u hj => by
    cases j with
    | zero => cases hj; exact hv
    | succ j => cases hj
  have h1' : ∀ u ∈ [v], u.oneCell' = true := fun u hu => by rw [List.mem_singleton] at hu; subst hu; exact h1
  have hbytes : (N + 1) * bytes ≤ 140737488355328 := Nat.le_trans (Nat.mul_le_mul (show N + 1 ≤ 1001 by omega) hb8) (by decide)
  rcases hown.2 with ⟨e1, -⟩ | ⟨g', cap', cur, e1, hb, hg, hle, hcm, hcs, htk⟩
  · cases e1
  cases e1
  obtain ⟨v', w', hrun, h2, h3, -⟩ := run_append_own (P := P) w base t ty e i z 1 bytes ht hi hz hsize hby hzs (by decide) _ N xs hown b 1 c [v] rfl hnews h1' (by unfold maxLen; omega) hbytes hbase
  have hr2 := run_append_room (P := P) w t ty e i ht hi g N cap cur hg b 1 c [v] (by rw [hsize]; rfl) hnews h1' (by omega) (by rw [hsize, hcs]; show N * 1 + 1 ≤ cap * 1; omega)
  rw [hrun] at hr2
  cases hr2
  refine ⟨_, ?_, h2, h3⟩
  have hf := run_firstCells_some (P := P) w i.size 1 b 1 c [v] (by rw [hsize]; rfl) hnews
  have hst := run_storeCells_at P g (N * i.size) e [v] 0 cur w hg (by rw [hsize, hcs]; show N * 1 + 0 + 1 ≤ cap * 1; omega) h1'
  simp only [Nat.add_zero] at hst
  have hroom' : m + 1 ≤ c2 := hroom
  have had : (⟨g, k, none⟩ : Addr).add (m * i.size) = ⟨g, N * i.size, none⟩ := by rw [Addr.add_mid, hsize, Nat.mul_one, Nat.mul_one, hN]
  simp [Builtin.append_, run_underlying ht, sizeOf, typeInfo, hi, Builtin.lenOf, hroom', hf, had, hst]

section
variable {P : Program} {ops : Array Oper} {rest : List Oper} {op : Oper} {a : Act} {w w0 : World} {l : List (Nat × List Value)} {r : List Rw} {F : Fz} {Q : Exit → Act → World → Prop}
/-- .. within a walk; what is appended lies in a box -/
theorem Kx.wpList_appTail_x {cap N : Nat} {g : Nat} {e : TypeId} {xs : List Value} (hB : Hid (Bxs w0 w l (⟨some ⟨g, 0, none⟩, cap, e, 1, N, xs⟩ :: r) F)) (hgd : op.guard = none) (s x : Operand) (t : TypeId) (ho : op.op = .call { callee := .builtin .append, args := #[s, x], argTypes := #[t, t] })
    (it : TypeInfo) (z : Value) (bytes : Nat) (ht : P.underlying t = some (.slice e)) (hit : P.info? e = some it) (hz : it.zero = some z) (hsize : it.size = 1) (hby : it.bytes = bytes) (hzs : z.cells.size = 1)
    (k m c2 : Nat) (hs : a.eval s = .slice (some ⟨g, k, none⟩) m c2) (b c : Nat) (v : Value) (hx : a.eval x = .slice (some ⟨b, 0, none⟩) 1 c) [hm : InL b [v] l] (h1 : v.oneCell' = true) (hN : N = k + m) (hc2 : cap = c2 + k) (hroom : m + 1 ≤ c2) (hN1 : N ≤ 1000) (hb8 : bytes ≤ 1024)
    (h : ∀ w', Hid (Bxs w0 w' l (⟨some ⟨g, 0, none⟩, cap, e, 1, N + 1, xs ++ [v]⟩ :: r) F) → wpList P ops Q rest (a.put op.dst (.slice (some ⟨g, k, none⟩) (m + 1) c2)) w') : wpList P ops Q (op :: rest) a w :=
  wpList_plain hgd fun K hK => by
    obtain ⟨w', hrun, h2, h3⟩ := run_app_tail (P := P) w w0.heap.size t op.type e it z bytes ht hit hz hsize hby hzs g N cap k m c2 xs (hB.out.rows _ (List.mem_cons_self ..)).1 hN hc2 hroom ⟨b, 0, none⟩ c v (by rw [Addr.add_mid]; exact hB.out.cell hm.mem rfl) h1 hN1 hb8 hB.out.size
    unfold Oper.wp execOp
    simp only [ho, resolve, invoke, builtin, Sem.run_bind, Sem.run_pure, Result.andThen_ok, List.map_toArray, List.map_cons, List.map_nil, hs, hx, hrun]
    exact hK _ _ (h w' (Lib.hid (hB.out.rowTo (.head _) h3 h2 (.inl rfl))))
/-- without room: a new row -/
theorem Kx.wpList_appFull_x {e : TypeId} (hB : Hid (Bxs w0 w l r F)) (hgd : op.guard = none) (s x : Operand) (t : TypeId) (ho : op.op = .call { callee := .builtin .append, args := #[s, x], argTypes := #[t, t] })
    (it : TypeInfo) (z : Value) (bytes : Nat) (ht : P.underlying t = some (.slice e)) (hit : P.info? e = some it) (hz : it.zero = some z) (hsize : it.size = 1) (hby : it.bytes = bytes) (hzs : z.cells.size = 1)
    (S : Option Addr) (k : Nat) (hs : a.eval s = .slice S k k) (olds : List Value) (hlo : olds.length = k) (hrd : Rd w w.heap.size S olds) (b c : Nat) (v : Value) (hx : a.eval x = .slice (some ⟨b, 0, none⟩) 1 c) [hm : InL b [v] l] (hk : k ≤ 1000) (hb8 : bytes ≤ 1024)
    (h : ∀ g c' w', Hid (Bxs w0 w' l (⟨some ⟨g, 0, none⟩, c', e, 1, k + 1, olds ++ [v]⟩ :: r) F) → wpList P ops Q rest (a.put op.dst (.slice (some ⟨g, 0, none⟩) (k + 1) c')) w') : wpList P ops Q (op :: rest) a w :=
  wpList_plain hgd fun K hK => by
    obtain ⟨c', w', hrun, hown, hgr⟩ := run_app_full (P := P) w w0.heap.size t op.type e it z bytes ht hit hz hsize hby hzs S k olds hlo w.heap.size hrd ⟨b, 0, none⟩ c v (by rw [Addr.add_mid]; exact hB.out.cell hm.mem rfl) hk hb8 hB.out.size
    unfold Oper.wp execOp
    simp only [ho, resolve, invoke, builtin, Sem.run_bind, Sem.run_pure, Result.andThen_ok, List.map_toArray, List.map_cons, List.map_nil, hs, hx, hrun]
    exact hK _ _ (h w.heap.size c' w' (Lib.hid (hB.out.row hgr (y := ⟨some ⟨w.heap.size, 0, none⟩, c', e, 1, k + 1, olds ++ [v]⟩) hown (.inr rfl))))
end
/-- what lies in the tail of what is new is new -/
theorem Kx.New.tail {w w' : World} {G : Fz} {g k : Nat} {xs : List Value} (h : New w w' G (some ⟨g, 0, none⟩) xs) : New w w' G (some ⟨g, k, none⟩) (xs.drop k) := fun j u hj => by
  rw [List.getElem?_drop] at hj
  obtain ⟨ad, e, h1, h2, h3⟩ := h (k + j) u hj
  cases e
  refine ⟨⟨g, k, none⟩, rfl, h1, ?_, h3⟩
  rw [Addr.add_mid] at h2 ⊢
  rwa [Nat.zero_add] at h2
end Go.Proofs.YtpbogacodhjlfaaDoor
