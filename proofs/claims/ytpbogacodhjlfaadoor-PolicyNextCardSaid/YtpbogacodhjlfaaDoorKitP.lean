/- An append to a slice without room, that is another's: a new row. No program in it. -/
import Derived.Test.YtpbogacodhjlfaaDoorKitI
namespace Go.Proofs.YtpbogacodhjlfaaDoor
open Go.RowKit Go.Shelf Km Kx

/-- the cut [k:n:n] of a slice of n elements -/
theorem run_cut_tail {P : Program} {t e : TypeId} (ht : P.underlying t = some (.slice e)) (he : ∀ w, (sizeOf e).run P w = .ok 1 w) (A : Option Addr) (n cap k : Nat) (hk : k ≤ n) (hn : n ≤ cap) (w : World) :
    (Instr.slice t (.slice A n cap) (some (.int .i64 (k : Int))) (some (.int .i64 (n : Int))) (some (.int .i64 (n : Int)))).run P w = .ok (.slice (cutA A k n) (n - k) (n - k)) w := by
  have he' : P.elem t = e := by simp [Program.elem, ht]
  rw [run_slice_lhm (P := P) w t A n cap (by rw [he']; exact ht) .i64 .i64 .i64 (k : Int) (n : Int) (n : Int) (by omega) (by omega) (by omega) (by omega), he', he]
  unfold cutA
  simp [Result.andThen, sliced]

theorem run_app_full {P : Program} (w : World) (base : Nat) (t ty e : TypeId) (i : TypeInfo) (z : Value) (bytes : Nat) (ht : P.underlying t = some (.slice e)) (hi : P.info? e = some i) (hz : i.zero = some z) (hsize : i.size = 1) (hby : i.bytes = bytes) (hzs : z.cells.size = 1)
    (S : Option Addr) (k : Nat) (olds : List Value) (hlo : olds.length = k) (B : Nat) (hr : Rd w B S olds) (b : Addr) (c : Nat) (v : Value) (hv : w.cell? (b.add 0) = some v) (hk : k ≤ 1000) (hb8 : bytes ≤ 1024) (hbase : base ≤ w.heap.size) :
    ∃ c' w', (Builtin.append_ #[t, t] ty #[.slice S k k, .slice (some b) 1 c]).run P w = .ok (.slice (some ⟨w.heap.size, 0, none⟩) (k + 1) c') w' ∧ w'.ownsRow base e 1 (.slice (some ⟨w.heap.size, 0, none⟩) (k + 1) c') (k + 1) (olds ++ [v]) ∧ w.grownBy w' none := by
  subst hby
  have hnews : ∀ j u, [v][j]? = some u → w.cell? (b.add j) = some u := fun j u hj => by
    cases j with
    | zero => cases hj; exact hv
    | succ j => cases hj
  have hm : k + 1 ≤ maxLen := by unfold maxLen; omega
  have hbytes : (k + 1) * i.bytes ≤ 140737488355328 := Nat.le_trans (Nat.mul_le_mul (show k + 1 ≤ 1001 by omega) hb8) (by decide)
  have hge := grownCap_ge w (k + 1) k e
  have hcm : grownCap w (k + 1) k e ≤ maxLen := grownCap_le_maxLen w (k + 1) k e hm
  have hlen : (olds ++ [v]).length = k + 1 := by rw [List.length_append, hlo]; rfl
  cases S with
  | none =>
    have hk0 : olds = [] := by
      cases olds with
      | nil => rfl
      | cons u l => obtain ⟨ad, e, _⟩ := hr 0 u rfl; cases e
    subst hk0
    have hk0 : k = 0 := hlo.symm
    subst hk0
    have hrun := run_append_nil (P := P) w t ty e i z ht hi hz b 1 c [v] (by rw [hsize]; rfl) hnews (by omega) (by omega) (by omega)
    refine ⟨_, _, hrun, ⟨by rw [hlen], .inr ⟨w.heap.size, _, _, rfl, hbase, heap_alloc_new w.drew _, hge, hcm, ?_, ?_⟩⟩, ⟨rfl, rfl, rfl, by simp, fun k hk _ => heap_alloc_old w.drew _ k hk⟩⟩
    · simp only [Array.size_append, List.size_toArray, size_zeroCells, hzs, List.length_singleton]
      show 1 + (grownCap w (0 + 1) 0 e - 1) * 1 = grownCap w (0 + 1) 0 e * 1
      omega
    · simp
  | some ad =>
    have holds : ∀ j u, olds[j]? = some u → w.cell? (ad.add j) = some u := fun j u hj => by
      obtain ⟨ad', e, _, hc⟩ := hr j u hj
      cases e
      exact hc
    have hrun := run_append_grow (P := P) w t ty e i z ht hi hz ad k k olds (by rw [hsize, hlo, Nat.mul_one]) holds b 1 c [v] (by rw [hsize]; rfl) hnews (by omega) (by omega) (growslice_fits (by omega) hbytes)
    refine ⟨_, _, hrun, ⟨by rw [hlen, Nat.mul_one], .inr ⟨w.heap.size, _, _, rfl, hbase, heap_alloc_new w.drew _, hge, hcm, ?_, ?_⟩⟩, ⟨rfl, rfl, rfl, by simp, fun k hk _ => heap_alloc_old w.drew _ k hk⟩⟩
    · simp only [Array.size_append, List.size_toArray, size_zeroCells, hzs, List.length_singleton, hlo]
      omega
    · simp only [Array.toList_append, List.append_assoc]
      rw [← List.append_assoc, Nat.mul_one, ← hlen]
      exact List.take_left
section
variable {P : Program} {ops : Array Oper} {md : Region.Mode} {Q : Exit → Act → World → Prop} {D : Nat → Bool} {w0 : World} {l : List (Nat × List Value)} {r : List Rw} {F : Fz} {a : Act}
/-- .. when it alone is ready; what is appended lies in a box -/
theorem Kx.anyW_appFull_x {i d : Nat} {oi : Oper} {listed : Array Bool} {n : Nat} (hi : ops[i]? = some oi) (hr : Region.ready md ops listed = [i]) (hn : Region.wanted oi (yielded ops a.tmps) = true) (hdst : oi.dst = some d)
    (s x : Operand) (t : TypeId) (ho : oi.op = .call { callee := .builtin .append, args := #[s, x], argTypes := #[t, t] }) (e : TypeId) (it : TypeInfo) (z : Value) (bytes : Nat) (ht : P.underlying t = some (.slice e)) (hit : P.info? e = some it) (hz : it.zero = some z) (hsize : it.size = 1) (hby : it.bytes = bytes) (hzs : z.cells.size = 1)
    (S : Option Addr) (k : Nat) (hs : a.eval s = .slice S k k) (olds : List Value) (hlo : olds.length = k) (hrd : ∀ w', Bxs w0 w' l r F → Rd w' w'.heap.size S olds) (b c : Nat) (v : Value) (hx : a.eval x = .slice (some ⟨b, 0, none⟩) 1 c) [hm : InL b [v] l] (hk : k ≤ 1000) (hb8 : bytes ≤ 1024)
    (h : ∀ g c', anyW P md ops Q (fun w' => Bxs w0 w' l (⟨some ⟨g, 0, none⟩, c', e, 1, k + 1, olds ++ [v]⟩ :: r) F) D n (listed.setIfInBounds i true) (At (a.put (some d) (.slice (some ⟨g, 0, none⟩) (k + 1) c')) (fun w' => Bxs w0 w' l (⟨some ⟨g, 0, none⟩, c', e, 1, k + 1, olds ++ [v]⟩ :: r) F))) :
    anyW P md ops Q (fun w' => Bxs w0 w' l r F) D (n + 1) listed (At a (fun w' => Bxs w0 w' l r F)) :=
  anyW_one (fun a' w' => ∃ p : Nat × Nat, At (a.put (some d) (.slice (some ⟨p.1, 0, none⟩) (k + 1) p.2)) (fun w' => Bxs w0 w' l (⟨some ⟨p.1, 0, none⟩, p.2, e, 1, k + 1, olds ++ [v]⟩ :: r) F) a' w') (fun _ _ _ ⟨p, q, q2⟩ hb => ⟨p, q, q2.call hb⟩) hi hr hn (.inr fun _ _ ⟨_, _, q⟩ => q.rowTail)
    (fun w hw => by
      obtain ⟨c', w', hrun, hown, hgr⟩ := run_app_full (P := P) w w0.heap.size t oi.type e it z bytes ht hit hz hsize hby hzs S k olds hlo w.heap.size (hrd w hw) ⟨b, 0, none⟩ c v (by rw [Addr.add_mid]; exact hw.cell hm.mem rfl) hk hb8 hw.size
      unfold Oper.wp execOp
      simp only [ho, resolve, invoke, builtin, Sem.run_bind, Sem.run_pure, Result.andThen_ok, List.map_toArray, List.map_cons, List.map_nil, hs, hx, hrun]
      exact ⟨(w.heap.size, c'), by rw [hdst], hw.row hgr (y := ⟨some ⟨w.heap.size, 0, none⟩, c', e, 1, k + 1, olds ++ [v]⟩) hown (.inr rfl)⟩)
    (anyW_union ((0, 0) : Nat × Nat) fun p => anyW_wider (fun _ q => q.rowTail) (h p.1 p.2))
end
end Go.Proofs.YtpbogacodhjlfaaDoor
