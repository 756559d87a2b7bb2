/- The numbers and the plan at a place of bytes: the program's. -/
import Derived.Test.YtbkdenlhfigjhaaDoorBMa
import Derived.Test.YtbkdenlhfigjhaaDoorKitH
namespace Go.Proofs.YtbkdenlhfigjhaaDoor
open Go.RowKit Go.Shelf

theorem Rd.other {w w' : World} {B b base : Nat} {A : Option Addr} {vs : List Value} (h : Rd w B A vs) (hf : Fr base A) (hg : w.grownBy w' (some b)) (hb : b < base) (hB : B ≤ w.heap.size) : Rd w' B A vs := fun j u hj => by
  obtain ⟨ad, e, hl, hc⟩ := h j u hj
  have h1 := hf ad e
  exact ⟨ad, e, hl, (World.cell?_of_block (by rw [addr_add_block]; exact hg.block _ (by omega) (fun q => by injection q with q; omega))).trans hc⟩
theorem PlAt.other {w w' : World} {B b base : Nat} {x : Pm.Pl} {A : Option Addr} {n c : Nat} {A' : Option Addr} {n' c' : Nat} (h : PlAt w B x A n c A' n' c') (hf : Fr base A) (hf' : Fr base A') (hg : w.grownBy w' (some b)) (hb : b < base) (hB : B ≤ w.heap.size) : PlAt w' B x A n c A' n' c' :=
  ⟨h.ok, h.r1.other hf hg hb hB, h.l1, h.c1, h.m1, h.r2.other hf' hg hb hB, h.l2, h.c2, h.m2⟩

theorem i64s_len (l : List Int) : (i64s l).length = l.length := by rw [List.length_map]
theorem zeros_built : Tryd.prog.built 96 [] = some (i64s Mm.zeros).toArray := by kernel_rfl
theorem zplan_built : Tryd.prog.built 36 [] = some (pvs Pm.zero none 0 0 none 0 0).toArray := by kernel_rfl
theorem zmsg_built : Tryd.prog.built 39 [] = some (mvs Mm.zero Lo.zero).toArray := by kernel_rfl

end Go.Proofs.YtbkdenlhfigjhaaDoor

/- A body's reader, and what it reads: the program's. -/
namespace Go.Proofs.YtbkdenlhfigjhaaDoor
open Go.RowKit Go.Shelf

/-- a reader in a block: the bytes, the place, the first error -/
def rdvs (A : Option Addr) (n cap : Nat) (at_ err : Int) : List Value := [.slice A n cap, .int .i64 at_, .int .i64 err]
structure Rdr (w : World) (g : Nat) (A : Option Addr) (n cap : Nat) (at_ err : Int) : Prop where
  rng : w.rangeAt g 0 (rdvs A n cap at_ err)
  th : w.there g 0 3
theorem Rdr.below {w w' : World} {g : Nat} {A : Option Addr} {n cap : Nat} {at_ err : Int} (h : Rdr w g A n cap at_ err) {B : Nat} (hb : Below B w w') (hB : g < B) : Rdr w' g A n cap at_ err :=
  ⟨range_below h.rng hb hB, there_below h.th hb hB⟩
theorem Rdr.c0 {w : World} {g : Nat} {A : Option Addr} {n cap : Nat} {at_ err : Int} (h : Rdr w g A n cap at_ err) : w.cell? ⟨g, 0, none⟩ = some (.slice A n cap) := range_at h.rng 0 rfl
theorem Rdr.c1 {w : World} {g : Nat} {A : Option Addr} {n cap : Nat} {at_ err : Int} (h : Rdr w g A n cap at_ err) : w.cell? ⟨g, 1, none⟩ = some (.int .i64 at_) := range_at h.rng 1 rfl
theorem Rdr.c2 {w : World} {g : Nat} {A : Option Addr} {n cap : Nat} {at_ err : Int} (h : Rdr w g A n cap at_ err) : w.cell? ⟨g, 2, none⟩ = some (.int .i64 err) := range_at h.rng 2 rfl
theorem Rdr.f {w : World} {g : Nat} {A : Option Addr} {n cap : Nat} {at_ err : Int} (h : Rdr w g A n cap at_ err) (k : Nat) (hk : k < 3) : w.frozen? ⟨g, k, none⟩ = false := by
  have := (h.th k hk).2
  rwa [Nat.zero_add] at this
theorem grown_of_below {w w' : World} (h : Below w.heap.size w w') (row : Option Nat) : w.grownBy w' row := ⟨h.os, h.tape, h.output, h.size, fun k hk _ => h.block k hk⟩
/-- the place and the error set -/
theorem Rdr.set {w : World} {g : Nat} {A : Option Addr} {n cap : Nat} {at_ err : Int} (h : Rdr w g A n cap at_ err) (a e : Int) : Rdr ((w.setCell ⟨g, 1, none⟩ (.int .i64 a)).setCell ⟨g, 2, none⟩ (.int .i64 e)) g A n cap a e := by
  show Rdr (w.setCells g 1 [.int .i64 a, .int .i64 e]) g A n cap a e
  have h0 : w.rangeAt g 0 [.slice A n cap] := fun j v hv => by
    match j, hv with
    | 0, hv => exact h.rng 0 v hv
    | j + 1, hv => cases hv
  have h1 := World.rangeAt_setCells_apart h0 g 1 [.int .i64 a, .int .i64 e] (.inr (.inl (Nat.le_refl _)))
  have h2 := World.rangeAt_setCells_same w g 1 [.int .i64 a, .int .i64 e] (fun j hj => by
    have := h.th (1 + j) (by simp at hj; omega)
    rwa [Nat.zero_add] at this)
  refine ⟨fun j v hv => ?_, World.there_setCells h.th g 1 _⟩
  match j, hv with
  | 0, hv => exact h1 0 v hv
  | 1, hv => exact h2 0 v hv
  | 2, hv => exact h2 1 v hv
  | j + 3, hv => cases hv
theorem Rdr.kept1 {w : World} {g : Nat} {A : Option Addr} {n cap : Nat} {at_ err : Int} (h : Rdr w g A n cap at_ err) (a : Int) : (w.setCell ⟨g, 1, none⟩ (.int .i64 a)).cell? ⟨g, 2, none⟩ = some (.int .i64 err) ∧ (w.setCell ⟨g, 1, none⟩ (.int .i64 a)).frozen? ⟨g, 2, none⟩ = false := by
  have h2 : w.rangeAt g 2 [.int .i64 err] := fun j v hv => by
    match j, hv with
    | 0, hv => exact h.rng 2 v hv
    | j + 1, hv => cases hv
  have h1 := World.rangeAt_setCells_apart h2 g 1 [.int .i64 a] (.inr (.inr (Nat.le_refl _)))
  have h3 := (World.there_setCells h.th g 1 [.int .i64 a]) 2 (by decide)
  exact ⟨h1 0 _ rfl, h3.2⟩
theorem Rdr.grown {w w' : World} {g b : Nat} {A : Option Addr} {n cap : Nat} {at_ err : Int} (h : Rdr w g A n cap at_ err) (hg : w.grownBy w' (some b)) (hb : b ≠ g) (hgw : g < w.heap.size) : Rdr w' g A n cap at_ err := by
  have hk : ∀ j, w'.cell? ⟨g, j, none⟩ = w.cell? ⟨g, j, none⟩ := fun j => World.cell?_of_block (hg.block g hgw (fun e => hb (by injection e with e; exact e.symm)))
  have hf : ∀ j, w'.frozen? ⟨g, j, none⟩ = w.frozen? ⟨g, j, none⟩ := fun j => World.frozen?_of_block (hg.block g hgw (fun e => hb (by injection e with e; exact e.symm)))
  exact ⟨fun j v hv => by rw [hk]; exact h.rng j v hv, fun j hj => by rw [hk, hf]; exact h.th j hj⟩

end Go.Proofs.YtbkdenlhfigjhaaDoor

/- What a body's reader reads, further: the numbers, the plan: the program's. -/
namespace Go.Proofs.YtbkdenlhfigjhaaDoor
open Go.RowKit Go.Shelf

/-- a whole value into a block, as one operation of a region -/
theorem op_store_mid {P : Program} {op : Oper} {a : Act} {w : World} {K : Act → World → Prop} {Q : Exit → Act → World → Prop} (ty : TypeId) (x y : Operand) (ho : op.op = .store ty x y)
    (b o : Nat) (cells : Array Value) (hx : a.eval x = .pointer (some ⟨b, o, none⟩)) (hy : a.eval y = .agg cells) (ht : w.there b o cells.size) (hi : (P.info? ty).map (·.size) = some cells.size) (h1 : cells.all (·.oneCell') = true)
    (h : K (a.put op.dst undef) (w.setCells b o cells.toList)) : op.wp P a w K Q := wp_store_mid ty x y ho b o cells hx hy ht hi h1 h
theorem rangeAt_grown {w w' : World} {b b' o : Nat} {cs : List Value} (h : w.rangeAt b o cs) (hg : w.grownBy w' (some b')) (hb : b' ≠ b) (hlt : b < w.heap.size) : w'.rangeAt b o cs := fun j v hv => by
  rw [World.cell?_of_block (hg.block b hlt (fun e => hb (by injection e with e; exact e.symm)))]; exact h j v hv
theorem there_grown {w w' : World} {b b' o n : Nat} (h : w.there b o n) (hg : w.grownBy w' (some b')) (hb : b' ≠ b) (hlt : b < w.heap.size) : w'.there b o n := fun j hj => by
  rw [World.cell?_of_block (hg.block b hlt (fun e => hb (by injection e with e; exact e.symm))), World.frozen?_of_block (hg.block b hlt (fun e => hb (by injection e with e; exact e.symm)))]; exact h j hj

/-- what is written into a block made since is nothing to the old world -/
theorem grown_then {w w' w'' : World} {row : Option Nat} {b : Nat} (h : w.grownBy w' row) (hg : w'.grownBy w'' (some b)) (hb : w.heap.size ≤ b) : w.grownBy w'' row :=
  ⟨hg.os.trans h.os, hg.tape.trans h.tape, hg.output.trans h.output, Nat.le_trans h.size hg.size, fun k hk hne => (hg.block k (Nat.lt_of_lt_of_le hk h.size) (fun e => by injection e with e; omega)).trans (h.block k hk hne)⟩

end Go.Proofs.YtbkdenlhfigjhaaDoor

/- What a body's reader reads, further: the plan: the program's. -/
namespace Go.Proofs.YtbkdenlhfigjhaaDoor
open Go.RowKit Go.Shelf

end Go.Proofs.YtbkdenlhfigjhaaDoor

/- Whether a reader is at its end: the program's. -/
namespace Go.Proofs.YtbkdenlhfigjhaaDoor
open Go.RowKit Go.Shelf

end Go.Proofs.YtbkdenlhfigjhaaDoor

/- The plain model of the document's reading of a message: where it stops. No program in it. -/
namespace Go.Proofs.YtbkdenlhfigjhaaDoor.Mm
open Go.RowKit

theorem bad5 {k : Int} {b : List Int} (h : (s5 b).2.2 ≠ 0) : of k b = (zero, 51) := of_no fun g => h g.1
theorem bad4 {k : Int} {b : List Int} (h : (s4 b).2.2 ≠ 0) : of k b = (zero, 51) := bad5 fun g => h (thenR_zero g)
theorem bad3 {k : Int} {b : List Int} (h : (s3 b).2.2 ≠ 0) : of k b = (zero, 51) := bad4 fun g => h (thenR_zero g)
theorem bad2 {k : Int} {b : List Int} (h : (s2 b).2.2 ≠ 0) : of k b = (zero, 51) := bad3 fun g => h (thenR_zero g)
theorem bad1 {k : Int} {b : List Int} (h : (rN b 0).2.2 ≠ 0) : of k b = (zero, 51) := bad2 (by
  unfold s2
  split
  · exact fun g => h (thenR_zero g)
  · exact h)
theorem badE {k : Int} {b : List Int} (h : (Wm.rints b 0).2.2 ≠ 0) : of k b = (zero, 51) := bad1 (by rw [rN_err h]; exact h)
theorem badL {k : Int} {b : List Int} (h : (s5 b).2.1 ≠ (b.length : Int)) : of k b = (zero, 51) := of_no fun g => h g.2.1
theorem badR {k : Int} {b : List Int} (h : (got k b).right = false) : of k b = (zero, 51) := of_no fun g => by rw [g.2.2.2] at h; cases h

theorem sg_low {n : Int} (h : 0 ≤ n) (h2 : n ≤ 65535) : Pm.sg n = n := by unfold Pm.sg; split <;> omega
/-! ### what is read, whatever comes of it -/
theorem rseq_nil {b : List Int} : ∀ (k : Nat) (nx : Int), (Wm.rseq b k nx).2.2 ≠ 0 → (Wm.rseq b k nx).1 = []
  | 0, _, h => absurd rfl h
  | k + 1, nx, h => by
    unfold Wm.rseq at h ⊢
    split
    · rfl
    · rename_i h0
      rw [if_neg h0] at h
      unfold Wm.consR at h ⊢
      split
      · rfl
      · rename_i h1
        rw [if_neg h1] at h
        exact absurd rfl h
theorem rints_nil {b : List Int} {t : Int} (h : (Wm.rints b t).2.2 ≠ 0) : (Wm.rints b t).1 = [] := by
  unfold Wm.rints at h ⊢
  split
  · rfl
  · rename_i h0
    rw [if_neg h0] at h
    exact rseq_nil _ _ h
theorem rtext_nil {b : List Int} {t : Int} (h : (Wm.rtext b t).2.2 ≠ 0) : (Wm.rtext b t).1 = [] := by
  unfold Wm.rtext at h ⊢
  split
  · rfl
  · split
    · rfl
    · rename_i h1 h2
      rw [if_neg h1, if_neg h2] at h
      exact absurd rfl h
theorem fits_nil : Wm.Fits [] := fun _ h => absurd h List.not_mem_nil
theorem rints_fits {b : List Int} {n : Nat} (hb : Fm.By b) : Wm.Fits (Wm.rints b (n : Int)).1 := by
  by_cases h : (Wm.rints b (n : Int)).2.2 = 0
  · obtain ⟨l, to, e⟩ := Pm.rints_num h hb
    rw [e]
    exact (Pm.rints_at e hb).2.1
  · rw [rints_nil h]; exact fits_nil
theorem rtext_by {b : List Int} {n : Nat} (hb : Fm.By b) : Fm.By (Wm.rtext b (n : Int)).1 := by
  by_cases h : (Wm.rtext b (n : Int)).2.2 = 0
  · obtain ⟨l, to, e⟩ := rtext_num h hb
    rw [e]
    exact (rtext_at e hb).2.1
  · rw [rtext_nil h]; exact Fm.By.nil
/-- a place of the bytes, where there was no error -/
def Pl1 (b : List Int) (s : Int × Int) : Prop := s.2 = 0 → ∃ n : Nat, s.1 = (n : Int) ∧ n ≤ b.length
theorem pl_ints {b : List Int} {s : Int × Int} (hb : Fm.By b) (h : Pl1 b s) : Pl1 b (thenR [] s (Wm.rints b)).2 := fun e => by
  have e0 := thenR_zero e
  obtain ⟨n, hn, -⟩ := h e0
  rw [thenR_ok e0, hn] at e ⊢
  obtain ⟨l, to, e2⟩ := Pm.rints_num e hb
  rw [e2]
  exact ⟨to, rfl, (Pm.rints_at e2 hb).2.2.2.1⟩
theorem pl_text {b : List Int} {s : Int × Int} (hb : Fm.By b) (h : Pl1 b s) : Pl1 b (thenR [] s (Wm.rtext b)).2 := fun e => by
  have e0 := thenR_zero e
  obtain ⟨n, hn, -⟩ := h e0
  rw [thenR_ok e0, hn] at e ⊢
  obtain ⟨l, to, e2⟩ := rtext_num e hb
  rw [e2]
  exact ⟨to, rfl, (rtext_at e2 hb).2.2.2.1⟩
theorem fits_ints {b : List Int} {s : Int × Int} (hb : Fm.By b) (h : Pl1 b s) : Wm.Fits (thenR [] s (Wm.rints b)).1 := by
  by_cases e0 : s.2 = 0
  · obtain ⟨n, hn, -⟩ := h e0
    rw [thenR_ok e0, hn]
    exact rints_fits hb
  · rw [thenR_no e0]; exact fits_nil
theorem by_text {b : List Int} {s : Int × Int} (hb : Fm.By b) (h : Pl1 b s) : Fm.By (thenR [] s (Wm.rtext b)).1 := by
  by_cases e0 : s.2 = 0
  · obtain ⟨n, hn, -⟩ := h e0
    rw [thenR_ok e0, hn]
    exact rtext_by hb
  · rw [thenR_no e0]; exact Fm.By.nil
theorem pl_N {b : List Int} (hb : Fm.By b) : Pl1 b (rN b 0).2 := fun e => by
  by_cases h : (Wm.rints b 0).2.2 = 0
  · by_cases h1 : (Wm.rints b 0).1.length = 10
    · rw [rN_ok h h1]
      obtain ⟨l, to, e2⟩ := Pm.rints_num (n := 0) h hb
      have e3 : Wm.rints b 0 = (l, (to : Int), 0) := e2
      rw [e3]
      exact ⟨to, rfl, (Pm.rints_at (n := 0) e2 hb).2.2.2.1⟩
    · rw [rN_few h h1] at e; cases e
  · rw [rN_err h] at e; exact absurd e h
theorem fits_N {b : List Int} (hb : Fm.By b) : Wm.Fits (rN b 0).1 := by
  have hz : Wm.Fits zeros := fun n hn => by
    have : n = 0 := by
      unfold zeros at hn
      simpa using hn
    subst this
    exact ⟨by decide, by decide⟩
  by_cases h : (Wm.rints b 0).2.2 = 0
  · by_cases h1 : (Wm.rints b 0).1.length = 10
    · rw [rN_ok h h1]; exact rints_fits (n := 0) hb
    · rw [rN_few h h1]; exact hz
  · rw [rN_err h]; exact hz
theorem pl_P {b : List Int} {s : Int × Int} (hb : Fm.By b) (h : Pl1 b s) : Pl1 b (thenR Pm.zero s (rP b)).2 := fun e => by
  have e0 := thenR_zero e
  obtain ⟨n, hn, -⟩ := h e0
  rw [thenR_ok e0, hn] at e ⊢
  by_cases h1 : (Wm.rtext b (n : Int)).2.2 = 0
  · by_cases h2 : (Pm.get (Wm.rtext b (n : Int)).1).2 = 0
    · rw [rP_ok h1 h2]
      obtain ⟨l, to, e2⟩ := rtext_num h1 hb
      rw [e2]
      exact ⟨to, rfl, (rtext_at e2 hb).2.2.2.1⟩
    · rw [rP_no h1 h2] at e; exact absurd e h2
  · rw [rP_err h1] at e; exact absurd e h1
theorem pl_s2 {b : List Int} (hb : Fm.By b) : Pl1 b (s2 b).2 := by
  unfold s2
  split
  · exact pl_P hb (pl_N hb)
  · exact pl_N hb
theorem pl_s3 {b : List Int} (hb : Fm.By b) : Pl1 b (s3 b).2 := pl_ints hb (pl_s2 hb)
theorem pl_s4 {b : List Int} (hb : Fm.By b) : Pl1 b (s4 b).2 := pl_text hb (pl_s3 hb)
theorem pl_s5 {b : List Int} (hb : Fm.By b) : Pl1 b (s5 b).2 := pl_text hb (pl_s4 hb)
theorem ok_msOf {k : Int} {ns : List Int} (hk : Pm.I k) (hf : Wm.Fits ns) : (msOf k ns).Ok :=
  ⟨hk, Pm.fit_at hf 0, Pm.fit_at hf 1, Pm.fit_at hf 2, Pm.fit_at hf 3, Pm.fit_at hf 4, Pm.fit_at hf 5, Pm.fit_at hf 6, Pm.us_fit (Pm.fit_at hf 7), Pm.fit_at hf 8, Pm.ok_zero, fits_nil, Fm.By.nil, Fm.By.nil⟩
theorem k_fit {k : Int} (hk : 0 ≤ k ∧ k ≤ 255) : Pm.I k := ⟨by omega, by omega⟩
end Go.Proofs.YtbkdenlhfigjhaaDoor.Mm

/- What holds while a message is read of a body: the reader, the numbers, the message in its box. -/
namespace Go.Proofs.YtbkdenlhfigjhaaDoor
open Go.RowKit Go.Shelf

theorem range_app {w : World} {b o : Nat} {xs ys : List Value} (h1 : w.rangeAt b o xs) (h2 : w.rangeAt b (o + xs.length) ys) : w.rangeAt b o (xs ++ ys) := fun j v hv => by
  by_cases hj : j < xs.length
  · rw [List.getElem?_append_left hj] at hv
    exact h1 j v hv
  · rw [List.getElem?_append_right (by omega)] at hv
    have := h2 (j - xs.length) v hv
    rwa [show o + xs.length + (j - xs.length) = o + j from by omega] at this
theorem range_head {w : World} {b o : Nat} {xs ys : List Value} (h : w.rangeAt b o (xs ++ ys)) : w.rangeAt b o xs := fun j v hv => h j v (by rw [List.getElem?_append_left (List.getElem?_eq_some_iff.1 hv).1]; exact hv)
theorem range_tail {w : World} {b o : Nat} {xs ys : List Value} (h : w.rangeAt b o (xs ++ ys)) : w.rangeAt b (o + xs.length) ys := fun j v hv => by
  have := h (xs.length + j) v (by rw [List.getElem?_append_right (Nat.le_add_right _ _), Nat.add_sub_cancel_left]; exact hv)
  rwa [← Nat.add_assoc] at this
theorem range_set {w : World} {b o p : Nat} {xs ys zs cs : List Value} (h : w.rangeAt b o (xs ++ (ys ++ zs))) (hp : o + xs.length = p) (hl : ys.length = cs.length) (ht : w.there b p cs.length) :
    (w.setCells b p cs).rangeAt b o (xs ++ (cs ++ zs)) := by
  subst hp
  refine range_app (World.rangeAt_setCells_apart (range_head h) b _ cs (.inr (.inl (Nat.le_refl _)))) (range_app (World.rangeAt_setCells_same w b _ cs ht) ?_)
  have h2 := range_tail (range_tail h)
  rw [hl] at h2
  exact World.rangeAt_setCells_apart h2 b _ cs (.inr (.inr (Nat.le_refl _)))
theorem there_part {w : World} {b o n p m : Nat} (h : w.there b o n) (h1 : o ≤ p) (h2 : p + m ≤ o + n) : w.there b p m := fun j hj => by
  have := h (p - o + j) (by omega)
  rwa [show o + (p - o + j) = p + j from by omega] at this

/-- a message's slices lie in no block below -/
structure LoFr (base : Nat) (l : Lo) : Prop where
  f1 : Fr base l.A1
  f2 : Fr base l.A2
  f3 : Fr base l.A3
  f4 : Fr base l.A4
  f5 : Fr base l.A5
theorem LoFr.zero (base : Nat) : LoFr base Lo.zero := ⟨Fr.none, Fr.none, Fr.none, Fr.none, Fr.none⟩
theorem LoFr.mono {base base' : Nat} {l : Lo} (h : LoFr base l) (hb : base' ≤ base) : LoFr base' l := ⟨h.f1.mono hb, h.f2.mono hb, h.f3.mono hb, h.f4.mono hb, h.f5.mono hb⟩
theorem MsAt.other {w w' : World} {B b base : Nat} {x : Mm.Ms} {l : Lo} (h : MsAt w B x l) (hf : LoFr base l) (hg : w.grownBy w' (some b)) (hb : b < base) (hB : B ≤ w.heap.size) : MsAt w' B x l :=
  ⟨h.ok, h.pl.other hf.f1 hf.f2 hg hb hB, h.r3.other hf.f3 hg hb hB, h.l3, h.c3, h.m3, h.r4.other hf.f4 hg hb hB, h.l4, h.c4, h.m4, h.r5.other hf.f5 hg hb hB, h.l5, h.c5, h.m5⟩

theorem Mm.Pl1.bounds {b : List Int} {s : Int × Int} (h : Mm.Pl1 b s) {n cap : Nat} (hn : b.length = n) (hnc : n ≤ cap) (hcap : cap ≤ maxLen) : s.2 = 0 → -9223372036854775808 ≤ s.1 ∧ s.1 ≤ 9223372036854775807 := fun e => by
  obtain ⟨m, hm, hl⟩ := h e
  unfold maxLen at hcap
  omega

/-- while a body is read: the result's box, the reader, the numbers' box, the message's box -/
structure Ofs (w W : World) (A : Option Addr) (n cap : Nat) (at_ err : Int) (b7 b8 : Nat) (ns : List Int) (x : Mm.Ms) (l : Lo) : Prop where
  r : Rdr W (w.heap.size + 1) A n cap at_ err
  n7 : W.rangeAt b7 0 (i64s ns)
  m8 : W.rangeAt b8 0 (mvs x l)
  t8 : W.there b8 0 26
  t4 : W.there w.heap.size 0 26
  ms : MsAt W W.heap.size x l
  fr : LoFr (b8 + 1) l
  h1 : w.heap.size + 1 < b7
  h2 : b7 < b8
  h3 : b8 < W.heap.size
  bel : Below w.heap.size w W

section
variable {w W W2 : World} {A : Option Addr} {n cap : Nat} {at_ err at2 err2 : Int} {b7 b8 : Nat} {ns : List Int} {x x' : Mm.Ms} {l l' : Lo}
theorem Ofs.read (h : Ofs w W A n cap at_ err b7 b8 ns x l) (hr : Rdr W2 (w.heap.size + 1) A n cap at2 err2) (hg : W.grownBy W2 (some (w.heap.size + 1))) : Ofs w W2 A n cap at2 err2 b7 b8 ns x l := by
  have h1 := h.h1
  have h2 := h.h2
  have h3 := h.h3
  have hz := h.bel.size
  exact ⟨hr, rangeAt_grown h.n7 hg (by omega) (by omega), rangeAt_grown h.m8 hg (by omega) (by omega), there_grown h.t8 hg (by omega) (by omega), there_grown h.t4 hg (by omega) (by omega),
    (h.ms.other h.fr hg (by omega) (Nat.le_refl _)).more hg.size, h.fr, h1, h2, Nat.lt_of_lt_of_le h3 hg.size, below_grown h.bel hg (by omega) hz⟩
theorem Ofs.set (h : Ofs w W A n cap at_ err b7 b8 ns x l) {p : Nat} {xs ys zs cs : List Value} (e : mvs x l = xs ++ (ys ++ zs)) (e' : mvs x' l' = xs ++ (cs ++ zs)) (hp : xs.length = p) (hl : ys.length = cs.length)
    (hms : MsAt W W.heap.size x' l') (hfr : LoFr (b8 + 1) l') : Ofs w (W.setCells b8 p cs) A n cap at_ err b7 b8 ns x' l' := by
  have h1 := h.h1
  have h2 := h.h2
  have h3 := h.h3
  have hz := h.bel.size
  have hg := grown_set b8 cs p W
  have h26 := mvs_len x l
  rw [e, List.length_append, List.length_append] at h26
  refine ⟨h.r.grown hg (by omega) (by omega), rangeAt_grown h.n7 hg (by omega) (by omega), ?_, World.there_setCells h.t8 b8 p cs, there_grown h.t4 hg (by omega) (by omega),
    (hms.other hfr hg (by omega) (Nat.le_refl _)).more hg.size, hfr, h1, h2, Nat.lt_of_lt_of_le h3 hg.size, below_grown h.bel hg (by omega) hz⟩
  rw [e']
  have hm := h.m8
  rw [e] at hm
  exact range_set hm (by omega) hl (there_part h.t8 (Nat.zero_le _) (by omega))
theorem Ofs.plan (h : Ofs w W A n cap at_ err b7 b8 ns x l) (p : Pm.Pl) (A1 : Option Addr) (n1 c1 : Nat) (A2 : Option Addr) (n2 c2 : Nat) (hp : PlAt W W.heap.size p A1 n1 c1 A2 n2 c2) (f1 : Fr (b8 + 1) A1) (f2 : Fr (b8 + 1) A2) :
    Ofs w (W.setCells b8 11 (pvs p A1 n1 c1 A2 n2 c2)) A n cap at_ err b7 b8 ns { x with plan := p } { l with A1 := A1, n1 := n1, c1 := c1, A2 := A2, n2 := n2, c2 := c2 } := by
  have m := h.ms
  have o := m.ok
  exact h.set (xs := [.int .i64 x.k, .int .i64 x.f, .int .i64 x.t, .int .i64 x.e, .int .i64 x.b, .int .i64 x.a, .int .i64 x.n, .int .i64 x.ti, .int .u64 x.up, .int .i64 x.co, .bool x.has]) (ys := pvs x.plan l.A1 l.n1 l.c1 l.A2 l.n2 l.c2)
    (zs := [.slice l.A3 l.n3 l.c3, .slice l.A4 l.n4 l.c4, .slice l.A5 l.n5 l.c5]) rfl rfl rfl rfl
    ⟨⟨o.k, o.f, o.t, o.e, o.b, o.a, o.n, o.ti, o.up, o.co, hp.ok, o.id, o.se, o.pa⟩, hp, m.r3, m.l3, m.c3, m.m3, m.r4, m.l4, m.c4, m.m4, m.r5, m.l5, m.c5, m.m5⟩ ⟨f1, f2, h.fr.f3, h.fr.f4, h.fr.f5⟩
theorem Ofs.kind (h : Ofs w W A n cap at_ err b7 b8 ns x l) (k : Int) (hk : Pm.I k) : Ofs w (W.setCell ⟨b8, 0, none⟩ (.int .i64 k)) A n cap at_ err b7 b8 ns { x with k := k } l := by
  have m := h.ms
  have o := m.ok
  exact h.set (p := 0) (xs := []) (ys := [.int .i64 x.k]) (cs := [.int .i64 k])
    (zs := (mvs x l).drop 1) rfl rfl rfl rfl
    ⟨⟨hk, o.f, o.t, o.e, o.b, o.a, o.n, o.ti, o.up, o.co, o.plan, o.id, o.se, o.pa⟩, m.pl, m.r3, m.l3, m.c3, m.m3, m.r4, m.l4, m.c4, m.m4, m.r5, m.l5, m.c5, m.m5⟩ h.fr
theorem Ofs.id (h : Ofs w W A n cap at_ err b7 b8 ns x l) (v : List Int) (D : Option Addr) (m c : Nat) (hr : Rd W W.heap.size D (i64s v)) (hl : v.length = m) (hc : m ≤ c) (hm : c ≤ maxLen) (hf : Wm.Fits v) (f : Fr (b8 + 1) D) :
    Ofs w (W.setCell ⟨b8, 23, none⟩ (.slice D m c)) A n cap at_ err b7 b8 ns { x with id := v } { l with A3 := D, n3 := m, c3 := c } := by
  have q := h.ms
  have o := q.ok
  exact h.set (p := 23) (xs := (mvs x l).take 23) (ys := [.slice l.A3 l.n3 l.c3]) (cs := [.slice D m c])
    (zs := [.slice l.A4 l.n4 l.c4, .slice l.A5 l.n5 l.c5]) rfl rfl rfl rfl
    ⟨⟨o.k, o.f, o.t, o.e, o.b, o.a, o.n, o.ti, o.up, o.co, o.plan, hf, o.se, o.pa⟩, q.pl, hr, hl, hc, hm, q.r4, q.l4, q.c4, q.m4, q.r5, q.l5, q.c5, q.m5⟩ ⟨h.fr.f1, h.fr.f2, f, h.fr.f4, h.fr.f5⟩
theorem Ofs.se (h : Ofs w W A n cap at_ err b7 b8 ns x l) (v : List Int) (D : Option Addr) (m c : Nat) (hr : Rd W W.heap.size D (u8s v)) (hl : v.length = m) (hc : m ≤ c) (hm : c ≤ maxLen) (hf : Fm.By v) (f : Fr (b8 + 1) D) :
    Ofs w (W.setCell ⟨b8, 24, none⟩ (.slice D m c)) A n cap at_ err b7 b8 ns { x with se := v } { l with A4 := D, n4 := m, c4 := c } := by
  have q := h.ms
  have o := q.ok
  exact h.set (p := 24) (xs := (mvs x l).take 24) (ys := [.slice l.A4 l.n4 l.c4]) (cs := [.slice D m c])
    (zs := [.slice l.A5 l.n5 l.c5]) rfl rfl rfl rfl
    ⟨⟨o.k, o.f, o.t, o.e, o.b, o.a, o.n, o.ti, o.up, o.co, o.plan, o.id, hf, o.pa⟩, q.pl, q.r3, q.l3, q.c3, q.m3, hr, hl, hc, hm, q.r5, q.l5, q.c5, q.m5⟩ ⟨h.fr.f1, h.fr.f2, h.fr.f3, f, h.fr.f5⟩
theorem Ofs.pa (h : Ofs w W A n cap at_ err b7 b8 ns x l) (v : List Int) (D : Option Addr) (m c : Nat) (hr : Rd W W.heap.size D (u8s v)) (hl : v.length = m) (hc : m ≤ c) (hm : c ≤ maxLen) (hf : Fm.By v) (f : Fr (b8 + 1) D) :
    Ofs w (W.setCell ⟨b8, 25, none⟩ (.slice D m c)) A n cap at_ err b7 b8 ns { x with pa := v } { l with A5 := D, n5 := m, c5 := c } := by
  have q := h.ms
  have o := q.ok
  exact h.set (p := 25) (xs := (mvs x l).take 25) (ys := [.slice l.A5 l.n5 l.c5]) (cs := [.slice D m c])
    (zs := []) rfl rfl rfl rfl
    ⟨⟨o.k, o.f, o.t, o.e, o.b, o.a, o.n, o.ti, o.up, o.co, o.plan, o.id, o.se, hf⟩, q.pl, q.r3, q.l3, q.c3, q.m3, q.r4, q.l4, q.c4, q.m4, hr, hl, hc, hm⟩ ⟨h.fr.f1, h.fr.f2, h.fr.f3, h.fr.f4, f⟩
theorem Ofs.cell (h : Ofs w W A n cap at_ err b7 b8 ns x l) (j : Nat) {v : Value} (hv : (mvs x l)[j]? = some v) : W.cell? ⟨b8, j, none⟩ = some v ∧ W.frozen? ⟨b8, j, none⟩ = false := by
  have hj : j < 26 := by
    have := (List.getElem?_eq_some_iff.1 hv).1
    rwa [mvs_len] at this
  have := (h.t8 j hj).2
  rw [Nat.zero_add] at this
  exact ⟨range_at h.m8 j hv, this⟩
end

/-- the boxes made: the numbers' and the message's -/
theorem Ofs.start {w W2 W3 : World} {A : Option Addr} {n cap : Nat} {at_ err : Int} {ns : List Int} (hf : Wm.Fits ns) (t4 : W2.there w.heap.size 0 26) (hr : Rdr W2 (w.heap.size + 1) A n cap at_ err) (hz : w.heap.size + 2 ≤ W2.heap.size) (bel : Below w.heap.size w W2)
    (hb : Below (W2.alloc (.cells (i64s ns).toArray 96)).heap.size (W2.alloc (.cells (i64s ns).toArray 96)) W3) :
    Ofs w (W3.alloc (.cells (mvs (Mm.msOf 0 ns) Lo.zero).toArray 39)) A n cap at_ err W2.heap.size W3.heap.size ns (Mm.msOf 0 ns) Lo.zero := by
  have hz1 : (W2.alloc (.cells (i64s ns).toArray 96)).heap.size = W2.heap.size + 1 := World.size_alloc ..
  have hz3 := hb.size
  rw [hz1] at hz3
  have b2 : Below W2.heap.size W2 (W2.alloc (.cells (i64s ns).toArray 96)) := (Below.refl _ _).alloc (Nat.le_refl _) _
  have b3 : Below W2.heap.size W2 (W3.alloc (.cells (mvs (Mm.msOf 0 ns) Lo.zero).toArray 39)) := (b2.trans (hb.mono (by omega))).alloc (by omega) _
  have hz4 : (W3.alloc (.cells (mvs (Mm.msOf 0 ns) Lo.zero).toArray 39)).heap.size = W3.heap.size + 1 := World.size_alloc ..
  have b4 : Below (W2.alloc (.cells (i64s ns).toArray 96)).heap.size (W2.alloc (.cells (i64s ns).toArray 96)) (W3.alloc (.cells (mvs (Mm.msOf 0 ns) Lo.zero).toArray 39)) := hb.alloc (by rw [hz1]; exact hz3) _
  refine ⟨hr.below b3 (by omega), range_below (range_new W2 (i64s ns) 96) b4 (by rw [hz1]; exact Nat.lt_succ_self _), range_new W3 _ _, ?_, there_below t4 b3 (by omega), ?_, LoFr.zero _, by omega, by omega, by omega, (bel.trans (b3.mono (by omega)))⟩
  · have := there_new W3 (mvs (Mm.msOf 0 ns) Lo.zero) 39
    rwa [mvs_len] at this
  · exact ⟨Mm.ok_msOf ⟨by decide, by decide⟩ hf, PlAt.zero _ _, Rd.nil _ _ _, rfl, Nat.le_refl _, Nat.zero_le _, Rd.nil _ _ _, rfl, Nat.le_refl _, Nat.zero_le _, Rd.nil _ _ _, rfl, Nat.le_refl _, Nat.zero_le _⟩
end Go.Proofs.YtbkdenlhfigjhaaDoor
