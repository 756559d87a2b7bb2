/- A journal in memory, written: a cell set, a row grown, a row made. -/
import Derived.Test.YtgpagddaopgdgaaDoorJf
namespace Go.Proofs.YtgpagddaopgdgaaDoor
open Go.RowKit Go.Shelf Km

section
variable {S : Nat → Prop} {w w' : World} {g : Nat} {s s' : Jm.St} {kv rv kv' rv' : Value}
theorem grown_ne {b k : Nat} (h : w.grownBy w' (some b)) (hk : k < w.heap.size) (hn : k ≠ b) : w'.heap[k]? = w.heap[k]? := h.block k hk (fun e => hn (by injection e))
theorem JAt.set (h : JAt w S g s kv rv) (p : Nat) (v : Value) (hp : p < 4) (e : jvs kv' rv' s'.burn s'.off = (jvs kv rv s.burn s.off).set p v)
    (kr : w.ownsRow 0 5 1 kv' s'.kept.length (u8s s'.kept)) (rr : w.ownsRow 0 5 1 rv' s'.rest.length (u8s s'.rest))
    (kS : ∀ b, kv'.ownBlock = some b → S b ∧ b ≠ g) (rS : ∀ b, rv'.ownBlock = some b → S b ∧ b ≠ g) (k2 : ∀ b, kv'.ownBlock = some b → rv'.ownBlock ≠ some b) (ok : Jm.Ok s') : JAt (w.setCell ⟨g, p, none⟩ v) S g s' kv' rv' := by
  have hg := grown_set1 g p v w
  refine ⟨?_, World.there_setCells h.th g p [v], h.sg, fun b q => Nat.lt_of_lt_of_le (h.lt b q) hg.size, own_same kr fun b q => grown_ne hg (h.lt b (kS b q).1) (kS b q).2, own_same rr fun b q => grown_ne hg (h.lt b (rS b q).1) (rS b q).2, kS, rS, k2, ok⟩
  rw [e]
  match p, hp with
  | 0, _ => exact range_set (p := 0) (xs := []) (ys := [kv]) (zs := [rv, .int .i64 s.burn, .bool s.off]) (cs := [v]) h.rng rfl rfl (there_part h.th (Nat.zero_le _) (Nat.le_of_ble_eq_true rfl))
  | 1, _ => exact range_set (p := 1) (xs := [kv]) (ys := [rv]) (zs := [.int .i64 s.burn, .bool s.off]) (cs := [v]) h.rng rfl rfl (there_part h.th (Nat.zero_le _) (Nat.le_of_ble_eq_true rfl))
  | 2, _ => exact range_set (p := 2) (xs := [kv, rv]) (ys := [.int .i64 s.burn]) (zs := [.bool s.off]) (cs := [v]) h.rng rfl rfl (there_part h.th (Nat.zero_le _) (Nat.le_of_ble_eq_true rfl))
  | 3, _ => exact range_set (p := 3) (xs := [kv, rv, .int .i64 s.burn]) (ys := [.bool s.off]) (zs := []) (cs := [v]) h.rng rfl rfl (there_part h.th (Nat.zero_le _) (Nat.le_of_ble_eq_true rfl))
theorem JAt.burn (h : JAt w S g s kv rv) (n : Int) (ok : Jm.Ok { s with burn := n }) : JAt (w.setCell ⟨g, 2, none⟩ (.int .i64 n)) S g { s with burn := n } kv rv :=
  h.set 2 _ (by decide) rfl h.kr h.rr h.kS h.rS h.k2 ok
theorem JAt.offs (h : JAt w S g s kv rv) (b : Bool) : JAt (w.setCell ⟨g, 3, none⟩ (.bool b)) S g { s with off := b } kv rv :=
  h.set 3 _ (by decide) rfl h.kr h.rr h.kS h.rS h.k2 ⟨h.ok.k, h.ok.r, h.ok.lo, h.ok.hi⟩
theorem JAt.norest (h : JAt w S g s kv rv) : JAt (w.setCell ⟨g, 1, none⟩ (.slice none 0 0)) S g { s with rest := [] } kv (.slice none 0 0) :=
  h.set 1 _ (by decide) rfl h.kr (World.ownsRow_nil _ _ _ _) h.kS (fun b e => nomatch e) (fun b _ e => nomatch e) ⟨h.ok.k, Fm.By.nil, h.ok.lo, h.ok.hi⟩
theorem JAt.setOut (h : JAt w S g s kv rv) (p : Nat) (v : Value) : Out S w (w.setCell ⟨g, p, none⟩ v) := Out.grown (grown_set1 g p v w) (fun b e => by injection e with e; subst e; exact h.sg)

/-- the tail's row grown -/
theorem JAt.rest (h : JAt w S g s kv rv) (hg : w.grownBy w' rv.ownBlock) {b : List Int} (hb : Fm.By b) {v' : Value} (hown : w'.ownsRow 0 5 1 v' (s.rest ++ b).length (u8s (s.rest ++ b)))
    (hone : v'.ownBlock = rv.ownBlock ∨ v'.ownBlock = some w.heap.size) : JAt (w'.setCell ⟨g, 1, none⟩ v') (Sx S w w') g { s with rest := s.rest ++ b } kv v' ∧ Out S w (w'.setCell ⟨g, 1, none⟩ v') := by
  have hgl := h.lt g h.sg
  have keep : ∀ k, k < w.heap.size → rv.ownBlock ≠ some k → w'.heap[k]? = w.heap[k]? := fun k hk hn => hg.block k hk (fun e => hn e.symm)
  have kg : w'.heap[g]? = w.heap[g]? := keep g hgl (fun e => (h.rS g e).2 rfl)
  have vS : ∀ q, v'.ownBlock = some q → Sx S w w' q ∧ q ≠ g := fun q e => by
    rcases hone with e1 | e1
    · rw [e1] at e
      exact ⟨.inl (h.rS q e).1, (h.rS q e).2⟩
    · have hl := (hown.lt q e).2
      rw [e1] at e
      injection e with e
      exact ⟨.inr ⟨by omega, hl⟩, by omega⟩
  have base : w'.rangeAt g 0 (jvs kv rv s.burn s.off) ∧ w'.there g 0 4 := ⟨fun j v hv => by rw [World.cell?_of_block kg]; exact h.rng j v hv, fun j hj => by rw [World.cell?_of_block kg, World.frozen?_of_block kg]; exact h.th j hj⟩
  have kr' : w'.ownsRow 0 5 1 kv s.kept.length (u8s s.kept) := own_same h.kr fun q e => keep q (h.lt q (h.kS q e).1) (fun e2 => h.k2 q e e2)
  have hs := grown_set1 g 1 v' w'
  have hgl' := Nat.lt_of_lt_of_le hgl hg.size
  refine ⟨⟨?_, World.there_setCells base.2 g 1 [v'], .inl h.sg, fun q hq => Nat.lt_of_lt_of_le (hq.elim (fun hq => Nat.lt_of_lt_of_le (h.lt q hq) hg.size) (fun hq => hq.2)) hs.size, own_same kr' fun q e => grown_ne hs (Nat.lt_of_lt_of_le (h.lt q (h.kS q e).1) hg.size) (h.kS q e).2,
    own_same hown fun q e => grown_ne hs (hown.lt q e).2 (vS q e).2, fun q e => ⟨.inl (h.kS q e).1, (h.kS q e).2⟩, vS, fun q e e2 => ?_, ⟨h.ok.k, h.ok.r.app hb, h.ok.lo, h.ok.hi⟩⟩, ?_⟩
  · exact range_set (p := 1) (xs := [kv]) (ys := [rv]) (zs := [.int .i64 s.burn, .bool s.off]) (cs := [v']) base.1 rfl rfl (there_part base.2 (Nat.zero_le _) (Nat.le_of_ble_eq_true rfl))
  · rcases hone with e1 | e1
    · exact h.k2 q e (e1 ▸ e2)
    · rw [e1] at e2
      injection e2 with e2
      have := h.lt q (h.kS q e).1
      omega
  · exact (Out.grown hg (fun q e => (h.rS q e).1)).trans (Out.grown hs (fun q e => by injection e with e; subst e; exact .inl h.sg))
/-- the synced bytes' row grown -/
theorem JAt.kept (h : JAt w S g s kv rv) (hg : w.grownBy w' kv.ownBlock) {b : List Int} (hb : Fm.By b) {v' : Value} (hown : w'.ownsRow 0 5 1 v' (s.kept ++ b).length (u8s (s.kept ++ b)))
    (hone : v'.ownBlock = kv.ownBlock ∨ v'.ownBlock = some w.heap.size) : JAt (w'.setCell ⟨g, 0, none⟩ v') (Sx S w w') g { s with kept := s.kept ++ b } v' rv ∧ Out S w (w'.setCell ⟨g, 0, none⟩ v') := by
  have hgl := h.lt g h.sg
  have keep : ∀ k, k < w.heap.size → kv.ownBlock ≠ some k → w'.heap[k]? = w.heap[k]? := fun k hk hn => hg.block k hk (fun e => hn e.symm)
  have kg : w'.heap[g]? = w.heap[g]? := keep g hgl (fun e => (h.kS g e).2 rfl)
  have vS : ∀ q, v'.ownBlock = some q → Sx S w w' q ∧ q ≠ g := fun q e => by
    rcases hone with e1 | e1
    · rw [e1] at e
      exact ⟨.inl (h.kS q e).1, (h.kS q e).2⟩
    · have hl := (hown.lt q e).2
      rw [e1] at e
      injection e with e
      exact ⟨.inr ⟨by omega, hl⟩, by omega⟩
  have base : w'.rangeAt g 0 (jvs kv rv s.burn s.off) ∧ w'.there g 0 4 := ⟨fun j v hv => by rw [World.cell?_of_block kg]; exact h.rng j v hv, fun j hj => by rw [World.cell?_of_block kg, World.frozen?_of_block kg]; exact h.th j hj⟩
  have rr' : w'.ownsRow 0 5 1 rv s.rest.length (u8s s.rest) := own_same h.rr fun q e => keep q (h.lt q (h.rS q e).1) (fun e2 => h.k2 q e2 e)
  have hs := grown_set1 g 0 v' w'
  refine ⟨⟨?_, World.there_setCells base.2 g 0 [v'], .inl h.sg, fun q hq => Nat.lt_of_lt_of_le (hq.elim (fun hq => Nat.lt_of_lt_of_le (h.lt q hq) hg.size) (fun hq => hq.2)) hs.size, own_same hown fun q e => grown_ne hs (hown.lt q e).2 (vS q e).2,
    own_same rr' fun q e => grown_ne hs (Nat.lt_of_lt_of_le (h.lt q (h.rS q e).1) hg.size) (h.rS q e).2, vS, fun q e => ⟨.inl (h.rS q e).1, (h.rS q e).2⟩, fun q e e2 => ?_, ⟨h.ok.k.app hb, h.ok.r, h.ok.lo, h.ok.hi⟩⟩, ?_⟩
  · exact range_set (p := 0) (xs := []) (ys := [kv]) (zs := [rv, .int .i64 s.burn, .bool s.off]) (cs := [v']) base.1 rfl rfl (there_part base.2 (Nat.zero_le _) (Nat.le_of_ble_eq_true rfl))
  · rcases hone with e1 | e1
    · exact h.k2 q (e1 ▸ e) e2
    · rw [e1] at e
      injection e with e
      have := h.lt q (h.rS q e2).1
      omega
  · exact (Out.grown hg (fun q e => (h.kS q e).1)).trans (Out.grown hs (fun q e => by injection e with e; subst e; exact .inl h.sg))
/-- the synced bytes in a row that was just made -/
theorem JAt.fresh (h : JAt w S g s kv rv) (hb : Below w.heap.size w w') {b : List Int} (hy : Fm.By b) {v' : Value} (hown : w'.ownsRow w.heap.size 5 1 v' b.length (u8s b)) :
    JAt (w'.setCell ⟨g, 0, none⟩ v') (Sx S w w') g { s with kept := b } v' rv ∧ Out S w (w'.setCell ⟨g, 0, none⟩ v') := by
  have hgl := h.lt g h.sg
  have h' := (h.below hb).sx (w := w)
  have vS : ∀ q, v'.ownBlock = some q → Sx S w w' q ∧ q ≠ g := fun q e => ⟨.inr (hown.lt q e), by have := (hown.lt q e).1; omega⟩
  refine ⟨h'.set 0 v' (by decide) rfl (own_mono hown (Nat.zero_le _)) h'.rr vS h'.rS (fun q e e2 => ?_) ⟨hy, h.ok.r, h.ok.lo, h.ok.hi⟩, (Out.below hb).trans (h'.setOut 0 v')⟩
  have h1 := (hown.lt q e).1
  have h2 := h.lt q (h.rS q e2).1
  omega
/-- where the set may be told behind the last store -/
theorem JAt.at_set {p : Nat} {v : Value} (h : JAt (w'.setCell ⟨g, p, none⟩ v) (Sx S w w') g s kv rv) : JAt (w'.setCell ⟨g, p, none⟩ v) (Sx S w (w'.setCell ⟨g, p, none⟩ v)) g s kv rv :=
  h.more (fun _ q => q.imp id (fun q => ⟨q.1, Nat.lt_of_lt_of_le q.2 (grown_set1 g p v w').size⟩)) (fun b q => q.elim (fun q => h.lt b (.inl q)) (fun q => q.2))
end
end Go.Proofs.YtgpagddaopgdgaaDoor
