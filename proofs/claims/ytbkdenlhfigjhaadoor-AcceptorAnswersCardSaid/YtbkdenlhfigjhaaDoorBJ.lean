/- What an owner's calls leave alone: all blocks that are not its own. A journal in memory. -/
import Derived.Test.YtbkdenlhfigjhaaDoorBJm
import Derived.Test.YtbkdenlhfigjhaaDoorBFs
import Derived.Test.YtbkdenlhfigjhaaDoorKitM
import Derived.Test.YtbkdenlhfigjhaaDoorBFj
import Derived.Test.YtbkdenlhfigjhaaDoorKitH
namespace Go.Proofs.YtbkdenlhfigjhaaDoor
open Go.RowKit Go.Shelf Km

/-- all blocks are as they were but those of S, and new ones -/
structure Out (S : Nat → Prop) (w w' : World) : Prop where
  os : w'.os = w.os
  tape : w'.tape = w.tape
  output : w'.output = w.output
  size : w.heap.size ≤ w'.heap.size
  block : ∀ k, k < w.heap.size → ¬ S k → w'.heap[k]? = w.heap[k]?
/-- S, and what was made -/
def Sx (S : Nat → Prop) (w w' : World) : Nat → Prop := fun b => S b ∨ (w.heap.size ≤ b ∧ b < w'.heap.size)
section
variable {S D : Nat → Prop} {w w' w'' : World}
theorem Out.refl : Out S w w := ⟨rfl, rfl, rfl, Nat.le_refl _, fun _ _ _ => rfl⟩
theorem Out.below (h : Below w.heap.size w w') : Out S w w' := ⟨h.os, h.tape, h.output, h.size, fun k hk _ => h.block k hk⟩
theorem Out.grown {row : Option Nat} (h : w.grownBy w' row) (hr : ∀ b, row = some b → S b) : Out S w w' := ⟨h.os, h.tape, h.output, h.size, fun k hk hn => h.block k hk (fun e => hn (hr k e.symm))⟩
theorem Out.trans (h : Out S w w') (k : Out (Sx S w w') w' w'') : Out S w w'' :=
  ⟨k.os.trans h.os, k.tape.trans h.tape, k.output.trans h.output, Nat.le_trans h.size k.size, fun b hb hn => (k.block b (Nat.lt_of_lt_of_le hb h.size) (fun q => q.elim hn (fun q => by omega))).trans (h.block b hb hn)⟩
theorem Out.more (h : Out S w w') (hS : ∀ b, S b → D b) : Out D w w' := ⟨h.os, h.tape, h.output, h.size, fun k hk hn => h.block k hk (fun q => hn (hS k q))⟩
theorem Out.to {B : Nat} (h : Out S w w') (hS : ∀ b, S b → B ≤ b) (hB : B ≤ w.heap.size) : Below B w w' :=
  ⟨h.os, h.tape, h.output, h.size, fun k hk => h.block k (by omega) (fun q => by have := hS k q; omega)⟩
theorem Sx.trans (h : w.heap.size ≤ w'.heap.size) (h' : w'.heap.size ≤ w''.heap.size) : Sx (Sx S w w') w' w'' = Sx S w w'' := by
  funext b
  refine propext ⟨fun q => ?_, fun q => ?_⟩
  · rcases q with (q | q) | q
    · exact .inl q
    · exact .inr ⟨q.1, by omega⟩
    · exact .inr ⟨by omega, q.2⟩
  · rcases q with q | q
    · exact .inl (.inl q)
    · by_cases hb : b < w'.heap.size
      · exact .inl (.inr ⟨q.1, hb⟩)
      · exact .inr ⟨by omega, q.2⟩
theorem Sx.in {b : Nat} (h : S b) : Sx S w w' b := .inl h
end

/-- a journal's cells -/
def jvs (kv rv : Value) (burn : Int) (off : Bool) : List Value := [kv, rv, .int .i64 burn, .bool off]
structure JAt (w : World) (S : Nat → Prop) (g : Nat) (s : Jm.St) (kv rv : Value) : Prop where
  rng : w.rangeAt g 0 (jvs kv rv s.burn s.off)
  th : w.there g 0 4
  sg : S g
  lt : ∀ b, S b → b < w.heap.size
  kr : w.ownsRow 0 5 1 kv s.kept.length (u8s s.kept)
  rr : w.ownsRow 0 5 1 rv s.rest.length (u8s s.rest)
  kS : ∀ b, kv.ownBlock = some b → S b ∧ b ≠ g
  rS : ∀ b, rv.ownBlock = some b → S b ∧ b ≠ g
  k2 : ∀ b, kv.ownBlock = some b → rv.ownBlock ≠ some b
  ok : Jm.Ok s
section
variable {S D : Nat → Prop} {w w' : World} {g : Nat} {s : Jm.St} {kv rv : Value}
theorem JAt.same (h : JAt w S g s kv rv) (hb : ∀ b, S b → w'.heap[b]? = w.heap[b]?) (hs : w.heap.size ≤ w'.heap.size) : JAt w' S g s kv rv := by
  refine ⟨fun j v hv => ?_, fun j hj => ?_, h.sg, fun b q => Nat.lt_of_lt_of_le (h.lt b q) hs, own_same h.kr fun b e => hb b (h.kS b e).1, own_same h.rr fun b e => hb b (h.rS b e).1, h.kS, h.rS, h.k2, h.ok⟩
  · rw [World.cell?_of_block (hb g h.sg)]; exact h.rng j v hv
  · rw [World.cell?_of_block (hb g h.sg), World.frozen?_of_block (hb g h.sg)]; exact h.th j hj
theorem JAt.out (h : JAt w S g s kv rv) (ho : Out D w w') (hd : ∀ b, S b → ¬ D b) : JAt w' S g s kv rv := h.same (fun b q => ho.block b (h.lt b q) (hd b q)) ho.size
theorem JAt.below (h : JAt w S g s kv rv) (hb : Below w.heap.size w w') : JAt w' S g s kv rv := h.same (fun b q => hb.block b (h.lt b q)) hb.size
theorem JAt.more (h : JAt w S g s kv rv) (hS : ∀ b, S b → D b) (hD : ∀ b, D b → b < w.heap.size) : JAt w D g s kv rv :=
  ⟨h.rng, h.th, hS _ h.sg, hD, h.kr, h.rr, fun b e => ⟨hS _ (h.kS b e).1, (h.kS b e).2⟩, fun b e => ⟨hS _ (h.rS b e).1, (h.rS b e).2⟩, h.k2, h.ok⟩
theorem JAt.sx (h : JAt w' S g s kv rv) : JAt w' (Sx S w w') g s kv rv := h.more (fun _ q => .inl q) (fun b q => q.elim (h.lt b) (·.2))
theorem JAt.at (h : JAt w S g s kv rv) (j : Nat) {v : Value} (hv : (jvs kv rv s.burn s.off)[j]? = some v) : w.cell? ⟨g, j, none⟩ = some v ∧ w.frozen? ⟨g, j, none⟩ = false := by
  have hj : j < 4 := (List.getElem?_eq_some_iff.1 hv).1
  have := (h.th j hj).2
  rw [Nat.zero_add] at this
  refine ⟨?_, this⟩
  have h2 := h.rng j v hv
  rwa [Nat.zero_add] at h2
end
end Go.Proofs.YtbkdenlhfigjhaaDoor

/- A journal in memory, written: a cell set, a row grown, a row made. -/
namespace Go.Proofs.YtbkdenlhfigjhaaDoor
open Go.RowKit Go.Shelf Km

section
variable {S : Nat → Prop} {w w' : World} {g : Nat} {s s' : Jm.St} {kv rv kv' rv' : Value}
theorem grown_ne {b k : Nat} (h : w.grownBy w' (some b)) (hk : k < w.heap.size) (hn : k ≠ b) : w'.heap[k]? = w.heap[k]? := h.block k hk (fun e => hn (by injection e))
theorem JAt.set (h : JAt w S g s kv rv) (p : Nat) (v : Value) (hp : p < 4) (e : jvs kv' rv' s'.burn s'.off = (jvs kv rv s.burn s.off).set p v)
    (kr : w.ownsRow 0 5 1 kv' s'.kept.length (u8s s'.kept)) (rr : w.ownsRow 0 5 1 rv' s'.rest.length (u8s s'.rest))
    (kS : ∀ b, kv'.ownBlock = some b → S b ∧ b ≠ g) (rS : ∀ b, rv'.ownBlock = some b → S b ∧ b ≠ g) (k2 : ∀ b, kv'.ownBlock = some b → rv'.ownBlock ≠ some b) (ok : Jm.Ok s') : JAt (w.setCell ⟨g, p, none⟩ v) S g s' kv' rv' := by
  have hg := grown_set1 g p v w
  refine ⟨?_, World.there_setCells h.th g p [v], h.sg, fun b q => Nat.lt_of_lt_of_le (h.lt b q) hg.size, own_same kr fun b q => grown_ne hg (h.lt b (kS b q).1) (kS b q).2, own_same rr fun b q => grown_ne hg (h.lt b (rS b q).1) (rS b q).2, kS, rS, k2, ok⟩
  rw [e]
  match p, hp with
  | 0, _ => exact range_set (p := 0) (xs := []) (ys := [kv]) (zs := [rv, .int .i64 s.burn, .bool s.off]) (cs := [v]) h.rng rfl rfl (there_part h.th (Nat.zero_le _) (Nat.le_of_ble_eq_true rfl))
  | 1, _ => exact range_set (p := 1) (xs := [kv]) (ys := [rv]) (zs := [.int .i64 s.burn, .bool s.off]) (cs := [v]) h.rng rfl rfl (there_part h.th (Nat.zero_le _) (Nat.le_of_ble_eq_true rfl))
  | 2, _ => exact range_set (p := 2) (xs := [kv, rv]) (ys := [.int .i64 s.burn]) (zs := [.bool s.off]) (cs := [v]) h.rng rfl rfl (there_part h.th (Nat.zero_le _) (Nat.le_of_ble_eq_true rfl))
  | 3, _ => exact range_set (p := 3) (xs := [kv, rv, .int .i64 s.burn]) (ys := [.bool s.off]) (zs := []) (cs := [v]) h.rng rfl rfl (there_part h.th (Nat.zero_le _) (Nat.le_of_ble_eq_true rfl))
theorem JAt.burn (h : JAt w S g s kv rv) (n : Int) (ok : Jm.Ok { s with burn := n }) : JAt (w.setCell ⟨g, 2, none⟩ (.int .i64 n)) S g { s with burn := n } kv rv :=
  h.set 2 _ (by decide) rfl h.kr h.rr h.kS h.rS h.k2 ok
theorem JAt.offs (h : JAt w S g s kv rv) (b : Bool) : JAt (w.setCell ⟨g, 3, none⟩ (.bool b)) S g { s with off := b } kv rv :=
  h.set 3 _ (by decide) rfl h.kr h.rr h.kS h.rS h.k2 ⟨h.ok.k, h.ok.r, h.ok.lo, h.ok.hi⟩
theorem JAt.norest (h : JAt w S g s kv rv) : JAt (w.setCell ⟨g, 1, none⟩ (.slice none 0 0)) S g { s with rest := [] } kv (.slice none 0 0) :=
  h.set 1 _ (by decide) rfl h.kr (World.ownsRow_nil _ _ _ _) h.kS (fun b e => nomatch e) (fun b _ e => nomatch e) ⟨h.ok.k, Fm.By.nil, h.ok.lo, h.ok.hi⟩
theorem JAt.setOut (h : JAt w S g s kv rv) (p : Nat) (v : Value) : Out S w (w.setCell ⟨g, p, none⟩ v) := Out.grown (grown_set1 g p v w) (fun b e => by injection e with e; subst e; exact h.sg)

/-- the tail's row grown -/
theorem JAt.rest (h : JAt w S g s kv rv) (hg : w.grownBy w' rv.ownBlock) {b : List Int} (hb : Fm.By b) {v' : Value} (hown : w'.ownsRow 0 5 1 v' (s.rest ++ b).length (u8s (s.rest ++ b)))
    (hone : v'.ownBlock = rv.ownBlock ∨ v'.ownBlock = some w.heap.size) : JAt (w'.setCell ⟨g, 1, none⟩ v') (Sx S w w') g { s with rest := s.rest ++ b } kv v' ∧ Out S w (w'.setCell ⟨g, 1, none⟩ v') := by
  have hgl := h.lt g h.sg
  have keep : ∀ k, k < w.heap.size → rv.ownBlock ≠ some k → w'.heap[k]? = w.heap[k]? := fun k hk hn => hg.block k hk (fun e => hn e.symm)
  have kg : w'.heap[g]? = w.heap[g]? := keep g hgl (fun e => (h.rS g e).2 rfl)
  have vS : ∀ q, v'.ownBlock = some q → Sx S w w' q ∧ q ≠ g := fun q e => by
    rcases hone with e1 | e1
    · rw [e1] at e
      exact ⟨.inl (h.rS q e).1, (h.rS q e).2⟩
    · have hl := (hown.lt q e).2
      rw [e1] at e
      injection e with e
      exact ⟨.inr ⟨by omega, hl⟩, by omega⟩
  have base : w'.rangeAt g 0 (jvs kv rv s.burn s.off) ∧ w'.there g 0 4 := ⟨fun j v hv => by rw [World.cell?_of_block kg]; exact h.rng j v hv, fun j hj => by rw [World.cell?_of_block kg, World.frozen?_of_block kg]; exact h.th j hj⟩
  have kr' : w'.ownsRow 0 5 1 kv s.kept.length (u8s s.kept) := own_same h.kr fun q e => keep q (h.lt q (h.kS q e).1) (fun e2 => h.k2 q e e2)
  have hs := grown_set1 g 1 v' w'
  have hgl' := Nat.lt_of_lt_of_le hgl hg.size
  refine ⟨⟨?_, World.there_setCells base.2 g 1 [v'], .inl h.sg, fun q hq => Nat.lt_of_lt_of_le (hq.elim (fun hq => Nat.lt_of_lt_of_le (h.lt q hq) hg.size) (fun hq => hq.2)) hs.size, own_same kr' fun q e => grown_ne hs (Nat.lt_of_lt_of_le (h.lt q (h.kS q e).1) hg.size) (h.kS q e).2,
    own_same hown fun q e => grown_ne hs (hown.lt q e).2 (vS q e).2, fun q e => ⟨.inl (h.kS q e).1, (h.kS q e).2⟩, vS, fun q e e2 => ?_, ⟨h.ok.k, h.ok.r.app hb, h.ok.lo, h.ok.hi⟩⟩, ?_⟩
  · exact range_set (p := 1) (xs := [kv]) (ys := [rv]) (zs := [.int .i64 s.burn, .bool s.off]) (cs := [v']) base.1 rfl rfl (there_part base.2 (Nat.zero_le _) (Nat.le_of_ble_eq_true rfl))
  · rcases hone with e1 | e1
    · exact h.k2 q e (e1 ▸ e2)
    · rw [e1] at e2
      injection e2 with e2
      have := h.lt q (h.kS q e).1
      omega
  · exact (Out.grown hg (fun q e => (h.rS q e).1)).trans (Out.grown hs (fun q e => by injection e with e; subst e; exact .inl h.sg))
/-- the synced bytes' row grown -/
theorem JAt.kept (h : JAt w S g s kv rv) (hg : w.grownBy w' kv.ownBlock) {b : List Int} (hb : Fm.By b) {v' : Value} (hown : w'.ownsRow 0 5 1 v' (s.kept ++ b).length (u8s (s.kept ++ b)))
    (hone : v'.ownBlock = kv.ownBlock ∨ v'.ownBlock = some w.heap.size) : JAt (w'.setCell ⟨g, 0, none⟩ v') (Sx S w w') g { s with kept := s.kept ++ b } v' rv ∧ Out S w (w'.setCell ⟨g, 0, none⟩ v') := by
  have hgl := h.lt g h.sg
  have keep : ∀ k, k < w.heap.size → kv.ownBlock ≠ some k → w'.heap[k]? = w.heap[k]? := fun k hk hn => hg.block k hk (fun e => hn e.symm)
  have kg : w'.heap[g]? = w.heap[g]? := keep g hgl (fun e => (h.kS g e).2 rfl)
  have vS : ∀ q, v'.ownBlock = some q → Sx S w w' q ∧ q ≠ g := fun q e => by
    rcases hone with e1 | e1
    · rw [e1] at e
      exact ⟨.inl (h.kS q e).1, (h.kS q e).2⟩
    · have hl := (hown.lt q e).2
      rw [e1] at e
      injection e with e
      exact ⟨.inr ⟨by omega, hl⟩, by omega⟩
  have base : w'.rangeAt g 0 (jvs kv rv s.burn s.off) ∧ w'.there g 0 4 := ⟨fun j v hv => by rw [World.cell?_of_block kg]; exact h.rng j v hv, fun j hj => by rw [World.cell?_of_block kg, World.frozen?_of_block kg]; exact h.th j hj⟩
  have rr' : w'.ownsRow 0 5 1 rv s.rest.length (u8s s.rest) := own_same h.rr fun q e => keep q (h.lt q (h.rS q e).1) (fun e2 => h.k2 q e2 e)
  have hs := grown_set1 g 0 v' w'
  refine ⟨⟨?_, World.there_setCells base.2 g 0 [v'], .inl h.sg, fun q hq => Nat.lt_of_lt_of_le (hq.elim (fun hq => Nat.lt_of_lt_of_le (h.lt q hq) hg.size) (fun hq => hq.2)) hs.size, own_same hown fun q e => grown_ne hs (hown.lt q e).2 (vS q e).2,
    own_same rr' fun q e => grown_ne hs (Nat.lt_of_lt_of_le (h.lt q (h.rS q e).1) hg.size) (h.rS q e).2, vS, fun q e => ⟨.inl (h.rS q e).1, (h.rS q e).2⟩, fun q e e2 => ?_, ⟨h.ok.k.app hb, h.ok.r, h.ok.lo, h.ok.hi⟩⟩, ?_⟩
  · exact range_set (p := 0) (xs := []) (ys := [kv]) (zs := [rv, .int .i64 s.burn, .bool s.off]) (cs := [v']) base.1 rfl rfl (there_part base.2 (Nat.zero_le _) (Nat.le_of_ble_eq_true rfl))
  · rcases hone with e1 | e1
    · exact h.k2 q (e1 ▸ e) e2
    · rw [e1] at e
      injection e with e
      have := h.lt q (h.rS q e2).1
      omega
  · exact (Out.grown hg (fun q e => (h.kS q e).1)).trans (Out.grown hs (fun q e => by injection e with e; subst e; exact .inl h.sg))
/-- the synced bytes in a row that was just made -/
theorem JAt.fresh (h : JAt w S g s kv rv) (hb : Below w.heap.size w w') {b : List Int} (hy : Fm.By b) {v' : Value} (hown : w'.ownsRow w.heap.size 5 1 v' b.length (u8s b)) :
    JAt (w'.setCell ⟨g, 0, none⟩ v') (Sx S w w') g { s with kept := b } v' rv ∧ Out S w (w'.setCell ⟨g, 0, none⟩ v') := by
  have hgl := h.lt g h.sg
  have h' := (h.below hb).sx (w := w)
  have vS : ∀ q, v'.ownBlock = some q → Sx S w w' q ∧ q ≠ g := fun q e => ⟨.inr (hown.lt q e), by have := (hown.lt q e).1; omega⟩
  refine ⟨h'.set 0 v' (by decide) rfl (own_mono hown (Nat.zero_le _)) h'.rr vS h'.rS (fun q e e2 => ?_) ⟨hy, h.ok.r, h.ok.lo, h.ok.hi⟩, (Out.below hb).trans (h'.setOut 0 v')⟩
  have h1 := (hown.lt q e).1
  have h2 := h.lt q (h.rS q e2).1
  omega
/-- where the set may be told behind the last store -/
theorem JAt.at_set {p : Nat} {v : Value} (h : JAt (w'.setCell ⟨g, p, none⟩ v) (Sx S w w') g s kv rv) : JAt (w'.setCell ⟨g, p, none⟩ v) (Sx S w (w'.setCell ⟨g, p, none⟩ v)) g s kv rv :=
  h.more (fun _ q => q.imp id (fun q => ⟨q.1, Nat.lt_of_lt_of_le q.2 (grown_set1 g p v w').size⟩)) (fun b q => q.elim (fun q => h.lt b (.inl q)) (fun q => q.2))
end
end Go.Proofs.YtbkdenlhfigjhaaDoor

/- A journal's small calls: made, down, an effect, a fuse, what it has: the program's and the document's. -/
namespace Go.Proofs.YtbkdenlhfigjhaaDoor
open Go.RowKit Go.Shelf Km

/-- a journal somewhere: who holds it needs no more than the set of its blocks -/
def Jat (w : World) (S : Nat → Prop) (g : Nat) (s : Jm.St) : Prop := ∃ kv rv, JAt w S g s kv rv

theorem Jm.ok_fall {s : Jm.St} (h : Jm.Ok s) : Jm.Ok { s with burn := -1 } := ⟨h.k, h.r, by show (-1 : Int) ≤ -1; decide, by show (-1 : Int) ≤ 9223372036854775807; decide⟩

section
variable {w : World} {S : Nat → Prop} {g : Nat} {s : Jm.St} {kv rv : Value}

set_option maxRecDepth 100000 in
set_option maxHeartbeats 1000000 in
theorem fall_any (h : JAt w S g s kv rv) :
    Calls Tryd.prog 81 #[.pointer (some ⟨g, 0, none⟩)] w fun e w' => e = .returned (.tuple #[]) ∧ JAt w' S g { s with burn := -1, off := true } kv rv ∧ Out S w w' := by
  have h1 := h.burn (-1) (Jm.ok_fall h.ok)
  have h2 := h1.offs true
  have o1 := h.setOut 2 (.int .i64 (-1))
  have o2 := h1.setOut 3 (.bool true)
  obtain ⟨c1, f1⟩ := h.at 2 rfl
  obtain ⟨c2, f2⟩ := h1.at 3 rfl
  have HE := Lib.hid (show JAt _ S g _ kv rv ∧ Out S w _ from ⟨h2, o1.trans (o2.more fun _ q => .inl q)⟩)
  clear h h1 h2 o1 o2
  go_enter Tryd.func81, Tryd.ntmps81
  go_wp2
  go_end0
  exact ⟨rfl, HE.out⟩

set_option maxRecDepth 100000 in
set_option maxHeartbeats 1000000 in
theorem down_any (h : JAt w S g s kv rv) :
    Calls Tryd.prog 18 #[.pointer (some ⟨g, 0, none⟩)] w fun e w' => e = .returned (.bool s.off) ∧ w' = w := by
  obtain ⟨c1, f1⟩ := h.at 3 rfl
  clear h
  go_enter Tryd.func18, Tryd.ntmps18
  go_wp2
  go_ret
  exact ⟨rfl, rfl⟩

/-- a row's slice that is nil has no room -/
theorem own_view0 {w : World} {base : Nat} {e : TypeId} {v : Value} {n : Nat} {xs : List Value} (h : w.ownsRow base e 1 v n xs) : ∃ A cap, v = .slice A n cap ∧ n ≤ cap ∧ cap ≤ maxLen ∧ Rd w w.heap.size A xs ∧ (A = none → cap = 0) := by
  rcases h.2 with ⟨rfl, rfl⟩ | ⟨g, cap, cur, rfl, _, _, h1, h2, _⟩
  · have : xs = [] := List.eq_nil_of_length_eq_zero (by simpa using h.1)
    subst this
    exact ⟨none, 0, rfl, Nat.le_refl _, Nat.zero_le _, Rd.nil _ _ _, fun _ => rfl⟩
  · exact ⟨_, cap, rfl, h1, h2, Rd.of_own h, fun e => by cases e⟩

end

/-- a new journal's cells lie in a block just made -/
theorem JAt.make (w : World) (t : TypeId) : JAt (w.alloc (.cells #[.slice none 0 0, .slice none 0 0, .int .i64 (-1), .bool false] t)) (fun b => b = w.heap.size) w.heap.size Jm.new (.slice none 0 0) (.slice none 0 0) :=
  ⟨range_new w [.slice none 0 0, .slice none 0 0, .int .i64 (-1), .bool false] t, there_new w [.slice none 0 0, .slice none 0 0, .int .i64 (-1), .bool false] t, rfl,
    (fun b e => by rw [e, World.size_alloc]; omega), World.ownsRow_nil _ _ _ _, World.ownsRow_nil _ _ _ _, (fun b e => nomatch e), (fun b e => nomatch e), (fun b e => nomatch e), Jm.ok_new⟩

set_option maxRecDepth 100000 in
theorem new_any (w : World) :
    Calls Tryd.prog 15 #[] w fun e w' => e = .returned (.pointer (some ⟨w.heap.size, 0, none⟩)) ∧ JAt w' (fun b => b = w.heap.size) w.heap.size Jm.new (.slice none 0 0) (.slice none 0 0) ∧ Below w.heap.size w w' := by
  have HJ := Lib.hid (JAt.make w 61)
  have HB : Hid (Below w.heap.size w (w.alloc (.cells #[.slice none 0 0, .slice none 0 0, .int .i64 (-1), .bool false] 61))) := (Below.refl _ w).alloc (Nat.le_refl _) _
  go_enter Tryd.func15, Tryd.ntmps15
  go_wp2
  go_ret
  exact ⟨rfl, HJ.out, HB.out⟩

end Go.Proofs.YtbkdenlhfigjhaaDoor

/- A journal's effect: the program's, with what it does, and the document's. -/
namespace Go.Proofs.YtbkdenlhfigjhaaDoor
open Go.RowKit Go.Shelf Km

section
variable {w : World} {S : Nat → Prop} {g : Nat} {s : Jm.St} {kv rv : Value}

theorem callFunc_enter {P : Program} {f : FuncId} {fn : Func} {c : Code} (hf : P.funcs[f]? = some fn) (hname : (fn.name == "runtime.NumGoroutine") = false) (hb : fn.body = some c) (args : Array Value) (w : World) :
    (callFunc f args).run P w = .ok (.enter f args) w := by
  have h1 : fn.name ≠ "runtime.NumGoroutine" := by simpa using hname
  simp [callFunc, hf, h1, hb]

theorem JAt.hid {w' : World} {s' : Jm.St} {kv' rv' : Value} (k : JAt w' S g s' kv' rv') (o : Out S w w') : Hid (JAt w' S g s' kv' rv' ∧ Out S w w') := ⟨k, o⟩

theorem JAt.burned (h : JAt w S g s kv rv) (h0 : 0 < s.burn) : JAt (w.setCell ⟨g, 2, none⟩ (.int .i64 (s.burn - 1))) S g { s with burn := s.burn - 1 } kv rv :=
  h.burn _ ⟨h.ok.k, h.ok.r, (by show -1 ≤ s.burn - 1; omega), (by show s.burn - 1 ≤ _; have := h.ok.hi; omega)⟩

set_option maxRecDepth 100000 in
set_option maxHeartbeats 1000000 in
theorem perform_any {Q : World → Prop} (h : JAt w S g s kv rv) (f : FuncId) (lb : Array Value) (hin : ∀ W, (callFunc f lb).run Tryd.prog W = .ok (.enter f lb) W)
    (hD : (Jm.eff s).2 = 0 → ∀ w', JAt w' S g (Jm.eff s).1 kv rv → Out S w w' → Calls Tryd.prog f lb w' fun e w'' => e = .returned (.tuple #[]) ∧ Q w'')
    (hE : (Jm.eff s).2 ≠ 0 → ∀ w', JAt w' S g (Jm.eff s).1 kv rv → Out S w w' → Q w') :
    Calls Tryd.prog 71 #[.pointer (some ⟨g, 0, none⟩), .func (.func f) #[] lb] w fun e w' => e = .returned (.int .i64 (Jm.eff s).2) ∧ Q w' := by
  obtain ⟨c3, f3⟩ := h.at 3 rfl
  obtain ⟨c2, f2⟩ := h.at 2 rfl
  by_cases h1 : s.off = true
  · rw [Jm.eff_off h1] at hE ⊢
    have HQ := Lib.hid (hE (by show (61 : Int) ≠ 0; decide) w h Out.refl)
    rw [h1] at c3
    clear h hD hE f2 f3
    go_enter Tryd.func71, Tryd.ntmps71
    go_wp2
    go_ret
    exact ⟨rfl, HQ.out⟩
  have h1' : s.off = false := by simpa using h1
  rw [h1'] at c3
  by_cases h2 : s.burn = 0
  · rw [Jm.eff_zero h1' h2] at hE ⊢
    have HQ := Lib.hid (hE (by show (61 : Int) ≠ 0; decide))
    have HF := Lib.hid (fall_any h)
    rw [h2] at c2
    clear h hD hE f2 f3 h1 h1' h2
    go_enter Tryd.func71, Tryd.ntmps71
    go_wp2_with (go_at_call 81; refine HF.out.mono ?_; rintro e w' ⟨rfl, k1, k2⟩)
    go_ret
    exact ⟨rfl, HQ.out _ k1 k2⟩
  by_cases h3 : 0 < s.burn
  · rw [Jm.eff_some h1' h3] at hD ⊢
    have HC := Lib.hid (hD rfl _ (h.burned h3) (h.setOut 2 _))
    have hw : IntKind.i64.wrap (s.burn - 1) = s.burn - 1 := IntWalk.i64_in _ (by have := h.ok.hi; omega)
    have hn : (s.burn == 0) = false := by simpa using h2
    generalize s.burn = n at *
    clear h hD hE f3 h1 h1'
    go_enter Tryd.func71, Tryd.ntmps71
    go_wp2_with (refine HC.out.mono ?_; rintro e w' ⟨rfl, k1⟩)
    go_ret
    exact ⟨rfl, k1⟩
  · rw [Jm.eff_none h1' (by omega)] at hD ⊢
    have HC := Lib.hid (hD rfl _ h Out.refl)
    have hn : (s.burn == 0) = false := by simpa using h2
    generalize s.burn = n at *
    clear h hD hE f3 f2 h1 h1'
    go_enter Tryd.func71, Tryd.ntmps71
    go_wp2_with (refine HC.out.mono ?_; rintro e w' ⟨rfl, k1⟩)
    go_ret
    exact ⟨rfl, k1⟩

end
end Go.Proofs.YtbkdenlhfigjhaaDoor

/- A journal's bytes moved: what is kept, and what its effects do. -/
namespace Go.Proofs.YtbkdenlhfigjhaaDoor
open Go.RowKit Go.Shelf Km

/-- behind a call of the owner's: the journal in its blocks and new ones, and all else as it was -/
def Did (S : Nat → Prop) (w w' : World) (g : Nat) (s : Jm.St) : Prop := Jat w' (Sx S w w') g s ∧ Out S w w'

section
variable {w w' w'' : World} {S : Nat → Prop} {g : Nat} {s s' : Jm.St} {kv rv : Value}

theorem Did.of (k : JAt w' S g s' kv rv) (o : Out S w w') : Did S w w' g s' := ⟨⟨_, _, k.sx⟩, o⟩
theorem Did.trans (h : Did S w w' g s) (k : Did (Sx S w w') w' w'' g s') : Did S w w'' g s' := by
  obtain ⟨k1, k2⟩ := k
  rw [Sx.trans h.2.size k2.size] at k1
  exact ⟨k1, h.2.trans k2⟩
theorem JAt.drew (h : JAt w S g s kv rv) : JAt w.drew S g s kv rv := h.same (fun _ _ => rfl) (Nat.le_refl _)
theorem Did.drew (h : Did S w.drew w' g s) : Did S w w' g s := ⟨h.1, h.2.os, h.2.tape, h.2.output, h.2.size, h.2.block⟩

theorem set_size (W : World) (p : Addr) (v : Value) : (W.setCell p v).heap.size = W.heap.size := by
  unfold World.setCell
  split <;> simp
/-- the synced bytes' row grown and stored: what the cells hold then, and, with the tail's cell struck, the journal -/
theorem JAt.keeping (h : JAt w S g s kv rv) (hg : w.grownBy w' kv.ownBlock) {b : List Int} (hb : Fm.By b) {v' : Value} (hown : w'.ownsRow 0 5 1 v' (s.kept ++ b).length (u8s (s.kept ++ b)))
    (hone : v'.ownBlock = kv.ownBlock ∨ v'.ownBlock = some w.heap.size) :
    (w'.cell? ⟨g, 0, none⟩ = some kv ∧ w'.frozen? ⟨g, 0, none⟩ = false) ∧ ((w'.setCell ⟨g, 0, none⟩ v').cell? ⟨g, 1, none⟩ = some rv ∧ (w'.setCell ⟨g, 0, none⟩ v').frozen? ⟨g, 1, none⟩ = false) ∧
      Hid (∃ S' : Nat → Prop, (∀ b, S' b → Sx S w ((w'.setCell ⟨g, 0, none⟩ v').setCell ⟨g, 1, none⟩ (.slice none 0 0)) b) ∧ JAt ((w'.setCell ⟨g, 0, none⟩ v').setCell ⟨g, 1, none⟩ (.slice none 0 0)) S' g { s with kept := s.kept ++ b, rest := [] } v' (.slice none 0 0)) ∧
      Hid (Did S w ((w'.setCell ⟨g, 0, none⟩ v').setCell ⟨g, 1, none⟩ (.slice none 0 0)) g { s with kept := s.kept ++ b, rest := [] }) := by
  have hgl := h.lt g h.sg
  have kg : w'.heap[g]? = w.heap[g]? := hg.block g hgl (fun e => (h.kS g e.symm).2 rfl)
  obtain ⟨c0, f0⟩ := h.at 0 rfl
  obtain ⟨k1, o1⟩ := h.kept hg hb hown hone
  have k2 := k1.norest
  have o2 := k1.setOut 1 (.slice none 0 0)
  have hs : ∀ b, Sx S w w' b → Sx S w (w'.setCell ⟨g, 0, none⟩ v') b := fun b q => q.imp id fun q => ⟨q.1, by rw [set_size]; exact q.2⟩
  have hs2 : ∀ b, Sx S w w' b → Sx S w ((w'.setCell ⟨g, 0, none⟩ v').setCell ⟨g, 1, none⟩ (.slice none 0 0)) b := fun b q => q.imp id fun q => ⟨q.1, by rw [set_size, set_size]; exact q.2⟩
  refine ⟨⟨(World.cell?_of_block kg).trans c0, (World.frozen?_of_block kg).trans f0⟩, k1.at 1 rfl, ⟨_, hs2, k2⟩, ⟨_, _, k2.more hs2 fun b q => ?_⟩, o1.trans (o2.more hs)⟩
  rcases q with q | q
  · exact k2.lt b (.inl q)
  · exact q.2

set_option maxRecDepth 100000 in
set_option maxHeartbeats 2000000 in
theorem keep_any (h : JAt w S g s kv rv) (n : Nat) (hn : n ≤ s.rest.length) (hz : Jm.size s ≤ 16777216) :
    Calls Tryd.prog 74 #[.pointer (some ⟨g, 0, none⟩), .int .i64 (n : Int)] w fun e w' => e = .returned (.tuple #[]) ∧ Did S w w' g { s with kept := s.kept ++ s.rest.take n, rest := [] } := by
  obtain ⟨i0, hi, hz0, hz1, hz2⟩ := info_parts info_u8
  obtain ⟨Ar, cr, rfl, hr1, hr2, hrd, -⟩ := own_view0 h.rr
  have hsl : ∀ W, (Instr.slice 37 (.slice Ar s.rest.length cr) none (some (.int .i64 (n : Int))) none).run Tryd.prog W = .ok (.slice (cutA Ar 0 cr) n cr) W := fun W => run_cut_h (P := Tryd.prog) Tryd.underlying37 (size_of_info hi hz1) Ar s.rest.length cr n (by omega) W
  have hrc := rd_cut0 (n := n) hrd hr1
  have hln : (u8s (s.rest.take n)).length = n := by rw [List.length_map, List.length_take]; omega
  generalize cutA Ar 0 cr = Ac at hsl hrc
  unfold Jm.size at hz
  have HJ := Lib.hid (fun (W : World) (q : Below w.heap.size w W) => h.below q)
  go_enter Tryd.func74, Tryd.ntmps74
  go_wp2_with fail
  refine region_F (fun W => Below w.heap.size w W) (fun j => j == 11 || j == 14) (by kernel_rfl) ?_
  have hC : Below w.heap.size w w.drew := (Below.refl _ _).drew
  refine anyP_take (i := 0) (v := ?v0_64) (a' := ?a0_64) rfl (by kernel_rfl) (by kernel_rfl) (by kernel_rfl) (fun _ _ _ h => h) (by first | exact .inl hC | exact .inr (by kernel_rfl)) (by kernel_rfl) ?w0_64 ?y0_64 ?f0_64 ?r0_64
  case w0_64 => kernel_rfl
  case y0_64 => (intro w hC; go_simp; try with_reducible rfl)
  case f0_64 => (go_simp; try with_reducible rfl)
  refine anyP_take (i := 1) (v := ?v1_65) (a' := ?a1_65) rfl (by kernel_rfl) (by kernel_rfl) (by kernel_rfl) (fun _ _ _ h => h) (by first | exact .inl hC | exact .inr (by kernel_rfl)) (by kernel_rfl) ?w1_65 ?y1_65 ?f1_65 ?r1_65
  case w1_65 => kernel_rfl
  case y1_65 => (intro w hC; go_simp; try with_reducible rfl)
  case f1_65 => (go_simp; try with_reducible rfl)
  refine anyP_take (i := 2) (v := ?v2_66) (a' := ?a2_66) rfl (by kernel_rfl) (by kernel_rfl) (by kernel_rfl) (fun _ _ _ h => h) (by first | exact .inl hC | exact .inr (by kernel_rfl)) (by kernel_rfl) ?w2_66 ?y2_66 ?f2_66 ?r2_66
  case w2_66 => kernel_rfl
  case y2_66 => (intro w hC; go_simp; try with_reducible rfl)
  case f2_66 => (go_simp; try with_reducible rfl)
  refine anyP_take (i := 3) (v := ?v3_67) (a' := ?a3_67) rfl (by kernel_rfl) (by kernel_rfl) (by kernel_rfl) (fun _ _ _ h => h) (by first | exact .inl hC | exact .inr (by kernel_rfl)) (by kernel_rfl) ?w3_67 ?y3_67 ?f3_67 ?r3_67
  case w3_67 => kernel_rfl
  case y3_67 => (intro w hC; go_simp; try with_reducible rfl)
  case f3_67 => (go_simp; try with_reducible rfl)
  refine anyP_take (i := 5) (v := ?v5_68) (a' := ?a5_68) rfl (by kernel_rfl) (by kernel_rfl) (by kernel_rfl) (fun _ _ _ h => h) (by first | exact .inl hC | exact .inr (by kernel_rfl)) (by kernel_rfl) ?w5_68 ?y5_68 ?f5_68 ?r5_68
  case w5_68 => kernel_rfl
  case y5_68 => (intro w hC; go_simp; try with_reducible rfl)
  case f5_68 => (go_simp; try with_reducible rfl)
  refine anyP_take (i := 6) (v := ?v6_69) (a' := ?a6_69) rfl (by kernel_rfl) (by kernel_rfl) (by kernel_rfl) (fun _ _ _ h => h) (by first | exact .inl hC | exact .inr (by kernel_rfl)) (by kernel_rfl) ?w6_69 ?y6_69 ?f6_69 ?r6_69
  case w6_69 => kernel_rfl
  case y6_69 => (intro w hC; go_simp; try with_reducible rfl)
  case f6_69 => (go_simp; try with_reducible rfl)
  refine anyP_take (i := 7) (v := ?v7_70) (a' := ?a7_70) rfl (by kernel_rfl) (by kernel_rfl) (by kernel_rfl) (fun _ _ _ h => h) (by first | exact .inl hC | exact .inr (by kernel_rfl)) (by kernel_rfl) ?w7_70 ?y7_70 ?f7_70 ?r7_70
  case w7_70 => kernel_rfl
  case y7_70 => (intro w hC; go_simp; try with_reducible rfl)
  case f7_70 => (go_simp; try with_reducible rfl)
  refine anyP_take (i := 9) (v := ?v9_71) (a' := ?a9_71) rfl (by kernel_rfl) (by kernel_rfl) (by kernel_rfl) (fun _ _ _ h => h) (by first | exact .inl hC | exact .inr (by kernel_rfl)) (by kernel_rfl) ?w9_71 ?y9_71 ?f9_71 ?r9_71
  case w9_71 => kernel_rfl
  case y9_71 => (intro w hC; go_simp; try with_reducible rfl)
  case f9_71 => (go_simp; try with_reducible rfl)
  refine anyF_take (i := 4) (v := ?v4_72) (a' := ?a4_72) rfl (by kernel_rfl) (by kernel_rfl) (by kernel_rfl) (fun _ _ _ h => h) hC (by kernel_rfl) ?w4_72 ?y4_72 ?f4_72 ?r4_72
  case w4_72 => kernel_rfl
  case y4_72 => (intro w hC; have h4 := ((HJ.out w hC).at 0 rfl).1; go_simp; try with_reducible rfl)
  case f4_72 => (go_simp; try with_reducible rfl)
  refine anyF_take (i := 8) (v := ?v8_73) (a' := ?a8_73) rfl (by kernel_rfl) (by kernel_rfl) (by kernel_rfl) (fun _ _ _ h => h) hC (by kernel_rfl) ?w8_73 ?y8_73 ?f8_73 ?r8_73
  case w8_73 => kernel_rfl
  case y8_73 => (intro w hC; have h4 := ((HJ.out w hC).at 1 rfl).1; go_simp; try with_reducible rfl)
  case f8_73 => (go_simp; try with_reducible rfl)
  refine anyP_take (i := 10) (v := ?v10_74) (a' := ?a10_74) rfl (by kernel_rfl) (by kernel_rfl) (by kernel_rfl) (fun _ _ _ h => h) (by first | exact .inl hC | exact .inr (by kernel_rfl)) (by kernel_rfl) ?w10_74 ?y10_74 ?f10_74 ?r10_74
  case w10_74 => kernel_rfl
  case y10_74 => (intro w hC; go_simp; try with_reducible rfl)
  case f10_74 => (go_simp; try with_reducible rfl)
  refine anyF_one (i := 11) rfl (by kernel_rfl) (by kernel_rfl) (fun K hK => ?_)
  refine op_app2 (.tmp 8) (.tmp 14) 37 rfl 0 5 i0 (.int .u8 0) 1 Tryd.underlying37 hi hz0 hz1 hz2 rfl kv s.kept.length (u8s s.kept) rfl (HJ.out _ hC).kr w.heap.size Ac n cr (u8s (s.rest.take n)) rfl hln hrc (oneCell_ints _ _) (by unfold maxLen; omega) (by omega) (Nat.zero_le _) ?_
  intro v' w2 hown hgrow hblk
  obtain ⟨A3, c3, rfl, -, -, -⟩ := own_view hown
  have hown' : w2.ownsRow 0 5 1 (.slice A3 (s.kept.length + n) c3) (s.kept ++ s.rest.take n).length (u8s (s.kept ++ s.rest.take n)) := by
    have hl2 : (s.rest.take n).length = n := by rw [List.length_take]; omega
    rw [List.length_append, hl2, show u8s (s.kept ++ s.rest.take n) = u8s s.kept ++ u8s (s.rest.take n) from List.map_append]
    exact hown
  obtain ⟨⟨c0, f0⟩, ⟨c1, f1⟩, -, HD⟩ := (HJ.out _ hC).keeping hgrow (h.ok.r.take n) hown' hblk
  refine hK _ _ ⟨.inr (by kernel_rfl), ?_⟩
  clear hK K hown hown' hgrow hblk h hrd hrc hsl HJ
  refine anyP_take (i := 12) (v := ?v12_75) (a' := ?a12_75) rfl (by kernel_rfl) (by kernel_rfl) (by kernel_rfl) (fun _ _ _ h => h) (by first | exact .inl hC | exact .inr (by kernel_rfl)) (by kernel_rfl) ?w12_75 ?y12_75 ?f12_75 ?r12_75
  case w12_75 => kernel_rfl
  case y12_75 => (intro w hC; go_simp; try with_reducible rfl)
  case f12_75 => (go_simp; try with_reducible rfl)
  refine anyP_take (i := 13) (v := ?v13_76) (a' := ?a13_76) rfl (by kernel_rfl) (by kernel_rfl) (by kernel_rfl) (fun _ _ _ h => h) (by first | exact .inl hC | exact .inr (by kernel_rfl)) (by kernel_rfl) ?w13_76 ?y13_76 ?f13_76 ?r13_76
  case w13_76 => kernel_rfl
  case y13_76 => (intro w hC; go_simp; try with_reducible rfl)
  case f13_76 => (go_simp; try with_reducible rfl)
  refine anyF_one (i := 14) rfl (by kernel_rfl) (by kernel_rfl) (fun K hK => ?_)
  go_simp
  refine hK _ _ ⟨.inr (by kernel_rfl), ?_⟩
  clear hK K c0 f0
  refine anyF_done (by kernel_rfl) ?_
  go_wp2
  go_end0
  exact ⟨rfl, HD.out.drew⟩
end
end Go.Proofs.YtbkdenlhfigjhaaDoor

/- What a journal's effects do: the program's closures. -/
namespace Go.Proofs.YtbkdenlhfigjhaaDoor
open Go.RowKit Go.Shelf Km

section
variable {w w' w'' : World} {S : Nat → Prop} {g : Nat} {s s' : Jm.St} {kv rv : Value}

theorem Did.pre (d : Did S w' w'' g s) (hb : Below w.heap.size w w') : Did S w w'' g s := by
  obtain ⟨⟨kv, rv, k⟩, o⟩ := d
  refine ⟨⟨kv, rv, k.more (fun b q => q.imp id fun q => ⟨Nat.le_trans hb.size q.1, q.2⟩) fun b q => ?_⟩, (Out.below hb).trans (o.more fun _ q => .inl q)⟩
  rcases q with q | q
  · exact k.lt b (.inl q)
  · exact q.2
/-- what lies above the owner's blocks stays -/
theorem own_out {base : Nat} {e : TypeId} {v : Value} {n : Nat} {xs : List Value} (h : w.ownsRow base e 1 v n xs) (ho : Out S w w') (hS : ∀ b, S b → b < base) : w'.ownsRow base e 1 v n xs :=
  own_same h fun q eq => ho.block q (h.lt q eq).2 (fun r => by have := hS q r; have := (h.lt q eq).1; omega)
theorem cell_out {b j : Nat} {v : Value} (h : w.cell? ⟨b, j, none⟩ = some v) (ho : Out S w w') (hS : ¬ S b) : w'.cell? ⟨b, j, none⟩ = some v :=
  (World.cell?_of_block (ho.block b (World.block_lt_of_cell? w _ h) hS)).trans h
theorem cutA_zero (g c : Nat) : cutA (some ⟨g, 0, none⟩) 0 c = some ⟨g, 0, none⟩ := by
  unfold cutA
  split
  · rfl
  · simp [Addr.add]
theorem own_cut {base : Nat} {e : TypeId} {A : Option Addr} {c n : Nat} {xs : List Value} (h : w.ownsRow base e 1 (.slice A n c) n xs) {m : Nat} (hm : m ≤ n) : w.ownsRow base e 1 (.slice (cutA A 0 c) m c) m (xs.take m) ∧ (Value.slice (cutA A 0 c) m c).ownBlock = (Value.slice A n c).ownBlock := by
  rcases h.2 with ⟨e1, e2⟩ | ⟨q, cap, cur, e1, h1, h2, h3, h4, h5, h6⟩
  · injection e1 with e1 e3 e4
    subst e1 e4
    have hm0 : m = 0 := by omega
    subst hm0
    rw [show cutA none 0 0 = none from rfl, List.take_zero]
    exact ⟨World.ownsRow_nil _ _ _ _, rfl⟩
  · injection e1 with e1 e3 e4
    subst e1 e4
    rw [cutA_zero]
    refine ⟨⟨by have := h.1; rw [List.length_take]; omega, .inr ⟨q, c, cur, rfl, h1, h2, by omega, h4, h5, ?_⟩⟩, rfl⟩
    rw [← h6, List.take_take]
    congr 1
    omega

/-- the tail's row grown and stored -/
theorem JAt.adding (h : JAt w S g s kv rv) (hg : w.grownBy w' rv.ownBlock) {b : List Int} (hb : Fm.By b) {v' : Value} (hown : w'.ownsRow 0 5 1 v' (s.rest ++ b).length (u8s (s.rest ++ b)))
    (hone : v'.ownBlock = rv.ownBlock ∨ v'.ownBlock = some w.heap.size) :
    (w'.cell? ⟨g, 1, none⟩ = some rv ∧ w'.frozen? ⟨g, 1, none⟩ = false) ∧ Hid (Did S w (w'.setCell ⟨g, 1, none⟩ v') g { s with rest := s.rest ++ b }) := by
  have hgl := h.lt g h.sg
  have kg : w'.heap[g]? = w.heap[g]? := hg.block g hgl (fun e => (h.rS g e.symm).2 rfl)
  obtain ⟨c0, f0⟩ := h.at 1 rfl
  obtain ⟨k1, o1⟩ := h.rest hg hb hown hone
  exact ⟨⟨(World.cell?_of_block kg).trans c0, (World.frozen?_of_block kg).trans f0⟩, ⟨_, _, k1.at_set⟩, o1⟩
/-- the synced bytes cut short -/
theorem JAt.cut {A : Option Addr} {c : Nat} (h : JAt w S g s (.slice A s.kept.length c) rv) {m : Nat} (hm : m ≤ s.kept.length) : JAt (w.setCell ⟨g, 0, none⟩ (.slice (cutA A 0 c) m c)) S g { s with kept := s.kept.take m } (.slice (cutA A 0 c) m c) rv := by
  obtain ⟨h1, h2⟩ := own_cut h.kr hm
  refine h.set 0 _ (by decide) rfl ?_ h.rr (fun b e => h.kS b (h2 ▸ e)) h.rS (fun b e => h.k2 b (h2 ▸ e)) ⟨h.ok.k.take m, h.ok.r, h.ok.lo, h.ok.hi⟩
  have hl : (s.kept.take m).length = m := by rw [List.length_take]; omega
  show World.ownsRow _ _ _ _ _ (s.kept.take m).length (u8s (s.kept.take m))
  rw [hl, show u8s (s.kept.take m) = (u8s s.kept).take m from List.map_take]
  exact h1

set_option maxRecDepth 100000 in
set_option maxHeartbeats 2000000 in
theorem syncs_any (h : JAt w S g s kv rv) {B : Nat} (hB : w.cell? ⟨B, 0, none⟩ = some (.pointer (some ⟨g, 0, none⟩))) (hz : Jm.size s ≤ 16777216) :
    Calls Tryd.prog 73 #[.pointer (some ⟨B, 0, none⟩)] w fun e w' => e = .returned (.tuple #[]) ∧ Did S w w' g { s with kept := s.kept ++ s.rest, rest := [] } := by
  obtain ⟨Ar, cr, rfl, hr1, hr2, hrd, -⟩ := own_view0 h.rr
  have HJ := Lib.hid (fun (W : World) (q : Below w.heap.size w W) => h.below q)
  have hBl := World.block_lt_of_cell? w _ hB
  have HB := Lib.hid (fun (W : World) (q : Below w.heap.size w W) => (q.cell (p := ⟨B, 0, none⟩) hBl).trans hB)
  have HC := Lib.hid (keep_any h.drew s.rest.length (Nat.le_refl _) hz)
  clear h hr1 hr2 hrd hB hBl
  go_enter Tryd.func73, Tryd.ntmps73
  go_wp2_with fail
  refine region_F (fun W => Below w.heap.size w W) (fun j => j == 6) (by kernel_rfl) ?_
  have hC : Below w.heap.size w w.drew := (Below.refl _ _).drew
  refine anyF_take (i := 0) (v := ?v0_77) (a' := ?a0_77) rfl (by kernel_rfl) (by kernel_rfl) (by kernel_rfl) (fun _ _ _ h => h) hC (by kernel_rfl) ?w0_77 ?y0_77 ?f0_77 ?r0_77
  case w0_77 => kernel_rfl
  case y0_77 => (intro w hC; have h4 := HB.out w hC; go_simp; try with_reducible rfl)
  case f0_77 => (go_simp; try with_reducible rfl)
  refine anyF_take (i := 1) (v := ?v1_78) (a' := ?a1_78) rfl (by kernel_rfl) (by kernel_rfl) (by kernel_rfl) (fun _ _ _ h => h) hC (by kernel_rfl) ?w1_78 ?y1_78 ?f1_78 ?r1_78
  case w1_78 => kernel_rfl
  case y1_78 => (intro w hC; have h4 := HB.out w hC; go_simp; try with_reducible rfl)
  case f1_78 => (go_simp; try with_reducible rfl)
  refine anyP_take (i := 2) (v := ?v2_79) (a' := ?a2_79) rfl (by kernel_rfl) (by kernel_rfl) (by kernel_rfl) (fun _ _ _ h => h) (by first | exact .inl hC | exact .inr (by kernel_rfl)) (by kernel_rfl) ?w2_79 ?y2_79 ?f2_79 ?r2_79
  case w2_79 => kernel_rfl
  case y2_79 => (intro w hC; go_simp; try with_reducible rfl)
  case f2_79 => (go_simp; try with_reducible rfl)
  refine anyP_take (i := 3) (v := ?v3_80) (a' := ?a3_80) rfl (by kernel_rfl) (by kernel_rfl) (by kernel_rfl) (fun _ _ _ h => h) (by first | exact .inl hC | exact .inr (by kernel_rfl)) (by kernel_rfl) ?w3_80 ?y3_80 ?f3_80 ?r3_80
  case w3_80 => kernel_rfl
  case y3_80 => (intro w hC; go_simp; try with_reducible rfl)
  case f3_80 => (go_simp; try with_reducible rfl)
  refine anyF_take (i := 4) (v := ?v4_81) (a' := ?a4_81) rfl (by kernel_rfl) (by kernel_rfl) (by kernel_rfl) (fun _ _ _ h => h) hC (by kernel_rfl) ?w4_81 ?y4_81 ?f4_81 ?r4_81
  case w4_81 => kernel_rfl
  case y4_81 => (intro w hC; have h4 := ((HJ.out w hC).at 1 rfl).1; go_simp; try with_reducible rfl)
  case f4_81 => (go_simp; try with_reducible rfl)
  refine anyP_take (i := 5) (v := ?v5_82) (a' := ?a5_82) rfl (by kernel_rfl) (by kernel_rfl) (by kernel_rfl) (fun _ _ _ h => h) (by first | exact .inl hC | exact .inr (by kernel_rfl)) (by kernel_rfl) ?w5_82 ?y5_82 ?f5_82 ?r5_82
  case w5_82 => kernel_rfl
  case y5_82 => (intro w hC; go_simp; try with_reducible rfl)
  case f5_82 => (go_simp; try with_reducible rfl)
  refine anyF_one (i := 6) rfl (by kernel_rfl) (by kernel_rfl) (fun K hK => ?_)
  go_simp
  refine HC.out.mono ?_
  rintro e w2 ⟨rfl, hd⟩
  refine hK _ _ ⟨.inr (by kernel_rfl), ?_⟩
  refine anyF_done (by kernel_rfl) ?_
  go_wp2
  go_end0
  rw [List.take_length] at hd
  exact ⟨rfl, hd.drew⟩

set_option maxRecDepth 100000 in
set_option maxHeartbeats 2000000 in
theorem appends_any (h : JAt w S g s kv rv) {B D base : Nat} {v : Value} {b : List Int} (hB : w.cell? ⟨B, 0, none⟩ = some (.pointer (some ⟨g, 0, none⟩))) (nB : ¬ S B) (hD : w.cell? ⟨D, 0, none⟩ = some v) (nD : ¬ S D)
    (hv : w.ownsRow base 5 1 v b.length (u8s b)) (hb : Fm.By b) (hl : b.length ≤ 16777216) (hz : Jm.size s ≤ 16777216) :
    Calls Tryd.prog 72 #[.pointer (some ⟨B, 0, none⟩), .pointer (some ⟨D, 0, none⟩)] w fun e w' => e = .returned (.tuple #[]) ∧ Did S w w' g { s with rest := s.rest ++ b } := by
  obtain ⟨i0, hi, hz0, hz1, hz2⟩ := info_parts info_u8
  unfold Jm.size at hz
  obtain ⟨Av, cv, rfl, hv1, hv2, hvd, -⟩ := own_view0 hv
  have hBl := World.block_lt_of_cell? w _ hB
  have hDl := World.block_lt_of_cell? w _ hD
  have hgl := h.lt g h.sg
  have hR : w.drew.cell? ⟨g, 1, none⟩ = some rv := (h.drew.at 1 rfl).1
  have HJ := Lib.hid h.drew
  have hB' : w.drew.cell? ⟨B, 0, none⟩ = some (.pointer (some ⟨g, 0, none⟩)) := hB
  have hD' : w.drew.cell? ⟨D, 0, none⟩ = some (.slice Av b.length cv) := hD
  have hvd' : Rd w.drew w.heap.size Av (u8s b) := hvd
  have hsd : w.drew.heap.size = w.heap.size := rfl
  have rS := h.rS
  clear hB hD hvd hv
  go_enter Tryd.func72, Tryd.ntmps72
  go_wp2_with fail
  refine region_F (fun W => W.cell? ⟨B, 0, none⟩ = some (.pointer (some ⟨g, 0, none⟩)) ∧ W.cell? ⟨g, 1, none⟩ = some rv ∧ W.cell? ⟨D, 0, none⟩ = some (.slice Av b.length cv)) (fun j => j == 9) (by kernel_rfl) ?_
  have hC : w.drew.cell? ⟨B, 0, none⟩ = some (.pointer (some ⟨g, 0, none⟩)) ∧ w.drew.cell? ⟨g, 1, none⟩ = some rv ∧ w.drew.cell? ⟨D, 0, none⟩ = some (.slice Av b.length cv) := ⟨hB', hR, hD'⟩
  refine anyF_take (i := 0) (v := ?v0_83) (a' := ?a0_83) rfl (by kernel_rfl) (by kernel_rfl) (by kernel_rfl) (fun _ _ _ h => h) hC (by kernel_rfl) ?w0_83 ?y0_83 ?f0_83 ?r0_83
  case w0_83 => kernel_rfl
  case y0_83 => (intro w hC; have h4 := hC.1; go_simp; try with_reducible rfl)
  case f0_83 => (go_simp; try with_reducible rfl)
  refine anyF_take (i := 1) (v := ?v1_84) (a' := ?a1_84) rfl (by kernel_rfl) (by kernel_rfl) (by kernel_rfl) (fun _ _ _ h => h) hC (by kernel_rfl) ?w1_84 ?y1_84 ?f1_84 ?r1_84
  case w1_84 => kernel_rfl
  case y1_84 => (intro w hC; have h4 := hC.1; go_simp; try with_reducible rfl)
  case f1_84 => (go_simp; try with_reducible rfl)
  refine anyP_take (i := 2) (v := ?v2_85) (a' := ?a2_85) rfl (by kernel_rfl) (by kernel_rfl) (by kernel_rfl) (fun _ _ _ h => h) (by first | exact .inl hC | exact .inr (by kernel_rfl)) (by kernel_rfl) ?w2_85 ?y2_85 ?f2_85 ?r2_85
  case w2_85 => kernel_rfl
  case y2_85 => (intro w hC; go_simp; try with_reducible rfl)
  case f2_85 => (go_simp; try with_reducible rfl)
  refine anyP_take (i := 3) (v := ?v3_86) (a' := ?a3_86) rfl (by kernel_rfl) (by kernel_rfl) (by kernel_rfl) (fun _ _ _ h => h) (by first | exact .inl hC | exact .inr (by kernel_rfl)) (by kernel_rfl) ?w3_86 ?y3_86 ?f3_86 ?r3_86
  case w3_86 => kernel_rfl
  case y3_86 => (intro w hC; go_simp; try with_reducible rfl)
  case f3_86 => (go_simp; try with_reducible rfl)
  refine anyF_take (i := 4) (v := ?v4_87) (a' := ?a4_87) rfl (by kernel_rfl) (by kernel_rfl) (by kernel_rfl) (fun _ _ _ h => h) hC (by kernel_rfl) ?w4_87 ?y4_87 ?f4_87 ?r4_87
  case w4_87 => kernel_rfl
  case y4_87 => (intro w hC; have h4 := hC.2.1; go_simp; try with_reducible rfl)
  case f4_87 => (go_simp; try with_reducible rfl)
  refine anyF_take (i := 5) (v := ?v5_88) (a' := ?a5_88) rfl (by kernel_rfl) (by kernel_rfl) (by kernel_rfl) (fun _ _ _ h => h) hC (by kernel_rfl) ?w5_88 ?y5_88 ?f5_88 ?r5_88
  case w5_88 => kernel_rfl
  case y5_88 => (intro w hC; have h4 := hC.2.2; go_simp; try with_reducible rfl)
  case f5_88 => (go_simp; try with_reducible rfl)
  refine anyF_one (i := 6) rfl (by kernel_rfl) (by kernel_rfl) (fun K hK => ?_)
  refine op_app2 (.tmp 6) (.tmp 7) 37 rfl 0 5 i0 (.int .u8 0) 1 Tryd.underlying37 hi hz0 hz1 hz2 rfl rv s.rest.length (u8s s.rest) rfl HJ.out.rr w.heap.size Av b.length cv (u8s b) rfl (by rw [List.length_map]) hvd' (oneCell_ints _ _) (by unfold maxLen; omega) (by omega) (Nat.zero_le _) ?_
  intro v' w2 hown hgrow hblk
  obtain ⟨A3, c3, rfl, -, -, -⟩ := own_view hown
  have hown' : w2.ownsRow 0 5 1 (.slice A3 (s.rest.length + b.length) c3) (s.rest ++ b).length (u8s (s.rest ++ b)) := by
    rw [List.length_append, show u8s (s.rest ++ b) = u8s s.rest ++ u8s b from List.map_append]
    exact hown
  obtain ⟨⟨c1, f1⟩, HD⟩ := HJ.out.adding hgrow hb hown' hblk
  have hC2 : w2.cell? ⟨B, 0, none⟩ = some (.pointer (some ⟨g, 0, none⟩)) ∧ w2.cell? ⟨g, 1, none⟩ = some rv ∧ w2.cell? ⟨D, 0, none⟩ = some (.slice Av b.length cv) :=
    ⟨hgrow.cell hC.1 (fun e => nB (rS _ e.symm).1), c1, hgrow.cell hC.2.2 (fun e => nD (rS _ e.symm).1)⟩
  refine hK _ _ ⟨.inl hC2, ?_⟩
  clear hK K hown hown' hgrow hblk h hvd' HJ hC hR hB' hD' rS
  refine anyP_take (i := 7) (v := ?v7_89) (a' := ?a7_89) rfl (by kernel_rfl) (by kernel_rfl) (by kernel_rfl) (fun _ _ _ h => h) (by first | exact .inl hC2 | exact .inr (by kernel_rfl)) (by kernel_rfl) ?w7_89 ?y7_89 ?f7_89 ?r7_89
  case w7_89 => kernel_rfl
  case y7_89 => (intro w hC; go_simp; try with_reducible rfl)
  case f7_89 => (go_simp; try with_reducible rfl)
  refine anyP_take (i := 8) (v := ?v8_90) (a' := ?a8_90) rfl (by kernel_rfl) (by kernel_rfl) (by kernel_rfl) (fun _ _ _ h => h) (by first | exact .inl hC2 | exact .inr (by kernel_rfl)) (by kernel_rfl) ?w8_90 ?y8_90 ?f8_90 ?r8_90
  case w8_90 => kernel_rfl
  case y8_90 => (intro w hC; go_simp; try with_reducible rfl)
  case f8_90 => (go_simp; try with_reducible rfl)
  refine anyF_one (i := 9) rfl (by kernel_rfl) (by kernel_rfl) (fun K hK => ?_)
  go_simp
  refine hK _ _ ⟨.inr (by kernel_rfl), ?_⟩
  clear hK K c1 f1 hC2
  refine anyF_done (by kernel_rfl) ?_
  go_wp2
  go_end0
  exact ⟨rfl, HD.out.drew⟩

end
end Go.Proofs.YtbkdenlhfigjhaaDoor

/- A journal's calls: a record appended, the tail synced: the program's and the document's. -/
namespace Go.Proofs.YtbkdenlhfigjhaaDoor
open Go.RowKit Go.Shelf Km

section
variable {w w' w'' : World} {S : Nat → Prop} {g : Nat} {s s' : Jm.St} {kv rv : Value}

set_option maxRecDepth 100000 in
set_option maxHeartbeats 2000000 in
theorem append_any (h : JAt w S g s kv rv) (k : Int) (A : Option Addr) (n cap B : Nat) (xs : List Int) (hk : 0 ≤ k ∧ k ≤ 255) (hx : Rd w B A (u8s xs)) (hn : xs.length = n) (hnc : n ≤ cap) (hcap : cap ≤ maxLen) (hB : B ≤ w.heap.size) (hb : Fm.By xs) (ht : HTab w)
    (hz : Jm.size s ≤ 16777216) :
    Calls Tryd.prog 58 #[.pointer (some ⟨g, 0, none⟩), .int .u8 k, .slice A n cap] w fun e w' => e = .returned (.int .i64 (Jm.append s k xs).2) ∧ Did S w w' g (Jm.append s k xs).1 := by
  obtain ⟨w1, hw1⟩ : ∃ w1, w1 = w.alloc (.cells #[.pointer (some ⟨g, 0, none⟩)] 48) := ⟨_, rfl⟩
  have hb1 : Below w.heap.size w w1 := by rw [hw1]; exact (Below.refl _ w).alloc (Nat.le_refl _) _
  have hs1 : w1.heap.size = w.heap.size + 1 := by rw [hw1, World.size_alloc]
  have hc1 : w1.cell? ⟨w.heap.size, 0, none⟩ = some (.pointer (some ⟨g, 0, none⟩)) := by rw [hw1]; exact (Boxed.new w _ _).cell
  have HP := Lib.hid (FPut_any k A n cap B xs w1 hk (hx.below (hb1.mono hB)) hn hnc hcap (Nat.le_trans hB hb1.size) hb (ht.below hb1 (Nat.le_refl _)))
  by_cases hm : 8192 < xs.length
  · rw [Jm.append_many hm]
    rw [Fm.put_many hm] at HP
    have HD : Hid (∀ w', Below w.heap.size w w' → Did S w w' g s) := fun w' q => Did.of (h.below q) (Out.below q)
    clear h hx ht hb hc1
    go_enter Tryd.func58, Tryd.ntmps58
    go_wp2_with (go_at_call 70; fail)
    rw [← hw1]
    refine HP.out.mono ?_
    rintro e w2 ⟨v, rfl, hown, hb2⟩
    obtain ⟨A2, c2, rfl, -, -, -⟩ := own_view hown
    clear hown
    go_wp2
    go_ret
    refine ⟨rfl, HD.out _ ?_⟩
    exact (hb1.trans (hb2.mono hb1.size)).alloc (by have := hb2.size; omega) _
  rw [Fm.put_ok (by omega)] at HP
  dsimp only at HP
  have HFL := Lib.hid (Fm.frm_len k xs)
  have HFB := Lib.hid (Fm.frm_by hk hb (by omega))
  generalize hfx : Fm.frm k xs = fx at HP HFL HFB
  have HJ := Lib.hid (fun (W : World) (q : Below w.heap.size w W) => h.below q)
  have hSl := h.lt
  have he0 := Jm.eff_kept s
  have HA : Hid ((Jm.append s k xs).2 = (Jm.eff s).2 ∧ ((Jm.eff s).2 = 0 → (Jm.append s k xs).1 = { (Jm.eff s).1 with rest := (Jm.eff s).1.rest ++ fx }) ∧ ((Jm.eff s).2 ≠ 0 → (Jm.append s k xs).1 = (Jm.eff s).1)) := by
    by_cases h0 : (Jm.eff s).2 = 0
    · rw [Jm.append_ok hm h0]
      exact ⟨h0.symm, fun _ => by rw [he0.2, hfx], fun q => absurd h0 q⟩
    · rw [Jm.append_err hm h0]
      exact ⟨rfl, fun q => absurd q h0, fun _ => rfl⟩
  have hze : Jm.size (Jm.eff s).1 ≤ 16777216 := by rw [Jm.size_eff]; exact hz
  have HQ : Hid (∀ (w3 : World) (D base : Nat) (v : Value), Below w.heap.size w w3 → w3.cell? ⟨w.heap.size, 0, none⟩ = some (.pointer (some ⟨g, 0, none⟩)) → w3.cell? ⟨D, 0, none⟩ = some v → w.heap.size ≤ D → w.heap.size ≤ base → w3.ownsRow base 5 1 v fx.length (u8s fx) →
      Calls Tryd.prog 71 #[.pointer (some ⟨g, 0, none⟩), .func (.func 72) #[] #[.pointer (some ⟨w.heap.size, 0, none⟩), .pointer (some ⟨D, 0, none⟩)]] w3 fun e w' => e = .returned (.int .i64 (Jm.append s k xs).2) ∧ Did S w w' g (Jm.append s k xs).1) := by
    intro w3 D base v q1 q2 q3 q4 q5 q6
    have nS : ∀ b, w.heap.size ≤ b → ¬ S b := fun b hb hs => by have := hSl b hs; omega
    rw [HA.out.1]
    refine (perform_any (Q := fun w' => Did S w3 w' g (Jm.append s k xs).1) (HJ.out w3 q1) 72 _ (fun W => callFunc_enter Tryd.func72 rfl rfl _ _) (fun h0 w' k1 k2 => ?_) (fun h0 w' k1 k2 => ?_)).mono ?_
    · refine (appends_any (k1.sx (w := w3)) (B := w.heap.size) (D := D) (base := base) (v := v) (b := fx) (cell_out q2 k2 (nS _ (Nat.le_refl _))) ?_ (cell_out q3 k2 (nS _ q4)) ?_ (own_out q6 k2 fun b hs => by have := hSl b hs; omega) HFB.out (by rw [HFL.out]; omega) hze).mono ?_
      · exact fun q => q.elim (nS _ (Nat.le_refl _)) (fun q => by have := World.block_lt_of_cell? w3 _ q2; dsimp only at this; omega)
      · exact fun q => q.elim (nS _ q4) (fun q => by have := World.block_lt_of_cell? w3 _ q3; dsimp only at this; omega)
      · rintro e w'' ⟨rfl, d⟩
        rw [HA.out.2.1 h0]
        exact ⟨rfl, (Did.of k1 k2).trans d⟩
    · rw [HA.out.2.2 h0]
      exact Did.of k1 k2
    · rintro e w' ⟨rfl, d⟩
      exact ⟨rfl, d.pre q1⟩
  clear h hx hb ht HA hm he0 hfx hz hze HJ hSl
  generalize Jm.append s k xs = r at HQ ⊢
  go_enter Tryd.func58, Tryd.ntmps58
  go_wp2_with (go_at_call 70; fail)
  rw [← hw1]
  refine HP.out.mono ?_
  rintro e w2 ⟨v, rfl, hown, hb2⟩
  obtain ⟨A2, c2, rfl, -, -, -⟩ := own_view hown
  have hb2' := hb1.trans (hb2.mono hb1.size)
  obtain ⟨w3, hw3⟩ : ∃ w3, w3 = w2.alloc (.cells #[.slice A2 fx.length c2] 37) := ⟨_, rfl⟩
  have hs2 : w.heap.size < w2.heap.size := by have := hb2.size; omega
  have hb3 : Below w.heap.size w w3 := by rw [hw3]; exact hb2'.alloc (by omega) _
  have hc2 : w2.cell? ⟨w.heap.size, 0, none⟩ = some (.pointer (some ⟨g, 0, none⟩)) := (hb2.cell (by dsimp only; omega)).trans hc1
  have hc3 : w3.cell? ⟨w.heap.size, 0, none⟩ = some (.pointer (some ⟨g, 0, none⟩)) := by rw [hw3]; exact (World.cell?_alloc_lt _ _ _ (by dsimp only; omega)).trans hc2
  have hd3 : w3.cell? ⟨w2.heap.size, 0, none⟩ = some (.slice A2 fx.length c2) := by rw [hw3]; exact (Boxed.new w2 _ _).cell
  have ho3 : w3.ownsRow w1.heap.size 5 1 (.slice A2 fx.length c2) fx.length (u8s fx) := by rw [hw3]; exact own_below hown ((Below.refl _ w2).alloc (Nat.le_refl _) _) (Nat.le_refl _)
  have HC := Lib.hid (HQ.out w3 w2.heap.size w1.heap.size _ hb3 hc3 hd3 (by omega) hb1.size ho3)
  clear hown hb2 hb2' hb3 hc3 hd3 ho3 hc1
  go_wp2_with (go_at_call 71; fail)
  rw [← hw3]
  refine HC.out.mono ?_
  rintro e w' ⟨rfl, hd⟩
  go_wp2
  go_ret
  exact ⟨rfl, hd⟩

end
end Go.Proofs.YtbkdenlhfigjhaaDoor

/- A journal's calls: the tail synced, a crash: the program's and the document's. -/
namespace Go.Proofs.YtbkdenlhfigjhaaDoor
open Go.RowKit Go.Shelf Km

section
variable {w w' w'' : World} {S : Nat → Prop} {g : Nat} {s s' : Jm.St} {kv rv : Value}

set_option maxRecDepth 100000 in
set_option maxHeartbeats 2000000 in
theorem sync_any (h : JAt w S g s kv rv) (hz : Jm.size s ≤ 16777216) :
    Calls Tryd.prog 59 #[.pointer (some ⟨g, 0, none⟩)] w fun e w' => e = .returned (.int .i64 (Jm.sync s).2) ∧ Did S w w' g (Jm.sync s).1 := by
  obtain ⟨w1, hw1⟩ : ∃ w1, w1 = w.alloc (.cells #[.pointer (some ⟨g, 0, none⟩)] 48) := ⟨_, rfl⟩
  have hb1 : Below w.heap.size w w1 := by rw [hw1]; exact (Below.refl _ w).alloc (Nat.le_refl _) _
  have hc1 : w1.cell? ⟨w.heap.size, 0, none⟩ = some (.pointer (some ⟨g, 0, none⟩)) := by rw [hw1]; exact (Boxed.new w _ _).cell
  have hk := Jm.eff_kept s
  have hze : Jm.size (Jm.eff s).1 ≤ 16777216 := by rw [Jm.size_eff]; exact hz
  have nS : ¬ S w.heap.size := fun hs => by have := h.lt _ hs; omega
  have he : (Jm.sync s).2 = (Jm.eff s).2 := by
    by_cases h0 : (Jm.eff s).2 = 0
    · rw [Jm.sync_ok h0, h0]
    · rw [Jm.sync_err h0]
  have HQ : Hid (Calls Tryd.prog 71 #[.pointer (some ⟨g, 0, none⟩), .func (.func 73) #[] #[.pointer (some ⟨w.heap.size, 0, none⟩)]] w1 fun e w' => e = .returned (.int .i64 (Jm.sync s).2) ∧ Did S w w' g (Jm.sync s).1) := by
    show Calls _ _ _ _ _
    rw [he]
    refine (perform_any (Q := fun w' => Did S w1 w' g (Jm.sync s).1) (h.below hb1) 73 _ (fun W => callFunc_enter Tryd.func73 rfl rfl _ _) (fun h0 w' k1 k2 => ?_) (fun h0 w' k1 k2 => ?_)).mono ?_
    · refine (syncs_any (k1.sx (w := w1)) (B := w.heap.size) (cell_out hc1 k2 nS) hze).mono ?_
      rintro e w'' ⟨rfl, d⟩
      rw [Jm.sync_ok h0]
      rw [hk.1, hk.2] at d
      exact ⟨rfl, (Did.of k1 k2).trans d⟩
    · rw [Jm.sync_err h0]
      exact Did.of k1 k2
    · rintro e w' ⟨rfl, d⟩
      exact ⟨rfl, d.pre hb1⟩
  clear h hk hze he nS hb1
  generalize Jm.sync s = r at *
  go_enter Tryd.func59, Tryd.ntmps59
  go_wp2_with (go_at_call 71; fail)
  rw [← hw1]
  refine HQ.out.mono ?_
  rintro e w2 ⟨rfl, hd⟩
  go_wp2
  go_ret
  exact ⟨rfl, hd⟩

/-- so many bytes of the tail as a crash keeps: what min and max of numbers make -/
theorem part_of (s : Jm.St) (n : Int) : ((Jm.part s n : Nat) : Int) = (if (s.rest.length : Int) < (if n < 0 then 0 else n) then (s.rest.length : Int) else if n < 0 then 0 else n) ∧ Jm.part s n ≤ s.rest.length := by
  unfold Jm.part
  split
  · rw [if_neg (by omega)]; exact ⟨rfl, Nat.zero_le _⟩
  · split
    · exact ⟨rfl, Nat.le_refl _⟩
    · exact ⟨by omega, by omega⟩

end
end Go.Proofs.YtbkdenlhfigjhaaDoor

/- A journal opened: the program's. -/
namespace Go.Proofs.YtbkdenlhfigjhaaDoor
open Go.RowKit Go.Shelf Km

section
variable {w w' w'' : World} {S : Nat → Prop} {g : Nat} {s s' : Jm.St} {kv rv : Value}

/-- what an opening tells -/
def Told (base : Nat) (w : World) (kk bb : Value) (l : List (Int × List Int)) : Prop := Acc base w kk bb (l.map (·.1)) (l.map (·.2))

theorem HTab.out (h : HTab w) (o : Out S w w') (nT : ¬ S 1) : HTab w' := fun k hk => cell_out (h k hk) o nT

theorem whole_le (h : Jm.Ok s) : Jm.whole s ≤ s.kept.length := (Fm.al_ok _ s.kept (Nat.le_refl _) h.k).2.1

theorem Out.in {w0 : World} (o : Out S w' w'') (hb : Below w0.heap.size w0 w') : Out S w0 w'' := (Out.below hb).trans (o.more fun _ q => .inl q)

end
end Go.Proofs.YtbkdenlhfigjhaaDoor
