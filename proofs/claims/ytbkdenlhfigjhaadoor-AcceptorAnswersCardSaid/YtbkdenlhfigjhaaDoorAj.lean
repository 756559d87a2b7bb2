/- A journal among boxes: its cells a box, its two rows the call's own; its calls told so. A record written: the program's. -/
import Derived.Test.YtbkdenlhfigjhaaDoorAb
import Derived.Test.YtbkdenlhfigjhaaDoorBJ
namespace Go.Proofs.YtbkdenlhfigjhaaDoor
open Go.RowKit Go.Shelf Km Kx Kc Kt
set_option linter.unusedVariables false
set_option linter.unusedSimpArgs false

def jrow (A : Option Addr) (c : Nat) (xs : List Int) : Rw := ⟨A, c, 5, 1, xs.length, u8s xs⟩
def jcs (s : Jm.St) (KA : Option Addr) (KC : Nat) (RA : Option Addr) (RC : Nat) : List Value := jvs (.slice KA s.kept.length KC) (.slice RA s.rest.length RC) s.burn s.off
/-- a journal among boxes -/
def Jbx (w0 w : World) (g : Nat) (s : Jm.St) (l : List (Nat × List Value)) (r : List Rw) (F : Fz) : Prop :=
  Jm.Ok s ∧ ∃ KA KC RA RC, Bxs w0 w ((g, jcs s KA KC RA RC) :: l) (jrow KA KC s.kept :: jrow RA RC s.rest :: r) F

theorem own_raise {w : World} {e : TypeId} {k n B : Nat} {v : Value} {xs : List Value} (h : w.ownsRow 0 e k v n xs) (hB : ∀ b, v.ownBlock = some b → B ≤ b) : w.ownsRow B e k v n xs := by
  rcases h.2 with q | ⟨g, cap, cur, e, hb, rest⟩
  · exact ⟨h.1, .inl q⟩
  · exact ⟨h.1, .inr ⟨g, cap, cur, e, hB g (by rw [e]; rfl), rest⟩⟩
theorem own_blocks {w w' : World} {base k : Nat} {e : TypeId} {v : Value} {n : Nat} {xs : List Value} (h : w.ownsRow base e k v n xs) (hk : ∀ g, v.ownBlock = some g → w'.heap[g]? = w.heap[g]?) : w'.ownsRow base e k v n xs := by
  rcases h.2 with q | ⟨g, cap, cur, e, hb, hg, rest⟩
  · exact ⟨h.1, .inl q⟩
  · exact ⟨h.1, .inr ⟨g, cap, cur, e, hb, by rw [hk g (by rw [e]; rfl)]; exact hg, rest⟩⟩

section
variable {w0 w w' : World} {g : Nat} {s s' : Jm.St} {l : List (Nat × List Value)} {r : List Rw} {F : Fz} {KA RA : Option Addr} {KC RC : Nat}
def jS (g : Nat) (K R : Rw) : Nat → Prop := fun b => b = g ∨ K.blk = some b ∨ R.blk = some b
theorem jbx_jat (h : Bxs w0 w ((g, jcs s KA KC RA RC) :: l) (jrow KA KC s.kept :: jrow RA RC s.rest :: r) F) (ok : Jm.Ok s) :
    JAt w (jS g (jrow KA KC s.kept) (jrow RA RC s.rest)) g s (.slice KA s.kept.length KC) (.slice RA s.rest.length RC) := by
  have hg := h.each _ (List.mem_cons_self ..)
  have hK := h.rows _ (List.mem_cons_self ..)
  have hR := h.rows _ (List.mem_cons_of_mem _ (List.mem_cons_self ..))
  have hap := (List.pairwise_cons.1 h.apart).1 _ (List.mem_cons_self ..)
  refine ⟨hg.2.2.1, hg.2.2.2, .inl rfl, fun b q => ?_, own_mono hK.1 (Nat.zero_le _), own_mono hR.1 (Nat.zero_le _), fun b e => ⟨.inr (.inl e), fun q => hK.2 _ (List.mem_cons_self ..) (by rw [← q]; exact e)⟩, fun b e => ⟨.inr (.inr e), fun q => hR.2 _ (List.mem_cons_self ..) (by rw [← q]; exact e)⟩, fun b e => hap b e, ok⟩
  rcases q with rfl | q | q
  · exact hg.2.1
  · exact (hK.1.lt q).2
  · exact (hR.1.lt q).2
theorem jbx_did (h : Bxs w0 w ((g, jcs s KA KC RA RC) :: l) (jrow KA KC s.kept :: jrow RA RC s.rest :: r) F) (d : Did (jS g (jrow KA KC s.kept) (jrow RA RC s.rest)) w w' g s') : Jbx w0 w' g s' l r F := by
  obtain ⟨⟨kv, rv, k⟩, o⟩ := d
  obtain ⟨KA', KC', rfl⟩ := own_slice k.kr
  obtain ⟨RA', RC', rfl⟩ := own_slice k.rr
  have hg := h.each _ (List.mem_cons_self ..)
  have hK := h.rows _ (List.mem_cons_self ..)
  have hR := h.rows _ (List.mem_cons_of_mem _ (List.mem_cons_self ..))
  have hp1 := List.pairwise_cons.1 h.apart
  have hp2 := List.pairwise_cons.1 hp1.2
  have hnd := List.nodup_cons.1 h.nodup
  -- what the journal's blocks are not
  have nl : ∀ p ∈ l, ¬ jS g (jrow KA KC s.kept) (jrow RA RC s.rest) p.1 := fun p hp q => by
    rcases q with q | q | q
    · exact hnd.1 (by rw [← q]; exact List.mem_map.2 ⟨p, hp, rfl⟩)
    · exact hK.2 p (List.mem_cons_of_mem _ hp) q
    · exact hR.2 p (List.mem_cons_of_mem _ hp) q
  have nr : ∀ x ∈ r, ∀ b, x.blk = some b → ¬ jS g (jrow KA KC s.kept) (jrow RA RC s.rest) b := fun x hx b e q => by
    have hx' := h.rows x (List.mem_cons_of_mem _ (List.mem_cons_of_mem _ hx))
    rcases q with q | q | q
    · exact hx'.2 _ (List.mem_cons_self ..) (by rw [e, q])
    · exact hp1.1 x (List.mem_cons_of_mem _ hx) b q e
    · exact hp2.1 x hx b q e
  have low : ∀ b, jS g (jrow KA KC s.kept) (jrow RA RC s.rest) b → w0.heap.size ≤ b := fun b q => by
    rcases q with rfl | q | q
    · exact hg.1
    · exact (hK.1.lt q).1
    · exact (hR.1.lt q).1
  have sx : ∀ b, Sx (jS g (jrow KA KC s.kept) (jrow RA RC s.rest)) w w' b → w0.heap.size ≤ b := fun b q => q.elim (low b) (fun q => Nat.le_trans h.size q.1)
  have bel : Below w0.heap.size w w' := o.to low h.size
  have rown : ∀ (A : Option Addr) (c : Nat) (xs : List Int), w'.ownsRow 0 5 1 (.slice A xs.length c) xs.length (u8s xs) → (∀ b, (Value.slice A xs.length c).ownBlock = some b → Sx (jS g (jrow KA KC s.kept) (jrow RA RC s.rest)) w w' b ∧ b ≠ g) →
      (jrow A c xs).own w0 w' ∧ ∀ p ∈ (g, jcs s' KA' KC' RA' RC') :: l, (jrow A c xs).blk ≠ some p.1 := fun A c xs h1 h2 => by
    refine ⟨own_raise h1 fun b e => sx b (h2 b e).1, fun p hp e => ?_⟩
    have h3 := h2 p.1 e
    rcases List.mem_cons.1 hp with rfl | hp
    · exact h3.2 rfl
    · rcases h3.1 with q | q
      · exact nl p hp q
      · have := (h.each p (List.mem_cons_of_mem _ hp)).2.1; omega
  refine ⟨k.ok, KA', KC', RA', RC', h.below.trans (bel.mono (Nat.le_refl _)), h.nodup, fun p hp => ?_, fun x hx => ?_, ?_, fun q hq => ?_⟩
  · rcases List.mem_cons.1 hp with rfl | hp
    · exact ⟨hg.1, k.lt _ k.sg, k.rng, k.th⟩
    · obtain ⟨h1, h2, h3, h4⟩ := h.each p (List.mem_cons_of_mem _ hp)
      have hb : w'.heap[p.1]? = w.heap[p.1]? := o.block _ h2 (nl p hp)
      exact ⟨h1, Nat.lt_of_lt_of_le h2 o.size, fun j v hv => (World.cell?_of_block hb).trans (h3 j v hv), fun j hj => ⟨by rw [World.cell?_of_block hb]; exact (h4 j hj).1, by rw [World.frozen?_of_block hb]; exact (h4 j hj).2⟩⟩
  · rcases List.mem_cons.1 hx with rfl | hx
    · exact rown _ _ _ k.kr k.kS
    · rcases List.mem_cons.1 hx with rfl | hx
      · exact rown _ _ _ k.rr k.rS
      · have hx' := h.rows x (List.mem_cons_of_mem _ (List.mem_cons_of_mem _ hx))
        refine ⟨own_blocks hx'.1 fun b e => o.block b (hx'.1.lt e).2 (nr x hx b e), fun p hp => ?_⟩
        rcases List.mem_cons.1 hp with rfl | hp
        · exact hx'.2 (g, jcs s KA KC RA RC) (List.mem_cons_self ..)
        · exact hx'.2 p (List.mem_cons_of_mem _ hp)
  · refine List.pairwise_cons.2 ⟨fun x hx b e q => ?_, List.pairwise_cons.2 ⟨fun x hx b e q => ?_, hp2.2⟩⟩
    · rcases List.mem_cons.1 hx with rfl | hx
      · exact k.k2 b e q
      · rcases (k.kS b e).1 with z | z
        · exact nr x hx b q z
        · have := ((h.rows x (List.mem_cons_of_mem _ (List.mem_cons_of_mem _ hx))).1.lt q).2; omega
    · rcases (k.rS b e).1 with z | z
      · exact nr x hx b q z
      · have := ((h.rows x (List.mem_cons_of_mem _ (List.mem_cons_of_mem _ hx))).1.lt q).2; omega
  · intro j u hj
    obtain ⟨ad, e, h1, h2, h3, h4⟩ := h.stay q hq j u hj
    have nS : ¬ jS g (jrow KA KC s.kept) (jrow RA RC s.rest) ad.block := fun z => by
      rcases z with z | z | z
      · exact h3 _ (List.mem_cons_self ..) z.symm
      · exact h4 _ (List.mem_cons_self ..) z
      · exact h4 _ (List.mem_cons_of_mem _ (List.mem_cons_self ..)) z
    have hb : w'.heap[ad.block]? = w.heap[ad.block]? := o.block _ h1 nS
    refine ⟨ad, e, Nat.lt_of_lt_of_le h1 o.size, by rw [World.cell?_of_block (show w'.heap[(ad.add j).block]? = w.heap[(ad.add j).block]? by rw [addr_block]; exact hb)]; exact h2, fun p hp => ?_, fun x hx => ?_⟩
    · rcases List.mem_cons.1 hp with rfl | hp
      · exact h3 (g, jcs s KA KC RA RC) (List.mem_cons_self ..)
      · exact h3 p (List.mem_cons_of_mem _ hp)
    · rcases List.mem_cons.1 hx with rfl | hx
      · intro z
        rcases (k.kS _ z).1 with y | y
        · exact nS y
        · omega
      · rcases List.mem_cons.1 hx with rfl | hx
        · intro z
          rcases (k.rS _ z).1 with y | y
          · exact nS y
          · omega
        · exact h4 x (List.mem_cons_of_mem _ (List.mem_cons_of_mem _ hx))
end
section
variable {w0 w : World} {g : Nat} {s : Jm.St} {l : List (Nat × List Value)} {r : List Rw} {F : Fz}
theorem Jbx.bears : BearsC (fun w' => Jbx w0 w' g s l r F) := fun w w' h hb => by
  obtain ⟨ok, KA, KC, RA, RC, h⟩ := h
  exact ⟨ok, KA, KC, RA, RC, h.call hb⟩
theorem Jbx.bel (h : Jbx w0 w g s l r F) : Below w0.heap.size w0 w := by obtain ⟨_, _, _, _, _, h⟩ := h; exact h.below
theorem append_x (h : Jbx w0 w g s l r F) (k : Int) (A : Option Addr) (n cap B : Nat) (xs : List Int) (hk : 0 ≤ k ∧ k ≤ 255) (hx : Rd w B A (u8s xs)) (hn : xs.length = n) (hnc : n ≤ cap) (hcap : cap ≤ maxLen) (hB : B ≤ w.heap.size) (hb : Fm.By xs) (ht : HTab w0)
    (hz : Jm.size s ≤ 16777216) :
    Calls Tryd.prog 58 #[.pointer (some ⟨g, 0, none⟩), .int .u8 k, .slice A n cap] w fun e w' => e = .returned (.int .i64 (Jm.append s k xs).2) ∧ Jbx w0 w' g (Jm.append s k xs).1 l r F := by
  obtain ⟨ok, KA, KC, RA, RC, h⟩ := h
  refine (append_any (jbx_jat h ok) k A n cap B xs hk hx hn hnc hcap hB hb (ht.below h.below (Nat.le_refl _)) hz).mono ?_
  rintro e w' ⟨rfl, d⟩
  exact ⟨rfl, jbx_did h d⟩
theorem sync_x (h : Jbx w0 w g s l r F) (hz : Jm.size s ≤ 16777216) :
    Calls Tryd.prog 59 #[.pointer (some ⟨g, 0, none⟩)] w fun e w' => e = .returned (.int .i64 (Jm.sync s).2) ∧ Jbx w0 w' g (Jm.sync s).1 l r F := by
  obtain ⟨ok, KA, KC, RA, RC, h⟩ := h
  refine (sync_any (jbx_jat h ok) hz).mono ?_
  rintro e w' ⟨rfl, d⟩
  exact ⟨rfl, jbx_did h d⟩
theorem down_x (h : Jbx w0 w g s l r F) : Calls Tryd.prog 18 #[.pointer (some ⟨g, 0, none⟩)] w fun e w' => e = .returned (.bool s.off) ∧ w' = w := by
  obtain ⟨ok, KA, KC, RA, RC, h⟩ := h
  exact down_any (jbx_jat h ok)
end

/-- a record appended and synced: the journal behind it, and whether it took it -/
noncomputable def keep (s : Jm.St) (x : Mm.Ms) : Jm.St × Bool :=
  if x.right = true then
    (if (Jm.append s x.k x.body).2 = 0 then ((Jm.sync (Jm.append s x.k x.body).1).1, decide ((Jm.sync (Jm.append s x.k x.body).1).2 = 0)) else ((Jm.append s x.k x.body).1, false))
  else (s, false)

/-- a message whose lists lie among the rows that stay -/
def mfz (x : Mm.Ms) (lo : Lo) : Fz := [(lo.A1, i64s x.plan.pen), (lo.A2, i64s x.plan.ch), (lo.A3, i64s x.id), (lo.A4, u8s x.se), (lo.A5, u8s x.pa)]
structure MsOk (x : Mm.Ms) (l : Lo) : Prop where
  ok : x.Ok
  l1 : x.plan.pen.length = l.n1
  c1 : l.n1 ≤ l.c1
  m1 : l.c1 ≤ maxLen
  l2 : x.plan.ch.length = l.n2
  c2 : l.n2 ≤ l.c2
  m2 : l.c2 ≤ maxLen
  l3 : x.id.length = l.n3
  c3 : l.n3 ≤ l.c3
  m3 : l.c3 ≤ maxLen
  l4 : x.se.length = l.n4
  c4 : l.n4 ≤ l.c4
  m4 : l.c4 ≤ maxLen
  l5 : x.pa.length = l.n5
  c5 : l.n5 ≤ l.c5
  m5 : l.c5 ≤ maxLen
/-- told of by F, or empty -/
def Within (G F : Fz) : Prop := ∀ q ∈ G, q.2 = [] ∨ q ∈ F
theorem Within.rd {w0 w : World} {l : List (Nat × List Value)} {r : List Rw} {F G : Fz} (h : Within G F) (hB : Bxs w0 w l r F) {A : Option Addr} {xs : List Value} (hm : (A, xs) ∈ G) : Rd w w.heap.size A xs := by
  rcases h _ hm with q | q
  · dsimp only at q; rw [q]; exact Rd.nil _ _ _
  · exact hB.stayRdM q
theorem MsOk.at {x : Mm.Ms} {lo : Lo} (h : MsOk x lo) {w0 w : World} {l : List (Nat × List Value)} {r : List Rw} {F : Fz} (hs : Within (mfz x lo) F) (hB : Bxs w0 w l r F) : MsAt w w.heap.size x lo :=
  ⟨h.ok, ⟨h.ok.plan, hs.rd hB (List.mem_cons_self ..), h.l1, h.c1, h.m1, hs.rd hB (List.mem_cons_of_mem _ (List.mem_cons_self ..)), h.l2, h.c2, h.m2⟩,
    hs.rd hB (List.mem_cons_of_mem _ (List.mem_cons_of_mem _ (List.mem_cons_self ..))), h.l3, h.c3, h.m3,
    hs.rd hB (List.mem_cons_of_mem _ (List.mem_cons_of_mem _ (List.mem_cons_of_mem _ (List.mem_cons_self ..)))), h.l4, h.c4, h.m4,
    hs.rd hB (List.mem_cons_of_mem _ (List.mem_cons_of_mem _ (List.mem_cons_of_mem _ (List.mem_cons_of_mem _ (List.mem_cons_self ..))))), h.l5, h.c5, h.m5⟩
end Go.Proofs.YtbkdenlhfigjhaaDoor
