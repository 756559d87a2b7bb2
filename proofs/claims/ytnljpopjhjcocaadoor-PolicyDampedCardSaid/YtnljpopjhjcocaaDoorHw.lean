/- The laws' own walk: plans made of one another, from the zero plan on. -/
import Derived.Test.YtnljpopjhjcocaaDoorHz
import Derived.Deep.CutBlock
import Derived.Deep.DeepCutAuto
namespace Go.Proofs.YtnljpopjhjcocaaDoor
open Go.RowKit Go.Shelf Km Kx Kc Kt
set_option linter.unusedVariables false

theorem addr_field (ad : Addr) (i k j : Nat) (h : 0 < j) : ad.add (i * k + j) = ⟨(ad.add (i * k)).block, (ad.add (i * k)).off + j, none⟩ := by
  obtain ⟨q, rfl⟩ : ∃ q, j = q + 1 := ⟨j - 1, by omega⟩
  rw [← addr_add_add, Addr.add_succ']
structure Ev where
  up : Nat
  now : Int
def evc (e : Ev) : List Value := [.int .u64 (e.up : Int), .int .i64 e.now]
theorem evc_len (e : Ev) : (evc e).length = 2 := rfl
def Ev.Ok (e : Ev) : Prop := e.up < 18446744073709551616 ∧ in64 e.now
/-- such a row lies in what was made since -/
def Hi (w : World) (q : Option Addr × List Value) : Prop := q.2 ≠ [] → ∀ ad, q.1 = some ad → w.heap.size ≤ ad.block
theorem Hi.of_new {w W W' : World} {G : Fz} {A : Option Addr} {xs : List Value} (h : New W W' G A xs) (hw : w.heap.size ≤ W.heap.size) (hG : ∀ q ∈ G, Hi w q) : Hi w (A, xs) := fun hne ad e => by
  dsimp only at hne e
  obtain ⟨y, ys, hy⟩ := List.exists_cons_of_ne_nil hne
  obtain ⟨ad2, e2, -, -, h4⟩ := h 0 y (by rw [hy]; rfl)
  rw [e] at e2
  cases e2
  rcases h4 with h4 | ⟨q, hq, hq2, ad', e', hb⟩
  · omega
  · rw [← hb]; exact hG q hq hq2 ad' e'
theorem Hi.new {w W : World} {l : List (Nat × List Value)} {r : List Rw} {F G : Fz} {A : Option Addr} {xs : List Value} (hB : Bxs w W l r F) (hm : (A, xs) ∈ F) (h : Hi w (A, xs)) : New w W G A xs := fun j u hj => by
  obtain ⟨ad, e, h1, h2⟩ := hB.stayRdM hm j u hj
  exact ⟨ad, e, h1, h2, .inl (h (fun q => by (dsimp only at q; rw [q] at hj; cases hj)) ad e)⟩

/-- what is told of an event behind the last plan -/
structure Told (w : World) (c : Cf) (xs : List Int) (p : Gm.Pl) (ev : Ev) (y : Pt × Bool) : Prop where
  ok : y.1.Ok
  yes : y.2 = true → Gm.next (gc c xs) p ev.up ev.now = some y.1.x
  no : y.2 = false → Gm.next (gc c xs) p ev.up ev.now = none
  hi : ∀ q ∈ y.1.fz, Hi w q
theorem noPlan_ok : noPlan.Ok := ⟨⟨by decide, by decide⟩, ⟨by decide, by decide⟩, ⟨by decide, by decide⟩, ⟨by decide, by decide⟩, ⟨by decide, by decide⟩, ⟨by decide, by decide⟩, ⟨by decide, by decide⟩, ⟨by decide, by decide⟩, ⟨by decide, by decide⟩, ⟨by decide, by decide⟩, fun v hv => (by cases hv), fun v hv => (by cases hv)⟩
theorem told_some (w : World) {c : Cf} {xs : List Int} (hc : ConfP c xs) (hl : xs.length = c.tn) {p : Gm.Pl} (hp : Gm.Inv (gc c xs) p) (he : p.e < 4611686018427387904) (ev : Ev) : ∃ y, Told w c xs p ev y := by
  cases h : Gm.next (gc c xs) p ev.up ev.now with
  | none => exact ⟨(noPt, false), ⟨noPlan_ok, rfl, rfl, Nat.le_refl _⟩, fun q => (by cases q), fun _ => h, fun q hq => fun hne ad e => by
      simp only [noPt, Pt.fz, List.mem_cons, List.not_mem_nil, or_false] at hq
      rcases hq with rfl | rfl <;> cases e⟩
  | some q =>
    have hs : Gm.Step (gc c xs) p q := ⟨_, _, h⟩
    have hi := Gm.step_inv (hc.gok hl) hp hs
    have hd := (Gm.step_damp (hc.gok hl) hp hs).1
    exact ⟨(⟨q, none, q.pen.length, 0, none, q.ch.length, q.ch.length⟩, true), ⟨fits_num hc hi.fits (by show q.e ≤ _; omega), rfl, rfl, Nat.le_refl _⟩, fun _ => h, fun q => (by cases q), fun q hq => fun hne ad e => by
      simp only [Pt.fz, List.mem_cons, List.not_mem_nil, or_false] at hq
      rcases hq with rfl | rfl <;> cases e⟩

theorem told_of {w W W' : World} {c : Cf} {xs : List Int} (hc : ConfP c xs) (hl : xs.length = c.tn) {p q : Pt} (hp : Gm.Inv (gc c xs) p.x) (he : p.x.e < 4611686018427387904) (ho : p.Ok) {ev : Ev} {b : Bool} (hw : w.heap.size ≤ W.heap.size)
    (n1 : New W W' p.fz q.A (i64s q.x.pen)) (n2 : New W W' p.fz q.A' (i64s q.x.ch)) (hG : ∀ z ∈ p.fz, Hi w z) (ok : q.Ok) (yes : b = true → tell c xs p.x ev.up ev.now = some q.x) (no : b = false → tell c xs p.x ev.up ev.now = none ∧ q.x = noPlan) : Told w c xs p.x ev (q, b) := by
  rw [tell_next hc hp.fits ho.ok he] at yes no
  refine ⟨ok, yes, fun h => (no h).1, fun z hz => ?_⟩
  simp only [Pt.fz, List.mem_cons, List.not_mem_nil, or_false] at hz
  rcases hz with rfl | rfl
  · exact Hi.of_new n1 hw hG
  · exact Hi.of_new n2 hw hG

/-- the plans so far -/
structure Pls (w : World) (c : Cf) (xs : List Int) (ps : List Pt) (p : Pt) : Prop where
  chain : Gm.Chain (gc c xs) (ps.map (·.x))
  last : ∃ qs, ps = qs ++ [p]
  ok : ∀ q ∈ ps, q.Ok
  hi : ∀ q ∈ fzs ps, Hi w q
theorem Pls.inv {w : World} {c : Cf} {xs : List Int} {ps : List Pt} {p : Pt} (h : Pls w c xs ps p) (hc : ConfP c xs) (hl : xs.length = c.tn) : Gm.Inv (gc c xs) p.x ∧ p.x.e + 1 = ps.length := by
  obtain ⟨qs, rfl⟩ := h.last
  have h1 := Gm.chain_inv (hc.gok hl) h.chain qs.length p.x (by rw [List.map_append, List.getElem?_append_right (by simp)]; simp)
  refine ⟨h1.1, ?_⟩
  rw [h1.2, List.length_append]; rfl
theorem Pls.mem {w : World} {c : Cf} {xs : List Int} {ps : List Pt} {p : Pt} (h : Pls w c xs ps p) : p ∈ ps := by
  obtain ⟨qs, rfl⟩ := h.last
  simp
theorem Pls.more {w : World} {c : Cf} {xs : List Int} {ps : List Pt} {p : Pt} (h : Pls w c xs ps p) {ev : Ev} {y : Pt × Bool} (hy : Told w c xs p.x ev y) (hb : y.2 = true) : Pls w c xs (ps ++ [y.1]) y.1 := by
  obtain ⟨qs, e⟩ := h.last
  refine ⟨?_, ⟨ps, rfl⟩, fun q hq => ?_, fun q hq => ?_⟩
  · rw [List.map_append]
    refine Gm.chain_more h.chain (a := p.x) ?_ ⟨_, _, hy.yes hb⟩
    rw [List.length_map, e, List.length_append, List.map_append, List.length_singleton, Nat.add_sub_cancel, List.getElem?_append_right (by simp)]
    simp
  · rcases List.mem_append.1 hq with hq | hq
    · exact h.ok q hq
    · rw [List.mem_singleton] at hq; subst hq; exact hy.ok
  · rcases List.mem_append.1 (fzs_snoc ps y.1 q hq) with hq | hq
    · exact hy.hi q hq
    · exact h.hi q hq
/-- the walk's answer -/
def WalkSays (w : World) (c : Cf) (xs : List Int) (n : Nat) (e : Ending) (w' : World) : Prop :=
  ∃ (A : Option Addr) (k : Nat) (ps : List Pt) (p : Pt), e = .returned (.slice A ps.length k) ∧ Below w.heap.size w w' ∧ New w w' [] A (cat Pt.cells ps) ∧ (∀ q ∈ fzs ps, New w w' [] q.1 q.2) ∧ Pls w c xs ps p ∧ ps.length ≤ n + 1

set_option maxRecDepth 100000 in
set_option maxHeartbeats 4000000 in
theorem walk_any (c : Cf) (xs : List Int) (L : Option Addr) (n cap : Nat) (es : List Ev) (w : World) (ht : Tabs w) (hc : ConfP c xs) (hr : Rd w w.heap.size c.ta (i64s xs)) (hl : xs.length = c.tn) (he : Rd w w.heap.size L (cat evc es)) (hn : es.length = n) (hn2 : n ≤ 200) (hw : ∀ e ∈ es, e.Ok) :
    Calls Tryd.prog 18 #[.agg (cf c).toArray, .slice L n cap] w (WalkSays w c xs n) := by
  have HB := Lib.hid (Bxs.start w)
  have HC := Lib.hid (⟨hc, hl, hr, he, ht⟩ : _ ∧ _ ∧ _ ∧ _ ∧ _)
  have HE := Lib.hid (⟨hn, hw⟩ : _ ∧ _)
  clear ht hc hr hl he hn hw
  go_enter Tryd.func18, Tryd.ntmps18
  go_wp2_with (first | (go_at_call 16; fail) | (first | ((with_reducible refine Kx.absorb HB ?_); clear HB; intro w_ HB) | ((with_reducible refine Kx.box_gate (d := some 2) ?_); (first | refine Kx.boxa HB rfl ?_ | refine Kx.boxt HB rfl rfl ?_ | refine Kx.box1 HB rfl rfl ?_); clear HB; intro b2 w_ HB; refine Kx.fr ?_) | ((with_reducible refine Kx.alloc_gate (d := some 2) ?_); (first | refine Kx.ala HB ?_ | refine Kx.al1 HB ?_); clear HB; intro b2 w_ HB; refine Kx.fr ?_) | ((with_reducible refine Kx.box_gate ?_); (first | refine Kx.boxa HB rfl ?_ | refine Kx.boxt HB rfl rfl ?_ | refine Kx.box1 HB rfl rfl ?_); clear HB; intro b_ w_ HB; refine Kx.fr ?_) | ((with_reducible refine Kx.alloc_gate ?_); (first | refine Kx.ala HB ?_ | refine Kx.al1 HB ?_); clear HB; intro b_ w_ HB; refine Kx.fr ?_) | ((with_reducible refine Kx.loads_gate ?_); first | refine Kx.l1 HB rfl rfl ?_ | refine Kx.la HB rfl ?_ | refine Kx.lo HB rfl HC.out ?_) | ((with_reducible refine Kx.loadg_gate ?_); first | refine Kx.l1g HB rfl rfl rfl ?_ | refine Kx.lag HB rfl rfl ?_ | refine Kx.log HB rfl HC.out rfl ?_) | ((with_reducible refine Kx.store_gate ?_); (first | refine Kx.stwa HB rfl rfl ?_ | refine Kx.sta HB rfl rfl ?_ | refine Kx.stc HB rfl rfl ?_ | refine Kx.stt HB rfl rfl rfl ?_ | refine Kx.st1 HB rfl rfl rfl ?_); clear HB; intro w_ HB)))
  refine (PZero_any c xs _ (HC.out.2.2.2.2.below HB.out.below (Nat.le_refl _)) ((HC.out.2.2.1.below HB.out.below).more HB.out.size) HC.out.2.1).mono ?_
  rintro e w1 ⟨p, rfl, hb_, n1, n2, hok, hz, -⟩
  have HI : Hid (Pls w c xs [p] p) := Lib.hid ⟨by rw [List.map_singleton, hz HC.out.1]; exact Gm.chain_start _, ⟨[], rfl⟩, fun q hq => (by rw [List.mem_singleton] at hq; subst hq; exact hok), fun q hq => by
    have hs := HB.out.size
    simp only [fzs, List.flatMap_cons, List.flatMap_nil, List.append_nil, Pt.fz, List.mem_cons, List.not_mem_nil, or_false] at hq
    rcases hq with rfl | rfl
    · exact Hi.of_new n1 hs (fun _ h => (by cases h))
    · exact Hi.of_new n2 hs (fun _ h => (by cases h))⟩
  replace HB : Hid (Bxs w w1 [(b2, cf c)] [] (fzs [p])) := Lib.hid (HB.out.stayNew2 hb_ n1 n2 (fun q hq => by cases hq))
  clear hb_ n1 n2 hok hz
  have hlen : p.cells.length = 12 := rfl
  go_wp2_with (first | ((with_reducible refine slice1_gate ?_); refine wpList_slice1r_x HB rfl 37 28 _ rfl 12 (p.cells) rfl rfl _ Tryd.underlying37 (Tryd.sizeOf28 _) (Tryd.zeroValue28 _) (by decide) (by decide) ?_; clear HB; intro g_ w_ HB; refine Kx.framed ?_ (by simp only [Act.put, List.setIfInBounds_toArray, List.set_cons_succ, List.set_cons_zero] <;> rfl)) | (first | ((with_reducible refine Kx.absorb HB ?_); clear HB; intro w_ HB) | ((with_reducible refine Kx.box_gate (d := some 5) ?_); (first | refine Kx.boxa HB rfl ?_ | refine Kx.boxt HB rfl rfl ?_ | refine Kx.box1 HB rfl rfl ?_); clear HB; intro b5 w_ HB; refine Kx.fr ?_) | ((with_reducible refine Kx.alloc_gate (d := some 5) ?_); (first | refine Kx.ala HB ?_ | refine Kx.al1 HB ?_); clear HB; intro b5 w_ HB; refine Kx.fr ?_) | ((with_reducible refine Kx.box_gate ?_); (first | refine Kx.boxa HB rfl ?_ | refine Kx.boxt HB rfl rfl ?_ | refine Kx.box1 HB rfl rfl ?_); clear HB; intro b_ w_ HB; refine Kx.fr ?_) | ((with_reducible refine Kx.alloc_gate ?_); (first | refine Kx.ala HB ?_ | refine Kx.al1 HB ?_); clear HB; intro b_ w_ HB; refine Kx.fr ?_) | ((with_reducible refine Kx.loads_gate ?_); first | refine Kx.l1 HB rfl rfl ?_ | refine Kx.la HB rfl ?_ | refine Kx.lo HB rfl HC.out ?_) | ((with_reducible refine Kx.loadg_gate ?_); first | refine Kx.l1g HB rfl rfl rfl ?_ | refine Kx.lag HB rfl rfl ?_ | refine Kx.log HB rfl HC.out rfl ?_) | ((with_reducible refine Kx.store_gate ?_); (first | refine Kx.stwa HB rfl rfl ?_ | refine Kx.sta HB rfl rfl ?_ | refine Kx.stc HB rfl rfl ?_ | refine Kx.stt HB rfl rfl rfl ?_ | refine Kx.st1 HB rfl rfl rfl ?_); clear HB; intro w_ HB)))
  go_loopg [6, 7] n (fun gh ov ix wr => ∃ (k : Nat) (A : Option Addr) (k' : Nat) (ps : List Pt) (p : Pt), gh + k = n ∧ ov = .slice A ps.length k' ∧ ix = .int .i64 (k : Int) ∧ Hid (Pls w c xs ps p) ∧ ps.length ≤ k + 1 ∧ Hid (Bxs w wr [(b5, p.cells), (b2, cf c)] [⟨A, k', 28, 12, ps.length, cat Pt.cells ps⟩] (fzs ps)))
  case atStart => exact ⟨0, _, _, [p], p, by omega, rfl, rfl, HI, Nat.le_refl _, by
    rw [cat_one]; exact HB⟩
  case round =>
    clear HB HI hlen
    obtain ⟨k, A, k', ps, p, hk, rfl, rfl, HI, hps, HB⟩ := hrel
    have hlen : p.cells.length = 12 := rfl
    by_cases hlt : k < n
    · have d1 : (k : Int) < (n : Int) := by omega
      obtain ⟨ev, hev⟩ : ∃ ev, es[k]? = some ev := ⟨es[k]'(by rw [HE.out.1]; exact hlt), List.getElem?_eq_getElem _⟩
      obtain ⟨ad, rfl, -, hcl⟩ := Rd.part evc_len HC.out.2.2.2.1 hev (by decide)
      have H1 : Hid (w.cell? (ad.add (k * 2)) = some (.int .u64 (ev.up : Int))) := Lib.hid (hcl 0 _ rfl)
      have H2 : Hid (w.cell? ⟨(ad.add (k * 2)).block, (ad.add (k * 2)).off + 1, none⟩ = some (.int .i64 ev.now)) := Lib.hid (by rw [← addr_field ad k 2 1 (by decide)]; exact hcl 1 _ rfl)
      have HEV : Hid (ev.Ok) := Lib.hid (HE.out.2 ev (List.mem_of_getElem? hev))
      have HINV := Lib.hid (HI.out.inv HC.out.1 HC.out.2.1)
      have HPE : Hid (p.x.e < 4611686018427387904) := Lib.hid (by have := HINV.out.2; omega)
      have HN16 := Lib.hid (few HC.out.1 (HI.out.ok p HI.out.mem) HINV.out.1.fits)
      clear hcl hev
      go_wp2_with fail
      go_cut [8, 9] from 20 to 35 (fun bp iv wx => ∃ (y : Pt × Bool) (b8 : Nat), Hid (Told w c xs p.x ev y) ∧ bp = .pointer (some ⟨b8, 0, none⟩) ∧ iv = .bool y.2 ∧ Hid (Bxs w wx [(b8, y.1.cells), (b5, p.cells), (b2, cf c)] [⟨A, k', 28, 12, ps.length, cat Pt.cells ps⟩] (y.1.fz ++ fzs ps)))
      case first =>
        refine Kx.region_x HB (fun i => false) (by kernel_rfl) ?_
        refine Kx.tk 2 rfl ?_
        refine Kx.tk 3 rfl ?_
        refine Kx.tk 7 rfl ?_
        refine Kx.tk 8 rfl ?_
        first | refine Kx.xl1 0 rfl rfl rfl ?_ | refine Kx.xla 0 rfl rfl ?_ | refine Kx.xlo 0 rfl rfl HC.out ?_
        first | refine Kx.xl1 1 rfl rfl rfl ?_ | refine Kx.xla 1 rfl rfl ?_ | refine Kx.xlo 1 rfl rfl HC.out ?_
        refine Kx.tk 4 rfl ?_
        refine Kx.tk 5 rfl ?_
        refine anyW_take (i := 6) (v := ?v6_41) (a' := ?a6_41) (by first | exact Kx.bears_x | exact bears_u | assumption) rfl (by kernel_rfl) (by kernel_rfl) (by kernel_rfl) (fun _ _ _ h => h) (by kernel_rfl) ?w6_41 ?y6_41 ?f6_41 ?r6_41
        case w6_41 => kernel_rfl
        case y6_41 => (intro W hW; first | (refine Eq.trans (tells_cell (v := .int .u64 (ev.up : Int)) (ad.add (k * 2)) rfl (Tryd.isAgg25 _) (hW.old H1.out)) ?_; with_reducible rfl))
        case f6_41 => (go_simp; try with_reducible rfl)
        refine Kx.tk 9 rfl ?_
        refine Kx.tk 10 rfl ?_
        refine anyW_take (i := 11) (v := ?v11_42) (a' := ?a11_42) (by first | exact Kx.bears_x | exact bears_u | assumption) rfl (by kernel_rfl) (by kernel_rfl) (by kernel_rfl) (fun _ _ _ h => h) (by kernel_rfl) ?w11_42 ?y11_42 ?f11_42 ?r11_42
        case w11_42 => kernel_rfl
        case y11_42 => (intro W hW; first | (refine Eq.trans (tells_cell (v := .int .i64 ev.now) ⟨(ad.add (k * 2)).block, (ad.add (k * 2)).off + 1, none⟩ rfl (Tryd.isAgg2 _) (hW.old H2.out)) ?_; with_reducible rfl))
        case f11_42 => (go_simp; try with_reducible rfl)
        obtain ⟨y0, hy0⟩ := told_some w HC.out.1 HC.out.2.1 HINV.out.1 HPE.out ev
        refine anyW_two (i := 12) (j := 16) (by kernel_rfl) ?one ?two
        case one =>
          refine AtW.call (α := {y : Pt × Bool // Told w c xs p.x ev y}) ⟨_, hy0⟩ (fun y => .tuple #[.agg y.1.1.cells.toArray, .bool y.1.2]) (fun y w' => Bxs w w' [(b5, p.cells), (b2, cf c)] [⟨A, k', 28, 12, ps.length, cat Pt.cells ps⟩] (y.1.1.fz ++ fzs ps)) (fun y => bears_x) (fun y W q => q.stayLess (fun z hz => List.mem_append_right _ hz)) (f := ?g1) (args := ?s1) rfl (by kernel_rfl) 33 rfl ?y1 ?c1 ?r1
          case y1 => (intro W hW; go_simp; first | (refine ⟨?_, ?_⟩ <;> with_reducible rfl) | with_reducible rfl)
          case c1 =>
            intro W hW
            have hst := HI.out.ok p HI.out.mem
            refine (PNext_any c xs p ev.up ev.now W (HC.out.2.2.2.2.below hW.below (Nat.le_refl _)) ((HC.out.2.2.1.below hW.below).more hW.size) HC.out.2.1 (hst.stays hW (fzs_in HI.out.mem)) HN16.out HEV.out.1 HEV.out.2).mono ?_
            rintro e w' ⟨q, b, rfl, hb, n1, n2, ok, yes, no⟩
            refine ⟨⟨(q, b), told_of HC.out.1 HC.out.2.1 HINV.out.1 HPE.out hst hW.size n1 n2 (fun z hz => HI.out.hi z (fzs_in HI.out.mem z hz)) ok yes no⟩, rfl, hW.stayNew2 hb n1 n2 (fzs_in HI.out.mem)⟩
          case r1 =>
          intro y
          refine Kx.framedW (by simp only [Act.put, List.setIfInBounds_toArray, List.set_cons_succ, List.set_cons_zero] <;> rfl) ?_
          refine Kx.tk 13 rfl ?_
          refine Kx.tk 14 rfl ?_
          refine Kx.tk 15 rfl ?_
          refine anyW_at (i := 16) (by kernel_rfl) (AtW.allocU rfl (by kernel_rfl) 8 rfl 28 rfl 12 _ rfl (fun w => (Tryd.zeroValue28 w)) ?_)
          intro b8
          refine Kx.framedW (by simp only [Act.put, List.setIfInBounds_toArray, List.set_cons_succ, List.set_cons_zero] <;> rfl) ?_
          refine anyW_storeU (i := 17) rfl (by kernel_rfl) (by kernel_rfl) rfl _ _ _ rfl _ 12 rfl _ rfl rfl (fun w => (Tryd.sizeOf28 w)) (by rfl) ?_
          refine Kx.tk 18 rfl ?_
          refine anyW_done (by kernel_rfl) ?_
          clear HB
          intro w_ HB_
          have HB := Lib.hid HB_
          clear HB_
          go_wp2_with fail
          go_meet
          case rel => exact ⟨y.1, b8, Lib.hid y.2, rfl, rfl, HB⟩
        case two =>
          refine AtW.allocU rfl (by kernel_rfl) 8 rfl 28 rfl 12 _ rfl (fun w => (Tryd.zeroValue28 w)) ?_
          intro b8
          refine Kx.framedW (by simp only [Act.put, List.setIfInBounds_toArray, List.set_cons_succ, List.set_cons_zero] <;> rfl) ?_
          refine anyW_at (i := 12) (by kernel_rfl) ?three
          case three =>
          refine AtW.call (α := {y : Pt × Bool // Told w c xs p.x ev y}) ⟨_, hy0⟩ (fun y => .tuple #[.agg y.1.1.cells.toArray, .bool y.1.2]) (fun y => Cu w b8 12 [(b5, p.cells), (b2, cf c)] [⟨A, k', 28, 12, ps.length, cat Pt.cells ps⟩] (y.1.1.fz ++ fzs ps)) (fun y => bears_u) (fun y W q => by obtain ⟨cs, e, q⟩ := q; exact ⟨cs, e, q.stayLess (fun z hz => List.mem_append_right _ hz)⟩) (f := ?g2) (args := ?s2) rfl (by kernel_rfl) 33 rfl ?y2 ?c2 ?r2
          case y2 => (intro W hW; go_simp; first | (refine ⟨?_, ?_⟩ <;> with_reducible rfl) | with_reducible rfl)
          case c2 =>
            rintro W ⟨cs8, e8, hW⟩
            have hst := HI.out.ok p HI.out.mem
            refine (PNext_any c xs p ev.up ev.now W (HC.out.2.2.2.2.below hW.below (Nat.le_refl _)) ((HC.out.2.2.1.below hW.below).more hW.size) HC.out.2.1 (hst.stays hW (fzs_in HI.out.mem)) HN16.out HEV.out.1 HEV.out.2).mono ?_
            rintro e w' ⟨q, b, rfl, hb, n1, n2, ok, yes, no⟩
            refine ⟨⟨(q, b), told_of HC.out.1 HC.out.2.1 HINV.out.1 HPE.out hst hW.size n1 n2 (fun z hz => HI.out.hi z (fzs_in HI.out.mem z hz)) ok yes no⟩, rfl, cs8, e8, hW.stayNew2 hb n1 n2 (fzs_in HI.out.mem)⟩
          case r2 =>
          intro y
          refine Kx.framedW (by simp only [Act.put, List.setIfInBounds_toArray, List.set_cons_succ, List.set_cons_zero] <;> rfl) ?_
          refine Kx.tk 13 rfl ?_
          refine Kx.tk 14 rfl ?_
          refine Kx.tk 15 rfl ?_
          refine anyW_storeU (i := 17) rfl (by kernel_rfl) (by kernel_rfl) rfl _ _ _ rfl _ 12 rfl _ rfl rfl (fun w => (Tryd.sizeOf28 w)) (by rfl) ?_
          refine Kx.tk 18 rfl ?_
          refine anyW_done (by kernel_rfl) ?_
          clear HB
          intro w_ HB_
          have HB := Lib.hid HB_
          clear HB_
          go_wp2_with fail
          go_meet
          case rel => exact ⟨y.1, b8, Lib.hid y.2, rfl, rfl, HB⟩
      case rest =>
        obtain ⟨y, b8, HY, rfl, rfl, HB⟩ := hcut
        have hly : y.1.cells.length = 12 := rfl
        have hwk : IntKind.i64.wrap ((k : Int) + 1) = (k : Int) + 1 := by rw [IntKind.wrap_i64]; omega
        cases hy2 : y.2 with
        | false =>
          go_wp2_with fail
          go_roundg (gk - 1)
          case measure => omega
          case rel => exact ⟨k + 1, A, k', ps, p, by omega, rfl, by go_num, HI, by omega, Lib.hid (HB.out.tail.stayLess fun q hq => List.mem_append_right _ hq)⟩
        | true =>
          have hmax : ps.length + 1 ≤ 300 := by omega
          have hlen2 : (ps ++ [y.1]).length = ps.length + 1 := by rw [List.length_append]; rfl
          have HI2 := Lib.hid (HI.out.more HY.out hy2)
          go_wp2_with (first | (at_builtin; first | (refine Kx.wpList_app_x HB rfl _ _ 37 rfl _ _ _ rfl 128 28 12 _ rfl Tryd.underlying37 (by kernel_rfl) (by decide) _ _ _ rfl _ (y.1.cells) (HB.out.rd) (by (first | rfl | exact Pt.cells_one _ | (unfold maxLen; omega) | omega)) (by (first | rfl | exact Pt.cells_one _ | (unfold maxLen; omega) | omega)) (by (first | rfl | exact Pt.cells_one _ | (unfold maxLen; omega) | omega)) (by (first | rfl | exact Pt.cells_one _ | (unfold maxLen; omega) | omega)) ?_; clear HB; intro A_ c_ w_ hl_ hm_ HB; refine Kx.framed ?_ (by simp only [Act.put, List.setIfInBounds_toArray, List.set_cons_succ, List.set_cons_zero] <;> rfl)) | (refine Kx.wpList_appn_x HB rfl _ _ 37 rfl rfl 128 28 12 Tryd.underlying37 (by kernel_rfl) (by decide) _ _ _ rfl _ (y.1.cells) (HB.out.rd) (by (first | rfl | exact Pt.cells_one _ | (unfold maxLen; omega) | omega)) (by (first | rfl | exact Pt.cells_one _ | (unfold maxLen; omega) | omega)) (by (first | rfl | exact Pt.cells_one _ | (unfold maxLen; omega) | omega)) (by (first | rfl | exact Pt.cells_one _ | (unfold maxLen; omega) | omega)) ?_; clear HB; intro A_ c_ w_ hl_ hm_ HB; refine Kx.framed ?_ (by simp only [Act.put, List.setIfInBounds_toArray, List.set_cons_succ, List.set_cons_zero] <;> rfl))) | ((with_reducible refine slice1_gate ?_); refine wpList_slice1b_x HB rfl 37 28 _ rfl 12 (y.1.cells) rfl rfl _ Tryd.underlying37 (Tryd.sizeOf28 _) (Tryd.zeroValue28 _) (by decide) (by decide) ?_; clear HB; intro g_ w_ HB; refine Kx.framed ?_ (by simp only [Act.put, List.setIfInBounds_toArray, List.set_cons_succ, List.set_cons_zero] <;> rfl)) | (first | ((with_reducible refine Kx.absorb HB ?_); clear HB; intro w_ HB) | ((with_reducible refine Kx.box_gate ?_); (first | refine Kx.boxa HB rfl ?_ | refine Kx.boxt HB rfl rfl ?_ | refine Kx.box1 HB rfl rfl ?_); clear HB; intro b_ w_ HB; refine Kx.fr ?_) | ((with_reducible refine Kx.alloc_gate ?_); (first | refine Kx.ala HB ?_ | refine Kx.al1 HB ?_); clear HB; intro b_ w_ HB; refine Kx.fr ?_) | ((with_reducible refine Kx.loads_gate ?_); first | refine Kx.l1 HB rfl rfl ?_ | refine Kx.la HB rfl ?_ | refine Kx.lo HB rfl HC.out ?_) | ((with_reducible refine Kx.loadg_gate ?_); first | refine Kx.l1g HB rfl rfl rfl ?_ | refine Kx.lag HB rfl rfl ?_ | refine Kx.log HB rfl HC.out rfl ?_) | ((with_reducible refine Kx.store_gate ?_); (first | refine Kx.stwa HB rfl rfl ?_ | refine Kx.sta HB rfl rfl ?_ | refine Kx.stc HB rfl rfl ?_ | refine Kx.stt HB rfl rfl rfl ?_ | refine Kx.st1 HB rfl rfl rfl ?_); clear HB; intro w_ HB)))
          go_roundg (gk - 1)
          case measure => omega
          case rel =>
            have h1 := HB.out.tail.tail.stayLess (F' := fzs (ps ++ [y.1])) (fzs_snoc ps y.1)
            refine ⟨k + 1, _, _, ps ++ [y.1], y.1, by omega, by rw [hlen2], by go_num, HI2, by omega, ?_⟩
            rw [hlen2, cat_app, cat_one]
            exact Lib.hid h1
    · obtain rfl : k = n := by omega
      have d1 : decide ((k : Int) < (k : Int)) = false := by simp
      go_wp2_with fail
      go_ret
      have hb := HB.out
      refine ⟨A, k', ps, p, rfl, hb.below, hb.newRow (A := A), fun q hq => Hi.new hb hq (HI.out.hi q hq), HI.out, hps⟩
end Go.Proofs.YtnljpopjhjcocaaDoor
