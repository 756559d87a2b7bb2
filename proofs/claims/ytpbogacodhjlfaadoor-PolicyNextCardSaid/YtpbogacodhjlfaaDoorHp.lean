/- The laws' own config, and their live question. -/
import Derived.Test.YtpbogacodhjlfaaDoorHz
namespace Go.Proofs.YtpbogacodhjlfaaDoor
open Go.RowKit Go.Shelf Km Kx Kc Kt
set_option linter.unusedVariables false
set_option linter.unusedSimpArgs false

def plainC (A : Option Addr) (w hit f s t : Int) : Cf := ⟨1, 2, 2, 1, 3, A, 2, 2, 5, 3, 2, 2, 20, 20, 5, 10, 3, w, 3, hit, 1500, 700, 30, f, s, t, 10, 5, 10, 4, 3, 5⟩
def zeroC : Cf := ⟨0, 0, 0, 0, 0, none, 0, 0, 0, 0, 0, 0, 0, 0, 0, 0, 0, 0, 0, 0, 0, 0, 0, 0, 0, 0, 0, 0, 0, 0, 0, 0⟩
theorem plainC_gc (A : Option Addr) (w hit f s t : Int) : gc (plainC A w hit f s t) [1, 0] = Gm.plain w hit f s t := rfl
theorem plainC_ok (A : Option Addr) {w hit f s t : Int} (hw : 1 ≤ w ∧ w ≤ 1048576) (hh : 0 ≤ hit ∧ hit ≤ 1000000) (hf : 1 ≤ f ∧ f ≤ 100) (hs : 1 ≤ s ∧ s ≤ 100) (ht : 1 ≤ t ∧ t ≤ 1048576) : ConfP (plainC A w hit f s t) [1, 0] := by
  refine ⟨?_, ?_, ?_, ?_, ?_, ?_, ?_, ?_, ?_, ?_, ?_, ?_, ?_, hw, ?_, ht, ?_, ?_, ?_, ?_, ?_, ?_, ?_, hh, ?_, ?_, hf, hs, ?_, ?_, ?_⟩
  all_goals first | (simp only [plainC]; omega) | skip
  intro v hv
  simp only [List.mem_cons, List.not_mem_nil, or_false] at hv
  rcases hv with rfl | rfl <;> exact ⟨by decide, by decide⟩
theorem zeroC_no : ¬ ConfP zeroC [] := fun h => by have := h.targets.1; exact absurd this (by decide)
theorem plain_built (A : Option Addr) : Tryd.prog.built 24 [(0, .int .i64 1), (1, .int .i64 2), (2, .int .i64 2), (3, .int .i64 1), (4, .int .i64 3), (5, .slice A 2 2), (6, .int .i64 5), (7, .int .i64 3), (8, .int .i64 2), (9, .int .i64 2), (10, .int .i64 20), (11, .int .i64 20), (12, .int .i64 5), (13, .int .i64 10), (14, .int .i64 3), (15, .int .i64 50), (16, .int .i64 3), (17, .int .i64 1000), (18, .int .i64 1500), (19, .int .i64 700), (20, .int .i64 30), (21, .int .i64 20), (22, .int .i64 40), (23, .int .i64 5), (24, .int .i64 10), (25, .int .i64 5), (26, .int .i64 10), (27, .int .i64 4), (28, .int .i64 3), (29, .int .i64 5)] = some (cf (plainC A 50 1000 20 40 5)).toArray := by kernel_rfl
theorem zeroC_built : Tryd.prog.built 24 [] = some (cf zeroC).toArray := by kernel_rfl

set_option maxRecDepth 100000 in
set_option maxHeartbeats 1000000 in
theorem Plain_any (w : World) : Calls Tryd.prog 12 #[] w fun e w' => ∃ A, e = .returned (.agg (cf (plainC A 50 1000 20 40 5)).toArray) ∧ Below w.heap.size w w' ∧ New w w' [] A (i64s [1, 0]) := by
  have HB := Lib.hid (Bxs.start w)
  go_enter Tryd.func12, Tryd.ntmps12
  go_wp2_with (first | ((with_reducible refine Kx.alloced_gate ?_); refine Kx.absorb_row 2 1 rfl (by decide) HB ?_; clear HB; intro w_ HB) | ((with_reducible refine Kx.build_gate ?_); refine Km.wpList_build rfl 24 _ rfl #[(0, .int .i64 1), (1, .int .i64 2), (2, .int .i64 2), (3, .int .i64 1), (4, .int .i64 3), (5, .slice (some ⟨_, 0, none⟩) 2 2), (6, .int .i64 5), (7, .int .i64 3), (8, .int .i64 2), (9, .int .i64 2), (10, .int .i64 20), (11, .int .i64 20), (12, .int .i64 5), (13, .int .i64 10), (14, .int .i64 3), (15, .int .i64 50), (16, .int .i64 3), (17, .int .i64 1000), (18, .int .i64 1500), (19, .int .i64 700), (20, .int .i64 30), (21, .int .i64 20), (22, .int .i64 40), (23, .int .i64 5), (24, .int .i64 10), (25, .int .i64 5), (26, .int .i64 10), (27, .int .i64 4), (28, .int .i64 3), (29, .int .i64 5)] (by simp only [List.map_toArray, List.map_cons, List.map_nil]; rfl) (cf (plainC (some ⟨_, 0, none⟩) 50 1000 20 40 5)).toArray (plain_built _) ?_; refine Kx.framed ?_ (by rfl)) | (first | ((with_reducible refine Kx.absorb HB ?_); clear HB; intro w_ HB) | ((with_reducible refine Kx.box_gate ?_); (first | refine Kx.boxa HB rfl ?_ | refine Kx.boxt HB rfl rfl ?_ | refine Kx.box1 HB rfl rfl ?_); clear HB; intro b_ w_ HB; refine Kx.fr ?_) | ((with_reducible refine Kx.alloc_gate ?_); (first | refine Kx.ala HB ?_ | refine Kx.al1 HB ?_); clear HB; intro b_ w_ HB; refine Kx.fr ?_) | ((with_reducible refine Kx.loads_gate ?_); first | refine Kx.l1 HB rfl rfl ?_ | refine Kx.la HB rfl ?_ | refine Kx.lo HB rfl HC.out ?_) | ((with_reducible refine Kx.loadg_gate ?_); first | refine Kx.l1g HB rfl rfl rfl ?_ | refine Kx.lag HB rfl rfl ?_ | refine Kx.log HB rfl HC.out rfl ?_) | ((with_reducible refine Kx.store_gate ?_); (first | refine Kx.stwa HB rfl rfl ?_ | refine Kx.sta HB rfl rfl ?_ | refine Kx.stc HB rfl rfl ?_ | refine Kx.stt HB rfl rfl rfl ?_ | refine Kx.st1 HB rfl rfl rfl ?_); clear HB; intro w_ HB)))
  refine bodyPost_ret (Kx.results_x HB rfl _ _ _ rfl (by simp <;> rfl) (by simp <;> rfl)) rfl ?_; exact ⟨_, rfl, HB.out.below, HB.out.newHead⟩

theorem toldx {c : Cf} {xs : List Int} {p : Gm.Pl} {up : Nat} {now : Int} {q : Pt} {b : Bool} {x : Gm.Pl} (h : tell c xs p up now = some x) (yes : b = true → tell c xs p up now = some q.x) (no : b = false → tell c xs p up now = none ∧ q.x = noPlan) : b = true ∧ q.x = x := by
  cases b with
  | true => refine ⟨rfl, ?_⟩; have := yes rfl; rw [h] at this; exact (Option.some.inj this).symm
  | false => have := (no rfl).1; rw [h] at this; cases this
theorem toldn {c : Cf} {xs : List Int} {p : Gm.Pl} {up : Nat} {now : Int} {q : Pt} {b : Bool} (h : tell c xs p up now = none) (yes : b = true → tell c xs p up now = some q.x) (no : b = false → tell c xs p up now = none ∧ q.x = noPlan) : b = false := by
  cases b with
  | true => have := yes rfl; rw [h] at this; cases this
  | false => rfl
theorem says_of {w : World} {R : Prop} {e : Ending} {w' : World} (h : Says w R e w') (b : Bool) (hb : b = true ↔ R) : e = .returned (.bool b) ∧ Below w.heap.size w w' := by
  obtain ⟨b', rfl, h1, h2⟩ := h
  refine ⟨?_, h2⟩
  have : b' = b := by
    cases b' <;> cases b
    · rfl
    · exact absurd (h1.2 (hb.1 rfl)) (by decide)
    · exact absurd (hb.2 (h1.1 rfl)) (by decide)
    · rfl
  rw [this]
theorem in64_5 : in64 5 := ⟨by decide, by decide⟩

set_option maxRecDepth 100000 in
set_option maxHeartbeats 4000000 in
theorem head_any (w : World) (ht : Tabs w) : Calls Tryd.prog 4 #[] w fun e w' => e = .returned (.bool true) ∧ Below w.heap.size w w' := by
  have HB := Lib.hid (Bxs.start w)
  have HT := Lib.hid ht
  clear ht
  go_enter Tryd.func4, Tryd.ntmps4
  go_wp2_with (first | (go_at_call 12; fail) | (first | ((with_reducible refine Kx.absorb HB ?_); clear HB; intro w_ HB) | ((with_reducible refine Kx.box_gate ?_); (first | refine Kx.boxa HB rfl ?_ | refine Kx.boxt HB rfl rfl ?_ | refine Kx.box1 HB rfl rfl ?_); clear HB; intro b_ w_ HB; refine Kx.fr ?_) | ((with_reducible refine Kx.alloc_gate ?_); (first | refine Kx.ala HB ?_ | refine Kx.al1 HB ?_); clear HB; intro b_ w_ HB; refine Kx.fr ?_) | ((with_reducible refine Kx.loads_gate ?_); first | refine Kx.l1 HB rfl rfl ?_ | refine Kx.la HB rfl ?_ | refine Kx.lo HB rfl HC.out ?_) | ((with_reducible refine Kx.loadg_gate ?_); first | refine Kx.l1g HB rfl rfl rfl ?_ | refine Kx.lag HB rfl rfl ?_ | refine Kx.log HB rfl HC.out rfl ?_) | ((with_reducible refine Kx.store_gate ?_); (first | refine Kx.stwa HB rfl rfl ?_ | refine Kx.sta HB rfl rfl ?_ | refine Kx.stc HB rfl rfl ?_ | refine Kx.stt HB rfl rfl rfl ?_ | refine Kx.st1 HB rfl rfl rfl ?_); clear HB; intro w_ HB)))
  refine (Plain_any _).mono ?_
  rintro e w1 ⟨A, rfl, hb_, hn_⟩
  replace HB := Lib.hid (HB.out.stayNew hb_ hn_ (fun q hq => by cases hq))
  clear hb_ hn_
  have hok := plainC_ok A (w := 50) (hit := 1000) (f := 20) (s := 40) (t := 5) ⟨by decide, by decide⟩ ⟨by decide, by decide⟩ ⟨by decide, by decide⟩ ⟨by decide, by decide⟩ ⟨by decide, by decide⟩
  have HOK := Lib.hid hok
  have hgk : (Gm.plain 50 1000 20 40 5).Ok := hok.gok rfl
  have HG := Lib.hid hgk
  clear hok hgk
  go_wp2_with (first | (go_at_call 10; fail) | (first | ((with_reducible refine Kx.absorb HB ?_); clear HB; intro w_ HB) | ((with_reducible refine Kx.box_gate (d := some 1) ?_); (first | refine Kx.boxa HB rfl ?_ | refine Kx.boxt HB rfl rfl ?_ | refine Kx.box1 HB rfl rfl ?_); clear HB; intro b1 w_ HB; refine Kx.fr ?_) | ((with_reducible refine Kx.alloc_gate (d := some 1) ?_); (first | refine Kx.ala HB ?_ | refine Kx.al1 HB ?_); clear HB; intro b1 w_ HB; refine Kx.fr ?_) | ((with_reducible refine Kx.box_gate ?_); (first | refine Kx.boxa HB rfl ?_ | refine Kx.boxt HB rfl rfl ?_ | refine Kx.box1 HB rfl rfl ?_); clear HB; intro b_ w_ HB; refine Kx.fr ?_) | ((with_reducible refine Kx.alloc_gate ?_); (first | refine Kx.ala HB ?_ | refine Kx.al1 HB ?_); clear HB; intro b_ w_ HB; refine Kx.fr ?_) | ((with_reducible refine Kx.loads_gate ?_); first | refine Kx.l1 HB rfl rfl ?_ | refine Kx.la HB rfl ?_ | refine Kx.lo HB rfl HC.out ?_) | ((with_reducible refine Kx.loadg_gate ?_); first | refine Kx.l1g HB rfl rfl rfl ?_ | refine Kx.lag HB rfl rfl ?_ | refine Kx.log HB rfl HC.out rfl ?_) | ((with_reducible refine Kx.store_gate ?_); (first | refine Kx.stwa HB rfl rfl ?_ | refine Kx.sta HB rfl rfl ?_ | refine Kx.stc HB rfl rfl ?_ | refine Kx.stt HB rfl rfl rfl ?_ | refine Kx.st1 HB rfl rfl rfl ?_); clear HB; intro w_ HB)))
  refine (PZero_any _ [1, 0] _ (HT.out.below HB.out.below (Nat.le_refl _)) (HB.out.stayRdM (List.mem_cons_self ..)) rfl).mono ?_
  rintro e w2 ⟨z, rfl, hb_, n1, n2, hzok, hz, -⟩
  replace HB := Lib.hid (HB.out.stayNew2 hb_ n1 n2 (fun q hq => by cases hq))
  have HZ := Lib.hid (⟨hzok, hz HOK.out⟩ : _ ∧ _)
  have z1 : z.x.t = -1 := by rw [HZ.out.2]; rfl
  clear hb_ n1 n2 hzok hz
  have HTE : Hid (tell (plainC A 50 1000 20 40 5) [1, 0] z.x 3 5 = some ⟨1, 1, -1, 0, 100, 5, 5, 5, 3, 0, [0, 0], [5]⟩) := Lib.hid (by
    rw [tell_next HOK.out (by rw [HZ.out.2]; exact (Gm.zero_inv HG.out).fits) HZ.out.1.ok (by rw [HZ.out.2]; show (0 : Int) < _; decide), HZ.out.2]
    exact Gm.plain_head HG.out)
  have HZI : Hid (Gm.Inv (gc (plainC A 50 1000 20 40 5) [1, 0]) z.x) := Lib.hid (by rw [HZ.out.2]; exact Gm.zero_inv HG.out)
  have HZN := Lib.hid (few HOK.out HZ.out.1 HZI.out.fits)
  go_wp2_with (first | (go_at_call 5; fail) | (first | ((with_reducible refine Kx.absorb HB ?_); clear HB; intro w_ HB) | ((with_reducible refine Kx.box_gate (d := some 2) ?_); (first | refine Kx.boxa HB rfl ?_ | refine Kx.boxt HB rfl rfl ?_ | refine Kx.box1 HB rfl rfl ?_); clear HB; intro b2 w_ HB; refine Kx.fr ?_) | ((with_reducible refine Kx.alloc_gate (d := some 2) ?_); (first | refine Kx.ala HB ?_ | refine Kx.al1 HB ?_); clear HB; intro b2 w_ HB; refine Kx.fr ?_) | ((with_reducible refine Kx.box_gate ?_); (first | refine Kx.boxa HB rfl ?_ | refine Kx.boxt HB rfl rfl ?_ | refine Kx.box1 HB rfl rfl ?_); clear HB; intro b_ w_ HB; refine Kx.fr ?_) | ((with_reducible refine Kx.alloc_gate ?_); (first | refine Kx.ala HB ?_ | refine Kx.al1 HB ?_); clear HB; intro b_ w_ HB; refine Kx.fr ?_) | ((with_reducible refine Kx.loads_gate ?_); first | refine Kx.l1 HB rfl rfl ?_ | refine Kx.la HB rfl ?_ | refine Kx.lo HB rfl HC.out ?_) | ((with_reducible refine Kx.loadg_gate ?_); first | refine Kx.l1g HB rfl rfl rfl ?_ | refine Kx.lag HB rfl rfl ?_ | refine Kx.log HB rfl HC.out rfl ?_) | ((with_reducible refine Kx.store_gate ?_); (first | refine Kx.stwa HB rfl rfl ?_ | refine Kx.sta HB rfl rfl ?_ | refine Kx.stc HB rfl rfl ?_ | refine Kx.stt HB rfl rfl rfl ?_ | refine Kx.st1 HB rfl rfl rfl ?_); clear HB; intro w_ HB)))
  refine (PNext_any _ [1, 0] z 3 5 _ (HT.out.below HB.out.below (Nat.le_refl _)) (HB.out.stayRdM (List.mem_append_right z.fz (List.mem_cons_self ..))) rfl (HZ.out.1.stays HB.out (fun q hq => List.mem_append_left _ hq)) HZN.out (by decide) in64_5).mono ?_
  rintro e w3 ⟨p, b, rfl, hb_, n1, n2, pok, yes, no⟩
  obtain ⟨rfl, hpx⟩ := toldx HTE.out yes no
  replace HB := Lib.hid (HB.out.stayNew2 hb_ n1 n2 (fun q hq => List.mem_append_left _ hq))
  have HP := Lib.hid (⟨pok, hpx⟩ : _ ∧ _)
  have p1 : p.x.t = 1 := by rw [hpx]
  have p2 : p.x.s = 0 := by rw [hpx]
  have p3 : p.x.c = 100 := by rw [hpx]
  have p4 : p.x.e = 1 := by rw [hpx]
  have HPI : Hid (Gm.Inv (gc (plainC A 50 1000 20 40 5) [1, 0]) p.x) := Lib.hid (by rw [hpx]; exact Gm.step_inv HG.out (Gm.zero_inv HG.out) ⟨_, _, Gm.plain_head HG.out⟩)
  have HPN := Lib.hid (few HOK.out pok HPI.out.fits)
  have HTN : Hid (tell (plainC A 50 1000 20 40 5) [1, 0] p.x 3 5 = none) := Lib.hid (by
    rw [tell_next HOK.out HPI.out.fits pok.ok (by rw [hpx]; show (1 : Int) < _; decide), hpx]
    exact Gm.plain_again HG.out)
  clear hb_ n1 n2 pok yes no hpx
  go_wp2_with (first | (go_at_call 5; fail) | (first | ((with_reducible refine Kx.absorb HB ?_); clear HB; intro w_ HB) | ((with_reducible refine Kx.box_gate (d := some 3) ?_); (first | refine Kx.boxa HB rfl ?_ | refine Kx.boxt HB rfl rfl ?_ | refine Kx.box1 HB rfl rfl ?_); clear HB; intro b3 w_ HB; refine Kx.fr ?_) | ((with_reducible refine Kx.alloc_gate (d := some 3) ?_); (first | refine Kx.ala HB ?_ | refine Kx.al1 HB ?_); clear HB; intro b3 w_ HB; refine Kx.fr ?_) | ((with_reducible refine Kx.box_gate ?_); (first | refine Kx.boxa HB rfl ?_ | refine Kx.boxt HB rfl rfl ?_ | refine Kx.box1 HB rfl rfl ?_); clear HB; intro b_ w_ HB; refine Kx.fr ?_) | ((with_reducible refine Kx.alloc_gate ?_); (first | refine Kx.ala HB ?_ | refine Kx.al1 HB ?_); clear HB; intro b_ w_ HB; refine Kx.fr ?_) | ((with_reducible refine Kx.loads_gate ?_); first | refine Kx.l1 HB rfl rfl ?_ | refine Kx.la HB rfl ?_ | refine Kx.lo HB rfl HC.out ?_) | ((with_reducible refine Kx.loadg_gate ?_); first | refine Kx.l1g HB rfl rfl rfl ?_ | refine Kx.lag HB rfl rfl ?_ | refine Kx.log HB rfl HC.out rfl ?_) | ((with_reducible refine Kx.store_gate ?_); (first | refine Kx.stwa HB rfl rfl ?_ | refine Kx.sta HB rfl rfl ?_ | refine Kx.stc HB rfl rfl ?_ | refine Kx.stt HB rfl rfl rfl ?_ | refine Kx.st1 HB rfl rfl rfl ?_); clear HB; intro w_ HB)))
  refine (PNext_any _ [1, 0] p 3 5 _ (HT.out.below HB.out.below (Nat.le_refl _)) (HB.out.stayRdM (List.mem_append_right p.fz (List.mem_append_right z.fz (List.mem_cons_self ..)))) rfl (HP.out.1.stays HB.out (fun q hq => List.mem_append_left _ hq)) HPN.out (by decide) in64_5).mono ?_
  rintro e w4 ⟨q, b, rfl, hb_, n1, n2, qok, yes, no⟩
  obtain rfl := toldn HTN.out yes no
  replace HB := Lib.hid (HB.out.stayNew2 hb_ n1 n2 (fun q hq => List.mem_append_left _ hq))
  clear hb_ n1 n2 qok yes no
  go_wp2_with (first | (go_at_call 7; fail) | (first | ((with_reducible refine Kx.absorb HB ?_); clear HB; intro w_ HB) | ((with_reducible refine Kx.box_gate (d := some 5) ?_); (first | refine Kx.boxa HB rfl ?_ | refine Kx.boxt HB rfl rfl ?_ | refine Kx.box1 HB rfl rfl ?_); clear HB; intro b5 w_ HB; refine Kx.fr ?_) | ((with_reducible refine Kx.alloc_gate (d := some 5) ?_); (first | refine Kx.ala HB ?_ | refine Kx.al1 HB ?_); clear HB; intro b5 w_ HB; refine Kx.fr ?_) | ((with_reducible refine Kx.box_gate ?_); (first | refine Kx.boxa HB rfl ?_ | refine Kx.boxt HB rfl rfl ?_ | refine Kx.box1 HB rfl rfl ?_); clear HB; intro b_ w_ HB; refine Kx.fr ?_) | ((with_reducible refine Kx.alloc_gate ?_); (first | refine Kx.ala HB ?_ | refine Kx.al1 HB ?_); clear HB; intro b_ w_ HB; refine Kx.fr ?_) | ((with_reducible refine Kx.loads_gate ?_); first | refine Kx.l1 HB rfl rfl ?_ | refine Kx.la HB rfl ?_ | refine Kx.lo HB rfl HC.out ?_) | ((with_reducible refine Kx.loadg_gate ?_); first | refine Kx.l1g HB rfl rfl rfl ?_ | refine Kx.lag HB rfl rfl ?_ | refine Kx.log HB rfl HC.out rfl ?_) | ((with_reducible refine Kx.store_gate ?_); (first | refine Kx.stwa HB rfl rfl ?_ | refine Kx.sta HB rfl rfl ?_ | refine Kx.stc HB rfl rfl ?_ | refine Kx.stt HB rfl rfl rfl ?_ | refine Kx.st1 HB rfl rfl rfl ?_); clear HB; intro w_ HB)))
  refine (PRight_any _ [1, 0] _ (HT.out.below HB.out.below (Nat.le_refl _)) (HB.out.stayRdM (List.mem_append_right q.fz (List.mem_append_right p.fz (List.mem_append_right z.fz (List.mem_cons_self ..))))) rfl).mono ?_
  intro e w5 hs
  obtain ⟨rfl, hb_⟩ := says_of hs true ⟨fun _ => HOK.out, fun _ => rfl⟩
  replace HB := Lib.hid (HB.out.call hb_)
  clear hs hb_
  go_wp2_with (first | (go_at_call 7; fail) | ((with_reducible refine buildg_gate ?_); refine wpList_buildg 24 _ rfl #[] rfl (cf zeroC).toArray (zeroC_built) rfl ?_; refine Kx.framed ?_ (by simp only [Act.put, List.setIfInBounds_toArray, List.set_cons_succ, List.set_cons_zero] <;> rfl)))
  refine (PRight_any zeroC [] _ (HT.out.below HB.out.below (Nat.le_refl _)) (Rd.nil _ _ _) rfl).mono ?_
  intro e w6 hs
  obtain ⟨rfl, hb_⟩ := says_of hs false ⟨fun h => (by cases h), fun h => absurd h zeroC_no⟩
  replace HB := Lib.hid (HB.out.call hb_)
  clear hs hb_
  go_wp2_with (first | ((with_reducible refine Kx.absorb HB ?_); clear HB; intro w_ HB) | ((with_reducible refine Kx.box_gate ?_); (first | refine Kx.boxa HB rfl ?_ | refine Kx.boxt HB rfl rfl ?_ | refine Kx.box1 HB rfl rfl ?_); clear HB; intro b_ w_ HB; refine Kx.fr ?_) | ((with_reducible refine Kx.alloc_gate ?_); (first | refine Kx.ala HB ?_ | refine Kx.al1 HB ?_); clear HB; intro b_ w_ HB; refine Kx.fr ?_) | ((with_reducible refine Kx.loads_gate ?_); first | refine Kx.l1 HB rfl rfl ?_ | refine Kx.la HB rfl ?_ | refine Kx.lo HB rfl HC.out ?_) | ((with_reducible refine Kx.loadg_gate ?_); first | refine Kx.l1g HB rfl rfl rfl ?_ | refine Kx.lag HB rfl rfl ?_ | refine Kx.log HB rfl HC.out rfl ?_) | ((with_reducible refine Kx.store_gate ?_); (first | refine Kx.stwa HB rfl rfl ?_ | refine Kx.sta HB rfl rfl ?_ | refine Kx.stc HB rfl rfl ?_ | refine Kx.stt HB rfl rfl rfl ?_ | refine Kx.st1 HB rfl rfl rfl ?_); clear HB; intro w_ HB))
  go_ret
  exact ⟨rfl, HB.out.below⟩
end Go.Proofs.YtpbogacodhjlfaaDoor
