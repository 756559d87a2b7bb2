/- A record replayed: the program's. Boxes in another order. -/
import Derived.Test.YtbkdenlhfigjhaaDoorAa
namespace Go.Proofs.YtbkdenlhfigjhaaDoor
open Go.RowKit Go.Shelf Km Kx Kc Kt
set_option linter.unusedVariables false
set_option linter.unusedSimpArgs false

theorem Kx.Bxs.perm {w0 w : World} {l l' : List (Nat × List Value)} {r : List Rw} {F : Fz} (h : Bxs w0 w l r F) (hp : l.Perm l') : Bxs w0 w l' r F :=
  ⟨h.below, (hp.map _).nodup_iff.1 h.nodup, fun p hm => h.each p (hp.mem_iff.2 hm), fun x hx => ⟨(h.rows x hx).1, fun p hm => (h.rows x hx).2 p (hp.mem_iff.2 hm)⟩, h.apart, fun q hq => (h.stay q hq).to fun _ g1 g2 g3 => ⟨rfl, g1, fun p hm => g2 p (hp.mem_iff.2 hm), g3⟩⟩
theorem Kx.Bxs.swap {w0 w : World} {p q : Nat × List Value} {l : List (Nat × List Value)} {r : List Rw} {F : Fz} (h : Bxs w0 w (p :: q :: l) r F) : Bxs w0 w (q :: p :: l) r F := h.perm (List.Perm.swap _ _ _)
theorem Kx.Bxs.tail2 {w0 w : World} {p q : Nat × List Value} {l : List (Nat × List Value)} {r : List Rw} {F : Fz} (h : Bxs w0 w (p :: q :: l) r F) : Bxs w0 w (p :: l) r F := h.swap.tail

theorem Kx.Bxs.third {w0 w : World} {p q s : Nat × List Value} {l : List (Nat × List Value)} {r : List Rw} {F : Fz} (h : Bxs w0 w (p :: q :: s :: l) r F) : Bxs w0 w (s :: p :: q :: l) r F := h.perm ((List.Perm.cons p (List.Perm.swap s q l)).trans (List.Perm.swap s p (q :: l)))
theorem Kx.Bxs.tail3 {w0 w : World} {p q s : Nat × List Value} {l : List (Nat × List Value)} {r : List Rw} {F : Fz} (h : Bxs w0 w (p :: q :: s :: l) r F) : Bxs w0 w (p :: q :: l) r F := h.third.tail

/-- a message's plan -/
def mpt (x : Mm.Ms) (l : Lo) : Pt := ⟨x.plan, l.A1, l.n1, l.c1, l.A2, l.n2, l.c2⟩
section
variable {x : Mm.Ms} {l : Lo} {v : Int}
@[simp] theorem mvs_len' : (mvs x l).length = 26 := rfl
@[simp] theorem mvs_set_f : (mvs x l).set 1 (.int .i64 v) = mvs { x with f := v } l := rfl
@[simp] theorem mvs_set_t : (mvs x l).set 2 (.int .i64 v) = mvs { x with t := v } l := rfl
@[simp] theorem mvs_take : ((mvs x l).drop 11).take 12 = (mpt x l).cells := rfl
end

def Ac.replay (a : Ac) (x : Mm.Ms) (p : Pt) : Ac :=
  if x.k = 5 then { (if x.e = a.e then a else a.enter x.e) with kn := p, pr := x.b }
  else if x.k = 8 then { a with ac := x.b, pl := p, pr := x.b }
  else if x.k = 11 ∧ x.co = 1 then a.widen x.e
  else if x.k = 11 ∧ x.co = 2 then { a with led := true, ld := -1 } else a

section
variable {w0 w : World} {ga g : Nat} {a : Ac} {l : List (Nat × List Value)} {r : List Rw} {F : Fz}
set_option maxRecDepth 100000 in
set_option maxHeartbeats 2000000 in
theorem replay_any (HB0 : Bxs w0 w ((ga, a.cells g) :: l) r F) (x : Mm.Ms) (lo : Lo) :
    Calls Tryd.prog 52 #[.pointer (some ⟨ga, 32, none⟩), .agg (mvs x lo).toArray] w fun en w' => en = .returned (.tuple #[]) ∧ Bxs w0 w' ((ga, (a.replay x (mpt x lo)).cells g) :: l) r F := by
  have HB := Lib.hid HB0
  clear HB0
  by_cases h5 : x.k = 5
  · have e5 : (x.k == 5) = true := by simpa using h5
    by_cases he : x.e = a.e
    · have HE := Lib.hid (show a.replay x (mpt x lo) = { a with kn := mpt x lo, pr := x.b } by unfold Ac.replay; rw [if_pos h5, if_pos he])
      have e1 : (x.e != a.e) = false := by simpa using he
      clear h5 he
      go_enter Tryd.func52, Tryd.ntmps52
      go_upto_region 2 with (first | ((with_reducible refine Kx.absorb HB ?_); clear HB; intro w_ HB) | ((with_reducible refine Kx.box_gate ?_); (first | refine Kx.boxa HB rfl ?_ | refine Kx.boxt HB rfl rfl ?_ | refine Kx.box1 HB rfl rfl ?_); clear HB; intro b_ w_ HB; refine Kx.fr ?_) | ((with_reducible refine Kx.alloc_gate ?_); (first | refine Kx.ala HB ?_ | refine Kx.al1 HB ?_); clear HB; intro b_ w_ HB; refine Kx.fr ?_) | ((with_reducible refine Kx.loads_gate ?_); first | refine Kx.l1 HB rfl rfl ?_ | refine Kx.la HB rfl ?_ | refine Kx.lo HB rfl HC.out ?_) | ((with_reducible refine Kx.loadg_gate ?_); first | refine Kx.l1g HB rfl rfl rfl ?_ | refine Kx.lag HB rfl rfl ?_ | refine Kx.log HB rfl HC.out rfl ?_) | ((with_reducible refine Kx.store_gate ?_); (first | refine Kx.stwa HB rfl rfl ?_ | refine Kx.sta HB rfl rfl ?_ | refine Kx.stc HB rfl rfl ?_ | refine Kx.stt HB rfl rfl rfl ?_ | refine Kx.st1 HB rfl rfl rfl ?_); clear HB; intro w_ HB))
      refine Kx.region_x HB (fun i => false) (by kernel_rfl) ?_
      refine Kx.tk 0 rfl ?_
      first | refine Kx.xl1 1 rfl rfl rfl ?_ | refine Kx.xla 1 rfl rfl ?_ | refine Kx.xlo 1 rfl rfl HC.out ?_
      refine Kx.tk 2 rfl ?_
      refine Kx.tk 3 rfl ?_
      refine Kx.tk 4 rfl ?_
      first | refine Kx.xl1 5 rfl rfl rfl ?_ | refine Kx.xla 5 rfl rfl ?_ | refine Kx.xlo 5 rfl rfl HC.out ?_
      refine Kx.tk 6 rfl ?_
      refine anyW_done (by kernel_rfl) ?_
      clear HB
      intro w_ HB_
      have HB := Lib.hid HB_
      clear HB_
      go_upto_region 4 with (first | ((with_reducible refine Kx.absorb HB ?_); clear HB; intro w_ HB) | ((with_reducible refine Kx.box_gate ?_); (first | refine Kx.boxa HB rfl ?_ | refine Kx.boxt HB rfl rfl ?_ | refine Kx.box1 HB rfl rfl ?_); clear HB; intro b_ w_ HB; refine Kx.fr ?_) | ((with_reducible refine Kx.alloc_gate ?_); (first | refine Kx.ala HB ?_ | refine Kx.al1 HB ?_); clear HB; intro b_ w_ HB; refine Kx.fr ?_) | ((with_reducible refine Kx.loads_gate ?_); first | refine Kx.l1 HB rfl rfl ?_ | refine Kx.la HB rfl ?_ | refine Kx.lo HB rfl HC.out ?_) | ((with_reducible refine Kx.loadg_gate ?_); first | refine Kx.l1g HB rfl rfl rfl ?_ | refine Kx.lag HB rfl rfl ?_ | refine Kx.log HB rfl HC.out rfl ?_) | ((with_reducible refine Kx.store_gate ?_); (first | refine Kx.stwa HB rfl rfl ?_ | refine Kx.sta HB rfl rfl ?_ | refine Kx.stc HB rfl rfl ?_ | refine Kx.stt HB rfl rfl rfl ?_ | refine Kx.st1 HB rfl rfl rfl ?_); clear HB; intro w_ HB))
      replace HB := Lib.hid HB.out.swap
      refine Kx.region_Sx 67 HB rfl (by kernel_rfl) ?_
      refine Kx.tkS 0 rfl (fun w h => ⟨_, rfl, h⟩) ?_
      refine Kx.tkS 1 rfl (fun w h => ⟨_, rfl, h⟩) ?_
      refine Kx.tkS 2 rfl (fun w h => ⟨_, rfl, h⟩) ?_
      first | refine Kx.xlS 3 rfl rfl rfl rfl ?_ | refine Kx.xlaS 3 rfl rfl rfl ?_
      refine Kx.tkS 4 rfl (fun w h => ⟨_, rfl, h⟩) ?_
      first | refine Kx.xlS 5 rfl rfl rfl rfl ?_ | refine Kx.xlaS 5 rfl rfl rfl ?_
      refine Kx.tkS 6 rfl (fun w h => ⟨_, rfl, h⟩) ?_
      refine Kx.tkS 7 rfl (fun w h => ⟨_, rfl, h⟩) ?_
      first | refine Kx.stcS 8 rfl rfl rfl (fun w h => ⟨_, rfl, h⟩) ?_ | refine Kx.st1S 8 rfl rfl rfl rfl (fun w h => ⟨_, rfl, h⟩) ?_ | refine Kx.staS 8 rfl rfl rfl (fun w h => ⟨_, rfl, h⟩) ?_
      refine Kx.tkS 9 rfl (fun w h => ⟨_, rfl, h⟩) ?_
      refine Kx.tkS 10 rfl (fun w h => ⟨_, rfl, h⟩) ?_
      first | refine Kx.stcS 11 rfl rfl rfl (fun w h => ⟨_, rfl, h⟩) ?_ | refine Kx.st1S 11 rfl rfl rfl rfl (fun w h => ⟨_, rfl, h⟩) ?_ | refine Kx.staS 11 rfl rfl rfl (fun w h => ⟨_, rfl, h⟩) ?_
      refine anyW_done (by kernel_rfl) ?_
      clear HB
      intro w_ HB_
      have HB := Lib.hid HB_
      clear HB_
      go_wp2
      go_end0
      rw [HE.out]
      exact ⟨rfl, HB.out.tail2⟩
    · have HE := Lib.hid (show a.replay x (mpt x lo) = { a.enter x.e with kn := mpt x lo, pr := x.b } by unfold Ac.replay; rw [if_pos h5, if_neg he])
      have e1 : (x.e != a.e) = true := by simpa using he
      clear h5 he
      go_enter Tryd.func52, Tryd.ntmps52
      go_upto_region 2 with (first | ((with_reducible refine Kx.absorb HB ?_); clear HB; intro w_ HB) | ((with_reducible refine Kx.box_gate ?_); (first | refine Kx.boxa HB rfl ?_ | refine Kx.boxt HB rfl rfl ?_ | refine Kx.box1 HB rfl rfl ?_); clear HB; intro b_ w_ HB; refine Kx.fr ?_) | ((with_reducible refine Kx.alloc_gate ?_); (first | refine Kx.ala HB ?_ | refine Kx.al1 HB ?_); clear HB; intro b_ w_ HB; refine Kx.fr ?_) | ((with_reducible refine Kx.loads_gate ?_); first | refine Kx.l1 HB rfl rfl ?_ | refine Kx.la HB rfl ?_ | refine Kx.lo HB rfl HC.out ?_) | ((with_reducible refine Kx.loadg_gate ?_); first | refine Kx.l1g HB rfl rfl rfl ?_ | refine Kx.lag HB rfl rfl ?_ | refine Kx.log HB rfl HC.out rfl ?_) | ((with_reducible refine Kx.store_gate ?_); (first | refine Kx.stwa HB rfl rfl ?_ | refine Kx.sta HB rfl rfl ?_ | refine Kx.stc HB rfl rfl ?_ | refine Kx.stt HB rfl rfl rfl ?_ | refine Kx.st1 HB rfl rfl rfl ?_); clear HB; intro w_ HB))
      refine Kx.region_x HB (fun i => false) (by kernel_rfl) ?_
      refine Kx.tk 0 rfl ?_
      first | refine Kx.xl1 1 rfl rfl rfl ?_ | refine Kx.xla 1 rfl rfl ?_ | refine Kx.xlo 1 rfl rfl HC.out ?_
      refine Kx.tk 2 rfl ?_
      refine Kx.tk 3 rfl ?_
      refine Kx.tk 4 rfl ?_
      first | refine Kx.xl1 5 rfl rfl rfl ?_ | refine Kx.xla 5 rfl rfl ?_ | refine Kx.xlo 5 rfl rfl HC.out ?_
      refine Kx.tk 6 rfl ?_
      refine anyW_done (by kernel_rfl) ?_
      clear HB
      intro w_ HB_
      have HB := Lib.hid HB_
      clear HB_
      go_upto_region 4 with (first | (go_at_call 60; refine (enter_any HB.out.swap _).mono ?_; rintro en w_ ⟨rfl, hb_⟩; replace HB := Lib.hid hb_; clear hb_) | (first | ((with_reducible refine Kx.absorb HB ?_); clear HB; intro w_ HB) | ((with_reducible refine Kx.box_gate ?_); (first | refine Kx.boxa HB rfl ?_ | refine Kx.boxt HB rfl rfl ?_ | refine Kx.box1 HB rfl rfl ?_); clear HB; intro b_ w_ HB; refine Kx.fr ?_) | ((with_reducible refine Kx.alloc_gate ?_); (first | refine Kx.ala HB ?_ | refine Kx.al1 HB ?_); clear HB; intro b_ w_ HB; refine Kx.fr ?_) | ((with_reducible refine Kx.loads_gate ?_); first | refine Kx.l1 HB rfl rfl ?_ | refine Kx.la HB rfl ?_ | refine Kx.lo HB rfl HC.out ?_) | ((with_reducible refine Kx.loadg_gate ?_); first | refine Kx.l1g HB rfl rfl rfl ?_ | refine Kx.lag HB rfl rfl ?_ | refine Kx.log HB rfl HC.out rfl ?_) | ((with_reducible refine Kx.store_gate ?_); (first | refine Kx.stwa HB rfl rfl ?_ | refine Kx.sta HB rfl rfl ?_ | refine Kx.stc HB rfl rfl ?_ | refine Kx.stt HB rfl rfl rfl ?_ | refine Kx.st1 HB rfl rfl rfl ?_); clear HB; intro w_ HB)))
      generalize a.enter x.e = a1 at *
      refine Kx.region_Sx 67 HB rfl (by kernel_rfl) ?_
      refine Kx.tkS 0 rfl (fun w h => ⟨_, rfl, h⟩) ?_
      refine Kx.tkS 1 rfl (fun w h => ⟨_, rfl, h⟩) ?_
      refine Kx.tkS 2 rfl (fun w h => ⟨_, rfl, h⟩) ?_
      first | refine Kx.xlS 3 rfl rfl rfl rfl ?_ | refine Kx.xlaS 3 rfl rfl rfl ?_
      refine Kx.tkS 4 rfl (fun w h => ⟨_, rfl, h⟩) ?_
      first | refine Kx.xlS 5 rfl rfl rfl rfl ?_ | refine Kx.xlaS 5 rfl rfl rfl ?_
      refine Kx.tkS 6 rfl (fun w h => ⟨_, rfl, h⟩) ?_
      refine Kx.tkS 7 rfl (fun w h => ⟨_, rfl, h⟩) ?_
      first | refine Kx.stcS 8 rfl rfl rfl (fun w h => ⟨_, rfl, h⟩) ?_ | refine Kx.st1S 8 rfl rfl rfl rfl (fun w h => ⟨_, rfl, h⟩) ?_ | refine Kx.staS 8 rfl rfl rfl (fun w h => ⟨_, rfl, h⟩) ?_
      refine Kx.tkS 9 rfl (fun w h => ⟨_, rfl, h⟩) ?_
      refine Kx.tkS 10 rfl (fun w h => ⟨_, rfl, h⟩) ?_
      first | refine Kx.stcS 11 rfl rfl rfl (fun w h => ⟨_, rfl, h⟩) ?_ | refine Kx.st1S 11 rfl rfl rfl rfl (fun w h => ⟨_, rfl, h⟩) ?_ | refine Kx.staS 11 rfl rfl rfl (fun w h => ⟨_, rfl, h⟩) ?_
      refine anyW_done (by kernel_rfl) ?_
      clear HB
      intro w_ HB_
      have HB := Lib.hid HB_
      clear HB_
      go_wp2
      go_end0
      rw [HE.out]
      exact ⟨rfl, HB.out.tail2⟩
  have e5 : (x.k == 5) = false := by simpa using h5
  by_cases h8 : x.k = 8
  · have e8 : (x.k == 8) = true := by simpa using h8
    have HE := Lib.hid (show a.replay x (mpt x lo) = { a with ac := x.b, pl := mpt x lo, pr := x.b } by unfold Ac.replay; rw [if_neg h5, if_pos h8])
    clear h5 h8
    go_enter Tryd.func52, Tryd.ntmps52
    go_upto_region 6 with (first | ((with_reducible refine Kx.absorb HB ?_); clear HB; intro w_ HB) | ((with_reducible refine Kx.box_gate ?_); (first | refine Kx.boxa HB rfl ?_ | refine Kx.boxt HB rfl rfl ?_ | refine Kx.box1 HB rfl rfl ?_); clear HB; intro b_ w_ HB; refine Kx.fr ?_) | ((with_reducible refine Kx.alloc_gate ?_); (first | refine Kx.ala HB ?_ | refine Kx.al1 HB ?_); clear HB; intro b_ w_ HB; refine Kx.fr ?_) | ((with_reducible refine Kx.loads_gate ?_); first | refine Kx.l1 HB rfl rfl ?_ | refine Kx.la HB rfl ?_ | refine Kx.lo HB rfl HC.out ?_) | ((with_reducible refine Kx.loadg_gate ?_); first | refine Kx.l1g HB rfl rfl rfl ?_ | refine Kx.lag HB rfl rfl ?_ | refine Kx.log HB rfl HC.out rfl ?_) | ((with_reducible refine Kx.store_gate ?_); (first | refine Kx.stwa HB rfl rfl ?_ | refine Kx.sta HB rfl rfl ?_ | refine Kx.stc HB rfl rfl ?_ | refine Kx.stt HB rfl rfl rfl ?_ | refine Kx.st1 HB rfl rfl rfl ?_); clear HB; intro w_ HB))
    replace HB := Lib.hid HB.out.swap
    refine Kx.region_Sx 67 HB rfl (by kernel_rfl) ?_
    refine Kx.tkS 0 rfl (fun w h => ⟨_, rfl, h⟩) ?_
    refine Kx.tkS 1 rfl (fun w h => ⟨_, rfl, h⟩) ?_
    refine Kx.tkS 2 rfl (fun w h => ⟨_, rfl, h⟩) ?_
    refine Kx.tkS 3 rfl (fun w h => ⟨_, rfl, h⟩) ?_
    first | refine Kx.xlS 4 rfl rfl rfl rfl ?_ | refine Kx.xlaS 4 rfl rfl rfl ?_
    refine Kx.tkS 5 rfl (fun w h => ⟨_, rfl, h⟩) ?_
    first | refine Kx.xlS 6 rfl rfl rfl rfl ?_ | refine Kx.xlaS 6 rfl rfl rfl ?_
    refine Kx.tkS 7 rfl (fun w h => ⟨_, rfl, h⟩) ?_
    first | refine Kx.xlS 8 rfl rfl rfl rfl ?_ | refine Kx.xlaS 8 rfl rfl rfl ?_
    refine Kx.tkS 9 rfl (fun w h => ⟨_, rfl, h⟩) ?_
    refine Kx.tkS 10 rfl (fun w h => ⟨_, rfl, h⟩) ?_
    first | refine Kx.stcS 11 rfl rfl rfl (fun w h => ⟨_, rfl, h⟩) ?_ | refine Kx.st1S 11 rfl rfl rfl rfl (fun w h => ⟨_, rfl, h⟩) ?_ | refine Kx.staS 11 rfl rfl rfl (fun w h => ⟨_, rfl, h⟩) ?_
    refine Kx.tkS 12 rfl (fun w h => ⟨_, rfl, h⟩) ?_
    refine Kx.tkS 13 rfl (fun w h => ⟨_, rfl, h⟩) ?_
    first | refine Kx.stcS 14 rfl rfl rfl (fun w h => ⟨_, rfl, h⟩) ?_ | refine Kx.st1S 14 rfl rfl rfl rfl (fun w h => ⟨_, rfl, h⟩) ?_ | refine Kx.staS 14 rfl rfl rfl (fun w h => ⟨_, rfl, h⟩) ?_
    refine Kx.tkS 15 rfl (fun w h => ⟨_, rfl, h⟩) ?_
    refine Kx.tkS 16 rfl (fun w h => ⟨_, rfl, h⟩) ?_
    first | refine Kx.stcS 17 rfl rfl rfl (fun w h => ⟨_, rfl, h⟩) ?_ | refine Kx.st1S 17 rfl rfl rfl rfl (fun w h => ⟨_, rfl, h⟩) ?_ | refine Kx.staS 17 rfl rfl rfl (fun w h => ⟨_, rfl, h⟩) ?_
    refine anyW_done (by kernel_rfl) ?_
    clear HB
    intro w_ HB_
    have HB := Lib.hid HB_
    clear HB_
    go_wp2
    go_end0
    rw [HE.out]
    exact ⟨rfl, HB.out.tail2⟩
  have e8 : (x.k == 8) = false := by simpa using h8
  by_cases h11 : x.k = 11
  · have e11 : (x.k == 11) = true := by simpa using h11
    by_cases c1 : x.co = 1
    · have f1 : (x.co == 1) = true := by simpa using c1
      have HE := Lib.hid (show a.replay x (mpt x lo) = a.widen x.e by unfold Ac.replay; rw [if_neg h5, if_neg h8, if_pos ⟨h11, c1⟩])
      clear h5 h8 h11 c1
      go_enter Tryd.func52, Tryd.ntmps52
      go_wp2_with (first | (go_at_call 61; refine (widen_any HB.out.swap _).mono ?_; rintro en w_ ⟨rfl, hb_⟩; replace HB := Lib.hid hb_; clear hb_) | (first | ((with_reducible refine Kx.absorb HB ?_); clear HB; intro w_ HB) | ((with_reducible refine Kx.box_gate ?_); (first | refine Kx.boxa HB rfl ?_ | refine Kx.boxt HB rfl rfl ?_ | refine Kx.box1 HB rfl rfl ?_); clear HB; intro b_ w_ HB; refine Kx.fr ?_) | ((with_reducible refine Kx.alloc_gate ?_); (first | refine Kx.ala HB ?_ | refine Kx.al1 HB ?_); clear HB; intro b_ w_ HB; refine Kx.fr ?_) | ((with_reducible refine Kx.loads_gate ?_); first | refine Kx.l1 HB rfl rfl ?_ | refine Kx.la HB rfl ?_ | refine Kx.lo HB rfl HC.out ?_) | ((with_reducible refine Kx.loadg_gate ?_); first | refine Kx.l1g HB rfl rfl rfl ?_ | refine Kx.lag HB rfl rfl ?_ | refine Kx.log HB rfl HC.out rfl ?_) | ((with_reducible refine Kx.store_gate ?_); (first | refine Kx.stwa HB rfl rfl ?_ | refine Kx.sta HB rfl rfl ?_ | refine Kx.stc HB rfl rfl ?_ | refine Kx.stt HB rfl rfl rfl ?_ | refine Kx.st1 HB rfl rfl rfl ?_); clear HB; intro w_ HB)))
      go_end0
      rw [HE.out]
      exact ⟨rfl, HB.out.tail2⟩
    · have f1 : (x.co == 1) = false := by simpa using c1
      by_cases c2 : x.co = 2
      · have f2 : (x.co == 2) = true := by simpa using c2
        have HE := Lib.hid (show a.replay x (mpt x lo) = { a with led := true, ld := -1 } by unfold Ac.replay; rw [if_neg h5, if_neg h8, if_neg (fun q => c1 q.2), if_pos ⟨h11, c2⟩])
        clear h5 h8 h11 c1 c2
        go_enter Tryd.func52, Tryd.ntmps52
        go_wp2_with (first | ((with_reducible refine Kx.absorb HB ?_); clear HB; intro w_ HB) | ((with_reducible refine Kx.box_gate ?_); (first | refine Kx.boxa HB rfl ?_ | refine Kx.boxt HB rfl rfl ?_ | refine Kx.box1 HB rfl rfl ?_); clear HB; intro b_ w_ HB; refine Kx.fr ?_) | ((with_reducible refine Kx.alloc_gate ?_); (first | refine Kx.ala HB ?_ | refine Kx.al1 HB ?_); clear HB; intro b_ w_ HB; refine Kx.fr ?_) | ((with_reducible refine Kx.loads_gate ?_); first | refine Kx.l1 HB rfl rfl ?_ | refine Kx.la HB rfl ?_ | refine Kx.lo HB rfl HC.out ?_) | ((with_reducible refine Kx.loadg_gate ?_); first | refine Kx.l1g HB rfl rfl rfl ?_ | refine Kx.lag HB rfl rfl ?_ | refine Kx.log HB rfl HC.out rfl ?_) | ((with_reducible refine Kx.store_gate ?_); (first | refine Kx.stwa HB rfl rfl ?_ | refine Kx.sta HB rfl rfl ?_ | refine Kx.stc HB rfl rfl ?_ | refine Kx.stt HB rfl rfl rfl ?_ | refine Kx.st1 HB rfl rfl rfl ?_); clear HB; intro w_ HB))
        go_end0
        rw [HE.out]
        exact ⟨rfl, HB.out.tail⟩
      · have f2 : (x.co == 2) = false := by simpa using c2
        have HE := Lib.hid (show a.replay x (mpt x lo) = a by unfold Ac.replay; rw [if_neg h5, if_neg h8, if_neg (fun q => c1 q.2), if_neg (fun q => c2 q.2)])
        clear h5 h8 h11 c1 c2
        go_enter Tryd.func52, Tryd.ntmps52
        go_wp2_with (first | ((with_reducible refine Kx.absorb HB ?_); clear HB; intro w_ HB) | ((with_reducible refine Kx.box_gate ?_); (first | refine Kx.boxa HB rfl ?_ | refine Kx.boxt HB rfl rfl ?_ | refine Kx.box1 HB rfl rfl ?_); clear HB; intro b_ w_ HB; refine Kx.fr ?_) | ((with_reducible refine Kx.alloc_gate ?_); (first | refine Kx.ala HB ?_ | refine Kx.al1 HB ?_); clear HB; intro b_ w_ HB; refine Kx.fr ?_) | ((with_reducible refine Kx.loads_gate ?_); first | refine Kx.l1 HB rfl rfl ?_ | refine Kx.la HB rfl ?_ | refine Kx.lo HB rfl HC.out ?_) | ((with_reducible refine Kx.loadg_gate ?_); first | refine Kx.l1g HB rfl rfl rfl ?_ | refine Kx.lag HB rfl rfl ?_ | refine Kx.log HB rfl HC.out rfl ?_) | ((with_reducible refine Kx.store_gate ?_); (first | refine Kx.stwa HB rfl rfl ?_ | refine Kx.sta HB rfl rfl ?_ | refine Kx.stc HB rfl rfl ?_ | refine Kx.stt HB rfl rfl rfl ?_ | refine Kx.st1 HB rfl rfl rfl ?_); clear HB; intro w_ HB))
        go_end0
        rw [HE.out]
        exact ⟨rfl, HB.out.tail⟩
  · have e11 : (x.k == 11) = false := by simpa using h11
    have HE := Lib.hid (show a.replay x (mpt x lo) = a by unfold Ac.replay; rw [if_neg h5, if_neg h8, if_neg (fun q => h11 q.1), if_neg (fun q => h11 q.1)])
    clear h5 h8 h11
    go_enter Tryd.func52, Tryd.ntmps52
    go_wp2_with (first | ((with_reducible refine Kx.absorb HB ?_); clear HB; intro w_ HB) | ((with_reducible refine Kx.box_gate ?_); (first | refine Kx.boxa HB rfl ?_ | refine Kx.boxt HB rfl rfl ?_ | refine Kx.box1 HB rfl rfl ?_); clear HB; intro b_ w_ HB; refine Kx.fr ?_) | ((with_reducible refine Kx.alloc_gate ?_); (first | refine Kx.ala HB ?_ | refine Kx.al1 HB ?_); clear HB; intro b_ w_ HB; refine Kx.fr ?_) | ((with_reducible refine Kx.loads_gate ?_); first | refine Kx.l1 HB rfl rfl ?_ | refine Kx.la HB rfl ?_ | refine Kx.lo HB rfl HC.out ?_) | ((with_reducible refine Kx.loadg_gate ?_); first | refine Kx.l1g HB rfl rfl rfl ?_ | refine Kx.lag HB rfl rfl ?_ | refine Kx.log HB rfl HC.out rfl ?_) | ((with_reducible refine Kx.store_gate ?_); (first | refine Kx.stwa HB rfl rfl ?_ | refine Kx.sta HB rfl rfl ?_ | refine Kx.stc HB rfl rfl ?_ | refine Kx.stt HB rfl rfl rfl ?_ | refine Kx.st1 HB rfl rfl rfl ?_); clear HB; intro w_ HB))
    go_end0
    rw [HE.out]
    exact ⟨rfl, HB.out.tail⟩
end
end Go.Proofs.YtbkdenlhfigjhaaDoor
