/- An acceptor in memory: its cells, one box; the state that a journal restores: another epoch, a wider span, a record replayed: the program's. -/
import Derived.Test.YtbkdenlhfigjhaaDoorHa
import Derived.Test.YtbkdenlhfigjhaaDoorBMa
import Derived.Test.YtbkdenlhfigjhaaDoorKitLt
namespace Go.Proofs.YtbkdenlhfigjhaaDoor
open Go.RowKit Go.Shelf Km Kx Kc Kt
set_option linter.unusedVariables false
set_option linter.unusedSimpArgs false

instance : Kx.OneC Tryd.prog 32 := ⟨Tryd.isAgg32⟩
instance : Kx.OneC Tryd.prog 48 := ⟨Tryd.isAgg48⟩
instance : Kx.AggC Tryd.prog 39 26 := ⟨Tryd.isAgg39, Tryd.sizeOf39⟩

/-- an acceptor: its config and node, what a journal restores, and what it doesn't -/
structure Ac where
  c : Cf
  node : Int
  e : Int
  kn : Pt
  pr : Int
  ac : Int
  pl : Pt
  lo : Int
  hi : Int
  led : Bool
  ld : Int
  wi : Int
  wt : Int
  wr : Int
  lt : Int
def Ac.cells (g : Nat) (a : Ac) : List Value :=
  cf a.c ++ ([.int .i64 a.node, .pointer (some ⟨g, 0, none⟩), .int .i64 a.e] ++ (a.kn.cells ++ ([.int .i64 a.pr, .int .i64 a.ac] ++ (a.pl.cells ++ [.int .i64 a.lo, .int .i64 a.hi, .bool a.led, .int .i64 a.ld, .int .i64 a.wi, .int .i64 a.wt, .int .i64 a.wr, .int .i64 a.lt]))))
section
variable {g : Nat} {a : Ac} {v : Int} {p : Pt} {b : Bool}
@[simp] theorem Ac.len : (a.cells g).length = 67 := rfl
@[simp] theorem Ac.set_e : (a.cells g).set 32 (.int .i64 v) = ({ a with e := v } : Ac).cells g := rfl
@[simp] theorem Ac.set_pr : (a.cells g).set 45 (.int .i64 v) = ({ a with pr := v } : Ac).cells g := rfl
@[simp] theorem Ac.set_ac : (a.cells g).set 46 (.int .i64 v) = ({ a with ac := v } : Ac).cells g := rfl
@[simp] theorem Ac.set_lo : (a.cells g).set 59 (.int .i64 v) = ({ a with lo := v } : Ac).cells g := rfl
@[simp] theorem Ac.set_hi : (a.cells g).set 60 (.int .i64 v) = ({ a with hi := v } : Ac).cells g := rfl
@[simp] theorem Ac.set_led : (a.cells g).set 61 (.bool b) = ({ a with led := b } : Ac).cells g := rfl
@[simp] theorem Ac.set_ld : (a.cells g).set 62 (.int .i64 v) = ({ a with ld := v } : Ac).cells g := rfl
@[simp] theorem Ac.set_wi : (a.cells g).set 63 (.int .i64 v) = ({ a with wi := v } : Ac).cells g := rfl
@[simp] theorem Ac.set_wt : (a.cells g).set 64 (.int .i64 v) = ({ a with wt := v } : Ac).cells g := rfl
@[simp] theorem Ac.set_wr : (a.cells g).set 65 (.int .i64 v) = ({ a with wr := v } : Ac).cells g := rfl
@[simp] theorem Ac.set_lt : (a.cells g).set 66 (.int .i64 v) = ({ a with lt := v } : Ac).cells g := rfl
@[simp high] theorem Ac.splice_kn : Kx.splice (a.cells g) 33 p.cells = ({ a with kn := p } : Ac).cells g := rfl
@[simp high] theorem Ac.splice_pl : Kx.splice (a.cells g) 47 p.cells = ({ a with pl := p } : Ac).cells g := rfl
@[simp high] theorem Ac.splice_no : Kx.splice (a.cells g) 47 [.int .i64 0, .int .i64 0, .int .i64 0, .int .i64 0, .int .i64 0, .int .i64 0, .int .i64 0, .int .i64 0, .int .u64 0, .int .u64 0, .slice none 0 0, .slice none 0 0] = ({ a with pl := noPt } : Ac).cells g := rfl
@[simp] theorem Ac.take_kn : ((a.cells g).drop 33).take 12 = a.kn.cells := rfl
@[simp] theorem Ac.take_pl : ((a.cells g).drop 47).take 12 = a.pl.cells := rfl
@[simp] theorem Pt.cells_len' : p.cells.length = 12 := rfl
end
theorem noPt_built : Tryd.prog.built 36 [] = some noPt.cells.toArray := by kernel_rfl

/-! the state -/
def Ac.enter (a : Ac) (e : Int) : Ac := if a.hi < e then { a with e := e, ac := 0, pl := noPt, lo := 0, hi := 0 } else { a with e := e, ac := 0, pl := noPt, lo := if a.lo < e then e else a.lo }
def Ac.widen (a : Ac) (e : Int) : Ac := if a.lo = 0 ∧ a.hi = 0 then { a with lo := e, hi := e } else { a with lo := if e < a.lo then e else a.lo, hi := if a.hi < e then e else a.hi }

section
variable {w0 w : World} {ga g : Nat} {a : Ac} {l : List (Nat × List Value)} {r : List Rw} {F : Fz}
set_option maxRecDepth 100000 in
set_option maxHeartbeats 1000000 in
theorem enter_any (HB0 : Bxs w0 w ((ga, a.cells g) :: l) r F) (e : Int) :
    Calls Tryd.prog 60 #[.pointer (some ⟨ga, 32, none⟩), .int .i64 e] w fun en w' => en = .returned (.tuple #[]) ∧ Bxs w0 w' ((ga, (a.enter e).cells g) :: l) r F := by
  have HB := Lib.hid HB0
  clear HB0
  by_cases hc : a.hi < e
  · have HE := Lib.hid (show a.enter e = _ from if_pos hc)
    go_enter Tryd.func60, Tryd.ntmps60
    go_wp2_with (first | ((with_reducible refine Kx.absorb HB ?_); clear HB; intro w_ HB) | ((with_reducible refine Kx.box_gate ?_); (first | refine Kx.boxa HB rfl ?_ | refine Kx.boxt HB rfl rfl ?_ | refine Kx.box1 HB rfl rfl ?_); clear HB; intro b_ w_ HB; refine Kx.fr ?_) | ((with_reducible refine Kx.alloc_gate ?_); (first | refine Kx.ala HB ?_ | refine Kx.al1 HB ?_); clear HB; intro b_ w_ HB; refine Kx.fr ?_) | ((with_reducible refine Kx.loads_gate ?_); first | refine Kx.l1 HB rfl rfl ?_ | refine Kx.la HB rfl ?_ | refine Kx.lo HB rfl HC.out ?_) | ((with_reducible refine Kx.loadg_gate ?_); first | refine Kx.l1g HB rfl rfl rfl ?_ | refine Kx.lag HB rfl rfl ?_ | refine Kx.log HB rfl HC.out rfl ?_) | ((with_reducible refine Kx.store_gate ?_); (first | refine Kx.stwa HB rfl rfl ?_ | refine Kx.sta HB rfl rfl ?_ | refine Kx.stc HB rfl rfl ?_ | refine Kx.stt HB rfl rfl rfl ?_ | refine Kx.st1 HB rfl rfl rfl ?_); clear HB; intro w_ HB))
    all_goals
      go_end0
      rw [HE.out]
      exact ⟨rfl, HB.out⟩
  · have HE := Lib.hid (show a.enter e = _ from if_neg hc)
    go_enter Tryd.func60, Tryd.ntmps60
    go_wp2_with (first | ((with_reducible refine Kx.absorb HB ?_); clear HB; intro w_ HB) | ((with_reducible refine Kx.box_gate ?_); (first | refine Kx.boxa HB rfl ?_ | refine Kx.boxt HB rfl rfl ?_ | refine Kx.box1 HB rfl rfl ?_); clear HB; intro b_ w_ HB; refine Kx.fr ?_) | ((with_reducible refine Kx.alloc_gate ?_); (first | refine Kx.ala HB ?_ | refine Kx.al1 HB ?_); clear HB; intro b_ w_ HB; refine Kx.fr ?_) | ((with_reducible refine Kx.loads_gate ?_); first | refine Kx.l1 HB rfl rfl ?_ | refine Kx.la HB rfl ?_ | refine Kx.lo HB rfl HC.out ?_) | ((with_reducible refine Kx.loadg_gate ?_); first | refine Kx.l1g HB rfl rfl rfl ?_ | refine Kx.lag HB rfl rfl ?_ | refine Kx.log HB rfl HC.out rfl ?_) | ((with_reducible refine Kx.store_gate ?_); (first | refine Kx.stwa HB rfl rfl ?_ | refine Kx.sta HB rfl rfl ?_ | refine Kx.stc HB rfl rfl ?_ | refine Kx.stt HB rfl rfl rfl ?_ | refine Kx.st1 HB rfl rfl rfl ?_); clear HB; intro w_ HB))
    all_goals
      go_end0
      rw [HE.out]
      exact ⟨rfl, HB.out⟩
set_option maxRecDepth 100000 in
set_option maxHeartbeats 1000000 in
theorem widen_any (HB0 : Bxs w0 w ((ga, a.cells g) :: l) r F) (e : Int) :
    Calls Tryd.prog 61 #[.pointer (some ⟨ga, 32, none⟩), .int .i64 e] w fun en w' => en = .returned (.tuple #[]) ∧ Bxs w0 w' ((ga, (a.widen e).cells g) :: l) r F := by
  have HB := Lib.hid HB0
  clear HB0
  by_cases h1 : a.lo = 0 ∧ a.hi = 0
  · have HE := Lib.hid (show a.widen e = _ from if_pos h1)
    have e1 : (a.lo == 0) = true := by simpa using h1.1
    have e2 : (a.hi == 0) = true := by simpa using h1.2
    clear h1
    go_enter Tryd.func61, Tryd.ntmps61
    go_wp2_with (first | ((with_reducible refine Kx.absorb HB ?_); clear HB; intro w_ HB) | ((with_reducible refine Kx.box_gate ?_); (first | refine Kx.boxa HB rfl ?_ | refine Kx.boxt HB rfl rfl ?_ | refine Kx.box1 HB rfl rfl ?_); clear HB; intro b_ w_ HB; refine Kx.fr ?_) | ((with_reducible refine Kx.alloc_gate ?_); (first | refine Kx.ala HB ?_ | refine Kx.al1 HB ?_); clear HB; intro b_ w_ HB; refine Kx.fr ?_) | ((with_reducible refine Kx.loads_gate ?_); first | refine Kx.l1 HB rfl rfl ?_ | refine Kx.la HB rfl ?_ | refine Kx.lo HB rfl HC.out ?_) | ((with_reducible refine Kx.loadg_gate ?_); first | refine Kx.l1g HB rfl rfl rfl ?_ | refine Kx.lag HB rfl rfl ?_ | refine Kx.log HB rfl HC.out rfl ?_) | ((with_reducible refine Kx.store_gate ?_); (first | refine Kx.stwa HB rfl rfl ?_ | refine Kx.sta HB rfl rfl ?_ | refine Kx.stc HB rfl rfl ?_ | refine Kx.stt HB rfl rfl rfl ?_ | refine Kx.st1 HB rfl rfl rfl ?_); clear HB; intro w_ HB))
    refine bodyPost_ret (results_none rfl _ _ _) rfl ?_
    rw [HE.out]
    exact ⟨rfl, HB.out⟩
  · have HE := Lib.hid (show a.widen e = _ from if_neg h1)
    have hd : (a.lo == 0) = false ∨ ((a.lo == 0) = true ∧ (a.hi == 0) = false) := by
      by_cases q : a.lo = 0
      · exact .inr ⟨by simpa using q, by simpa using fun k => h1 ⟨q, k⟩⟩
      · exact .inl (by simpa using q)
    clear h1
    rcases hd with e1 | ⟨e1, e2⟩
    all_goals
      go_enter Tryd.func61, Tryd.ntmps61
      go_upto_region 2 with (first | ((with_reducible refine Kx.absorb HB ?_); clear HB; intro w_ HB) | ((with_reducible refine Kx.box_gate ?_); (first | refine Kx.boxa HB rfl ?_ | refine Kx.boxt HB rfl rfl ?_ | refine Kx.box1 HB rfl rfl ?_); clear HB; intro b_ w_ HB; refine Kx.fr ?_) | ((with_reducible refine Kx.alloc_gate ?_); (first | refine Kx.ala HB ?_ | refine Kx.al1 HB ?_); clear HB; intro b_ w_ HB; refine Kx.fr ?_) | ((with_reducible refine Kx.loads_gate ?_); first | refine Kx.l1 HB rfl rfl ?_ | refine Kx.la HB rfl ?_ | refine Kx.lo HB rfl HC.out ?_) | ((with_reducible refine Kx.loadg_gate ?_); first | refine Kx.l1g HB rfl rfl rfl ?_ | refine Kx.lag HB rfl rfl ?_ | refine Kx.log HB rfl HC.out rfl ?_) | ((with_reducible refine Kx.store_gate ?_); (first | refine Kx.stwa HB rfl rfl ?_ | refine Kx.sta HB rfl rfl ?_ | refine Kx.stc HB rfl rfl ?_ | refine Kx.stt HB rfl rfl rfl ?_ | refine Kx.st1 HB rfl rfl rfl ?_); clear HB; intro w_ HB))
      have hsub : ∀ w', Bxs w0 w' ((ga, a.cells g) :: l) r F → ∃ v, Bxs w0 w' ((ga, ({ a with lo := v } : Ac).cells g) :: l) r F := fun w' h => ⟨a.lo, h⟩
      refine Kx.region_S (fun w' => ∃ v, Bxs w0 w' ((ga, ({ a with lo := v } : Ac).cells g) :: l) r F) (fun w' => Bxs w0 w' ((ga, a.cells g) :: l) r F) (fun i => i == 19) (by kernel_rfl) HB.out.drew ?_
      refine Kx.tkS 0 rfl hsub ?_
      refine Kx.tkS 1 rfl hsub ?_
      refine Kx.tkS 2 rfl hsub ?_
      refine Kx.tkS 3 rfl hsub ?_
      refine Kx.tkS 4 rfl hsub ?_
      refine Kx.tkS 6 rfl hsub ?_
      refine Kx.tkS 8 rfl hsub ?_
      refine Kx.tkS 9 rfl hsub ?_
      refine Kx.tkS 10 rfl hsub ?_
      refine Kx.tkS 11 rfl hsub ?_ (v := .int .i64 a.hi) (hy := fun w ⟨v, hB⟩ => Kx.tells_load1_x hB ga 60 rfl _ Kx.InL.head (Tryd.isAgg2 _) rfl)
      refine Kx.tkS 12 rfl hsub ?_
      refine Kx.tkS 13 rfl hsub ?_
      refine Kx.lsS 5 rfl hsub ?_ (hy := fun w hB => Kx.tells_load1_x hB ga 59 rfl _ Kx.InL.head (Tryd.isAgg2 _) rfl)
      refine Kx.lsS 7 rfl hsub ?_
      refine Kx.lsS 14 rfl hsub ?_
      refine Kx.lsS 15 rfl hsub ?_
      refine Kx.st1S 16 rfl rfl rfl rfl (fun w h => ⟨_, h⟩) ?_
      refine Kx.lsS 17 rfl (fun w h => ⟨_, h⟩) ?_
      refine Kx.lsS 18 rfl (fun w h => ⟨_, h⟩) ?_
      first | (refine Kx.anyW_storewa_x (i := 19) rfl (by kernel_rfl) (by kernel_rfl) (by rfl) rfl _ _ _ rfl _ rfl _ rfl _ (by rfl) (fun w => (Tryd.sizeOf2 w)) (by rfl) ?_) | (refine Kx.anyW_storea_x (i := 19) rfl (by kernel_rfl) (by kernel_rfl) (by rfl) rfl _ _ _ rfl _ rfl _ rfl _ _ (by simp [Kx.splice] <;> rfl) (by simp) (fun w => (Tryd.sizeOf2 w)) (by rfl) ?_) | (refine Kx.anyW_storec_x (i := 19) rfl (by kernel_rfl) (by kernel_rfl) (by rfl) rfl _ _ _ rfl _ rfl rfl _ _ (by simp <;> rfl) (by simp) (fun w => (Tryd.sizeOf2 w)) ?_) | (refine Kx.anyW_storet_x (i := 19) rfl (by kernel_rfl) (by kernel_rfl) (by rfl) rfl _ _ _ rfl _ rfl _ rfl rfl _ _ (by simp <;> rfl) (by simp) (fun w => (Tryd.sizeOf2 w)) ?_)
      refine anyW_done (by kernel_rfl) ?_
      clear HB
      intro w_ HB_
      have HB := Lib.hid HB_
      clear HB_
      go_wp2
      all_goals
        go_end0
        rw [HE.out]
        exact ⟨rfl, HB.out⟩
end
end Go.Proofs.YtbkdenlhfigjhaaDoor
