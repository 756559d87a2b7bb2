/- Whether the target may change: the document's. -/
import Derived.Test.YtpbogacodhjlfaaDoorGs
namespace Go.Proofs.YtpbogacodhjlfaaDoor
open Go.RowKit Go.Shelf Km Kx Kc
set_option linter.unusedVariables false


set_option maxRecDepth 100000 in
set_option maxHeartbeats 2000000 in
theorem May_same (c : Cf) (x : Gm.Pl) (A : Option Addr) (n c0 : Nat) (A' : Option Addr) (n' c' : Nat) (to t : Int) (g b B : Nat) (w : World) (hp : PAt w B x A n c0 A' n' c') (hB : B ≤ w.heap.size) (hg : g < 18446744073709551616) (hxt : x.t ≤ 15) (hb : c.b = (b : Int)) (hb1 : 1 ≤ b ∧ b ≤ 8) (hn : n' ≤ 8) (ht : Gm.T t) (hch : ∀ v ∈ x.ch, Gm.T v) (hsi : Gm.T x.si) (h1 : to = x.t) :
    Calls Tryd.prog 26 #[.agg (cf c).toArray, .agg (pc x A n c0 A' n' c').toArray, .int .i64 to, .int .u64 (g : Int), .int .i64 t] w fun e w' => e = .returned (.bool false) ∧ Below w.heap.size w w' := by
  have HB := Lib.hid (Bxs.start w)
  have HPN := Lib.hid hp.n'
  have hlen := hp.n'
  have HBC : Hid ((cf c)[16]? = some (.int .i64 (b : Int))) := Lib.hid (by rw [← hb]; rfl)
  have d1 : (to == x.t) = true := by simp [h1]
  try clear hp
  try clear hB
  try clear hb
  try clear hch
  try clear hsi
  try clear ht
  try clear hlen
  try clear h1
  try clear hxt
  try clear hg
  try clear hb1
  try clear hn
  go_enter Tryd.func26, Tryd.ntmps26
  go_wp2_with (first | ((with_reducible refine Kx.absorb HB ?_); clear HB; intro w_ HB) | ((with_reducible refine Kx.box_gate (d := some 5) ?_); (first | refine Kx.boxa HB rfl ?_ | refine Kx.boxt HB rfl rfl ?_ | refine Kx.box1 HB rfl rfl ?_); clear HB; intro b5 w_ HB; refine Kx.fr ?_) | ((with_reducible refine Kx.alloc_gate (d := some 5) ?_); (first | refine Kx.ala HB ?_ | refine Kx.al1 HB ?_); clear HB; intro b5 w_ HB; refine Kx.fr ?_) | ((with_reducible refine Kx.box_gate (d := some 6) ?_); (first | refine Kx.boxa HB rfl ?_ | refine Kx.boxt HB rfl rfl ?_ | refine Kx.box1 HB rfl rfl ?_); clear HB; intro b6 w_ HB; refine Kx.fr ?_) | ((with_reducible refine Kx.alloc_gate (d := some 6) ?_); (first | refine Kx.ala HB ?_ | refine Kx.al1 HB ?_); clear HB; intro b6 w_ HB; refine Kx.fr ?_) | ((with_reducible refine Kx.box_gate ?_); (first | refine Kx.boxa HB rfl ?_ | refine Kx.boxt HB rfl rfl ?_ | refine Kx.box1 HB rfl rfl ?_); clear HB; intro b_ w_ HB; refine Kx.fr ?_) | ((with_reducible refine Kx.alloc_gate ?_); (first | refine Kx.ala HB ?_ | refine Kx.al1 HB ?_); clear HB; intro b_ w_ HB; refine Kx.fr ?_) | ((with_reducible refine Kx.loads_gate ?_); first | refine Kx.l1 HB rfl rfl ?_ | refine Kx.la HB rfl ?_ | refine Kx.lo HB rfl HC.out ?_) | ((with_reducible refine Kx.loadg_gate ?_); first | refine Kx.l1g HB rfl rfl rfl ?_ | refine Kx.lag HB rfl rfl ?_ | refine Kx.log HB rfl HC.out rfl ?_) | ((with_reducible refine Kx.store_gate ?_); (first | refine Kx.stwa HB rfl rfl ?_ | refine Kx.sta HB rfl rfl ?_ | refine Kx.stc HB rfl rfl ?_ | refine Kx.stt HB rfl rfl rfl ?_ | refine Kx.st1 HB rfl rfl rfl ?_); clear HB; intro w_ HB))
  refine Kx.region_x HB (fun i => false) (by kernel_rfl) ?_
  refine Kx.tk 0 rfl ?_
  refine Kx.tk 1 rfl ?_
  refine anyW_take (i := 2) (v := ?v2_13) (a' := ?a2_13) (by first | exact Kx.bears_x | exact bears_u | assumption) rfl (by kernel_rfl) (by kernel_rfl) (by kernel_rfl) (fun _ _ _ h => h) (by kernel_rfl) ?w2_13 ?y2_13 ?f2_13 ?r2_13
  case w2_13 => kernel_rfl
  case y2_13 => (intro W hW; first | (refine Eq.trans (Kx.tells_load1_x (v := .int .i64 x.t) hW b6 1 rfl (pc x A n c0 A' n' c') inferInstance (Tryd.isAgg3 _) rfl) ?_; with_reducible rfl))
  case f2_13 => (go_simp; try with_reducible rfl)
  refine Kx.tk 3 rfl ?_
  refine Kx.tk 4 rfl ?_
  refine Kx.sk 5 rfl ?_
  refine Kx.sk 6 rfl ?_
  refine Kx.sk 7 rfl ?_
  refine Kx.sk 8 rfl ?_
  refine Kx.sk 9 rfl ?_
  refine Kx.sk 10 rfl ?_
  refine Kx.sk 11 rfl ?_
  refine Kx.sk 12 rfl ?_
  refine Kx.sk 13 rfl ?_
  refine Kx.sk 14 rfl ?_
  refine Kx.sk 15 rfl ?_
  refine Kx.sk 16 rfl ?_
  refine Kx.sk 17 rfl ?_
  refine Kx.sk 18 rfl ?_
  refine Kx.sk 19 rfl ?_
  refine Kx.tk 20 rfl ?_
  refine anyW_done (by kernel_rfl) ?_
  clear HB
  intro w_ HB_
  have HB := Lib.hid HB_
  clear HB_
  go_wp2_with fail
  go_ret
  exact ⟨rfl, HB.out.below⟩

set_option maxRecDepth 100000 in
set_option maxHeartbeats 2000000 in
theorem May_none_no (c : Cf) (x : Gm.Pl) (A : Option Addr) (n c0 : Nat) (A' : Option Addr) (n' c' : Nat) (to t : Int) (g b B : Nat) (w : World) (hp : PAt w B x A n c0 A' n' c') (hB : B ≤ w.heap.size) (hg : g < 18446744073709551616) (hxt : x.t ≤ 15) (hb : c.b = (b : Int)) (hb1 : 1 ≤ b ∧ b ≤ 8) (hn : n' ≤ 8) (ht : Gm.T t) (hch : ∀ v ∈ x.ch, Gm.T v) (hsi : Gm.T x.si) (h1 : to ≠ x.t) (h2 : n' = 0) (h6 : Gm.has g x.t = false) :
    Calls Tryd.prog 26 #[.agg (cf c).toArray, .agg (pc x A n c0 A' n' c').toArray, .int .i64 to, .int .u64 (g : Int), .int .i64 t] w fun e w' => e = .returned (.bool true) ∧ Below w.heap.size w w' := by
  have HB := Lib.hid (Bxs.start w)
  have HPN := Lib.hid hp.n'
  have hlen := hp.n'
  have HBC : Hid ((cf c)[16]? = some (.int .i64 (b : Int))) := Lib.hid (by rw [← hb]; rfl)
  have d1 : (to == x.t) = false := by simp [h1]
  have d2 : decide ((0 : Int) < (n' : Int)) = false := by simp; omega
  have d2n : decide (0 < n') = false := by simp; omega
  have d4 : decide ((b : Int) ≤ (n' : Int)) = false := by simp; omega
  have d4n : decide (b ≤ n') = false := by simp; omega
  have HH : Hid (∀ W, Calls Tryd.prog 28 #[.int .u64 (g : Int), .int .i64 x.t] W fun e w' => e = .returned (.bool false) ∧ Below W.heap.size W w') := Lib.hid (fun W => by
    refine (has_any g x.t W hg (by omega)).mono ?_
    rintro e w' ⟨rfl, rfl⟩
    exact ⟨by rw [h6], Below.refl _ _⟩)
  have hs3 := T_sub ht hsi
  try clear hp
  try clear hB
  try clear hb
  try clear hch
  try clear hsi
  try clear ht
  try clear hlen
  try clear h1
  try clear hxt
  try clear hg
  try clear hb1
  try clear hn
  try clear h2
  try clear h4
  try clear h6
  go_enter Tryd.func26, Tryd.ntmps26
  go_wp2_with (first | ((with_reducible refine Kx.absorb HB ?_); clear HB; intro w_ HB) | ((with_reducible refine Kx.box_gate (d := some 5) ?_); (first | refine Kx.boxa HB rfl ?_ | refine Kx.boxt HB rfl rfl ?_ | refine Kx.box1 HB rfl rfl ?_); clear HB; intro b5 w_ HB; refine Kx.fr ?_) | ((with_reducible refine Kx.alloc_gate (d := some 5) ?_); (first | refine Kx.ala HB ?_ | refine Kx.al1 HB ?_); clear HB; intro b5 w_ HB; refine Kx.fr ?_) | ((with_reducible refine Kx.box_gate (d := some 6) ?_); (first | refine Kx.boxa HB rfl ?_ | refine Kx.boxt HB rfl rfl ?_ | refine Kx.box1 HB rfl rfl ?_); clear HB; intro b6 w_ HB; refine Kx.fr ?_) | ((with_reducible refine Kx.alloc_gate (d := some 6) ?_); (first | refine Kx.ala HB ?_ | refine Kx.al1 HB ?_); clear HB; intro b6 w_ HB; refine Kx.fr ?_) | ((with_reducible refine Kx.box_gate ?_); (first | refine Kx.boxa HB rfl ?_ | refine Kx.boxt HB rfl rfl ?_ | refine Kx.box1 HB rfl rfl ?_); clear HB; intro b_ w_ HB; refine Kx.fr ?_) | ((with_reducible refine Kx.alloc_gate ?_); (first | refine Kx.ala HB ?_ | refine Kx.al1 HB ?_); clear HB; intro b_ w_ HB; refine Kx.fr ?_) | ((with_reducible refine Kx.loads_gate ?_); first | refine Kx.l1 HB rfl rfl ?_ | refine Kx.la HB rfl ?_ | refine Kx.lo HB rfl HC.out ?_) | ((with_reducible refine Kx.loadg_gate ?_); first | refine Kx.l1g HB rfl rfl rfl ?_ | refine Kx.lag HB rfl rfl ?_ | refine Kx.log HB rfl HC.out rfl ?_) | ((with_reducible refine Kx.store_gate ?_); (first | refine Kx.stwa HB rfl rfl ?_ | refine Kx.sta HB rfl rfl ?_ | refine Kx.stc HB rfl rfl ?_ | refine Kx.stt HB rfl rfl rfl ?_ | refine Kx.st1 HB rfl rfl rfl ?_); clear HB; intro w_ HB))
  refine Kx.region_x HB (fun i => false) (by kernel_rfl) ?_
  refine Kx.tk 0 rfl ?_
  refine Kx.tk 1 rfl ?_
  refine anyW_take (i := 2) (v := ?v2_14) (a' := ?a2_14) (by first | exact Kx.bears_x | exact bears_u | assumption) rfl (by kernel_rfl) (by kernel_rfl) (by kernel_rfl) (fun _ _ _ h => h) (by kernel_rfl) ?w2_14 ?y2_14 ?f2_14 ?r2_14
  case w2_14 => kernel_rfl
  case y2_14 => (intro W hW; first | (refine Eq.trans (Kx.tells_load1_x (v := .int .i64 x.t) hW b6 1 rfl (pc x A n c0 A' n' c') inferInstance (Tryd.isAgg3 _) rfl) ?_; with_reducible rfl))
  case f2_14 => (go_simp; try with_reducible rfl)
  refine Kx.tk 3 rfl ?_
  refine Kx.tk 4 rfl ?_
  refine Kx.tk 5 rfl ?_
  refine Kx.tk 6 rfl ?_
  refine Kx.tk 7 rfl ?_
  refine Kx.sk 8 rfl ?_
  refine Kx.sk 9 rfl ?_
  refine Kx.sk 10 rfl ?_
  refine Kx.sk 11 rfl ?_
  refine Kx.sk 12 rfl ?_
  refine Kx.sk 13 rfl ?_
  refine Kx.sk 14 rfl ?_
  refine Kx.sk 15 rfl ?_
  refine Kx.sk 16 rfl ?_
  refine Kx.sk 17 rfl ?_
  refine Kx.sk 18 rfl ?_
  refine Kx.tk 19 rfl ?_
  refine Kx.tk 20 rfl ?_
  refine anyW_done (by kernel_rfl) ?_
  clear HB
  intro w_ HB_
  have HB := Lib.hid HB_
  clear HB_
  go_wp2_with fail
  refine Kx.region_x HB (fun i => false) (by kernel_rfl) ?_
  refine Kx.tk 0 rfl ?_
  refine Kx.tk 1 rfl ?_
  refine anyW_take (i := 2) (v := ?v2_15) (a' := ?a2_15) (by first | exact Kx.bears_x | exact bears_u | assumption) rfl (by kernel_rfl) (by kernel_rfl) (by kernel_rfl) (fun _ _ _ h => h) (by kernel_rfl) ?w2_15 ?y2_15 ?f2_15 ?r2_15
  case w2_15 => kernel_rfl
  case y2_15 => (intro W hW; first | (refine Eq.trans (Kx.tells_load1_x (v := .int .i64 (b : Int)) hW b5 16 rfl (cf c) inferInstance (Tryd.isAgg3 _) HBC.out) ?_; with_reducible rfl))
  case f2_15 => (go_simp; try with_reducible rfl)
  refine Kx.tk 3 rfl ?_
  refine Kx.tk 4 rfl ?_
  refine Kx.sk 5 rfl ?_
  refine Kx.sk 6 rfl ?_
  refine Kx.sk 7 rfl ?_
  refine Kx.sk 8 rfl ?_
  refine Kx.sk 9 rfl ?_
  refine Kx.sk 10 rfl ?_
  refine Kx.sk 11 rfl ?_
  refine Kx.sk 12 rfl ?_
  refine Kx.sk 13 rfl ?_
  refine Kx.sk 14 rfl ?_
  refine Kx.sk 15 rfl ?_
  refine Kx.sk 16 rfl ?_
  refine Kx.sk 17 rfl ?_
  refine Kx.tk 18 rfl ?_
  refine anyW_done (by kernel_rfl) ?_
  clear HB
  intro w_ HB_
  have HB := Lib.hid HB_
  clear HB_
  go_wp2_with (first | (go_at_call 28; refine Calls.mono (HH.out _) ?_; rintro e w_ ⟨rfl, hb_⟩; replace HB := Lib.hid (HB.out.call hb_); clear hb_) | (first | ((with_reducible refine Kx.absorb HB ?_); clear HB; intro w_ HB) | ((with_reducible refine Kx.box_gate ?_); (first | refine Kx.boxa HB rfl ?_ | refine Kx.boxt HB rfl rfl ?_ | refine Kx.box1 HB rfl rfl ?_); clear HB; intro b_ w_ HB; refine Kx.fr ?_) | ((with_reducible refine Kx.alloc_gate ?_); (first | refine Kx.ala HB ?_ | refine Kx.al1 HB ?_); clear HB; intro b_ w_ HB; refine Kx.fr ?_) | ((with_reducible refine Kx.loads_gate ?_); first | refine Kx.l1 HB rfl rfl ?_ | refine Kx.la HB rfl ?_ | refine Kx.lo HB rfl HC.out ?_) | ((with_reducible refine Kx.loadg_gate ?_); first | refine Kx.l1g HB rfl rfl rfl ?_ | refine Kx.lag HB rfl rfl ?_ | refine Kx.log HB rfl HC.out rfl ?_) | ((with_reducible refine Kx.store_gate ?_); (first | refine Kx.stwa HB rfl rfl ?_ | refine Kx.sta HB rfl rfl ?_ | refine Kx.stc HB rfl rfl ?_ | refine Kx.stt HB rfl rfl rfl ?_ | refine Kx.st1 HB rfl rfl rfl ?_); clear HB; intro w_ HB)))
  go_ret
  exact ⟨rfl, HB.out.below⟩

set_option maxRecDepth 100000 in
set_option maxHeartbeats 2000000 in
theorem May_few_no (c : Cf) (x : Gm.Pl) (A : Option Addr) (n c0 : Nat) (A' : Option Addr) (n' c' : Nat) (to t : Int) (g b B : Nat) (w : World) (hp : PAt w B x A n c0 A' n' c') (hB : B ≤ w.heap.size) (hg : g < 18446744073709551616) (hxt : x.t ≤ 15) (hb : c.b = (b : Int)) (hb1 : 1 ≤ b ∧ b ≤ 8) (hn : n' ≤ 8) (ht : Gm.T t) (hch : ∀ v ∈ x.ch, Gm.T v) (hsi : Gm.T x.si) (h1 : to ≠ x.t) (h2 : 0 < n') (h3 : ¬ t - x.ch.getD (n' - 1) 0 < c.d) (h4 : n' < b) (h6 : Gm.has g x.t = false) :
    Calls Tryd.prog 26 #[.agg (cf c).toArray, .agg (pc x A n c0 A' n' c').toArray, .int .i64 to, .int .u64 (g : Int), .int .i64 t] w fun e w' => e = .returned (.bool true) ∧ Below w.heap.size w w' := by
  have HB := Lib.hid (Bxs.start w)
  have HPN := Lib.hid hp.n'
  have hlen := hp.n'
  have HBC : Hid ((cf c)[16]? = some (.int .i64 (b : Int))) := Lib.hid (by rw [← hb]; rfl)
  have d1 : (to == x.t) = false := by simp [h1]
  have d2 : (0 : Int) < (n' : Int) := by omega
  have d2n : 0 < n' := by omega
  obtain ⟨ad, e1, -, hc1⟩ := (hp.ch.more hB).num (k := n' - 1) (by omega)
  obtain rfl := e1
  have hla := Gm.getD_in (P := Gm.T) hch ⟨by decide, by decide⟩ (n' - 1)
  have ha1 : IntKind.i64.wrap ((n' : Int) - 1) = ((n' - 1 : Nat) : Int) := by rw [IntKind.wrap_i64]; omega
  have ha2 : ((n' - 1 : Nat) : Int) < (n' : Int) := by omega
  obtain ⟨la, hl0⟩ : ∃ la, x.ch.getD (n' - 1) 0 = la := ⟨_, rfl⟩
  rw [hl0] at hc1 hla h3
  have HLA := Lib.hid hc1
  have hs1 := T_sub ht hla
  have d3 : decide (t - la < c.d) = false := by simp; omega
  have d4 : decide ((b : Int) ≤ (n' : Int)) = false := by simp; omega
  have d4n : decide (b ≤ n') = false := by simp; omega
  have HH : Hid (∀ W, Calls Tryd.prog 28 #[.int .u64 (g : Int), .int .i64 x.t] W fun e w' => e = .returned (.bool false) ∧ Below W.heap.size W w') := Lib.hid (fun W => by
    refine (has_any g x.t W hg (by omega)).mono ?_
    rintro e w' ⟨rfl, rfl⟩
    exact ⟨by rw [h6], Below.refl _ _⟩)
  have hs3 := T_sub ht hsi
  try clear hp
  try clear hB
  try clear hb
  try clear hch
  try clear hsi
  try clear ht
  try clear hlen
  try clear h1
  try clear hxt
  try clear hg
  try clear hb1
  try clear hn
  try clear h2
  try clear h3
  try clear hl0
  try clear hla
  try clear hc1
  try clear h4
  try clear h6
  go_enter Tryd.func26, Tryd.ntmps26
  go_wp2_with (first | ((with_reducible refine Kx.absorb HB ?_); clear HB; intro w_ HB) | ((with_reducible refine Kx.box_gate (d := some 5) ?_); (first | refine Kx.boxa HB rfl ?_ | refine Kx.boxt HB rfl rfl ?_ | refine Kx.box1 HB rfl rfl ?_); clear HB; intro b5 w_ HB; refine Kx.fr ?_) | ((with_reducible refine Kx.alloc_gate (d := some 5) ?_); (first | refine Kx.ala HB ?_ | refine Kx.al1 HB ?_); clear HB; intro b5 w_ HB; refine Kx.fr ?_) | ((with_reducible refine Kx.box_gate (d := some 6) ?_); (first | refine Kx.boxa HB rfl ?_ | refine Kx.boxt HB rfl rfl ?_ | refine Kx.box1 HB rfl rfl ?_); clear HB; intro b6 w_ HB; refine Kx.fr ?_) | ((with_reducible refine Kx.alloc_gate (d := some 6) ?_); (first | refine Kx.ala HB ?_ | refine Kx.al1 HB ?_); clear HB; intro b6 w_ HB; refine Kx.fr ?_) | ((with_reducible refine Kx.box_gate ?_); (first | refine Kx.boxa HB rfl ?_ | refine Kx.boxt HB rfl rfl ?_ | refine Kx.box1 HB rfl rfl ?_); clear HB; intro b_ w_ HB; refine Kx.fr ?_) | ((with_reducible refine Kx.alloc_gate ?_); (first | refine Kx.ala HB ?_ | refine Kx.al1 HB ?_); clear HB; intro b_ w_ HB; refine Kx.fr ?_) | ((with_reducible refine Kx.loads_gate ?_); first | refine Kx.l1 HB rfl rfl ?_ | refine Kx.la HB rfl ?_ | refine Kx.lo HB rfl HC.out ?_) | ((with_reducible refine Kx.loadg_gate ?_); first | refine Kx.l1g HB rfl rfl rfl ?_ | refine Kx.lag HB rfl rfl ?_ | refine Kx.log HB rfl HC.out rfl ?_) | ((with_reducible refine Kx.store_gate ?_); (first | refine Kx.stwa HB rfl rfl ?_ | refine Kx.sta HB rfl rfl ?_ | refine Kx.stc HB rfl rfl ?_ | refine Kx.stt HB rfl rfl rfl ?_ | refine Kx.st1 HB rfl rfl rfl ?_); clear HB; intro w_ HB))
  refine Kx.region_x HB (fun i => false) (by kernel_rfl) ?_
  refine Kx.tk 0 rfl ?_
  refine Kx.tk 1 rfl ?_
  refine anyW_take (i := 2) (v := ?v2_16) (a' := ?a2_16) (by first | exact Kx.bears_x | exact bears_u | assumption) rfl (by kernel_rfl) (by kernel_rfl) (by kernel_rfl) (fun _ _ _ h => h) (by kernel_rfl) ?w2_16 ?y2_16 ?f2_16 ?r2_16
  case w2_16 => kernel_rfl
  case y2_16 => (intro W hW; first | (refine Eq.trans (Kx.tells_load1_x (v := .int .i64 x.t) hW b6 1 rfl (pc x A n c0 (some ad) n' c') inferInstance (Tryd.isAgg3 _) rfl) ?_; with_reducible rfl))
  case f2_16 => (go_simp; try with_reducible rfl)
  refine Kx.tk 3 rfl ?_
  refine Kx.tk 4 rfl ?_
  refine Kx.tk 5 rfl ?_
  refine Kx.tk 6 rfl ?_
  refine Kx.tk 7 rfl ?_
  refine Kx.tk 8 rfl ?_
  refine Kx.tk 9 rfl ?_
  refine anyW_take (i := 10) (v := ?v10_17) (a' := ?a10_17) (by first | exact Kx.bears_x | exact bears_u | assumption) rfl (by kernel_rfl) (by kernel_rfl) (by kernel_rfl) (fun _ _ _ h => h) (by kernel_rfl) ?w10_17 ?y10_17 ?f10_17 ?r10_17
  case w10_17 => kernel_rfl
  case y10_17 => (intro W hW; first | (refine Eq.trans (Kx.tells_load1_x (v := .slice (some ad) n' c') hW b6 11 rfl (pc x A n c0 (some ad) n' c') inferInstance (Tryd.isAgg26 _) rfl) ?_; with_reducible rfl))
  case f10_17 => (go_simp; try with_reducible rfl)
  refine Kx.tk 11 rfl ?_
  refine Kx.tk 12 rfl ?_
  refine Kx.tk 13 rfl ?_
  refine anyW_take (i := 14) (v := ?v14_18) (a' := ?a14_18) (by first | exact Kx.bears_x | exact bears_u | assumption) rfl (by kernel_rfl) (by kernel_rfl) (by kernel_rfl) (fun _ _ _ h => h) (by kernel_rfl) ?w14_18 ?y14_18 ?f14_18 ?r14_18
  case w14_18 => kernel_rfl
  case y14_18 => (intro W hW; first | (refine Eq.trans (tells_cell (v := .int .i64 la) (ad.add (n' - 1)) rfl (Tryd.isAgg2 _) (hW.old HLA.out)) ?_; with_reducible rfl))
  case f14_18 => (go_simp; try with_reducible rfl)
  refine Kx.tk 15 rfl ?_
  refine Kx.tk 16 rfl ?_
  refine anyW_take (i := 17) (v := ?v17_19) (a' := ?a17_19) (by first | exact Kx.bears_x | exact bears_u | assumption) rfl (by kernel_rfl) (by kernel_rfl) (by kernel_rfl) (fun _ _ _ h => h) (by kernel_rfl) ?w17_19 ?y17_19 ?f17_19 ?r17_19
  case w17_19 => kernel_rfl
  case y17_19 => (intro W hW; first | (refine Eq.trans (Kx.tells_load1_x (v := .int .i64 c.d) hW b5 14 rfl (cf c) inferInstance (Tryd.isAgg2 _) rfl) ?_; with_reducible rfl))
  case f17_19 => (go_simp; try with_reducible rfl)
  refine Kx.tk 18 rfl ?_
  refine Kx.tk 19 rfl ?_
  refine Kx.tk 20 rfl ?_
  refine anyW_done (by kernel_rfl) ?_
  clear HB
  intro w_ HB_
  have HB := Lib.hid HB_
  clear HB_
  go_wp2_with fail
  refine Kx.region_x HB (fun i => false) (by kernel_rfl) ?_
  refine Kx.tk 0 rfl ?_
  refine Kx.tk 1 rfl ?_
  refine anyW_take (i := 2) (v := ?v2_20) (a' := ?a2_20) (by first | exact Kx.bears_x | exact bears_u | assumption) rfl (by kernel_rfl) (by kernel_rfl) (by kernel_rfl) (fun _ _ _ h => h) (by kernel_rfl) ?w2_20 ?y2_20 ?f2_20 ?r2_20
  case w2_20 => kernel_rfl
  case y2_20 => (intro W hW; first | (refine Eq.trans (Kx.tells_load1_x (v := .int .i64 (b : Int)) hW b5 16 rfl (cf c) inferInstance (Tryd.isAgg3 _) HBC.out) ?_; with_reducible rfl))
  case f2_20 => (go_simp; try with_reducible rfl)
  refine Kx.tk 3 rfl ?_
  refine Kx.tk 4 rfl ?_
  refine Kx.sk 5 rfl ?_
  refine Kx.sk 6 rfl ?_
  refine Kx.sk 7 rfl ?_
  refine Kx.sk 8 rfl ?_
  refine Kx.sk 9 rfl ?_
  refine Kx.sk 10 rfl ?_
  refine Kx.sk 11 rfl ?_
  refine Kx.sk 12 rfl ?_
  refine Kx.sk 13 rfl ?_
  refine Kx.sk 14 rfl ?_
  refine Kx.sk 15 rfl ?_
  refine Kx.sk 16 rfl ?_
  refine Kx.sk 17 rfl ?_
  refine Kx.tk 18 rfl ?_
  refine anyW_done (by kernel_rfl) ?_
  clear HB
  intro w_ HB_
  have HB := Lib.hid HB_
  clear HB_
  go_wp2_with (first | (go_at_call 28; refine Calls.mono (HH.out _) ?_; rintro e w_ ⟨rfl, hb_⟩; replace HB := Lib.hid (HB.out.call hb_); clear hb_) | (first | ((with_reducible refine Kx.absorb HB ?_); clear HB; intro w_ HB) | ((with_reducible refine Kx.box_gate ?_); (first | refine Kx.boxa HB rfl ?_ | refine Kx.boxt HB rfl rfl ?_ | refine Kx.box1 HB rfl rfl ?_); clear HB; intro b_ w_ HB; refine Kx.fr ?_) | ((with_reducible refine Kx.alloc_gate ?_); (first | refine Kx.ala HB ?_ | refine Kx.al1 HB ?_); clear HB; intro b_ w_ HB; refine Kx.fr ?_) | ((with_reducible refine Kx.loads_gate ?_); first | refine Kx.l1 HB rfl rfl ?_ | refine Kx.la HB rfl ?_ | refine Kx.lo HB rfl HC.out ?_) | ((with_reducible refine Kx.loadg_gate ?_); first | refine Kx.l1g HB rfl rfl rfl ?_ | refine Kx.lag HB rfl rfl ?_ | refine Kx.log HB rfl HC.out rfl ?_) | ((with_reducible refine Kx.store_gate ?_); (first | refine Kx.stwa HB rfl rfl ?_ | refine Kx.sta HB rfl rfl ?_ | refine Kx.stc HB rfl rfl ?_ | refine Kx.stt HB rfl rfl rfl ?_ | refine Kx.st1 HB rfl rfl rfl ?_); clear HB; intro w_ HB)))
  go_ret
  exact ⟨rfl, HB.out.below⟩

set_option maxRecDepth 100000 in
set_option maxHeartbeats 2000000 in
theorem May_ok_no (c : Cf) (x : Gm.Pl) (A : Option Addr) (n c0 : Nat) (A' : Option Addr) (n' c' : Nat) (to t : Int) (g b B : Nat) (w : World) (hp : PAt w B x A n c0 A' n' c') (hB : B ≤ w.heap.size) (hg : g < 18446744073709551616) (hxt : x.t ≤ 15) (hb : c.b = (b : Int)) (hb1 : 1 ≤ b ∧ b ≤ 8) (hn : n' ≤ 8) (ht : Gm.T t) (hch : ∀ v ∈ x.ch, Gm.T v) (hsi : Gm.T x.si) (h1 : to ≠ x.t) (h2 : 0 < n') (h3 : ¬ t - x.ch.getD (n' - 1) 0 < c.d) (h4 : b ≤ n') (h5 : ¬ t - x.ch.getD (n' - b) 0 ≤ c.w) (h6 : Gm.has g x.t = false) :
    Calls Tryd.prog 26 #[.agg (cf c).toArray, .agg (pc x A n c0 A' n' c').toArray, .int .i64 to, .int .u64 (g : Int), .int .i64 t] w fun e w' => e = .returned (.bool true) ∧ Below w.heap.size w w' := by
  have HB := Lib.hid (Bxs.start w)
  have HPN := Lib.hid hp.n'
  have hlen := hp.n'
  have HBC : Hid ((cf c)[16]? = some (.int .i64 (b : Int))) := Lib.hid (by rw [← hb]; rfl)
  have d1 : (to == x.t) = false := by simp [h1]
  have d2 : (0 : Int) < (n' : Int) := by omega
  have d2n : 0 < n' := by omega
  obtain ⟨ad, e1, -, hc1⟩ := (hp.ch.more hB).num (k := n' - 1) (by omega)
  obtain rfl := e1
  have hla := Gm.getD_in (P := Gm.T) hch ⟨by decide, by decide⟩ (n' - 1)
  have ha1 : IntKind.i64.wrap ((n' : Int) - 1) = ((n' - 1 : Nat) : Int) := by rw [IntKind.wrap_i64]; omega
  have ha2 : ((n' - 1 : Nat) : Int) < (n' : Int) := by omega
  obtain ⟨la, hl0⟩ : ∃ la, x.ch.getD (n' - 1) 0 = la := ⟨_, rfl⟩
  rw [hl0] at hc1 hla h3
  have HLA := Lib.hid hc1
  have hs1 := T_sub ht hla
  have d3 : decide (t - la < c.d) = false := by simp; omega
  have d4 : decide ((b : Int) ≤ (n' : Int)) = true := by simp; omega
  have d4n : decide (b ≤ n') = true := by simp; omega
  obtain ⟨ad', e2, -, hc2⟩ := (hp.ch.more hB).num (k := n' - b) (by omega)
  cases e2
  have hfi := Gm.getD_in (P := Gm.T) hch ⟨by decide, by decide⟩ (n' - b)
  have hb1' : IntKind.i64.wrap ((n' : Int) - (b : Int)) = ((n' - b : Nat) : Int) := by rw [IntKind.wrap_i64]; omega
  have hb2' : ((n' - b : Nat) : Int) < (n' : Int) := by omega
  obtain ⟨fi, hf0⟩ : ∃ fi, x.ch.getD (n' - b) 0 = fi := ⟨_, rfl⟩
  rw [hf0] at hc2 hfi h5
  have HFI := Lib.hid hc2
  have hs2 := T_sub ht hfi
  have d5 : decide (t - fi ≤ c.w) = false := by simp; omega
  have HH : Hid (∀ W, Calls Tryd.prog 28 #[.int .u64 (g : Int), .int .i64 x.t] W fun e w' => e = .returned (.bool false) ∧ Below W.heap.size W w') := Lib.hid (fun W => by
    refine (has_any g x.t W hg (by omega)).mono ?_
    rintro e w' ⟨rfl, rfl⟩
    exact ⟨by rw [h6], Below.refl _ _⟩)
  have hs3 := T_sub ht hsi
  try clear hp
  try clear hB
  try clear hb
  try clear hch
  try clear hsi
  try clear ht
  try clear hlen
  try clear h1
  try clear hxt
  try clear hg
  try clear hb1
  try clear hn
  try clear h2
  try clear h3
  try clear hl0
  try clear hla
  try clear hc1
  try clear h4
  try clear h5
  try clear hf0
  try clear hfi
  try clear hc2
  try clear h6
  go_enter Tryd.func26, Tryd.ntmps26
  go_wp2_with (first | ((with_reducible refine Kx.absorb HB ?_); clear HB; intro w_ HB) | ((with_reducible refine Kx.box_gate (d := some 5) ?_); (first | refine Kx.boxa HB rfl ?_ | refine Kx.boxt HB rfl rfl ?_ | refine Kx.box1 HB rfl rfl ?_); clear HB; intro b5 w_ HB; refine Kx.fr ?_) | ((with_reducible refine Kx.alloc_gate (d := some 5) ?_); (first | refine Kx.ala HB ?_ | refine Kx.al1 HB ?_); clear HB; intro b5 w_ HB; refine Kx.fr ?_) | ((with_reducible refine Kx.box_gate (d := some 6) ?_); (first | refine Kx.boxa HB rfl ?_ | refine Kx.boxt HB rfl rfl ?_ | refine Kx.box1 HB rfl rfl ?_); clear HB; intro b6 w_ HB; refine Kx.fr ?_) | ((with_reducible refine Kx.alloc_gate (d := some 6) ?_); (first | refine Kx.ala HB ?_ | refine Kx.al1 HB ?_); clear HB; intro b6 w_ HB; refine Kx.fr ?_) | ((with_reducible refine Kx.box_gate ?_); (first | refine Kx.boxa HB rfl ?_ | refine Kx.boxt HB rfl rfl ?_ | refine Kx.box1 HB rfl rfl ?_); clear HB; intro b_ w_ HB; refine Kx.fr ?_) | ((with_reducible refine Kx.alloc_gate ?_); (first | refine Kx.ala HB ?_ | refine Kx.al1 HB ?_); clear HB; intro b_ w_ HB; refine Kx.fr ?_) | ((with_reducible refine Kx.loads_gate ?_); first | refine Kx.l1 HB rfl rfl ?_ | refine Kx.la HB rfl ?_ | refine Kx.lo HB rfl HC.out ?_) | ((with_reducible refine Kx.loadg_gate ?_); first | refine Kx.l1g HB rfl rfl rfl ?_ | refine Kx.lag HB rfl rfl ?_ | refine Kx.log HB rfl HC.out rfl ?_) | ((with_reducible refine Kx.store_gate ?_); (first | refine Kx.stwa HB rfl rfl ?_ | refine Kx.sta HB rfl rfl ?_ | refine Kx.stc HB rfl rfl ?_ | refine Kx.stt HB rfl rfl rfl ?_ | refine Kx.st1 HB rfl rfl rfl ?_); clear HB; intro w_ HB))
  refine Kx.region_x HB (fun i => false) (by kernel_rfl) ?_
  refine Kx.tk 0 rfl ?_
  refine Kx.tk 1 rfl ?_
  refine anyW_take (i := 2) (v := ?v2_21) (a' := ?a2_21) (by first | exact Kx.bears_x | exact bears_u | assumption) rfl (by kernel_rfl) (by kernel_rfl) (by kernel_rfl) (fun _ _ _ h => h) (by kernel_rfl) ?w2_21 ?y2_21 ?f2_21 ?r2_21
  case w2_21 => kernel_rfl
  case y2_21 => (intro W hW; first | (refine Eq.trans (Kx.tells_load1_x (v := .int .i64 x.t) hW b6 1 rfl (pc x A n c0 (some ad) n' c') inferInstance (Tryd.isAgg3 _) rfl) ?_; with_reducible rfl))
  case f2_21 => (go_simp; try with_reducible rfl)
  refine Kx.tk 3 rfl ?_
  refine Kx.tk 4 rfl ?_
  refine Kx.tk 5 rfl ?_
  refine Kx.tk 6 rfl ?_
  refine Kx.tk 7 rfl ?_
  refine Kx.tk 8 rfl ?_
  refine Kx.tk 9 rfl ?_
  refine anyW_take (i := 10) (v := ?v10_22) (a' := ?a10_22) (by first | exact Kx.bears_x | exact bears_u | assumption) rfl (by kernel_rfl) (by kernel_rfl) (by kernel_rfl) (fun _ _ _ h => h) (by kernel_rfl) ?w10_22 ?y10_22 ?f10_22 ?r10_22
  case w10_22 => kernel_rfl
  case y10_22 => (intro W hW; first | (refine Eq.trans (Kx.tells_load1_x (v := .slice (some ad) n' c') hW b6 11 rfl (pc x A n c0 (some ad) n' c') inferInstance (Tryd.isAgg26 _) rfl) ?_; with_reducible rfl))
  case f10_22 => (go_simp; try with_reducible rfl)
  refine Kx.tk 11 rfl ?_
  refine Kx.tk 12 rfl ?_
  refine Kx.tk 13 rfl ?_
  refine anyW_take (i := 14) (v := ?v14_23) (a' := ?a14_23) (by first | exact Kx.bears_x | exact bears_u | assumption) rfl (by kernel_rfl) (by kernel_rfl) (by kernel_rfl) (fun _ _ _ h => h) (by kernel_rfl) ?w14_23 ?y14_23 ?f14_23 ?r14_23
  case w14_23 => kernel_rfl
  case y14_23 => (intro W hW; first | (refine Eq.trans (tells_cell (v := .int .i64 la) (ad.add (n' - 1)) rfl (Tryd.isAgg2 _) (hW.old HLA.out)) ?_; with_reducible rfl))
  case f14_23 => (go_simp; try with_reducible rfl)
  refine Kx.tk 15 rfl ?_
  refine Kx.tk 16 rfl ?_
  refine anyW_take (i := 17) (v := ?v17_24) (a' := ?a17_24) (by first | exact Kx.bears_x | exact bears_u | assumption) rfl (by kernel_rfl) (by kernel_rfl) (by kernel_rfl) (fun _ _ _ h => h) (by kernel_rfl) ?w17_24 ?y17_24 ?f17_24 ?r17_24
  case w17_24 => kernel_rfl
  case y17_24 => (intro W hW; first | (refine Eq.trans (Kx.tells_load1_x (v := .int .i64 c.d) hW b5 14 rfl (cf c) inferInstance (Tryd.isAgg2 _) rfl) ?_; with_reducible rfl))
  case f17_24 => (go_simp; try with_reducible rfl)
  refine Kx.tk 18 rfl ?_
  refine Kx.tk 19 rfl ?_
  refine Kx.tk 20 rfl ?_
  refine anyW_done (by kernel_rfl) ?_
  clear HB
  intro w_ HB_
  have HB := Lib.hid HB_
  clear HB_
  go_wp2_with fail
  refine Kx.region_x HB (fun i => false) (by kernel_rfl) ?_
  refine Kx.tk 0 rfl ?_
  refine Kx.tk 1 rfl ?_
  refine anyW_take (i := 2) (v := ?v2_25) (a' := ?a2_25) (by first | exact Kx.bears_x | exact bears_u | assumption) rfl (by kernel_rfl) (by kernel_rfl) (by kernel_rfl) (fun _ _ _ h => h) (by kernel_rfl) ?w2_25 ?y2_25 ?f2_25 ?r2_25
  case w2_25 => kernel_rfl
  case y2_25 => (intro W hW; first | (refine Eq.trans (Kx.tells_load1_x (v := .int .i64 (b : Int)) hW b5 16 rfl (cf c) inferInstance (Tryd.isAgg3 _) HBC.out) ?_; with_reducible rfl))
  case f2_25 => (go_simp; try with_reducible rfl)
  refine Kx.tk 3 rfl ?_
  refine Kx.tk 4 rfl ?_
  refine Kx.tk 5 rfl ?_
  refine Kx.tk 6 rfl ?_
  refine anyW_take (i := 7) (v := ?v7_26) (a' := ?a7_26) (by first | exact Kx.bears_x | exact bears_u | assumption) rfl (by kernel_rfl) (by kernel_rfl) (by kernel_rfl) (fun _ _ _ h => h) (by kernel_rfl) ?w7_26 ?y7_26 ?f7_26 ?r7_26
  case w7_26 => kernel_rfl
  case y7_26 => (intro W hW; first | (refine Eq.trans (Kx.tells_load1_x (v := .slice (some ad) n' c') hW b6 11 rfl (pc x A n c0 (some ad) n' c') inferInstance (Tryd.isAgg26 _) rfl) ?_; with_reducible rfl))
  case f7_26 => (go_simp; try with_reducible rfl)
  refine Kx.tk 8 rfl ?_
  refine Kx.tk 9 rfl ?_
  refine anyW_take (i := 10) (v := ?v10_27) (a' := ?a10_27) (by first | exact Kx.bears_x | exact bears_u | assumption) rfl (by kernel_rfl) (by kernel_rfl) (by kernel_rfl) (fun _ _ _ h => h) (by kernel_rfl) ?w10_27 ?y10_27 ?f10_27 ?r10_27
  case w10_27 => kernel_rfl
  case y10_27 => (intro W hW; first | (refine Eq.trans (Kx.tells_load1_x (v := .int .i64 (b : Int)) hW b5 16 rfl (cf c) inferInstance (Tryd.isAgg3 _) HBC.out) ?_; with_reducible rfl))
  case f10_27 => (go_simp; try with_reducible rfl)
  refine Kx.tk 11 rfl ?_
  refine Kx.tk 12 rfl ?_
  refine anyW_take (i := 13) (v := ?v13_28) (a' := ?a13_28) (by first | exact Kx.bears_x | exact bears_u | assumption) rfl (by kernel_rfl) (by kernel_rfl) (by kernel_rfl) (fun _ _ _ h => h) (by kernel_rfl) ?w13_28 ?y13_28 ?f13_28 ?r13_28
  case w13_28 => kernel_rfl
  case y13_28 => (intro W hW; first | (refine Eq.trans (tells_cell (v := .int .i64 fi) (ad.add (n' - b)) rfl (Tryd.isAgg2 _) (hW.old HFI.out)) ?_; with_reducible rfl))
  case f13_28 => (go_simp; try with_reducible rfl)
  refine Kx.tk 14 rfl ?_
  refine Kx.tk 15 rfl ?_
  refine anyW_take (i := 16) (v := ?v16_29) (a' := ?a16_29) (by first | exact Kx.bears_x | exact bears_u | assumption) rfl (by kernel_rfl) (by kernel_rfl) (by kernel_rfl) (fun _ _ _ h => h) (by kernel_rfl) ?w16_29 ?y16_29 ?f16_29 ?r16_29
  case w16_29 => kernel_rfl
  case y16_29 => (intro W hW; first | (refine Eq.trans (Kx.tells_load1_x (v := .int .i64 c.w) hW b5 15 rfl (cf c) inferInstance (Tryd.isAgg2 _) rfl) ?_; with_reducible rfl))
  case f16_29 => (go_simp; try with_reducible rfl)
  refine Kx.tk 17 rfl ?_
  refine Kx.tk 18 rfl ?_
  refine anyW_done (by kernel_rfl) ?_
  clear HB
  intro w_ HB_
  have HB := Lib.hid HB_
  clear HB_
  go_wp2_with (first | (go_at_call 28; refine Calls.mono (HH.out _) ?_; rintro e w_ ⟨rfl, hb_⟩; replace HB := Lib.hid (HB.out.call hb_); clear hb_) | (first | ((with_reducible refine Kx.absorb HB ?_); clear HB; intro w_ HB) | ((with_reducible refine Kx.box_gate ?_); (first | refine Kx.boxa HB rfl ?_ | refine Kx.boxt HB rfl rfl ?_ | refine Kx.box1 HB rfl rfl ?_); clear HB; intro b_ w_ HB; refine Kx.fr ?_) | ((with_reducible refine Kx.alloc_gate ?_); (first | refine Kx.ala HB ?_ | refine Kx.al1 HB ?_); clear HB; intro b_ w_ HB; refine Kx.fr ?_) | ((with_reducible refine Kx.loads_gate ?_); first | refine Kx.l1 HB rfl rfl ?_ | refine Kx.la HB rfl ?_ | refine Kx.lo HB rfl HC.out ?_) | ((with_reducible refine Kx.loadg_gate ?_); first | refine Kx.l1g HB rfl rfl rfl ?_ | refine Kx.lag HB rfl rfl ?_ | refine Kx.log HB rfl HC.out rfl ?_) | ((with_reducible refine Kx.store_gate ?_); (first | refine Kx.stwa HB rfl rfl ?_ | refine Kx.sta HB rfl rfl ?_ | refine Kx.stc HB rfl rfl ?_ | refine Kx.stt HB rfl rfl rfl ?_ | refine Kx.st1 HB rfl rfl rfl ?_); clear HB; intro w_ HB)))
  go_ret
  exact ⟨rfl, HB.out.below⟩

set_option maxRecDepth 100000 in
set_option maxHeartbeats 2000000 in
theorem May_none_dwelt (c : Cf) (x : Gm.Pl) (A : Option Addr) (n c0 : Nat) (A' : Option Addr) (n' c' : Nat) (to t : Int) (g b B : Nat) (w : World) (hp : PAt w B x A n c0 A' n' c') (hB : B ≤ w.heap.size) (hg : g < 18446744073709551616) (hxt : x.t ≤ 15) (hb : c.b = (b : Int)) (hb1 : 1 ≤ b ∧ b ≤ 8) (hn : n' ≤ 8) (ht : Gm.T t) (hch : ∀ v ∈ x.ch, Gm.T v) (hsi : Gm.T x.si) (h1 : to ≠ x.t) (h2 : n' = 0) (h6 : Gm.has g x.t = true) (h7 : c.dwell ≤ t - x.si) :
    Calls Tryd.prog 26 #[.agg (cf c).toArray, .agg (pc x A n c0 A' n' c').toArray, .int .i64 to, .int .u64 (g : Int), .int .i64 t] w fun e w' => e = .returned (.bool true) ∧ Below w.heap.size w w' := by
  have HB := Lib.hid (Bxs.start w)
  have HPN := Lib.hid hp.n'
  have hlen := hp.n'
  have HBC : Hid ((cf c)[16]? = some (.int .i64 (b : Int))) := Lib.hid (by rw [← hb]; rfl)
  have d1 : (to == x.t) = false := by simp [h1]
  have d2 : decide ((0 : Int) < (n' : Int)) = false := by simp; omega
  have d2n : decide (0 < n') = false := by simp; omega
  have d4 : decide ((b : Int) ≤ (n' : Int)) = false := by simp; omega
  have d4n : decide (b ≤ n') = false := by simp; omega
  have HH : Hid (∀ W, Calls Tryd.prog 28 #[.int .u64 (g : Int), .int .i64 x.t] W fun e w' => e = .returned (.bool true) ∧ Below W.heap.size W w') := Lib.hid (fun W => by
    refine (has_any g x.t W hg (by omega)).mono ?_
    rintro e w' ⟨rfl, rfl⟩
    exact ⟨by rw [h6], Below.refl _ _⟩)
  have hs3 := T_sub ht hsi
  have d7 : decide (c.dwell ≤ t - x.si) = true := by simp; omega
  try clear hp
  try clear hB
  try clear hb
  try clear hch
  try clear hsi
  try clear ht
  try clear hlen
  try clear h1
  try clear hxt
  try clear hg
  try clear hb1
  try clear hn
  try clear h2
  try clear h4
  try clear h6
  try clear h7
  go_enter Tryd.func26, Tryd.ntmps26
  go_wp2_with (first | ((with_reducible refine Kx.absorb HB ?_); clear HB; intro w_ HB) | ((with_reducible refine Kx.box_gate (d := some 5) ?_); (first | refine Kx.boxa HB rfl ?_ | refine Kx.boxt HB rfl rfl ?_ | refine Kx.box1 HB rfl rfl ?_); clear HB; intro b5 w_ HB; refine Kx.fr ?_) | ((with_reducible refine Kx.alloc_gate (d := some 5) ?_); (first | refine Kx.ala HB ?_ | refine Kx.al1 HB ?_); clear HB; intro b5 w_ HB; refine Kx.fr ?_) | ((with_reducible refine Kx.box_gate (d := some 6) ?_); (first | refine Kx.boxa HB rfl ?_ | refine Kx.boxt HB rfl rfl ?_ | refine Kx.box1 HB rfl rfl ?_); clear HB; intro b6 w_ HB; refine Kx.fr ?_) | ((with_reducible refine Kx.alloc_gate (d := some 6) ?_); (first | refine Kx.ala HB ?_ | refine Kx.al1 HB ?_); clear HB; intro b6 w_ HB; refine Kx.fr ?_) | ((with_reducible refine Kx.box_gate ?_); (first | refine Kx.boxa HB rfl ?_ | refine Kx.boxt HB rfl rfl ?_ | refine Kx.box1 HB rfl rfl ?_); clear HB; intro b_ w_ HB; refine Kx.fr ?_) | ((with_reducible refine Kx.alloc_gate ?_); (first | refine Kx.ala HB ?_ | refine Kx.al1 HB ?_); clear HB; intro b_ w_ HB; refine Kx.fr ?_) | ((with_reducible refine Kx.loads_gate ?_); first | refine Kx.l1 HB rfl rfl ?_ | refine Kx.la HB rfl ?_ | refine Kx.lo HB rfl HC.out ?_) | ((with_reducible refine Kx.loadg_gate ?_); first | refine Kx.l1g HB rfl rfl rfl ?_ | refine Kx.lag HB rfl rfl ?_ | refine Kx.log HB rfl HC.out rfl ?_) | ((with_reducible refine Kx.store_gate ?_); (first | refine Kx.stwa HB rfl rfl ?_ | refine Kx.sta HB rfl rfl ?_ | refine Kx.stc HB rfl rfl ?_ | refine Kx.stt HB rfl rfl rfl ?_ | refine Kx.st1 HB rfl rfl rfl ?_); clear HB; intro w_ HB))
  refine Kx.region_x HB (fun i => false) (by kernel_rfl) ?_
  refine Kx.tk 0 rfl ?_
  refine Kx.tk 1 rfl ?_
  refine anyW_take (i := 2) (v := ?v2_30) (a' := ?a2_30) (by first | exact Kx.bears_x | exact bears_u | assumption) rfl (by kernel_rfl) (by kernel_rfl) (by kernel_rfl) (fun _ _ _ h => h) (by kernel_rfl) ?w2_30 ?y2_30 ?f2_30 ?r2_30
  case w2_30 => kernel_rfl
  case y2_30 => (intro W hW; first | (refine Eq.trans (Kx.tells_load1_x (v := .int .i64 x.t) hW b6 1 rfl (pc x A n c0 A' n' c') inferInstance (Tryd.isAgg3 _) rfl) ?_; with_reducible rfl))
  case f2_30 => (go_simp; try with_reducible rfl)
  refine Kx.tk 3 rfl ?_
  refine Kx.tk 4 rfl ?_
  refine Kx.tk 5 rfl ?_
  refine Kx.tk 6 rfl ?_
  refine Kx.tk 7 rfl ?_
  refine Kx.sk 8 rfl ?_
  refine Kx.sk 9 rfl ?_
  refine Kx.sk 10 rfl ?_
  refine Kx.sk 11 rfl ?_
  refine Kx.sk 12 rfl ?_
  refine Kx.sk 13 rfl ?_
  refine Kx.sk 14 rfl ?_
  refine Kx.sk 15 rfl ?_
  refine Kx.sk 16 rfl ?_
  refine Kx.sk 17 rfl ?_
  refine Kx.sk 18 rfl ?_
  refine Kx.tk 19 rfl ?_
  refine Kx.tk 20 rfl ?_
  refine anyW_done (by kernel_rfl) ?_
  clear HB
  intro w_ HB_
  have HB := Lib.hid HB_
  clear HB_
  go_wp2_with fail
  refine Kx.region_x HB (fun i => false) (by kernel_rfl) ?_
  refine Kx.tk 0 rfl ?_
  refine Kx.tk 1 rfl ?_
  refine anyW_take (i := 2) (v := ?v2_31) (a' := ?a2_31) (by first | exact Kx.bears_x | exact bears_u | assumption) rfl (by kernel_rfl) (by kernel_rfl) (by kernel_rfl) (fun _ _ _ h => h) (by kernel_rfl) ?w2_31 ?y2_31 ?f2_31 ?r2_31
  case w2_31 => kernel_rfl
  case y2_31 => (intro W hW; first | (refine Eq.trans (Kx.tells_load1_x (v := .int .i64 (b : Int)) hW b5 16 rfl (cf c) inferInstance (Tryd.isAgg3 _) HBC.out) ?_; with_reducible rfl))
  case f2_31 => (go_simp; try with_reducible rfl)
  refine Kx.tk 3 rfl ?_
  refine Kx.tk 4 rfl ?_
  refine Kx.sk 5 rfl ?_
  refine Kx.sk 6 rfl ?_
  refine Kx.sk 7 rfl ?_
  refine Kx.sk 8 rfl ?_
  refine Kx.sk 9 rfl ?_
  refine Kx.sk 10 rfl ?_
  refine Kx.sk 11 rfl ?_
  refine Kx.sk 12 rfl ?_
  refine Kx.sk 13 rfl ?_
  refine Kx.sk 14 rfl ?_
  refine Kx.sk 15 rfl ?_
  refine Kx.sk 16 rfl ?_
  refine Kx.sk 17 rfl ?_
  refine Kx.tk 18 rfl ?_
  refine anyW_done (by kernel_rfl) ?_
  clear HB
  intro w_ HB_
  have HB := Lib.hid HB_
  clear HB_
  go_wp2_with (first | (go_at_call 28; refine Calls.mono (HH.out _) ?_; rintro e w_ ⟨rfl, hb_⟩; replace HB := Lib.hid (HB.out.call hb_); clear hb_) | (first | ((with_reducible refine Kx.absorb HB ?_); clear HB; intro w_ HB) | ((with_reducible refine Kx.box_gate ?_); (first | refine Kx.boxa HB rfl ?_ | refine Kx.boxt HB rfl rfl ?_ | refine Kx.box1 HB rfl rfl ?_); clear HB; intro b_ w_ HB; refine Kx.fr ?_) | ((with_reducible refine Kx.alloc_gate ?_); (first | refine Kx.ala HB ?_ | refine Kx.al1 HB ?_); clear HB; intro b_ w_ HB; refine Kx.fr ?_) | ((with_reducible refine Kx.loads_gate ?_); first | refine Kx.l1 HB rfl rfl ?_ | refine Kx.la HB rfl ?_ | refine Kx.lo HB rfl HC.out ?_) | ((with_reducible refine Kx.loadg_gate ?_); first | refine Kx.l1g HB rfl rfl rfl ?_ | refine Kx.lag HB rfl rfl ?_ | refine Kx.log HB rfl HC.out rfl ?_) | ((with_reducible refine Kx.store_gate ?_); (first | refine Kx.stwa HB rfl rfl ?_ | refine Kx.sta HB rfl rfl ?_ | refine Kx.stc HB rfl rfl ?_ | refine Kx.stt HB rfl rfl rfl ?_ | refine Kx.st1 HB rfl rfl rfl ?_); clear HB; intro w_ HB)))
  go_ret
  exact ⟨rfl, HB.out.below⟩

set_option maxRecDepth 100000 in
set_option maxHeartbeats 2000000 in
theorem May_few_dwelt (c : Cf) (x : Gm.Pl) (A : Option Addr) (n c0 : Nat) (A' : Option Addr) (n' c' : Nat) (to t : Int) (g b B : Nat) (w : World) (hp : PAt w B x A n c0 A' n' c') (hB : B ≤ w.heap.size) (hg : g < 18446744073709551616) (hxt : x.t ≤ 15) (hb : c.b = (b : Int)) (hb1 : 1 ≤ b ∧ b ≤ 8) (hn : n' ≤ 8) (ht : Gm.T t) (hch : ∀ v ∈ x.ch, Gm.T v) (hsi : Gm.T x.si) (h1 : to ≠ x.t) (h2 : 0 < n') (h3 : ¬ t - x.ch.getD (n' - 1) 0 < c.d) (h4 : n' < b) (h6 : Gm.has g x.t = true) (h7 : c.dwell ≤ t - x.si) :
    Calls Tryd.prog 26 #[.agg (cf c).toArray, .agg (pc x A n c0 A' n' c').toArray, .int .i64 to, .int .u64 (g : Int), .int .i64 t] w fun e w' => e = .returned (.bool true) ∧ Below w.heap.size w w' := by
  have HB := Lib.hid (Bxs.start w)
  have HPN := Lib.hid hp.n'
  have hlen := hp.n'
  have HBC : Hid ((cf c)[16]? = some (.int .i64 (b : Int))) := Lib.hid (by rw [← hb]; rfl)
  have d1 : (to == x.t) = false := by simp [h1]
  have d2 : (0 : Int) < (n' : Int) := by omega
  have d2n : 0 < n' := by omega
  obtain ⟨ad, e1, -, hc1⟩ := (hp.ch.more hB).num (k := n' - 1) (by omega)
  obtain rfl := e1
  have hla := Gm.getD_in (P := Gm.T) hch ⟨by decide, by decide⟩ (n' - 1)
  have ha1 : IntKind.i64.wrap ((n' : Int) - 1) = ((n' - 1 : Nat) : Int) := by rw [IntKind.wrap_i64]; omega
  have ha2 : ((n' - 1 : Nat) : Int) < (n' : Int) := by omega
  obtain ⟨la, hl0⟩ : ∃ la, x.ch.getD (n' - 1) 0 = la := ⟨_, rfl⟩
  rw [hl0] at hc1 hla h3
  have HLA := Lib.hid hc1
  have hs1 := T_sub ht hla
  have d3 : decide (t - la < c.d) = false := by simp; omega
  have d4 : decide ((b : Int) ≤ (n' : Int)) = false := by simp; omega
  have d4n : decide (b ≤ n') = false := by simp; omega
  have HH : Hid (∀ W, Calls Tryd.prog 28 #[.int .u64 (g : Int), .int .i64 x.t] W fun e w' => e = .returned (.bool true) ∧ Below W.heap.size W w') := Lib.hid (fun W => by
    refine (has_any g x.t W hg (by omega)).mono ?_
    rintro e w' ⟨rfl, rfl⟩
    exact ⟨by rw [h6], Below.refl _ _⟩)
  have hs3 := T_sub ht hsi
  have d7 : decide (c.dwell ≤ t - x.si) = true := by simp; omega
  try clear hp
  try clear hB
  try clear hb
  try clear hch
  try clear hsi
  try clear ht
  try clear hlen
  try clear h1
  try clear hxt
  try clear hg
  try clear hb1
  try clear hn
  try clear h2
  try clear h3
  try clear hl0
  try clear hla
  try clear hc1
  try clear h4
  try clear h6
  try clear h7
  go_enter Tryd.func26, Tryd.ntmps26
  go_wp2_with (first | ((with_reducible refine Kx.absorb HB ?_); clear HB; intro w_ HB) | ((with_reducible refine Kx.box_gate (d := some 5) ?_); (first | refine Kx.boxa HB rfl ?_ | refine Kx.boxt HB rfl rfl ?_ | refine Kx.box1 HB rfl rfl ?_); clear HB; intro b5 w_ HB; refine Kx.fr ?_) | ((with_reducible refine Kx.alloc_gate (d := some 5) ?_); (first | refine Kx.ala HB ?_ | refine Kx.al1 HB ?_); clear HB; intro b5 w_ HB; refine Kx.fr ?_) | ((with_reducible refine Kx.box_gate (d := some 6) ?_); (first | refine Kx.boxa HB rfl ?_ | refine Kx.boxt HB rfl rfl ?_ | refine Kx.box1 HB rfl rfl ?_); clear HB; intro b6 w_ HB; refine Kx.fr ?_) | ((with_reducible refine Kx.alloc_gate (d := some 6) ?_); (first | refine Kx.ala HB ?_ | refine Kx.al1 HB ?_); clear HB; intro b6 w_ HB; refine Kx.fr ?_) | ((with_reducible refine Kx.box_gate ?_); (first | refine Kx.boxa HB rfl ?_ | refine Kx.boxt HB rfl rfl ?_ | refine Kx.box1 HB rfl rfl ?_); clear HB; intro b_ w_ HB; refine Kx.fr ?_) | ((with_reducible refine Kx.alloc_gate ?_); (first | refine Kx.ala HB ?_ | refine Kx.al1 HB ?_); clear HB; intro b_ w_ HB; refine Kx.fr ?_) | ((with_reducible refine Kx.loads_gate ?_); first | refine Kx.l1 HB rfl rfl ?_ | refine Kx.la HB rfl ?_ | refine Kx.lo HB rfl HC.out ?_) | ((with_reducible refine Kx.loadg_gate ?_); first | refine Kx.l1g HB rfl rfl rfl ?_ | refine Kx.lag HB rfl rfl ?_ | refine Kx.log HB rfl HC.out rfl ?_) | ((with_reducible refine Kx.store_gate ?_); (first | refine Kx.stwa HB rfl rfl ?_ | refine Kx.sta HB rfl rfl ?_ | refine Kx.stc HB rfl rfl ?_ | refine Kx.stt HB rfl rfl rfl ?_ | refine Kx.st1 HB rfl rfl rfl ?_); clear HB; intro w_ HB))
  refine Kx.region_x HB (fun i => false) (by kernel_rfl) ?_
  refine Kx.tk 0 rfl ?_
  refine Kx.tk 1 rfl ?_
  refine anyW_take (i := 2) (v := ?v2_32) (a' := ?a2_32) (by first | exact Kx.bears_x | exact bears_u | assumption) rfl (by kernel_rfl) (by kernel_rfl) (by kernel_rfl) (fun _ _ _ h => h) (by kernel_rfl) ?w2_32 ?y2_32 ?f2_32 ?r2_32
  case w2_32 => kernel_rfl
  case y2_32 => (intro W hW; first | (refine Eq.trans (Kx.tells_load1_x (v := .int .i64 x.t) hW b6 1 rfl (pc x A n c0 (some ad) n' c') inferInstance (Tryd.isAgg3 _) rfl) ?_; with_reducible rfl))
  case f2_32 => (go_simp; try with_reducible rfl)
  refine Kx.tk 3 rfl ?_
  refine Kx.tk 4 rfl ?_
  refine Kx.tk 5 rfl ?_
  refine Kx.tk 6 rfl ?_
  refine Kx.tk 7 rfl ?_
  refine Kx.tk 8 rfl ?_
  refine Kx.tk 9 rfl ?_
  refine anyW_take (i := 10) (v := ?v10_33) (a' := ?a10_33) (by first | exact Kx.bears_x | exact bears_u | assumption) rfl (by kernel_rfl) (by kernel_rfl) (by kernel_rfl) (fun _ _ _ h => h) (by kernel_rfl) ?w10_33 ?y10_33 ?f10_33 ?r10_33
  case w10_33 => kernel_rfl
  case y10_33 => (intro W hW; first | (refine Eq.trans (Kx.tells_load1_x (v := .slice (some ad) n' c') hW b6 11 rfl (pc x A n c0 (some ad) n' c') inferInstance (Tryd.isAgg26 _) rfl) ?_; with_reducible rfl))
  case f10_33 => (go_simp; try with_reducible rfl)
  refine Kx.tk 11 rfl ?_
  refine Kx.tk 12 rfl ?_
  refine Kx.tk 13 rfl ?_
  refine anyW_take (i := 14) (v := ?v14_34) (a' := ?a14_34) (by first | exact Kx.bears_x | exact bears_u | assumption) rfl (by kernel_rfl) (by kernel_rfl) (by kernel_rfl) (fun _ _ _ h => h) (by kernel_rfl) ?w14_34 ?y14_34 ?f14_34 ?r14_34
  case w14_34 => kernel_rfl
  case y14_34 => (intro W hW; first | (refine Eq.trans (tells_cell (v := .int .i64 la) (ad.add (n' - 1)) rfl (Tryd.isAgg2 _) (hW.old HLA.out)) ?_; with_reducible rfl))
  case f14_34 => (go_simp; try with_reducible rfl)
  refine Kx.tk 15 rfl ?_
  refine Kx.tk 16 rfl ?_
  refine anyW_take (i := 17) (v := ?v17_35) (a' := ?a17_35) (by first | exact Kx.bears_x | exact bears_u | assumption) rfl (by kernel_rfl) (by kernel_rfl) (by kernel_rfl) (fun _ _ _ h => h) (by kernel_rfl) ?w17_35 ?y17_35 ?f17_35 ?r17_35
  case w17_35 => kernel_rfl
  case y17_35 => (intro W hW; first | (refine Eq.trans (Kx.tells_load1_x (v := .int .i64 c.d) hW b5 14 rfl (cf c) inferInstance (Tryd.isAgg2 _) rfl) ?_; with_reducible rfl))
  case f17_35 => (go_simp; try with_reducible rfl)
  refine Kx.tk 18 rfl ?_
  refine Kx.tk 19 rfl ?_
  refine Kx.tk 20 rfl ?_
  refine anyW_done (by kernel_rfl) ?_
  clear HB
  intro w_ HB_
  have HB := Lib.hid HB_
  clear HB_
  go_wp2_with fail
  refine Kx.region_x HB (fun i => false) (by kernel_rfl) ?_
  refine Kx.tk 0 rfl ?_
  refine Kx.tk 1 rfl ?_
  refine anyW_take (i := 2) (v := ?v2_36) (a' := ?a2_36) (by first | exact Kx.bears_x | exact bears_u | assumption) rfl (by kernel_rfl) (by kernel_rfl) (by kernel_rfl) (fun _ _ _ h => h) (by kernel_rfl) ?w2_36 ?y2_36 ?f2_36 ?r2_36
  case w2_36 => kernel_rfl
  case y2_36 => (intro W hW; first | (refine Eq.trans (Kx.tells_load1_x (v := .int .i64 (b : Int)) hW b5 16 rfl (cf c) inferInstance (Tryd.isAgg3 _) HBC.out) ?_; with_reducible rfl))
  case f2_36 => (go_simp; try with_reducible rfl)
  refine Kx.tk 3 rfl ?_
  refine Kx.tk 4 rfl ?_
  refine Kx.sk 5 rfl ?_
  refine Kx.sk 6 rfl ?_
  refine Kx.sk 7 rfl ?_
  refine Kx.sk 8 rfl ?_
  refine Kx.sk 9 rfl ?_
  refine Kx.sk 10 rfl ?_
  refine Kx.sk 11 rfl ?_
  refine Kx.sk 12 rfl ?_
  refine Kx.sk 13 rfl ?_
  refine Kx.sk 14 rfl ?_
  refine Kx.sk 15 rfl ?_
  refine Kx.sk 16 rfl ?_
  refine Kx.sk 17 rfl ?_
  refine Kx.tk 18 rfl ?_
  refine anyW_done (by kernel_rfl) ?_
  clear HB
  intro w_ HB_
  have HB := Lib.hid HB_
  clear HB_
  go_wp2_with (first | (go_at_call 28; refine Calls.mono (HH.out _) ?_; rintro e w_ ⟨rfl, hb_⟩; replace HB := Lib.hid (HB.out.call hb_); clear hb_) | (first | ((with_reducible refine Kx.absorb HB ?_); clear HB; intro w_ HB) | ((with_reducible refine Kx.box_gate ?_); (first | refine Kx.boxa HB rfl ?_ | refine Kx.boxt HB rfl rfl ?_ | refine Kx.box1 HB rfl rfl ?_); clear HB; intro b_ w_ HB; refine Kx.fr ?_) | ((with_reducible refine Kx.alloc_gate ?_); (first | refine Kx.ala HB ?_ | refine Kx.al1 HB ?_); clear HB; intro b_ w_ HB; refine Kx.fr ?_) | ((with_reducible refine Kx.loads_gate ?_); first | refine Kx.l1 HB rfl rfl ?_ | refine Kx.la HB rfl ?_ | refine Kx.lo HB rfl HC.out ?_) | ((with_reducible refine Kx.loadg_gate ?_); first | refine Kx.l1g HB rfl rfl rfl ?_ | refine Kx.lag HB rfl rfl ?_ | refine Kx.log HB rfl HC.out rfl ?_) | ((with_reducible refine Kx.store_gate ?_); (first | refine Kx.stwa HB rfl rfl ?_ | refine Kx.sta HB rfl rfl ?_ | refine Kx.stc HB rfl rfl ?_ | refine Kx.stt HB rfl rfl rfl ?_ | refine Kx.st1 HB rfl rfl rfl ?_); clear HB; intro w_ HB)))
  go_ret
  exact ⟨rfl, HB.out.below⟩

set_option maxRecDepth 100000 in
set_option maxHeartbeats 2000000 in
theorem May_ok_dwelt (c : Cf) (x : Gm.Pl) (A : Option Addr) (n c0 : Nat) (A' : Option Addr) (n' c' : Nat) (to t : Int) (g b B : Nat) (w : World) (hp : PAt w B x A n c0 A' n' c') (hB : B ≤ w.heap.size) (hg : g < 18446744073709551616) (hxt : x.t ≤ 15) (hb : c.b = (b : Int)) (hb1 : 1 ≤ b ∧ b ≤ 8) (hn : n' ≤ 8) (ht : Gm.T t) (hch : ∀ v ∈ x.ch, Gm.T v) (hsi : Gm.T x.si) (h1 : to ≠ x.t) (h2 : 0 < n') (h3 : ¬ t - x.ch.getD (n' - 1) 0 < c.d) (h4 : b ≤ n') (h5 : ¬ t - x.ch.getD (n' - b) 0 ≤ c.w) (h6 : Gm.has g x.t = true) (h7 : c.dwell ≤ t - x.si) :
    Calls Tryd.prog 26 #[.agg (cf c).toArray, .agg (pc x A n c0 A' n' c').toArray, .int .i64 to, .int .u64 (g : Int), .int .i64 t] w fun e w' => e = .returned (.bool true) ∧ Below w.heap.size w w' := by
  have HB := Lib.hid (Bxs.start w)
  have HPN := Lib.hid hp.n'
  have hlen := hp.n'
  have HBC : Hid ((cf c)[16]? = some (.int .i64 (b : Int))) := Lib.hid (by rw [← hb]; rfl)
  have d1 : (to == x.t) = false := by simp [h1]
  have d2 : (0 : Int) < (n' : Int) := by omega
  have d2n : 0 < n' := by omega
  obtain ⟨ad, e1, -, hc1⟩ := (hp.ch.more hB).num (k := n' - 1) (by omega)
  obtain rfl := e1
  have hla := Gm.getD_in (P := Gm.T) hch ⟨by decide, by decide⟩ (n' - 1)
  have ha1 : IntKind.i64.wrap ((n' : Int) - 1) = ((n' - 1 : Nat) : Int) := by rw [IntKind.wrap_i64]; omega
  have ha2 : ((n' - 1 : Nat) : Int) < (n' : Int) := by omega
  obtain ⟨la, hl0⟩ : ∃ la, x.ch.getD (n' - 1) 0 = la := ⟨_, rfl⟩
  rw [hl0] at hc1 hla h3
  have HLA := Lib.hid hc1
  have hs1 := T_sub ht hla
  have d3 : decide (t - la < c.d) = false := by simp; omega
  have d4 : decide ((b : Int) ≤ (n' : Int)) = true := by simp; omega
  have d4n : decide (b ≤ n') = true := by simp; omega
  obtain ⟨ad', e2, -, hc2⟩ := (hp.ch.more hB).num (k := n' - b) (by omega)
  cases e2
  have hfi := Gm.getD_in (P := Gm.T) hch ⟨by decide, by decide⟩ (n' - b)
  have hb1' : IntKind.i64.wrap ((n' : Int) - (b : Int)) = ((n' - b : Nat) : Int) := by rw [IntKind.wrap_i64]; omega
  have hb2' : ((n' - b : Nat) : Int) < (n' : Int) := by omega
  obtain ⟨fi, hf0⟩ : ∃ fi, x.ch.getD (n' - b) 0 = fi := ⟨_, rfl⟩
  rw [hf0] at hc2 hfi h5
  have HFI := Lib.hid hc2
  have hs2 := T_sub ht hfi
  have d5 : decide (t - fi ≤ c.w) = false := by simp; omega
  have HH : Hid (∀ W, Calls Tryd.prog 28 #[.int .u64 (g : Int), .int .i64 x.t] W fun e w' => e = .returned (.bool true) ∧ Below W.heap.size W w') := Lib.hid (fun W => by
    refine (has_any g x.t W hg (by omega)).mono ?_
    rintro e w' ⟨rfl, rfl⟩
    exact ⟨by rw [h6], Below.refl _ _⟩)
  have hs3 := T_sub ht hsi
  have d7 : decide (c.dwell ≤ t - x.si) = true := by simp; omega
  try clear hp
  try clear hB
  try clear hb
  try clear hch
  try clear hsi
  try clear ht
  try clear hlen
  try clear h1
  try clear hxt
  try clear hg
  try clear hb1
  try clear hn
  try clear h2
  try clear h3
  try clear hl0
  try clear hla
  try clear hc1
  try clear h4
  try clear h5
  try clear hf0
  try clear hfi
  try clear hc2
  try clear h6
  try clear h7
  go_enter Tryd.func26, Tryd.ntmps26
  go_wp2_with (first | ((with_reducible refine Kx.absorb HB ?_); clear HB; intro w_ HB) | ((with_reducible refine Kx.box_gate (d := some 5) ?_); (first | refine Kx.boxa HB rfl ?_ | refine Kx.boxt HB rfl rfl ?_ | refine Kx.box1 HB rfl rfl ?_); clear HB; intro b5 w_ HB; refine Kx.fr ?_) | ((with_reducible refine Kx.alloc_gate (d := some 5) ?_); (first | refine Kx.ala HB ?_ | refine Kx.al1 HB ?_); clear HB; intro b5 w_ HB; refine Kx.fr ?_) | ((with_reducible refine Kx.box_gate (d := some 6) ?_); (first | refine Kx.boxa HB rfl ?_ | refine Kx.boxt HB rfl rfl ?_ | refine Kx.box1 HB rfl rfl ?_); clear HB; intro b6 w_ HB; refine Kx.fr ?_) | ((with_reducible refine Kx.alloc_gate (d := some 6) ?_); (first | refine Kx.ala HB ?_ | refine Kx.al1 HB ?_); clear HB; intro b6 w_ HB; refine Kx.fr ?_) | ((with_reducible refine Kx.box_gate ?_); (first | refine Kx.boxa HB rfl ?_ | refine Kx.boxt HB rfl rfl ?_ | refine Kx.box1 HB rfl rfl ?_); clear HB; intro b_ w_ HB; refine Kx.fr ?_) | ((with_reducible refine Kx.alloc_gate ?_); (first | refine Kx.ala HB ?_ | refine Kx.al1 HB ?_); clear HB; intro b_ w_ HB; refine Kx.fr ?_) | ((with_reducible refine Kx.loads_gate ?_); first | refine Kx.l1 HB rfl rfl ?_ | refine Kx.la HB rfl ?_ | refine Kx.lo HB rfl HC.out ?_) | ((with_reducible refine Kx.loadg_gate ?_); first | refine Kx.l1g HB rfl rfl rfl ?_ | refine Kx.lag HB rfl rfl ?_ | refine Kx.log HB rfl HC.out rfl ?_) | ((with_reducible refine Kx.store_gate ?_); (first | refine Kx.stwa HB rfl rfl ?_ | refine Kx.sta HB rfl rfl ?_ | refine Kx.stc HB rfl rfl ?_ | refine Kx.stt HB rfl rfl rfl ?_ | refine Kx.st1 HB rfl rfl rfl ?_); clear HB; intro w_ HB))
  refine Kx.region_x HB (fun i => false) (by kernel_rfl) ?_
  refine Kx.tk 0 rfl ?_
  refine Kx.tk 1 rfl ?_
  refine anyW_take (i := 2) (v := ?v2_37) (a' := ?a2_37) (by first | exact Kx.bears_x | exact bears_u | assumption) rfl (by kernel_rfl) (by kernel_rfl) (by kernel_rfl) (fun _ _ _ h => h) (by kernel_rfl) ?w2_37 ?y2_37 ?f2_37 ?r2_37
  case w2_37 => kernel_rfl
  case y2_37 => (intro W hW; first | (refine Eq.trans (Kx.tells_load1_x (v := .int .i64 x.t) hW b6 1 rfl (pc x A n c0 (some ad) n' c') inferInstance (Tryd.isAgg3 _) rfl) ?_; with_reducible rfl))
  case f2_37 => (go_simp; try with_reducible rfl)
  refine Kx.tk 3 rfl ?_
  refine Kx.tk 4 rfl ?_
  refine Kx.tk 5 rfl ?_
  refine Kx.tk 6 rfl ?_
  refine Kx.tk 7 rfl ?_
  refine Kx.tk 8 rfl ?_
  refine Kx.tk 9 rfl ?_
  refine anyW_take (i := 10) (v := ?v10_38) (a' := ?a10_38) (by first | exact Kx.bears_x | exact bears_u | assumption) rfl (by kernel_rfl) (by kernel_rfl) (by kernel_rfl) (fun _ _ _ h => h) (by kernel_rfl) ?w10_38 ?y10_38 ?f10_38 ?r10_38
  case w10_38 => kernel_rfl
  case y10_38 => (intro W hW; first | (refine Eq.trans (Kx.tells_load1_x (v := .slice (some ad) n' c') hW b6 11 rfl (pc x A n c0 (some ad) n' c') inferInstance (Tryd.isAgg26 _) rfl) ?_; with_reducible rfl))
  case f10_38 => (go_simp; try with_reducible rfl)
  refine Kx.tk 11 rfl ?_
  refine Kx.tk 12 rfl ?_
  refine Kx.tk 13 rfl ?_
  refine anyW_take (i := 14) (v := ?v14_39) (a' := ?a14_39) (by first | exact Kx.bears_x | exact bears_u | assumption) rfl (by kernel_rfl) (by kernel_rfl) (by kernel_rfl) (fun _ _ _ h => h) (by kernel_rfl) ?w14_39 ?y14_39 ?f14_39 ?r14_39
  case w14_39 => kernel_rfl
  case y14_39 => (intro W hW; first | (refine Eq.trans (tells_cell (v := .int .i64 la) (ad.add (n' - 1)) rfl (Tryd.isAgg2 _) (hW.old HLA.out)) ?_; with_reducible rfl))
  case f14_39 => (go_simp; try with_reducible rfl)
  refine Kx.tk 15 rfl ?_
  refine Kx.tk 16 rfl ?_
  refine anyW_take (i := 17) (v := ?v17_40) (a' := ?a17_40) (by first | exact Kx.bears_x | exact bears_u | assumption) rfl (by kernel_rfl) (by kernel_rfl) (by kernel_rfl) (fun _ _ _ h => h) (by kernel_rfl) ?w17_40 ?y17_40 ?f17_40 ?r17_40
  case w17_40 => kernel_rfl
  case y17_40 => (intro W hW; first | (refine Eq.trans (Kx.tells_load1_x (v := .int .i64 c.d) hW b5 14 rfl (cf c) inferInstance (Tryd.isAgg2 _) rfl) ?_; with_reducible rfl))
  case f17_40 => (go_simp; try with_reducible rfl)
  refine Kx.tk 18 rfl ?_
  refine Kx.tk 19 rfl ?_
  refine Kx.tk 20 rfl ?_
  refine anyW_done (by kernel_rfl) ?_
  clear HB
  intro w_ HB_
  have HB := Lib.hid HB_
  clear HB_
  go_wp2_with fail
  refine Kx.region_x HB (fun i => false) (by kernel_rfl) ?_
  refine Kx.tk 0 rfl ?_
  refine Kx.tk 1 rfl ?_
  refine anyW_take (i := 2) (v := ?v2_41) (a' := ?a2_41) (by first | exact Kx.bears_x | exact bears_u | assumption) rfl (by kernel_rfl) (by kernel_rfl) (by kernel_rfl) (fun _ _ _ h => h) (by kernel_rfl) ?w2_41 ?y2_41 ?f2_41 ?r2_41
  case w2_41 => kernel_rfl
  case y2_41 => (intro W hW; first | (refine Eq.trans (Kx.tells_load1_x (v := .int .i64 (b : Int)) hW b5 16 rfl (cf c) inferInstance (Tryd.isAgg3 _) HBC.out) ?_; with_reducible rfl))
  case f2_41 => (go_simp; try with_reducible rfl)
  refine Kx.tk 3 rfl ?_
  refine Kx.tk 4 rfl ?_
  refine Kx.tk 5 rfl ?_
  refine Kx.tk 6 rfl ?_
  refine anyW_take (i := 7) (v := ?v7_42) (a' := ?a7_42) (by first | exact Kx.bears_x | exact bears_u | assumption) rfl (by kernel_rfl) (by kernel_rfl) (by kernel_rfl) (fun _ _ _ h => h) (by kernel_rfl) ?w7_42 ?y7_42 ?f7_42 ?r7_42
  case w7_42 => kernel_rfl
  case y7_42 => (intro W hW; first | (refine Eq.trans (Kx.tells_load1_x (v := .slice (some ad) n' c') hW b6 11 rfl (pc x A n c0 (some ad) n' c') inferInstance (Tryd.isAgg26 _) rfl) ?_; with_reducible rfl))
  case f7_42 => (go_simp; try with_reducible rfl)
  refine Kx.tk 8 rfl ?_
  refine Kx.tk 9 rfl ?_
  refine anyW_take (i := 10) (v := ?v10_43) (a' := ?a10_43) (by first | exact Kx.bears_x | exact bears_u | assumption) rfl (by kernel_rfl) (by kernel_rfl) (by kernel_rfl) (fun _ _ _ h => h) (by kernel_rfl) ?w10_43 ?y10_43 ?f10_43 ?r10_43
  case w10_43 => kernel_rfl
  case y10_43 => (intro W hW; first | (refine Eq.trans (Kx.tells_load1_x (v := .int .i64 (b : Int)) hW b5 16 rfl (cf c) inferInstance (Tryd.isAgg3 _) HBC.out) ?_; with_reducible rfl))
  case f10_43 => (go_simp; try with_reducible rfl)
  refine Kx.tk 11 rfl ?_
  refine Kx.tk 12 rfl ?_
  refine anyW_take (i := 13) (v := ?v13_44) (a' := ?a13_44) (by first | exact Kx.bears_x | exact bears_u | assumption) rfl (by kernel_rfl) (by kernel_rfl) (by kernel_rfl) (fun _ _ _ h => h) (by kernel_rfl) ?w13_44 ?y13_44 ?f13_44 ?r13_44
  case w13_44 => kernel_rfl
  case y13_44 => (intro W hW; first | (refine Eq.trans (tells_cell (v := .int .i64 fi) (ad.add (n' - b)) rfl (Tryd.isAgg2 _) (hW.old HFI.out)) ?_; with_reducible rfl))
  case f13_44 => (go_simp; try with_reducible rfl)
  refine Kx.tk 14 rfl ?_
  refine Kx.tk 15 rfl ?_
  refine anyW_take (i := 16) (v := ?v16_45) (a' := ?a16_45) (by first | exact Kx.bears_x | exact bears_u | assumption) rfl (by kernel_rfl) (by kernel_rfl) (by kernel_rfl) (fun _ _ _ h => h) (by kernel_rfl) ?w16_45 ?y16_45 ?f16_45 ?r16_45
  case w16_45 => kernel_rfl
  case y16_45 => (intro W hW; first | (refine Eq.trans (Kx.tells_load1_x (v := .int .i64 c.w) hW b5 15 rfl (cf c) inferInstance (Tryd.isAgg2 _) rfl) ?_; with_reducible rfl))
  case f16_45 => (go_simp; try with_reducible rfl)
  refine Kx.tk 17 rfl ?_
  refine Kx.tk 18 rfl ?_
  refine anyW_done (by kernel_rfl) ?_
  clear HB
  intro w_ HB_
  have HB := Lib.hid HB_
  clear HB_
  go_wp2_with (first | (go_at_call 28; refine Calls.mono (HH.out _) ?_; rintro e w_ ⟨rfl, hb_⟩; replace HB := Lib.hid (HB.out.call hb_); clear hb_) | (first | ((with_reducible refine Kx.absorb HB ?_); clear HB; intro w_ HB) | ((with_reducible refine Kx.box_gate ?_); (first | refine Kx.boxa HB rfl ?_ | refine Kx.boxt HB rfl rfl ?_ | refine Kx.box1 HB rfl rfl ?_); clear HB; intro b_ w_ HB; refine Kx.fr ?_) | ((with_reducible refine Kx.alloc_gate ?_); (first | refine Kx.ala HB ?_ | refine Kx.al1 HB ?_); clear HB; intro b_ w_ HB; refine Kx.fr ?_) | ((with_reducible refine Kx.loads_gate ?_); first | refine Kx.l1 HB rfl rfl ?_ | refine Kx.la HB rfl ?_ | refine Kx.lo HB rfl HC.out ?_) | ((with_reducible refine Kx.loadg_gate ?_); first | refine Kx.l1g HB rfl rfl rfl ?_ | refine Kx.lag HB rfl rfl ?_ | refine Kx.log HB rfl HC.out rfl ?_) | ((with_reducible refine Kx.store_gate ?_); (first | refine Kx.stwa HB rfl rfl ?_ | refine Kx.sta HB rfl rfl ?_ | refine Kx.stc HB rfl rfl ?_ | refine Kx.stt HB rfl rfl rfl ?_ | refine Kx.st1 HB rfl rfl rfl ?_); clear HB; intro w_ HB)))
  go_ret
  exact ⟨rfl, HB.out.below⟩

set_option maxRecDepth 100000 in
set_option maxHeartbeats 2000000 in
theorem May_none_not (c : Cf) (x : Gm.Pl) (A : Option Addr) (n c0 : Nat) (A' : Option Addr) (n' c' : Nat) (to t : Int) (g b B : Nat) (w : World) (hp : PAt w B x A n c0 A' n' c') (hB : B ≤ w.heap.size) (hg : g < 18446744073709551616) (hxt : x.t ≤ 15) (hb : c.b = (b : Int)) (hb1 : 1 ≤ b ∧ b ≤ 8) (hn : n' ≤ 8) (ht : Gm.T t) (hch : ∀ v ∈ x.ch, Gm.T v) (hsi : Gm.T x.si) (h1 : to ≠ x.t) (h2 : n' = 0) (h6 : Gm.has g x.t = true) (h7 : ¬ c.dwell ≤ t - x.si) :
    Calls Tryd.prog 26 #[.agg (cf c).toArray, .agg (pc x A n c0 A' n' c').toArray, .int .i64 to, .int .u64 (g : Int), .int .i64 t] w fun e w' => e = .returned (.bool false) ∧ Below w.heap.size w w' := by
  have HB := Lib.hid (Bxs.start w)
  have HPN := Lib.hid hp.n'
  have hlen := hp.n'
  have HBC : Hid ((cf c)[16]? = some (.int .i64 (b : Int))) := Lib.hid (by rw [← hb]; rfl)
  have d1 : (to == x.t) = false := by simp [h1]
  have d2 : decide ((0 : Int) < (n' : Int)) = false := by simp; omega
  have d2n : decide (0 < n') = false := by simp; omega
  have d4 : decide ((b : Int) ≤ (n' : Int)) = false := by simp; omega
  have d4n : decide (b ≤ n') = false := by simp; omega
  have HH : Hid (∀ W, Calls Tryd.prog 28 #[.int .u64 (g : Int), .int .i64 x.t] W fun e w' => e = .returned (.bool true) ∧ Below W.heap.size W w') := Lib.hid (fun W => by
    refine (has_any g x.t W hg (by omega)).mono ?_
    rintro e w' ⟨rfl, rfl⟩
    exact ⟨by rw [h6], Below.refl _ _⟩)
  have hs3 := T_sub ht hsi
  have d7 : decide (c.dwell ≤ t - x.si) = false := by simp; omega
  try clear hp
  try clear hB
  try clear hb
  try clear hch
  try clear hsi
  try clear ht
  try clear hlen
  try clear h1
  try clear hxt
  try clear hg
  try clear hb1
  try clear hn
  try clear h2
  try clear h4
  try clear h6
  try clear h7
  go_enter Tryd.func26, Tryd.ntmps26
  go_wp2_with (first | ((with_reducible refine Kx.absorb HB ?_); clear HB; intro w_ HB) | ((with_reducible refine Kx.box_gate (d := some 5) ?_); (first | refine Kx.boxa HB rfl ?_ | refine Kx.boxt HB rfl rfl ?_ | refine Kx.box1 HB rfl rfl ?_); clear HB; intro b5 w_ HB; refine Kx.fr ?_) | ((with_reducible refine Kx.alloc_gate (d := some 5) ?_); (first | refine Kx.ala HB ?_ | refine Kx.al1 HB ?_); clear HB; intro b5 w_ HB; refine Kx.fr ?_) | ((with_reducible refine Kx.box_gate (d := some 6) ?_); (first | refine Kx.boxa HB rfl ?_ | refine Kx.boxt HB rfl rfl ?_ | refine Kx.box1 HB rfl rfl ?_); clear HB; intro b6 w_ HB; refine Kx.fr ?_) | ((with_reducible refine Kx.alloc_gate (d := some 6) ?_); (first | refine Kx.ala HB ?_ | refine Kx.al1 HB ?_); clear HB; intro b6 w_ HB; refine Kx.fr ?_) | ((with_reducible refine Kx.box_gate ?_); (first | refine Kx.boxa HB rfl ?_ | refine Kx.boxt HB rfl rfl ?_ | refine Kx.box1 HB rfl rfl ?_); clear HB; intro b_ w_ HB; refine Kx.fr ?_) | ((with_reducible refine Kx.alloc_gate ?_); (first | refine Kx.ala HB ?_ | refine Kx.al1 HB ?_); clear HB; intro b_ w_ HB; refine Kx.fr ?_) | ((with_reducible refine Kx.loads_gate ?_); first | refine Kx.l1 HB rfl rfl ?_ | refine Kx.la HB rfl ?_ | refine Kx.lo HB rfl HC.out ?_) | ((with_reducible refine Kx.loadg_gate ?_); first | refine Kx.l1g HB rfl rfl rfl ?_ | refine Kx.lag HB rfl rfl ?_ | refine Kx.log HB rfl HC.out rfl ?_) | ((with_reducible refine Kx.store_gate ?_); (first | refine Kx.stwa HB rfl rfl ?_ | refine Kx.sta HB rfl rfl ?_ | refine Kx.stc HB rfl rfl ?_ | refine Kx.stt HB rfl rfl rfl ?_ | refine Kx.st1 HB rfl rfl rfl ?_); clear HB; intro w_ HB))
  refine Kx.region_x HB (fun i => false) (by kernel_rfl) ?_
  refine Kx.tk 0 rfl ?_
  refine Kx.tk 1 rfl ?_
  refine anyW_take (i := 2) (v := ?v2_46) (a' := ?a2_46) (by first | exact Kx.bears_x | exact bears_u | assumption) rfl (by kernel_rfl) (by kernel_rfl) (by kernel_rfl) (fun _ _ _ h => h) (by kernel_rfl) ?w2_46 ?y2_46 ?f2_46 ?r2_46
  case w2_46 => kernel_rfl
  case y2_46 => (intro W hW; first | (refine Eq.trans (Kx.tells_load1_x (v := .int .i64 x.t) hW b6 1 rfl (pc x A n c0 A' n' c') inferInstance (Tryd.isAgg3 _) rfl) ?_; with_reducible rfl))
  case f2_46 => (go_simp; try with_reducible rfl)
  refine Kx.tk 3 rfl ?_
  refine Kx.tk 4 rfl ?_
  refine Kx.tk 5 rfl ?_
  refine Kx.tk 6 rfl ?_
  refine Kx.tk 7 rfl ?_
  refine Kx.sk 8 rfl ?_
  refine Kx.sk 9 rfl ?_
  refine Kx.sk 10 rfl ?_
  refine Kx.sk 11 rfl ?_
  refine Kx.sk 12 rfl ?_
  refine Kx.sk 13 rfl ?_
  refine Kx.sk 14 rfl ?_
  refine Kx.sk 15 rfl ?_
  refine Kx.sk 16 rfl ?_
  refine Kx.sk 17 rfl ?_
  refine Kx.sk 18 rfl ?_
  refine Kx.tk 19 rfl ?_
  refine Kx.tk 20 rfl ?_
  refine anyW_done (by kernel_rfl) ?_
  clear HB
  intro w_ HB_
  have HB := Lib.hid HB_
  clear HB_
  go_wp2_with fail
  refine Kx.region_x HB (fun i => false) (by kernel_rfl) ?_
  refine Kx.tk 0 rfl ?_
  refine Kx.tk 1 rfl ?_
  refine anyW_take (i := 2) (v := ?v2_47) (a' := ?a2_47) (by first | exact Kx.bears_x | exact bears_u | assumption) rfl (by kernel_rfl) (by kernel_rfl) (by kernel_rfl) (fun _ _ _ h => h) (by kernel_rfl) ?w2_47 ?y2_47 ?f2_47 ?r2_47
  case w2_47 => kernel_rfl
  case y2_47 => (intro W hW; first | (refine Eq.trans (Kx.tells_load1_x (v := .int .i64 (b : Int)) hW b5 16 rfl (cf c) inferInstance (Tryd.isAgg3 _) HBC.out) ?_; with_reducible rfl))
  case f2_47 => (go_simp; try with_reducible rfl)
  refine Kx.tk 3 rfl ?_
  refine Kx.tk 4 rfl ?_
  refine Kx.sk 5 rfl ?_
  refine Kx.sk 6 rfl ?_
  refine Kx.sk 7 rfl ?_
  refine Kx.sk 8 rfl ?_
  refine Kx.sk 9 rfl ?_
  refine Kx.sk 10 rfl ?_
  refine Kx.sk 11 rfl ?_
  refine Kx.sk 12 rfl ?_
  refine Kx.sk 13 rfl ?_
  refine Kx.sk 14 rfl ?_
  refine Kx.sk 15 rfl ?_
  refine Kx.sk 16 rfl ?_
  refine Kx.sk 17 rfl ?_
  refine Kx.tk 18 rfl ?_
  refine anyW_done (by kernel_rfl) ?_
  clear HB
  intro w_ HB_
  have HB := Lib.hid HB_
  clear HB_
  go_wp2_with (first | (go_at_call 28; refine Calls.mono (HH.out _) ?_; rintro e w_ ⟨rfl, hb_⟩; replace HB := Lib.hid (HB.out.call hb_); clear hb_) | (first | ((with_reducible refine Kx.absorb HB ?_); clear HB; intro w_ HB) | ((with_reducible refine Kx.box_gate ?_); (first | refine Kx.boxa HB rfl ?_ | refine Kx.boxt HB rfl rfl ?_ | refine Kx.box1 HB rfl rfl ?_); clear HB; intro b_ w_ HB; refine Kx.fr ?_) | ((with_reducible refine Kx.alloc_gate ?_); (first | refine Kx.ala HB ?_ | refine Kx.al1 HB ?_); clear HB; intro b_ w_ HB; refine Kx.fr ?_) | ((with_reducible refine Kx.loads_gate ?_); first | refine Kx.l1 HB rfl rfl ?_ | refine Kx.la HB rfl ?_ | refine Kx.lo HB rfl HC.out ?_) | ((with_reducible refine Kx.loadg_gate ?_); first | refine Kx.l1g HB rfl rfl rfl ?_ | refine Kx.lag HB rfl rfl ?_ | refine Kx.log HB rfl HC.out rfl ?_) | ((with_reducible refine Kx.store_gate ?_); (first | refine Kx.stwa HB rfl rfl ?_ | refine Kx.sta HB rfl rfl ?_ | refine Kx.stc HB rfl rfl ?_ | refine Kx.stt HB rfl rfl rfl ?_ | refine Kx.st1 HB rfl rfl rfl ?_); clear HB; intro w_ HB)))
  go_ret
  exact ⟨rfl, HB.out.below⟩

set_option maxRecDepth 100000 in
set_option maxHeartbeats 2000000 in
theorem May_few_not (c : Cf) (x : Gm.Pl) (A : Option Addr) (n c0 : Nat) (A' : Option Addr) (n' c' : Nat) (to t : Int) (g b B : Nat) (w : World) (hp : PAt w B x A n c0 A' n' c') (hB : B ≤ w.heap.size) (hg : g < 18446744073709551616) (hxt : x.t ≤ 15) (hb : c.b = (b : Int)) (hb1 : 1 ≤ b ∧ b ≤ 8) (hn : n' ≤ 8) (ht : Gm.T t) (hch : ∀ v ∈ x.ch, Gm.T v) (hsi : Gm.T x.si) (h1 : to ≠ x.t) (h2 : 0 < n') (h3 : ¬ t - x.ch.getD (n' - 1) 0 < c.d) (h4 : n' < b) (h6 : Gm.has g x.t = true) (h7 : ¬ c.dwell ≤ t - x.si) :
    Calls Tryd.prog 26 #[.agg (cf c).toArray, .agg (pc x A n c0 A' n' c').toArray, .int .i64 to, .int .u64 (g : Int), .int .i64 t] w fun e w' => e = .returned (.bool false) ∧ Below w.heap.size w w' := by
  have HB := Lib.hid (Bxs.start w)
  have HPN := Lib.hid hp.n'
  have hlen := hp.n'
  have HBC : Hid ((cf c)[16]? = some (.int .i64 (b : Int))) := Lib.hid (by rw [← hb]; rfl)
  have d1 : (to == x.t) = false := by simp [h1]
  have d2 : (0 : Int) < (n' : Int) := by omega
  have d2n : 0 < n' := by omega
  obtain ⟨ad, e1, -, hc1⟩ := (hp.ch.more hB).num (k := n' - 1) (by omega)
  obtain rfl := e1
  have hla := Gm.getD_in (P := Gm.T) hch ⟨by decide, by decide⟩ (n' - 1)
  have ha1 : IntKind.i64.wrap ((n' : Int) - 1) = ((n' - 1 : Nat) : Int) := by rw [IntKind.wrap_i64]; omega
  have ha2 : ((n' - 1 : Nat) : Int) < (n' : Int) := by omega
  obtain ⟨la, hl0⟩ : ∃ la, x.ch.getD (n' - 1) 0 = la := ⟨_, rfl⟩
  rw [hl0] at hc1 hla h3
  have HLA := Lib.hid hc1
  have hs1 := T_sub ht hla
  have d3 : decide (t - la < c.d) = false := by simp; omega
  have d4 : decide ((b : Int) ≤ (n' : Int)) = false := by simp; omega
  have d4n : decide (b ≤ n') = false := by simp; omega
  have HH : Hid (∀ W, Calls Tryd.prog 28 #[.int .u64 (g : Int), .int .i64 x.t] W fun e w' => e = .returned (.bool true) ∧ Below W.heap.size W w') := Lib.hid (fun W => by
    refine (has_any g x.t W hg (by omega)).mono ?_
    rintro e w' ⟨rfl, rfl⟩
    exact ⟨by rw [h6], Below.refl _ _⟩)
  have hs3 := T_sub ht hsi
  have d7 : decide (c.dwell ≤ t - x.si) = false := by simp; omega
  try clear hp
  try clear hB
  try clear hb
  try clear hch
  try clear hsi
  try clear ht
  try clear hlen
  try clear h1
  try clear hxt
  try clear hg
  try clear hb1
  try clear hn
  try clear h2
  try clear h3
  try clear hl0
  try clear hla
  try clear hc1
  try clear h4
  try clear h6
  try clear h7
  go_enter Tryd.func26, Tryd.ntmps26
  go_wp2_with (first | ((with_reducible refine Kx.absorb HB ?_); clear HB; intro w_ HB) | ((with_reducible refine Kx.box_gate (d := some 5) ?_); (first | refine Kx.boxa HB rfl ?_ | refine Kx.boxt HB rfl rfl ?_ | refine Kx.box1 HB rfl rfl ?_); clear HB; intro b5 w_ HB; refine Kx.fr ?_) | ((with_reducible refine Kx.alloc_gate (d := some 5) ?_); (first | refine Kx.ala HB ?_ | refine Kx.al1 HB ?_); clear HB; intro b5 w_ HB; refine Kx.fr ?_) | ((with_reducible refine Kx.box_gate (d := some 6) ?_); (first | refine Kx.boxa HB rfl ?_ | refine Kx.boxt HB rfl rfl ?_ | refine Kx.box1 HB rfl rfl ?_); clear HB; intro b6 w_ HB; refine Kx.fr ?_) | ((with_reducible refine Kx.alloc_gate (d := some 6) ?_); (first | refine Kx.ala HB ?_ | refine Kx.al1 HB ?_); clear HB; intro b6 w_ HB; refine Kx.fr ?_) | ((with_reducible refine Kx.box_gate ?_); (first | refine Kx.boxa HB rfl ?_ | refine Kx.boxt HB rfl rfl ?_ | refine Kx.box1 HB rfl rfl ?_); clear HB; intro b_ w_ HB; refine Kx.fr ?_) | ((with_reducible refine Kx.alloc_gate ?_); (first | refine Kx.ala HB ?_ | refine Kx.al1 HB ?_); clear HB; intro b_ w_ HB; refine Kx.fr ?_) | ((with_reducible refine Kx.loads_gate ?_); first | refine Kx.l1 HB rfl rfl ?_ | refine Kx.la HB rfl ?_ | refine Kx.lo HB rfl HC.out ?_) | ((with_reducible refine Kx.loadg_gate ?_); first | refine Kx.l1g HB rfl rfl rfl ?_ | refine Kx.lag HB rfl rfl ?_ | refine Kx.log HB rfl HC.out rfl ?_) | ((with_reducible refine Kx.store_gate ?_); (first | refine Kx.stwa HB rfl rfl ?_ | refine Kx.sta HB rfl rfl ?_ | refine Kx.stc HB rfl rfl ?_ | refine Kx.stt HB rfl rfl rfl ?_ | refine Kx.st1 HB rfl rfl rfl ?_); clear HB; intro w_ HB))
  refine Kx.region_x HB (fun i => false) (by kernel_rfl) ?_
  refine Kx.tk 0 rfl ?_
  refine Kx.tk 1 rfl ?_
  refine anyW_take (i := 2) (v := ?v2_48) (a' := ?a2_48) (by first | exact Kx.bears_x | exact bears_u | assumption) rfl (by kernel_rfl) (by kernel_rfl) (by kernel_rfl) (fun _ _ _ h => h) (by kernel_rfl) ?w2_48 ?y2_48 ?f2_48 ?r2_48
  case w2_48 => kernel_rfl
  case y2_48 => (intro W hW; first | (refine Eq.trans (Kx.tells_load1_x (v := .int .i64 x.t) hW b6 1 rfl (pc x A n c0 (some ad) n' c') inferInstance (Tryd.isAgg3 _) rfl) ?_; with_reducible rfl))
  case f2_48 => (go_simp; try with_reducible rfl)
  refine Kx.tk 3 rfl ?_
  refine Kx.tk 4 rfl ?_
  refine Kx.tk 5 rfl ?_
  refine Kx.tk 6 rfl ?_
  refine Kx.tk 7 rfl ?_
  refine Kx.tk 8 rfl ?_
  refine Kx.tk 9 rfl ?_
  refine anyW_take (i := 10) (v := ?v10_49) (a' := ?a10_49) (by first | exact Kx.bears_x | exact bears_u | assumption) rfl (by kernel_rfl) (by kernel_rfl) (by kernel_rfl) (fun _ _ _ h => h) (by kernel_rfl) ?w10_49 ?y10_49 ?f10_49 ?r10_49
  case w10_49 => kernel_rfl
  case y10_49 => (intro W hW; first | (refine Eq.trans (Kx.tells_load1_x (v := .slice (some ad) n' c') hW b6 11 rfl (pc x A n c0 (some ad) n' c') inferInstance (Tryd.isAgg26 _) rfl) ?_; with_reducible rfl))
  case f10_49 => (go_simp; try with_reducible rfl)
  refine Kx.tk 11 rfl ?_
  refine Kx.tk 12 rfl ?_
  refine Kx.tk 13 rfl ?_
  refine anyW_take (i := 14) (v := ?v14_50) (a' := ?a14_50) (by first | exact Kx.bears_x | exact bears_u | assumption) rfl (by kernel_rfl) (by kernel_rfl) (by kernel_rfl) (fun _ _ _ h => h) (by kernel_rfl) ?w14_50 ?y14_50 ?f14_50 ?r14_50
  case w14_50 => kernel_rfl
  case y14_50 => (intro W hW; first | (refine Eq.trans (tells_cell (v := .int .i64 la) (ad.add (n' - 1)) rfl (Tryd.isAgg2 _) (hW.old HLA.out)) ?_; with_reducible rfl))
  case f14_50 => (go_simp; try with_reducible rfl)
  refine Kx.tk 15 rfl ?_
  refine Kx.tk 16 rfl ?_
  refine anyW_take (i := 17) (v := ?v17_51) (a' := ?a17_51) (by first | exact Kx.bears_x | exact bears_u | assumption) rfl (by kernel_rfl) (by kernel_rfl) (by kernel_rfl) (fun _ _ _ h => h) (by kernel_rfl) ?w17_51 ?y17_51 ?f17_51 ?r17_51
  case w17_51 => kernel_rfl
  case y17_51 => (intro W hW; first | (refine Eq.trans (Kx.tells_load1_x (v := .int .i64 c.d) hW b5 14 rfl (cf c) inferInstance (Tryd.isAgg2 _) rfl) ?_; with_reducible rfl))
  case f17_51 => (go_simp; try with_reducible rfl)
  refine Kx.tk 18 rfl ?_
  refine Kx.tk 19 rfl ?_
  refine Kx.tk 20 rfl ?_
  refine anyW_done (by kernel_rfl) ?_
  clear HB
  intro w_ HB_
  have HB := Lib.hid HB_
  clear HB_
  go_wp2_with fail
  refine Kx.region_x HB (fun i => false) (by kernel_rfl) ?_
  refine Kx.tk 0 rfl ?_
  refine Kx.tk 1 rfl ?_
  refine anyW_take (i := 2) (v := ?v2_52) (a' := ?a2_52) (by first | exact Kx.bears_x | exact bears_u | assumption) rfl (by kernel_rfl) (by kernel_rfl) (by kernel_rfl) (fun _ _ _ h => h) (by kernel_rfl) ?w2_52 ?y2_52 ?f2_52 ?r2_52
  case w2_52 => kernel_rfl
  case y2_52 => (intro W hW; first | (refine Eq.trans (Kx.tells_load1_x (v := .int .i64 (b : Int)) hW b5 16 rfl (cf c) inferInstance (Tryd.isAgg3 _) HBC.out) ?_; with_reducible rfl))
  case f2_52 => (go_simp; try with_reducible rfl)
  refine Kx.tk 3 rfl ?_
  refine Kx.tk 4 rfl ?_
  refine Kx.sk 5 rfl ?_
  refine Kx.sk 6 rfl ?_
  refine Kx.sk 7 rfl ?_
  refine Kx.sk 8 rfl ?_
  refine Kx.sk 9 rfl ?_
  refine Kx.sk 10 rfl ?_
  refine Kx.sk 11 rfl ?_
  refine Kx.sk 12 rfl ?_
  refine Kx.sk 13 rfl ?_
  refine Kx.sk 14 rfl ?_
  refine Kx.sk 15 rfl ?_
  refine Kx.sk 16 rfl ?_
  refine Kx.sk 17 rfl ?_
  refine Kx.tk 18 rfl ?_
  refine anyW_done (by kernel_rfl) ?_
  clear HB
  intro w_ HB_
  have HB := Lib.hid HB_
  clear HB_
  go_wp2_with (first | (go_at_call 28; refine Calls.mono (HH.out _) ?_; rintro e w_ ⟨rfl, hb_⟩; replace HB := Lib.hid (HB.out.call hb_); clear hb_) | (first | ((with_reducible refine Kx.absorb HB ?_); clear HB; intro w_ HB) | ((with_reducible refine Kx.box_gate ?_); (first | refine Kx.boxa HB rfl ?_ | refine Kx.boxt HB rfl rfl ?_ | refine Kx.box1 HB rfl rfl ?_); clear HB; intro b_ w_ HB; refine Kx.fr ?_) | ((with_reducible refine Kx.alloc_gate ?_); (first | refine Kx.ala HB ?_ | refine Kx.al1 HB ?_); clear HB; intro b_ w_ HB; refine Kx.fr ?_) | ((with_reducible refine Kx.loads_gate ?_); first | refine Kx.l1 HB rfl rfl ?_ | refine Kx.la HB rfl ?_ | refine Kx.lo HB rfl HC.out ?_) | ((with_reducible refine Kx.loadg_gate ?_); first | refine Kx.l1g HB rfl rfl rfl ?_ | refine Kx.lag HB rfl rfl ?_ | refine Kx.log HB rfl HC.out rfl ?_) | ((with_reducible refine Kx.store_gate ?_); (first | refine Kx.stwa HB rfl rfl ?_ | refine Kx.sta HB rfl rfl ?_ | refine Kx.stc HB rfl rfl ?_ | refine Kx.stt HB rfl rfl rfl ?_ | refine Kx.st1 HB rfl rfl rfl ?_); clear HB; intro w_ HB)))
  go_ret
  exact ⟨rfl, HB.out.below⟩

set_option maxRecDepth 100000 in
set_option maxHeartbeats 2000000 in
theorem May_ok_not (c : Cf) (x : Gm.Pl) (A : Option Addr) (n c0 : Nat) (A' : Option Addr) (n' c' : Nat) (to t : Int) (g b B : Nat) (w : World) (hp : PAt w B x A n c0 A' n' c') (hB : B ≤ w.heap.size) (hg : g < 18446744073709551616) (hxt : x.t ≤ 15) (hb : c.b = (b : Int)) (hb1 : 1 ≤ b ∧ b ≤ 8) (hn : n' ≤ 8) (ht : Gm.T t) (hch : ∀ v ∈ x.ch, Gm.T v) (hsi : Gm.T x.si) (h1 : to ≠ x.t) (h2 : 0 < n') (h3 : ¬ t - x.ch.getD (n' - 1) 0 < c.d) (h4 : b ≤ n') (h5 : ¬ t - x.ch.getD (n' - b) 0 ≤ c.w) (h6 : Gm.has g x.t = true) (h7 : ¬ c.dwell ≤ t - x.si) :
    Calls Tryd.prog 26 #[.agg (cf c).toArray, .agg (pc x A n c0 A' n' c').toArray, .int .i64 to, .int .u64 (g : Int), .int .i64 t] w fun e w' => e = .returned (.bool false) ∧ Below w.heap.size w w' := by
  have HB := Lib.hid (Bxs.start w)
  have HPN := Lib.hid hp.n'
  have hlen := hp.n'
  have HBC : Hid ((cf c)[16]? = some (.int .i64 (b : Int))) := Lib.hid (by rw [← hb]; rfl)
  have d1 : (to == x.t) = false := by simp [h1]
  have d2 : (0 : Int) < (n' : Int) := by omega
  have d2n : 0 < n' := by omega
  obtain ⟨ad, e1, -, hc1⟩ := (hp.ch.more hB).num (k := n' - 1) (by omega)
  obtain rfl := e1
  have hla := Gm.getD_in (P := Gm.T) hch ⟨by decide, by decide⟩ (n' - 1)
  have ha1 : IntKind.i64.wrap ((n' : Int) - 1) = ((n' - 1 : Nat) : Int) := by rw [IntKind.wrap_i64]; omega
  have ha2 : ((n' - 1 : Nat) : Int) < (n' : Int) := by omega
  obtain ⟨la, hl0⟩ : ∃ la, x.ch.getD (n' - 1) 0 = la := ⟨_, rfl⟩
  rw [hl0] at hc1 hla h3
  have HLA := Lib.hid hc1
  have hs1 := T_sub ht hla
  have d3 : decide (t - la < c.d) = false := by simp; omega
  have d4 : decide ((b : Int) ≤ (n' : Int)) = true := by simp; omega
  have d4n : decide (b ≤ n') = true := by simp; omega
  obtain ⟨ad', e2, -, hc2⟩ := (hp.ch.more hB).num (k := n' - b) (by omega)
  cases e2
  have hfi := Gm.getD_in (P := Gm.T) hch ⟨by decide, by decide⟩ (n' - b)
  have hb1' : IntKind.i64.wrap ((n' : Int) - (b : Int)) = ((n' - b : Nat) : Int) := by rw [IntKind.wrap_i64]; omega
  have hb2' : ((n' - b : Nat) : Int) < (n' : Int) := by omega
  obtain ⟨fi, hf0⟩ : ∃ fi, x.ch.getD (n' - b) 0 = fi := ⟨_, rfl⟩
  rw [hf0] at hc2 hfi h5
  have HFI := Lib.hid hc2
  have hs2 := T_sub ht hfi
  have d5 : decide (t - fi ≤ c.w) = false := by simp; omega
  have HH : Hid (∀ W, Calls Tryd.prog 28 #[.int .u64 (g : Int), .int .i64 x.t] W fun e w' => e = .returned (.bool true) ∧ Below W.heap.size W w') := Lib.hid (fun W => by
    refine (has_any g x.t W hg (by omega)).mono ?_
    rintro e w' ⟨rfl, rfl⟩
    exact ⟨by rw [h6], Below.refl _ _⟩)
  have hs3 := T_sub ht hsi
  have d7 : decide (c.dwell ≤ t - x.si) = false := by simp; omega
  try clear hp
  try clear hB
  try clear hb
  try clear hch
  try clear hsi
  try clear ht
  try clear hlen
  try clear h1
  try clear hxt
  try clear hg
  try clear hb1
  try clear hn
  try clear h2
  try clear h3
  try clear hl0
  try clear hla
  try clear hc1
  try clear h4
  try clear h5
  try clear hf0
  try clear hfi
  try clear hc2
  try clear h6
  try clear h7
  go_enter Tryd.func26, Tryd.ntmps26
  go_wp2_with (first | ((with_reducible refine Kx.absorb HB ?_); clear HB; intro w_ HB) | ((with_reducible refine Kx.box_gate (d := some 5) ?_); (first | refine Kx.boxa HB rfl ?_ | refine Kx.boxt HB rfl rfl ?_ | refine Kx.box1 HB rfl rfl ?_); clear HB; intro b5 w_ HB; refine Kx.fr ?_) | ((with_reducible refine Kx.alloc_gate (d := some 5) ?_); (first | refine Kx.ala HB ?_ | refine Kx.al1 HB ?_); clear HB; intro b5 w_ HB; refine Kx.fr ?_) | ((with_reducible refine Kx.box_gate (d := some 6) ?_); (first | refine Kx.boxa HB rfl ?_ | refine Kx.boxt HB rfl rfl ?_ | refine Kx.box1 HB rfl rfl ?_); clear HB; intro b6 w_ HB; refine Kx.fr ?_) | ((with_reducible refine Kx.alloc_gate (d := some 6) ?_); (first | refine Kx.ala HB ?_ | refine Kx.al1 HB ?_); clear HB; intro b6 w_ HB; refine Kx.fr ?_) | ((with_reducible refine Kx.box_gate ?_); (first | refine Kx.boxa HB rfl ?_ | refine Kx.boxt HB rfl rfl ?_ | refine Kx.box1 HB rfl rfl ?_); clear HB; intro b_ w_ HB; refine Kx.fr ?_) | ((with_reducible refine Kx.alloc_gate ?_); (first | refine Kx.ala HB ?_ | refine Kx.al1 HB ?_); clear HB; intro b_ w_ HB; refine Kx.fr ?_) | ((with_reducible refine Kx.loads_gate ?_); first | refine Kx.l1 HB rfl rfl ?_ | refine Kx.la HB rfl ?_ | refine Kx.lo HB rfl HC.out ?_) | ((with_reducible refine Kx.loadg_gate ?_); first | refine Kx.l1g HB rfl rfl rfl ?_ | refine Kx.lag HB rfl rfl ?_ | refine Kx.log HB rfl HC.out rfl ?_) | ((with_reducible refine Kx.store_gate ?_); (first | refine Kx.stwa HB rfl rfl ?_ | refine Kx.sta HB rfl rfl ?_ | refine Kx.stc HB rfl rfl ?_ | refine Kx.stt HB rfl rfl rfl ?_ | refine Kx.st1 HB rfl rfl rfl ?_); clear HB; intro w_ HB))
  refine Kx.region_x HB (fun i => false) (by kernel_rfl) ?_
  refine Kx.tk 0 rfl ?_
  refine Kx.tk 1 rfl ?_
  refine anyW_take (i := 2) (v := ?v2_53) (a' := ?a2_53) (by first | exact Kx.bears_x | exact bears_u | assumption) rfl (by kernel_rfl) (by kernel_rfl) (by kernel_rfl) (fun _ _ _ h => h) (by kernel_rfl) ?w2_53 ?y2_53 ?f2_53 ?r2_53
  case w2_53 => kernel_rfl
  case y2_53 => (intro W hW; first | (refine Eq.trans (Kx.tells_load1_x (v := .int .i64 x.t) hW b6 1 rfl (pc x A n c0 (some ad) n' c') inferInstance (Tryd.isAgg3 _) rfl) ?_; with_reducible rfl))
  case f2_53 => (go_simp; try with_reducible rfl)
  refine Kx.tk 3 rfl ?_
  refine Kx.tk 4 rfl ?_
  refine Kx.tk 5 rfl ?_
  refine Kx.tk 6 rfl ?_
  refine Kx.tk 7 rfl ?_
  refine Kx.tk 8 rfl ?_
  refine Kx.tk 9 rfl ?_
  refine anyW_take (i := 10) (v := ?v10_54) (a' := ?a10_54) (by first | exact Kx.bears_x | exact bears_u | assumption) rfl (by kernel_rfl) (by kernel_rfl) (by kernel_rfl) (fun _ _ _ h => h) (by kernel_rfl) ?w10_54 ?y10_54 ?f10_54 ?r10_54
  case w10_54 => kernel_rfl
  case y10_54 => (intro W hW; first | (refine Eq.trans (Kx.tells_load1_x (v := .slice (some ad) n' c') hW b6 11 rfl (pc x A n c0 (some ad) n' c') inferInstance (Tryd.isAgg26 _) rfl) ?_; with_reducible rfl))
  case f10_54 => (go_simp; try with_reducible rfl)
  refine Kx.tk 11 rfl ?_
  refine Kx.tk 12 rfl ?_
  refine Kx.tk 13 rfl ?_
  refine anyW_take (i := 14) (v := ?v14_55) (a' := ?a14_55) (by first | exact Kx.bears_x | exact bears_u | assumption) rfl (by kernel_rfl) (by kernel_rfl) (by kernel_rfl) (fun _ _ _ h => h) (by kernel_rfl) ?w14_55 ?y14_55 ?f14_55 ?r14_55
  case w14_55 => kernel_rfl
  case y14_55 => (intro W hW; first | (refine Eq.trans (tells_cell (v := .int .i64 la) (ad.add (n' - 1)) rfl (Tryd.isAgg2 _) (hW.old HLA.out)) ?_; with_reducible rfl))
  case f14_55 => (go_simp; try with_reducible rfl)
  refine Kx.tk 15 rfl ?_
  refine Kx.tk 16 rfl ?_
  refine anyW_take (i := 17) (v := ?v17_56) (a' := ?a17_56) (by first | exact Kx.bears_x | exact bears_u | assumption) rfl (by kernel_rfl) (by kernel_rfl) (by kernel_rfl) (fun _ _ _ h => h) (by kernel_rfl) ?w17_56 ?y17_56 ?f17_56 ?r17_56
  case w17_56 => kernel_rfl
  case y17_56 => (intro W hW; first | (refine Eq.trans (Kx.tells_load1_x (v := .int .i64 c.d) hW b5 14 rfl (cf c) inferInstance (Tryd.isAgg2 _) rfl) ?_; with_reducible rfl))
  case f17_56 => (go_simp; try with_reducible rfl)
  refine Kx.tk 18 rfl ?_
  refine Kx.tk 19 rfl ?_
  refine Kx.tk 20 rfl ?_
  refine anyW_done (by kernel_rfl) ?_
  clear HB
  intro w_ HB_
  have HB := Lib.hid HB_
  clear HB_
  go_wp2_with fail
  refine Kx.region_x HB (fun i => false) (by kernel_rfl) ?_
  refine Kx.tk 0 rfl ?_
  refine Kx.tk 1 rfl ?_
  refine anyW_take (i := 2) (v := ?v2_57) (a' := ?a2_57) (by first | exact Kx.bears_x | exact bears_u | assumption) rfl (by kernel_rfl) (by kernel_rfl) (by kernel_rfl) (fun _ _ _ h => h) (by kernel_rfl) ?w2_57 ?y2_57 ?f2_57 ?r2_57
  case w2_57 => kernel_rfl
  case y2_57 => (intro W hW; first | (refine Eq.trans (Kx.tells_load1_x (v := .int .i64 (b : Int)) hW b5 16 rfl (cf c) inferInstance (Tryd.isAgg3 _) HBC.out) ?_; with_reducible rfl))
  case f2_57 => (go_simp; try with_reducible rfl)
  refine Kx.tk 3 rfl ?_
  refine Kx.tk 4 rfl ?_
  refine Kx.tk 5 rfl ?_
  refine Kx.tk 6 rfl ?_
  refine anyW_take (i := 7) (v := ?v7_58) (a' := ?a7_58) (by first | exact Kx.bears_x | exact bears_u | assumption) rfl (by kernel_rfl) (by kernel_rfl) (by kernel_rfl) (fun _ _ _ h => h) (by kernel_rfl) ?w7_58 ?y7_58 ?f7_58 ?r7_58
  case w7_58 => kernel_rfl
  case y7_58 => (intro W hW; first | (refine Eq.trans (Kx.tells_load1_x (v := .slice (some ad) n' c') hW b6 11 rfl (pc x A n c0 (some ad) n' c') inferInstance (Tryd.isAgg26 _) rfl) ?_; with_reducible rfl))
  case f7_58 => (go_simp; try with_reducible rfl)
  refine Kx.tk 8 rfl ?_
  refine Kx.tk 9 rfl ?_
  refine anyW_take (i := 10) (v := ?v10_59) (a' := ?a10_59) (by first | exact Kx.bears_x | exact bears_u | assumption) rfl (by kernel_rfl) (by kernel_rfl) (by kernel_rfl) (fun _ _ _ h => h) (by kernel_rfl) ?w10_59 ?y10_59 ?f10_59 ?r10_59
  case w10_59 => kernel_rfl
  case y10_59 => (intro W hW; first | (refine Eq.trans (Kx.tells_load1_x (v := .int .i64 (b : Int)) hW b5 16 rfl (cf c) inferInstance (Tryd.isAgg3 _) HBC.out) ?_; with_reducible rfl))
  case f10_59 => (go_simp; try with_reducible rfl)
  refine Kx.tk 11 rfl ?_
  refine Kx.tk 12 rfl ?_
  refine anyW_take (i := 13) (v := ?v13_60) (a' := ?a13_60) (by first | exact Kx.bears_x | exact bears_u | assumption) rfl (by kernel_rfl) (by kernel_rfl) (by kernel_rfl) (fun _ _ _ h => h) (by kernel_rfl) ?w13_60 ?y13_60 ?f13_60 ?r13_60
  case w13_60 => kernel_rfl
  case y13_60 => (intro W hW; first | (refine Eq.trans (tells_cell (v := .int .i64 fi) (ad.add (n' - b)) rfl (Tryd.isAgg2 _) (hW.old HFI.out)) ?_; with_reducible rfl))
  case f13_60 => (go_simp; try with_reducible rfl)
  refine Kx.tk 14 rfl ?_
  refine Kx.tk 15 rfl ?_
  refine anyW_take (i := 16) (v := ?v16_61) (a' := ?a16_61) (by first | exact Kx.bears_x | exact bears_u | assumption) rfl (by kernel_rfl) (by kernel_rfl) (by kernel_rfl) (fun _ _ _ h => h) (by kernel_rfl) ?w16_61 ?y16_61 ?f16_61 ?r16_61
  case w16_61 => kernel_rfl
  case y16_61 => (intro W hW; first | (refine Eq.trans (Kx.tells_load1_x (v := .int .i64 c.w) hW b5 15 rfl (cf c) inferInstance (Tryd.isAgg2 _) rfl) ?_; with_reducible rfl))
  case f16_61 => (go_simp; try with_reducible rfl)
  refine Kx.tk 17 rfl ?_
  refine Kx.tk 18 rfl ?_
  refine anyW_done (by kernel_rfl) ?_
  clear HB
  intro w_ HB_
  have HB := Lib.hid HB_
  clear HB_
  go_wp2_with (first | (go_at_call 28; refine Calls.mono (HH.out _) ?_; rintro e w_ ⟨rfl, hb_⟩; replace HB := Lib.hid (HB.out.call hb_); clear hb_) | (first | ((with_reducible refine Kx.absorb HB ?_); clear HB; intro w_ HB) | ((with_reducible refine Kx.box_gate ?_); (first | refine Kx.boxa HB rfl ?_ | refine Kx.boxt HB rfl rfl ?_ | refine Kx.box1 HB rfl rfl ?_); clear HB; intro b_ w_ HB; refine Kx.fr ?_) | ((with_reducible refine Kx.alloc_gate ?_); (first | refine Kx.ala HB ?_ | refine Kx.al1 HB ?_); clear HB; intro b_ w_ HB; refine Kx.fr ?_) | ((with_reducible refine Kx.loads_gate ?_); first | refine Kx.l1 HB rfl rfl ?_ | refine Kx.la HB rfl ?_ | refine Kx.lo HB rfl HC.out ?_) | ((with_reducible refine Kx.loadg_gate ?_); first | refine Kx.l1g HB rfl rfl rfl ?_ | refine Kx.lag HB rfl rfl ?_ | refine Kx.log HB rfl HC.out rfl ?_) | ((with_reducible refine Kx.store_gate ?_); (first | refine Kx.stwa HB rfl rfl ?_ | refine Kx.sta HB rfl rfl ?_ | refine Kx.stc HB rfl rfl ?_ | refine Kx.stt HB rfl rfl rfl ?_ | refine Kx.st1 HB rfl rfl rfl ?_); clear HB; intro w_ HB)))
  go_ret
  exact ⟨rfl, HB.out.below⟩

set_option maxRecDepth 100000 in
set_option maxHeartbeats 2000000 in
theorem May_early (c : Cf) (x : Gm.Pl) (A : Option Addr) (n c0 : Nat) (A' : Option Addr) (n' c' : Nat) (to t : Int) (g b B : Nat) (w : World) (hp : PAt w B x A n c0 A' n' c') (hB : B ≤ w.heap.size) (hg : g < 18446744073709551616) (hxt : x.t ≤ 15) (hb : c.b = (b : Int)) (hb1 : 1 ≤ b ∧ b ≤ 8) (hn : n' ≤ 8) (ht : Gm.T t) (hch : ∀ v ∈ x.ch, Gm.T v) (hsi : Gm.T x.si) (h1 : to ≠ x.t) (h2 : 0 < n') (h3 : t - x.ch.getD (n' - 1) 0 < c.d) :
    Calls Tryd.prog 26 #[.agg (cf c).toArray, .agg (pc x A n c0 A' n' c').toArray, .int .i64 to, .int .u64 (g : Int), .int .i64 t] w fun e w' => e = .returned (.bool false) ∧ Below w.heap.size w w' := by
  have HB := Lib.hid (Bxs.start w)
  have HPN := Lib.hid hp.n'
  have hlen := hp.n'
  have HBC : Hid ((cf c)[16]? = some (.int .i64 (b : Int))) := Lib.hid (by rw [← hb]; rfl)
  have d1 : (to == x.t) = false := by simp [h1]
  have d2 : (0 : Int) < (n' : Int) := by omega
  have d2n : 0 < n' := by omega
  obtain ⟨ad, e1, -, hc1⟩ := (hp.ch.more hB).num (k := n' - 1) (by omega)
  obtain rfl := e1
  have hla := Gm.getD_in (P := Gm.T) hch ⟨by decide, by decide⟩ (n' - 1)
  have ha1 : IntKind.i64.wrap ((n' : Int) - 1) = ((n' - 1 : Nat) : Int) := by rw [IntKind.wrap_i64]; omega
  have ha2 : ((n' - 1 : Nat) : Int) < (n' : Int) := by omega
  obtain ⟨la, hl0⟩ : ∃ la, x.ch.getD (n' - 1) 0 = la := ⟨_, rfl⟩
  rw [hl0] at hc1 hla h3
  have HLA := Lib.hid hc1
  have hs1 := T_sub ht hla
  have d3 : decide (t - la < c.d) = true := by simp; omega
  try clear hp
  try clear hB
  try clear hb
  try clear hch
  try clear hsi
  try clear ht
  try clear hlen
  try clear h1
  try clear hxt
  try clear hg
  try clear hb1
  try clear hn
  try clear h2
  try clear h3
  try clear hl0
  try clear hla
  try clear hc1
  go_enter Tryd.func26, Tryd.ntmps26
  go_wp2_with (first | ((with_reducible refine Kx.absorb HB ?_); clear HB; intro w_ HB) | ((with_reducible refine Kx.box_gate (d := some 5) ?_); (first | refine Kx.boxa HB rfl ?_ | refine Kx.boxt HB rfl rfl ?_ | refine Kx.box1 HB rfl rfl ?_); clear HB; intro b5 w_ HB; refine Kx.fr ?_) | ((with_reducible refine Kx.alloc_gate (d := some 5) ?_); (first | refine Kx.ala HB ?_ | refine Kx.al1 HB ?_); clear HB; intro b5 w_ HB; refine Kx.fr ?_) | ((with_reducible refine Kx.box_gate (d := some 6) ?_); (first | refine Kx.boxa HB rfl ?_ | refine Kx.boxt HB rfl rfl ?_ | refine Kx.box1 HB rfl rfl ?_); clear HB; intro b6 w_ HB; refine Kx.fr ?_) | ((with_reducible refine Kx.alloc_gate (d := some 6) ?_); (first | refine Kx.ala HB ?_ | refine Kx.al1 HB ?_); clear HB; intro b6 w_ HB; refine Kx.fr ?_) | ((with_reducible refine Kx.box_gate ?_); (first | refine Kx.boxa HB rfl ?_ | refine Kx.boxt HB rfl rfl ?_ | refine Kx.box1 HB rfl rfl ?_); clear HB; intro b_ w_ HB; refine Kx.fr ?_) | ((with_reducible refine Kx.alloc_gate ?_); (first | refine Kx.ala HB ?_ | refine Kx.al1 HB ?_); clear HB; intro b_ w_ HB; refine Kx.fr ?_) | ((with_reducible refine Kx.loads_gate ?_); first | refine Kx.l1 HB rfl rfl ?_ | refine Kx.la HB rfl ?_ | refine Kx.lo HB rfl HC.out ?_) | ((with_reducible refine Kx.loadg_gate ?_); first | refine Kx.l1g HB rfl rfl rfl ?_ | refine Kx.lag HB rfl rfl ?_ | refine Kx.log HB rfl HC.out rfl ?_) | ((with_reducible refine Kx.store_gate ?_); (first | refine Kx.stwa HB rfl rfl ?_ | refine Kx.sta HB rfl rfl ?_ | refine Kx.stc HB rfl rfl ?_ | refine Kx.stt HB rfl rfl rfl ?_ | refine Kx.st1 HB rfl rfl rfl ?_); clear HB; intro w_ HB))
  refine Kx.region_x HB (fun i => false) (by kernel_rfl) ?_
  refine Kx.tk 0 rfl ?_
  refine Kx.tk 1 rfl ?_
  refine anyW_take (i := 2) (v := ?v2_62) (a' := ?a2_62) (by first | exact Kx.bears_x | exact bears_u | assumption) rfl (by kernel_rfl) (by kernel_rfl) (by kernel_rfl) (fun _ _ _ h => h) (by kernel_rfl) ?w2_62 ?y2_62 ?f2_62 ?r2_62
  case w2_62 => kernel_rfl
  case y2_62 => (intro W hW; first | (refine Eq.trans (Kx.tells_load1_x (v := .int .i64 x.t) hW b6 1 rfl (pc x A n c0 (some ad) n' c') inferInstance (Tryd.isAgg3 _) rfl) ?_; with_reducible rfl))
  case f2_62 => (go_simp; try with_reducible rfl)
  refine Kx.tk 3 rfl ?_
  refine Kx.tk 4 rfl ?_
  refine Kx.tk 5 rfl ?_
  refine Kx.tk 6 rfl ?_
  refine Kx.tk 7 rfl ?_
  refine Kx.tk 8 rfl ?_
  refine Kx.tk 9 rfl ?_
  refine anyW_take (i := 10) (v := ?v10_63) (a' := ?a10_63) (by first | exact Kx.bears_x | exact bears_u | assumption) rfl (by kernel_rfl) (by kernel_rfl) (by kernel_rfl) (fun _ _ _ h => h) (by kernel_rfl) ?w10_63 ?y10_63 ?f10_63 ?r10_63
  case w10_63 => kernel_rfl
  case y10_63 => (intro W hW; first | (refine Eq.trans (Kx.tells_load1_x (v := .slice (some ad) n' c') hW b6 11 rfl (pc x A n c0 (some ad) n' c') inferInstance (Tryd.isAgg26 _) rfl) ?_; with_reducible rfl))
  case f10_63 => (go_simp; try with_reducible rfl)
  refine Kx.tk 11 rfl ?_
  refine Kx.tk 12 rfl ?_
  refine Kx.tk 13 rfl ?_
  refine anyW_take (i := 14) (v := ?v14_64) (a' := ?a14_64) (by first | exact Kx.bears_x | exact bears_u | assumption) rfl (by kernel_rfl) (by kernel_rfl) (by kernel_rfl) (fun _ _ _ h => h) (by kernel_rfl) ?w14_64 ?y14_64 ?f14_64 ?r14_64
  case w14_64 => kernel_rfl
  case y14_64 => (intro W hW; first | (refine Eq.trans (tells_cell (v := .int .i64 la) (ad.add (n' - 1)) rfl (Tryd.isAgg2 _) (hW.old HLA.out)) ?_; with_reducible rfl))
  case f14_64 => (go_simp; try with_reducible rfl)
  refine Kx.tk 15 rfl ?_
  refine Kx.tk 16 rfl ?_
  refine anyW_take (i := 17) (v := ?v17_65) (a' := ?a17_65) (by first | exact Kx.bears_x | exact bears_u | assumption) rfl (by kernel_rfl) (by kernel_rfl) (by kernel_rfl) (fun _ _ _ h => h) (by kernel_rfl) ?w17_65 ?y17_65 ?f17_65 ?r17_65
  case w17_65 => kernel_rfl
  case y17_65 => (intro W hW; first | (refine Eq.trans (Kx.tells_load1_x (v := .int .i64 c.d) hW b5 14 rfl (cf c) inferInstance (Tryd.isAgg2 _) rfl) ?_; with_reducible rfl))
  case f17_65 => (go_simp; try with_reducible rfl)
  refine Kx.tk 18 rfl ?_
  refine Kx.tk 19 rfl ?_
  refine Kx.tk 20 rfl ?_
  refine anyW_done (by kernel_rfl) ?_
  clear HB
  intro w_ HB_
  have HB := Lib.hid HB_
  clear HB_
  go_wp2_with fail
  go_ret
  exact ⟨rfl, HB.out.below⟩

set_option maxRecDepth 100000 in
set_option maxHeartbeats 2000000 in
theorem May_recent (c : Cf) (x : Gm.Pl) (A : Option Addr) (n c0 : Nat) (A' : Option Addr) (n' c' : Nat) (to t : Int) (g b B : Nat) (w : World) (hp : PAt w B x A n c0 A' n' c') (hB : B ≤ w.heap.size) (hg : g < 18446744073709551616) (hxt : x.t ≤ 15) (hb : c.b = (b : Int)) (hb1 : 1 ≤ b ∧ b ≤ 8) (hn : n' ≤ 8) (ht : Gm.T t) (hch : ∀ v ∈ x.ch, Gm.T v) (hsi : Gm.T x.si) (h1 : to ≠ x.t) (h2 : 0 < n') (h3 : ¬ t - x.ch.getD (n' - 1) 0 < c.d) (h4 : b ≤ n') (h5 : t - x.ch.getD (n' - b) 0 ≤ c.w) :
    Calls Tryd.prog 26 #[.agg (cf c).toArray, .agg (pc x A n c0 A' n' c').toArray, .int .i64 to, .int .u64 (g : Int), .int .i64 t] w fun e w' => e = .returned (.bool false) ∧ Below w.heap.size w w' := by
  have HB := Lib.hid (Bxs.start w)
  have HPN := Lib.hid hp.n'
  have hlen := hp.n'
  have HBC : Hid ((cf c)[16]? = some (.int .i64 (b : Int))) := Lib.hid (by rw [← hb]; rfl)
  have d1 : (to == x.t) = false := by simp [h1]
  have d2 : (0 : Int) < (n' : Int) := by omega
  have d2n : 0 < n' := by omega
  obtain ⟨ad, e1, -, hc1⟩ := (hp.ch.more hB).num (k := n' - 1) (by omega)
  obtain rfl := e1
  have hla := Gm.getD_in (P := Gm.T) hch ⟨by decide, by decide⟩ (n' - 1)
  have ha1 : IntKind.i64.wrap ((n' : Int) - 1) = ((n' - 1 : Nat) : Int) := by rw [IntKind.wrap_i64]; omega
  have ha2 : ((n' - 1 : Nat) : Int) < (n' : Int) := by omega
  obtain ⟨la, hl0⟩ : ∃ la, x.ch.getD (n' - 1) 0 = la := ⟨_, rfl⟩
  rw [hl0] at hc1 hla h3
  have HLA := Lib.hid hc1
  have hs1 := T_sub ht hla
  have d3 : decide (t - la < c.d) = false := by simp; omega
  have d4 : decide ((b : Int) ≤ (n' : Int)) = true := by simp; omega
  have d4n : decide (b ≤ n') = true := by simp; omega
  obtain ⟨ad', e2, -, hc2⟩ := (hp.ch.more hB).num (k := n' - b) (by omega)
  cases e2
  have hfi := Gm.getD_in (P := Gm.T) hch ⟨by decide, by decide⟩ (n' - b)
  have hb1' : IntKind.i64.wrap ((n' : Int) - (b : Int)) = ((n' - b : Nat) : Int) := by rw [IntKind.wrap_i64]; omega
  have hb2' : ((n' - b : Nat) : Int) < (n' : Int) := by omega
  obtain ⟨fi, hf0⟩ : ∃ fi, x.ch.getD (n' - b) 0 = fi := ⟨_, rfl⟩
  rw [hf0] at hc2 hfi h5
  have HFI := Lib.hid hc2
  have hs2 := T_sub ht hfi
  have d5 : decide (t - fi ≤ c.w) = true := by simp; omega
  try clear hp
  try clear hB
  try clear hb
  try clear hch
  try clear hsi
  try clear ht
  try clear hlen
  try clear h1
  try clear hxt
  try clear hg
  try clear hb1
  try clear hn
  try clear h2
  try clear h3
  try clear hl0
  try clear hla
  try clear hc1
  try clear h4
  try clear h5
  try clear hf0
  try clear hfi
  try clear hc2
  go_enter Tryd.func26, Tryd.ntmps26
  go_wp2_with (first | ((with_reducible refine Kx.absorb HB ?_); clear HB; intro w_ HB) | ((with_reducible refine Kx.box_gate (d := some 5) ?_); (first | refine Kx.boxa HB rfl ?_ | refine Kx.boxt HB rfl rfl ?_ | refine Kx.box1 HB rfl rfl ?_); clear HB; intro b5 w_ HB; refine Kx.fr ?_) | ((with_reducible refine Kx.alloc_gate (d := some 5) ?_); (first | refine Kx.ala HB ?_ | refine Kx.al1 HB ?_); clear HB; intro b5 w_ HB; refine Kx.fr ?_) | ((with_reducible refine Kx.box_gate (d := some 6) ?_); (first | refine Kx.boxa HB rfl ?_ | refine Kx.boxt HB rfl rfl ?_ | refine Kx.box1 HB rfl rfl ?_); clear HB; intro b6 w_ HB; refine Kx.fr ?_) | ((with_reducible refine Kx.alloc_gate (d := some 6) ?_); (first | refine Kx.ala HB ?_ | refine Kx.al1 HB ?_); clear HB; intro b6 w_ HB; refine Kx.fr ?_) | ((with_reducible refine Kx.box_gate ?_); (first | refine Kx.boxa HB rfl ?_ | refine Kx.boxt HB rfl rfl ?_ | refine Kx.box1 HB rfl rfl ?_); clear HB; intro b_ w_ HB; refine Kx.fr ?_) | ((with_reducible refine Kx.alloc_gate ?_); (first | refine Kx.ala HB ?_ | refine Kx.al1 HB ?_); clear HB; intro b_ w_ HB; refine Kx.fr ?_) | ((with_reducible refine Kx.loads_gate ?_); first | refine Kx.l1 HB rfl rfl ?_ | refine Kx.la HB rfl ?_ | refine Kx.lo HB rfl HC.out ?_) | ((with_reducible refine Kx.loadg_gate ?_); first | refine Kx.l1g HB rfl rfl rfl ?_ | refine Kx.lag HB rfl rfl ?_ | refine Kx.log HB rfl HC.out rfl ?_) | ((with_reducible refine Kx.store_gate ?_); (first | refine Kx.stwa HB rfl rfl ?_ | refine Kx.sta HB rfl rfl ?_ | refine Kx.stc HB rfl rfl ?_ | refine Kx.stt HB rfl rfl rfl ?_ | refine Kx.st1 HB rfl rfl rfl ?_); clear HB; intro w_ HB))
  refine Kx.region_x HB (fun i => false) (by kernel_rfl) ?_
  refine Kx.tk 0 rfl ?_
  refine Kx.tk 1 rfl ?_
  refine anyW_take (i := 2) (v := ?v2_66) (a' := ?a2_66) (by first | exact Kx.bears_x | exact bears_u | assumption) rfl (by kernel_rfl) (by kernel_rfl) (by kernel_rfl) (fun _ _ _ h => h) (by kernel_rfl) ?w2_66 ?y2_66 ?f2_66 ?r2_66
  case w2_66 => kernel_rfl
  case y2_66 => (intro W hW; first | (refine Eq.trans (Kx.tells_load1_x (v := .int .i64 x.t) hW b6 1 rfl (pc x A n c0 (some ad) n' c') inferInstance (Tryd.isAgg3 _) rfl) ?_; with_reducible rfl))
  case f2_66 => (go_simp; try with_reducible rfl)
  refine Kx.tk 3 rfl ?_
  refine Kx.tk 4 rfl ?_
  refine Kx.tk 5 rfl ?_
  refine Kx.tk 6 rfl ?_
  refine Kx.tk 7 rfl ?_
  refine Kx.tk 8 rfl ?_
  refine Kx.tk 9 rfl ?_
  refine anyW_take (i := 10) (v := ?v10_67) (a' := ?a10_67) (by first | exact Kx.bears_x | exact bears_u | assumption) rfl (by kernel_rfl) (by kernel_rfl) (by kernel_rfl) (fun _ _ _ h => h) (by kernel_rfl) ?w10_67 ?y10_67 ?f10_67 ?r10_67
  case w10_67 => kernel_rfl
  case y10_67 => (intro W hW; first | (refine Eq.trans (Kx.tells_load1_x (v := .slice (some ad) n' c') hW b6 11 rfl (pc x A n c0 (some ad) n' c') inferInstance (Tryd.isAgg26 _) rfl) ?_; with_reducible rfl))
  case f10_67 => (go_simp; try with_reducible rfl)
  refine Kx.tk 11 rfl ?_
  refine Kx.tk 12 rfl ?_
  refine Kx.tk 13 rfl ?_
  refine anyW_take (i := 14) (v := ?v14_68) (a' := ?a14_68) (by first | exact Kx.bears_x | exact bears_u | assumption) rfl (by kernel_rfl) (by kernel_rfl) (by kernel_rfl) (fun _ _ _ h => h) (by kernel_rfl) ?w14_68 ?y14_68 ?f14_68 ?r14_68
  case w14_68 => kernel_rfl
  case y14_68 => (intro W hW; first | (refine Eq.trans (tells_cell (v := .int .i64 la) (ad.add (n' - 1)) rfl (Tryd.isAgg2 _) (hW.old HLA.out)) ?_; with_reducible rfl))
  case f14_68 => (go_simp; try with_reducible rfl)
  refine Kx.tk 15 rfl ?_
  refine Kx.tk 16 rfl ?_
  refine anyW_take (i := 17) (v := ?v17_69) (a' := ?a17_69) (by first | exact Kx.bears_x | exact bears_u | assumption) rfl (by kernel_rfl) (by kernel_rfl) (by kernel_rfl) (fun _ _ _ h => h) (by kernel_rfl) ?w17_69 ?y17_69 ?f17_69 ?r17_69
  case w17_69 => kernel_rfl
  case y17_69 => (intro W hW; first | (refine Eq.trans (Kx.tells_load1_x (v := .int .i64 c.d) hW b5 14 rfl (cf c) inferInstance (Tryd.isAgg2 _) rfl) ?_; with_reducible rfl))
  case f17_69 => (go_simp; try with_reducible rfl)
  refine Kx.tk 18 rfl ?_
  refine Kx.tk 19 rfl ?_
  refine Kx.tk 20 rfl ?_
  refine anyW_done (by kernel_rfl) ?_
  clear HB
  intro w_ HB_
  have HB := Lib.hid HB_
  clear HB_
  go_wp2_with fail
  refine Kx.region_x HB (fun i => false) (by kernel_rfl) ?_
  refine Kx.tk 0 rfl ?_
  refine Kx.tk 1 rfl ?_
  refine anyW_take (i := 2) (v := ?v2_70) (a' := ?a2_70) (by first | exact Kx.bears_x | exact bears_u | assumption) rfl (by kernel_rfl) (by kernel_rfl) (by kernel_rfl) (fun _ _ _ h => h) (by kernel_rfl) ?w2_70 ?y2_70 ?f2_70 ?r2_70
  case w2_70 => kernel_rfl
  case y2_70 => (intro W hW; first | (refine Eq.trans (Kx.tells_load1_x (v := .int .i64 (b : Int)) hW b5 16 rfl (cf c) inferInstance (Tryd.isAgg3 _) HBC.out) ?_; with_reducible rfl))
  case f2_70 => (go_simp; try with_reducible rfl)
  refine Kx.tk 3 rfl ?_
  refine Kx.tk 4 rfl ?_
  refine Kx.tk 5 rfl ?_
  refine Kx.tk 6 rfl ?_
  refine anyW_take (i := 7) (v := ?v7_71) (a' := ?a7_71) (by first | exact Kx.bears_x | exact bears_u | assumption) rfl (by kernel_rfl) (by kernel_rfl) (by kernel_rfl) (fun _ _ _ h => h) (by kernel_rfl) ?w7_71 ?y7_71 ?f7_71 ?r7_71
  case w7_71 => kernel_rfl
  case y7_71 => (intro W hW; first | (refine Eq.trans (Kx.tells_load1_x (v := .slice (some ad) n' c') hW b6 11 rfl (pc x A n c0 (some ad) n' c') inferInstance (Tryd.isAgg26 _) rfl) ?_; with_reducible rfl))
  case f7_71 => (go_simp; try with_reducible rfl)
  refine Kx.tk 8 rfl ?_
  refine Kx.tk 9 rfl ?_
  refine anyW_take (i := 10) (v := ?v10_72) (a' := ?a10_72) (by first | exact Kx.bears_x | exact bears_u | assumption) rfl (by kernel_rfl) (by kernel_rfl) (by kernel_rfl) (fun _ _ _ h => h) (by kernel_rfl) ?w10_72 ?y10_72 ?f10_72 ?r10_72
  case w10_72 => kernel_rfl
  case y10_72 => (intro W hW; first | (refine Eq.trans (Kx.tells_load1_x (v := .int .i64 (b : Int)) hW b5 16 rfl (cf c) inferInstance (Tryd.isAgg3 _) HBC.out) ?_; with_reducible rfl))
  case f10_72 => (go_simp; try with_reducible rfl)
  refine Kx.tk 11 rfl ?_
  refine Kx.tk 12 rfl ?_
  refine anyW_take (i := 13) (v := ?v13_73) (a' := ?a13_73) (by first | exact Kx.bears_x | exact bears_u | assumption) rfl (by kernel_rfl) (by kernel_rfl) (by kernel_rfl) (fun _ _ _ h => h) (by kernel_rfl) ?w13_73 ?y13_73 ?f13_73 ?r13_73
  case w13_73 => kernel_rfl
  case y13_73 => (intro W hW; first | (refine Eq.trans (tells_cell (v := .int .i64 fi) (ad.add (n' - b)) rfl (Tryd.isAgg2 _) (hW.old HFI.out)) ?_; with_reducible rfl))
  case f13_73 => (go_simp; try with_reducible rfl)
  refine Kx.tk 14 rfl ?_
  refine Kx.tk 15 rfl ?_
  refine anyW_take (i := 16) (v := ?v16_74) (a' := ?a16_74) (by first | exact Kx.bears_x | exact bears_u | assumption) rfl (by kernel_rfl) (by kernel_rfl) (by kernel_rfl) (fun _ _ _ h => h) (by kernel_rfl) ?w16_74 ?y16_74 ?f16_74 ?r16_74
  case w16_74 => kernel_rfl
  case y16_74 => (intro W hW; first | (refine Eq.trans (Kx.tells_load1_x (v := .int .i64 c.w) hW b5 15 rfl (cf c) inferInstance (Tryd.isAgg2 _) rfl) ?_; with_reducible rfl))
  case f16_74 => (go_simp; try with_reducible rfl)
  refine Kx.tk 17 rfl ?_
  refine Kx.tk 18 rfl ?_
  refine anyW_done (by kernel_rfl) ?_
  clear HB
  intro w_ HB_
  have HB := Lib.hid HB_
  clear HB_
  go_wp2_with fail
  go_ret
  exact ⟨rfl, HB.out.below⟩

theorem May_any (c : Cf) (x : Gm.Pl) (A : Option Addr) (n c0 : Nat) (A' : Option Addr) (n' c' : Nat) (to t : Int) (g b B : Nat) (w : World) (hp : PAt w B x A n c0 A' n' c') (hB : B ≤ w.heap.size) (hg : g < 18446744073709551616) (hxt : x.t ≤ 15) (hb : c.b = (b : Int)) (hb1 : 1 ≤ b ∧ b ≤ 8) (hn : n' ≤ 8) (ht : Gm.T t) (hch : ∀ v ∈ x.ch, Gm.T v) (hsi : Gm.T x.si) :
    Calls Tryd.prog 26 #[.agg (cf c).toArray, .agg (pc x A n c0 A' n' c').toArray, .int .i64 to, .int .u64 (g : Int), .int .i64 t] w fun e w' => e = .returned (.bool (decide (MayP x to t g b c.d c.w c.dwell))) ∧ Below w.heap.size w w' := by
  have hl := hp.n'
  have no : ∀ {P : Prop} [Decidable P], ¬ P → decide P = false := fun h => decide_eq_false h
  by_cases h1 : to = x.t
  · rw [no (fun q => q.1 h1)]; exact May_same c x A n c0 A' n' c' to t g b B w hp hB hg hxt hb hb1 hn ht hch hsi h1
  by_cases h2 : n' = 0
  · cases h6 : Gm.has g x.t with
    | false => rw [decide_eq_true ⟨h1, .inl (by omega), .inl (by omega), .inl h6⟩]; exact May_none_no c x A n c0 A' n' c' to t g b B w hp hB hg hxt hb hb1 hn ht hch hsi h1 h2 h6
    | true =>
      by_cases h7 : c.dwell ≤ t - x.si
      · rw [decide_eq_true ⟨h1, .inl (by omega), .inl (by omega), .inr h7⟩]; exact May_none_dwelt c x A n c0 A' n' c' to t g b B w hp hB hg hxt hb hb1 hn ht hch hsi h1 h2 h6 h7
      · rw [no (fun q => by rcases q.2.2.2 with q | q; rw [h6] at q; cases q; exact h7 q)]; exact May_none_not c x A n c0 A' n' c' to t g b B w hp hB hg hxt hb hb1 hn ht hch hsi h1 h2 h6 h7
  by_cases h3 : t - x.ch.getD (n' - 1) 0 < c.d
  · rw [no (fun q => by rcases q.2.1 with q | q; omega; rw [hl] at q; omega)]; exact May_early c x A n c0 A' n' c' to t g b B w hp hB hg hxt hb hb1 hn ht hch hsi h1 (by omega) h3
  have g3 : x.ch.length = 0 ∨ c.d ≤ t - x.ch.getD (x.ch.length - 1) 0 := .inr (by rw [hl]; omega)
  by_cases h4 : n' < b
  · have g4 : x.ch.length < b ∨ c.w < t - x.ch.getD (x.ch.length - b) 0 := .inl (by omega)
    cases h6 : Gm.has g x.t with
    | false => rw [decide_eq_true ⟨h1, g3, g4, .inl h6⟩]; exact May_few_no c x A n c0 A' n' c' to t g b B w hp hB hg hxt hb hb1 hn ht hch hsi h1 (by omega) h3 h4 h6
    | true =>
      by_cases h7 : c.dwell ≤ t - x.si
      · rw [decide_eq_true ⟨h1, g3, g4, .inr h7⟩]; exact May_few_dwelt c x A n c0 A' n' c' to t g b B w hp hB hg hxt hb hb1 hn ht hch hsi h1 (by omega) h3 h4 h6 h7
      · rw [no (fun q => by rcases q.2.2.2 with q | q; rw [h6] at q; cases q; exact h7 q)]; exact May_few_not c x A n c0 A' n' c' to t g b B w hp hB hg hxt hb hb1 hn ht hch hsi h1 (by omega) h3 h4 h6 h7
  by_cases h5 : t - x.ch.getD (n' - b) 0 ≤ c.w
  · rw [no (fun q => by rcases q.2.2.1 with q | q; omega; rw [hl] at q; omega)]; exact May_recent c x A n c0 A' n' c' to t g b B w hp hB hg hxt hb hb1 hn ht hch hsi h1 (by omega) h3 (by omega) h5
  have g4 : x.ch.length < b ∨ c.w < t - x.ch.getD (x.ch.length - b) 0 := .inr (by rw [hl]; omega)
  cases h6 : Gm.has g x.t with
  | false => rw [decide_eq_true ⟨h1, g3, g4, .inl h6⟩]; exact May_ok_no c x A n c0 A' n' c' to t g b B w hp hB hg hxt hb hb1 hn ht hch hsi h1 (by omega) h3 (by omega) h5 h6
  | true =>
    by_cases h7 : c.dwell ≤ t - x.si
    · rw [decide_eq_true ⟨h1, g3, g4, .inr h7⟩]; exact May_ok_dwelt c x A n c0 A' n' c' to t g b B w hp hB hg hxt hb hb1 hn ht hch hsi h1 (by omega) h3 (by omega) h5 h6 h7
    · rw [no (fun q => by rcases q.2.2.2 with q | q; rw [h6] at q; cases q; exact h7 q)]; exact May_ok_not c x A n c0 A' n' c' to t g b B w hp hB hg hxt hb hb1 hn ht hch hsi h1 (by omega) h3 (by omega) h5 h6 h7
end Go.Proofs.YtpbogacodhjlfaaDoor
