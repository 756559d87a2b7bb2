/- Whether the target may change; the candidate; what differs; a copy of a list: the program's. -/
import Derived.Test.YtpbogacodhjlfaaDoorIg
import Derived.Test.YtpbogacodhjlfaaDoorGs
import Derived.Lib.SliceRun
namespace Go.Proofs.YtpbogacodhjlfaaDoor
open Go.RowKit Go.Shelf Km Kx Kc Kt
set_option linter.unusedVariables false

def RestP (ch : List Int) (t : Int) (b : Nat) (d w : Int) : Prop := (ch.length = 0 ∨ d ≤ t - ch.getD (ch.length - 1) 0) ∧ (ch.length < b ∨ w < t - ch.getD (ch.length - b) 0)
instance (ch : List Int) (t : Int) (b : Nat) (d w : Int) : Decidable (RestP ch t b d w) := by unfold RestP; infer_instance

set_option maxRecDepth 100000 in
set_option maxHeartbeats 2000000 in
theorem rested_any (c : Cf) (A' : Option Addr) (n' c' : Nat) (ch : List Int) (t : Int) (b B : Nat) (w : World) (hr : Rd w B A' (Kc.i64s ch)) (hB : B ≤ w.heap.size) (hl : ch.length = n') (hb : c.b = (b : Int)) (hb1 : 1 ≤ b ∧ b ≤ 8) (hn : n' ≤ 8) (ht : Gm.T t) (hch : ∀ v ∈ ch, Gm.T v) :
    Calls Tryd.prog 40 #[.agg (cf c).toArray, .slice A' n' c', .int .i64 t] w fun e w' => e = .returned (.bool (decide (RestP ch t b c.d c.w))) ∧ Below w.heap.size w w' := by
  have HB := Lib.hid (Bxs.start w)
  have HBC : Hid ((cf c)[16]? = some (.int .i64 (b : Int))) := Lib.hid (by rw [← hb]; rfl)
  clear hb
  by_cases h2 : n' = 0
  · rw [decide_eq_true (show RestP ch t b c.d c.w from ⟨.inl (by omega), .inl (by omega)⟩)]
    subst h2
    have d4 : decide ((0 : Int) < (b : Int)) = true := decide_eq_true (by omega)
    have d4n : decide (0 < b) = true := decide_eq_true (by omega)
    have hb0 : (0 : Int) < (b : Int) := by omega
    clear hr hl ht hch hB hn
    go_enter Tryd.func40, Tryd.ntmps40
    go_wp2_with (first | ((with_reducible refine Kx.absorb HB ?_); clear HB; intro w_ HB) | ((with_reducible refine Kx.box_gate (d := some 3) ?_); (first | refine Kx.boxa HB rfl ?_ | refine Kx.boxt HB rfl rfl ?_ | refine Kx.box1 HB rfl rfl ?_); clear HB; intro b3 w_ HB; refine Kx.fr ?_) | ((with_reducible refine Kx.alloc_gate (d := some 3) ?_); (first | refine Kx.ala HB ?_ | refine Kx.al1 HB ?_); clear HB; intro b3 w_ HB; refine Kx.fr ?_) | ((with_reducible refine Kx.box_gate ?_); (first | refine Kx.boxa HB rfl ?_ | refine Kx.boxt HB rfl rfl ?_ | refine Kx.box1 HB rfl rfl ?_); clear HB; intro b_ w_ HB; refine Kx.fr ?_) | ((with_reducible refine Kx.alloc_gate ?_); (first | refine Kx.ala HB ?_ | refine Kx.al1 HB ?_); clear HB; intro b_ w_ HB; refine Kx.fr ?_) | ((with_reducible refine Kx.loads_gate ?_); first | refine Kx.l1 HB rfl rfl ?_ | refine Kx.la HB rfl ?_ | refine Kx.lo HB rfl HC.out ?_) | ((with_reducible refine Kx.loadg_gate ?_); first | refine Kx.l1g HB rfl rfl rfl ?_ | refine Kx.lag HB rfl rfl ?_ | refine Kx.log HB rfl HC.out rfl ?_) | ((with_reducible refine Kx.store_gate ?_); (first | refine Kx.stwa HB rfl rfl ?_ | refine Kx.sta HB rfl rfl ?_ | refine Kx.stc HB rfl rfl ?_ | refine Kx.stt HB rfl rfl rfl ?_ | refine Kx.st1 HB rfl rfl rfl ?_); clear HB; intro w_ HB))
    refine Kx.region_x HB (fun i => false) (by kernel_rfl) ?_
    refine Kx.tk 0 rfl ?_
    refine Kx.tk 1 rfl ?_
    refine Kx.tk 2 rfl ?_
    refine Kx.sk 3 rfl ?_
    refine Kx.sk 4 rfl ?_
    refine Kx.sk 5 rfl ?_
    refine Kx.sk 6 rfl ?_
    refine Kx.sk 7 rfl ?_
    refine Kx.sk 8 rfl ?_
    refine Kx.sk 9 rfl ?_
    refine Kx.sk 10 rfl ?_
    refine Kx.sk 11 rfl ?_
    refine Kx.sk 12 rfl ?_
    refine Kx.tk 13 rfl ?_
    refine anyW_done (by kernel_rfl) ?_
    clear HB
    intro w_ HB_
    have HB := Lib.hid HB_
    clear HB_
    go_wp2_with fail
    refine Kx.region_x HB (fun i => false) (by kernel_rfl) ?_
    refine Kx.tk 0 rfl ?_
    refine Kx.tk 1 rfl ?_
    refine anyW_take (i := 2) (v := ?v2_118) (a' := ?a2_118) (by first | exact Kx.bears_x | exact bears_u | assumption) rfl (by kernel_rfl) (by kernel_rfl) (by kernel_rfl) (fun _ _ _ h => h) (by kernel_rfl) ?w2_118 ?y2_118 ?f2_118 ?r2_118
    case w2_118 => kernel_rfl
    case y2_118 => (intro W hW; first | (refine Eq.trans (Kx.tells_load1_x (v := .int .i64 (b : Int)) hW b3 16 rfl (cf c) inferInstance (Tryd.isAgg3 _) HBC.out) ?_; with_reducible rfl))
    case f2_118 => (go_simp; try with_reducible rfl)
    refine Kx.tk 3 rfl ?_
    refine Kx.tk 4 rfl ?_
    refine Kx.sk 5 rfl ?_
    refine Kx.sk 6 rfl ?_
    refine Kx.sk 7 rfl ?_
    refine Kx.sk 8 rfl ?_
    refine Kx.sk 9 rfl ?_
    refine Kx.sk 10 rfl ?_
    refine Kx.sk 11 rfl ?_
    refine Kx.sk 12 rfl ?_
    refine Kx.sk 13 rfl ?_
    refine Kx.sk 14 rfl ?_
    refine Kx.sk 15 rfl ?_
    refine Kx.sk 16 rfl ?_
    refine Kx.tk 17 rfl ?_
    refine Kx.tk 18 rfl ?_
    refine anyW_done (by kernel_rfl) ?_
    clear HB
    intro w_ HB_
    have HB := Lib.hid HB_
    clear HB_
    go_wp2_with fail
    go_ret
    exact ⟨rfl, HB.out.below⟩
  obtain ⟨ad, rfl, -, hc1⟩ := (hr.more hB).num (k := n' - 1) (by omega)
  have hla := Gm.getD_in (P := Gm.T) hch ⟨by decide, by decide⟩ (n' - 1)
  have ha1 : IntKind.i64.wrap ((n' : Int) - 1) = ((n' - 1 : Nat) : Int) := by rw [IntKind.wrap_i64]; omega
  have ha2 : ((n' - 1 : Nat) : Int) < (n' : Int) := by omega
  obtain ⟨la, hl0⟩ : ∃ la, ch.getD (n' - 1) 0 = la := ⟨_, rfl⟩
  rw [hl0] at hc1 hla
  have HLA := Lib.hid hc1
  have hs1 := T_sub ht hla
  have d2 : decide ((0 : Int) < (n' : Int)) = true := decide_eq_true (by omega)
  have d2n : decide (0 < n') = true := decide_eq_true (by omega)
  clear hla hc1
  by_cases h3 : t - la < c.d
  · have d3 : decide (t - la < c.d) = true := decide_eq_true h3
    rw [decide_eq_false (show ¬ RestP ch t b c.d c.w from fun q => by rcases q.1 with q | q; omega; rw [hl, hl0] at q; omega)]
    clear hl0
    clear hr hl ht hch hB hn h2 h3
    go_enter Tryd.func40, Tryd.ntmps40
    go_wp2_with (first | ((with_reducible refine Kx.absorb HB ?_); clear HB; intro w_ HB) | ((with_reducible refine Kx.box_gate (d := some 3) ?_); (first | refine Kx.boxa HB rfl ?_ | refine Kx.boxt HB rfl rfl ?_ | refine Kx.box1 HB rfl rfl ?_); clear HB; intro b3 w_ HB; refine Kx.fr ?_) | ((with_reducible refine Kx.alloc_gate (d := some 3) ?_); (first | refine Kx.ala HB ?_ | refine Kx.al1 HB ?_); clear HB; intro b3 w_ HB; refine Kx.fr ?_) | ((with_reducible refine Kx.box_gate ?_); (first | refine Kx.boxa HB rfl ?_ | refine Kx.boxt HB rfl rfl ?_ | refine Kx.box1 HB rfl rfl ?_); clear HB; intro b_ w_ HB; refine Kx.fr ?_) | ((with_reducible refine Kx.alloc_gate ?_); (first | refine Kx.ala HB ?_ | refine Kx.al1 HB ?_); clear HB; intro b_ w_ HB; refine Kx.fr ?_) | ((with_reducible refine Kx.loads_gate ?_); first | refine Kx.l1 HB rfl rfl ?_ | refine Kx.la HB rfl ?_ | refine Kx.lo HB rfl HC.out ?_) | ((with_reducible refine Kx.loadg_gate ?_); first | refine Kx.l1g HB rfl rfl rfl ?_ | refine Kx.lag HB rfl rfl ?_ | refine Kx.log HB rfl HC.out rfl ?_) | ((with_reducible refine Kx.store_gate ?_); (first | refine Kx.stwa HB rfl rfl ?_ | refine Kx.sta HB rfl rfl ?_ | refine Kx.stc HB rfl rfl ?_ | refine Kx.stt HB rfl rfl rfl ?_ | refine Kx.st1 HB rfl rfl rfl ?_); clear HB; intro w_ HB))
    refine Kx.region_x HB (fun i => false) (by kernel_rfl) ?_
    refine Kx.tk 0 rfl ?_
    refine Kx.tk 1 rfl ?_
    refine Kx.tk 2 rfl ?_
    refine Kx.tk 3 rfl ?_
    refine Kx.tk 4 rfl ?_
    refine Kx.tk 5 rfl ?_
    refine Kx.tk 6 rfl ?_
    refine Kx.tk 7 rfl ?_
    refine anyW_take (i := 8) (v := ?v8_119) (a' := ?a8_119) (by first | exact Kx.bears_x | exact bears_u | assumption) rfl (by kernel_rfl) (by kernel_rfl) (by kernel_rfl) (fun _ _ _ h => h) (by kernel_rfl) ?w8_119 ?y8_119 ?f8_119 ?r8_119
    case w8_119 => kernel_rfl
    case y8_119 => (intro W hW; first | (refine Eq.trans (tells_cell (v := .int .i64 la) (ad.add (n' - 1)) rfl (Tryd.isAgg2 _) (hW.old HLA.out)) ?_; with_reducible rfl))
    case f8_119 => (go_simp; try with_reducible rfl)
    refine Kx.tk 9 rfl ?_
    refine Kx.tk 10 rfl ?_
    refine anyW_take (i := 11) (v := ?v11_120) (a' := ?a11_120) (by first | exact Kx.bears_x | exact bears_u | assumption) rfl (by kernel_rfl) (by kernel_rfl) (by kernel_rfl) (fun _ _ _ h => h) (by kernel_rfl) ?w11_120 ?y11_120 ?f11_120 ?r11_120
    case w11_120 => kernel_rfl
    case y11_120 => (intro W hW; first | (refine Eq.trans (Kx.tells_load1_x (v := .int .i64 c.d) hW b3 14 rfl (cf c) inferInstance (Tryd.isAgg2 _) rfl) ?_; with_reducible rfl))
    case f11_120 => (go_simp; try with_reducible rfl)
    refine Kx.tk 12 rfl ?_
    refine Kx.tk 13 rfl ?_
    refine anyW_done (by kernel_rfl) ?_
    clear HB
    intro w_ HB_
    have HB := Lib.hid HB_
    clear HB_
    go_wp2_with fail
    go_ret
    exact ⟨rfl, HB.out.below⟩
  have d3 : decide (t - la < c.d) = false := decide_eq_false h3
  by_cases h4 : n' < b
  · have d4 : decide ((n' : Int) < (b : Int)) = true := decide_eq_true (by omega)
    have d4n : decide (n' < b) = true := decide_eq_true h4
    rw [decide_eq_true (show RestP ch t b c.d c.w from ⟨.inr (by rw [hl, hl0]; omega), .inl (by omega)⟩)]
    clear hl0
    clear hr hl ht hch hB hn h2 h3
    go_enter Tryd.func40, Tryd.ntmps40
    go_wp2_with (first | ((with_reducible refine Kx.absorb HB ?_); clear HB; intro w_ HB) | ((with_reducible refine Kx.box_gate (d := some 3) ?_); (first | refine Kx.boxa HB rfl ?_ | refine Kx.boxt HB rfl rfl ?_ | refine Kx.box1 HB rfl rfl ?_); clear HB; intro b3 w_ HB; refine Kx.fr ?_) | ((with_reducible refine Kx.alloc_gate (d := some 3) ?_); (first | refine Kx.ala HB ?_ | refine Kx.al1 HB ?_); clear HB; intro b3 w_ HB; refine Kx.fr ?_) | ((with_reducible refine Kx.box_gate ?_); (first | refine Kx.boxa HB rfl ?_ | refine Kx.boxt HB rfl rfl ?_ | refine Kx.box1 HB rfl rfl ?_); clear HB; intro b_ w_ HB; refine Kx.fr ?_) | ((with_reducible refine Kx.alloc_gate ?_); (first | refine Kx.ala HB ?_ | refine Kx.al1 HB ?_); clear HB; intro b_ w_ HB; refine Kx.fr ?_) | ((with_reducible refine Kx.loads_gate ?_); first | refine Kx.l1 HB rfl rfl ?_ | refine Kx.la HB rfl ?_ | refine Kx.lo HB rfl HC.out ?_) | ((with_reducible refine Kx.loadg_gate ?_); first | refine Kx.l1g HB rfl rfl rfl ?_ | refine Kx.lag HB rfl rfl ?_ | refine Kx.log HB rfl HC.out rfl ?_) | ((with_reducible refine Kx.store_gate ?_); (first | refine Kx.stwa HB rfl rfl ?_ | refine Kx.sta HB rfl rfl ?_ | refine Kx.stc HB rfl rfl ?_ | refine Kx.stt HB rfl rfl rfl ?_ | refine Kx.st1 HB rfl rfl rfl ?_); clear HB; intro w_ HB))
    refine Kx.region_x HB (fun i => false) (by kernel_rfl) ?_
    refine Kx.tk 0 rfl ?_
    refine Kx.tk 1 rfl ?_
    refine Kx.tk 2 rfl ?_
    refine Kx.tk 3 rfl ?_
    refine Kx.tk 4 rfl ?_
    refine Kx.tk 5 rfl ?_
    refine Kx.tk 6 rfl ?_
    refine Kx.tk 7 rfl ?_
    refine anyW_take (i := 8) (v := ?v8_121) (a' := ?a8_121) (by first | exact Kx.bears_x | exact bears_u | assumption) rfl (by kernel_rfl) (by kernel_rfl) (by kernel_rfl) (fun _ _ _ h => h) (by kernel_rfl) ?w8_121 ?y8_121 ?f8_121 ?r8_121
    case w8_121 => kernel_rfl
    case y8_121 => (intro W hW; first | (refine Eq.trans (tells_cell (v := .int .i64 la) (ad.add (n' - 1)) rfl (Tryd.isAgg2 _) (hW.old HLA.out)) ?_; with_reducible rfl))
    case f8_121 => (go_simp; try with_reducible rfl)
    refine Kx.tk 9 rfl ?_
    refine Kx.tk 10 rfl ?_
    refine anyW_take (i := 11) (v := ?v11_122) (a' := ?a11_122) (by first | exact Kx.bears_x | exact bears_u | assumption) rfl (by kernel_rfl) (by kernel_rfl) (by kernel_rfl) (fun _ _ _ h => h) (by kernel_rfl) ?w11_122 ?y11_122 ?f11_122 ?r11_122
    case w11_122 => kernel_rfl
    case y11_122 => (intro W hW; first | (refine Eq.trans (Kx.tells_load1_x (v := .int .i64 c.d) hW b3 14 rfl (cf c) inferInstance (Tryd.isAgg2 _) rfl) ?_; with_reducible rfl))
    case f11_122 => (go_simp; try with_reducible rfl)
    refine Kx.tk 12 rfl ?_
    refine Kx.tk 13 rfl ?_
    refine anyW_done (by kernel_rfl) ?_
    clear HB
    intro w_ HB_
    have HB := Lib.hid HB_
    clear HB_
    go_wp2_with fail
    refine Kx.region_x HB (fun i => false) (by kernel_rfl) ?_
    refine Kx.tk 0 rfl ?_
    refine Kx.tk 1 rfl ?_
    refine anyW_take (i := 2) (v := ?v2_123) (a' := ?a2_123) (by first | exact Kx.bears_x | exact bears_u | assumption) rfl (by kernel_rfl) (by kernel_rfl) (by kernel_rfl) (fun _ _ _ h => h) (by kernel_rfl) ?w2_123 ?y2_123 ?f2_123 ?r2_123
    case w2_123 => kernel_rfl
    case y2_123 => (intro W hW; first | (refine Eq.trans (Kx.tells_load1_x (v := .int .i64 (b : Int)) hW b3 16 rfl (cf c) inferInstance (Tryd.isAgg3 _) HBC.out) ?_; with_reducible rfl))
    case f2_123 => (go_simp; try with_reducible rfl)
    refine Kx.tk 3 rfl ?_
    refine Kx.tk 4 rfl ?_
    refine Kx.sk 5 rfl ?_
    refine Kx.sk 6 rfl ?_
    refine Kx.sk 7 rfl ?_
    refine Kx.sk 8 rfl ?_
    refine Kx.sk 9 rfl ?_
    refine Kx.sk 10 rfl ?_
    refine Kx.sk 11 rfl ?_
    refine Kx.sk 12 rfl ?_
    refine Kx.sk 13 rfl ?_
    refine Kx.sk 14 rfl ?_
    refine Kx.sk 15 rfl ?_
    refine Kx.sk 16 rfl ?_
    refine Kx.tk 17 rfl ?_
    refine Kx.tk 18 rfl ?_
    refine anyW_done (by kernel_rfl) ?_
    clear HB
    intro w_ HB_
    have HB := Lib.hid HB_
    clear HB_
    go_wp2_with fail
    go_ret
    exact ⟨rfl, HB.out.below⟩
  have d4 : decide ((n' : Int) < (b : Int)) = false := decide_eq_false (by omega)
  have d4n : decide (n' < b) = false := decide_eq_false h4
  obtain ⟨ad', e', -, hc2⟩ := (hr.more hB).num (k := n' - b) (by omega)
  cases e'
  have hlb := Gm.getD_in (P := Gm.T) hch ⟨by decide, by decide⟩ (n' - b)
  have ha3 : IntKind.i64.wrap ((n' : Int) - (b : Int)) = ((n' - b : Nat) : Int) := by rw [IntKind.wrap_i64]; omega
  have ha4 : ((n' - b : Nat) : Int) < (n' : Int) := by omega
  obtain ⟨lb, hl1⟩ : ∃ lb, ch.getD (n' - b) 0 = lb := ⟨_, rfl⟩
  rw [hl1] at hc2 hlb
  have HLB := Lib.hid hc2
  have hs2 := T_sub ht hlb
  have HE : Hid (decide (RestP ch t b c.d c.w) = decide (c.w < t - lb)) := Lib.hid (decide_eq_decide.2 ⟨fun q => by rcases q.2 with q | q; omega; rw [hl, hl1] at q; exact q, fun q => ⟨.inr (by rw [hl, hl0]; omega), .inr (by rw [hl, hl1]; exact q)⟩⟩)
  rw [HE.out]
  clear hr hl ht hch hB hn h2 h3 h4 HE hl0 hl1 hc2 hlb
  go_enter Tryd.func40, Tryd.ntmps40
  go_wp2_with (first | ((with_reducible refine Kx.absorb HB ?_); clear HB; intro w_ HB) | ((with_reducible refine Kx.box_gate (d := some 3) ?_); (first | refine Kx.boxa HB rfl ?_ | refine Kx.boxt HB rfl rfl ?_ | refine Kx.box1 HB rfl rfl ?_); clear HB; intro b3 w_ HB; refine Kx.fr ?_) | ((with_reducible refine Kx.alloc_gate (d := some 3) ?_); (first | refine Kx.ala HB ?_ | refine Kx.al1 HB ?_); clear HB; intro b3 w_ HB; refine Kx.fr ?_) | ((with_reducible refine Kx.box_gate ?_); (first | refine Kx.boxa HB rfl ?_ | refine Kx.boxt HB rfl rfl ?_ | refine Kx.box1 HB rfl rfl ?_); clear HB; intro b_ w_ HB; refine Kx.fr ?_) | ((with_reducible refine Kx.alloc_gate ?_); (first | refine Kx.ala HB ?_ | refine Kx.al1 HB ?_); clear HB; intro b_ w_ HB; refine Kx.fr ?_) | ((with_reducible refine Kx.loads_gate ?_); first | refine Kx.l1 HB rfl rfl ?_ | refine Kx.la HB rfl ?_ | refine Kx.lo HB rfl HC.out ?_) | ((with_reducible refine Kx.loadg_gate ?_); first | refine Kx.l1g HB rfl rfl rfl ?_ | refine Kx.lag HB rfl rfl ?_ | refine Kx.log HB rfl HC.out rfl ?_) | ((with_reducible refine Kx.store_gate ?_); (first | refine Kx.stwa HB rfl rfl ?_ | refine Kx.sta HB rfl rfl ?_ | refine Kx.stc HB rfl rfl ?_ | refine Kx.stt HB rfl rfl rfl ?_ | refine Kx.st1 HB rfl rfl rfl ?_); clear HB; intro w_ HB))
  refine Kx.region_x HB (fun i => false) (by kernel_rfl) ?_
  refine Kx.tk 0 rfl ?_
  refine Kx.tk 1 rfl ?_
  refine Kx.tk 2 rfl ?_
  refine Kx.tk 3 rfl ?_
  refine Kx.tk 4 rfl ?_
  refine Kx.tk 5 rfl ?_
  refine Kx.tk 6 rfl ?_
  refine Kx.tk 7 rfl ?_
  refine anyW_take (i := 8) (v := ?v8_124) (a' := ?a8_124) (by first | exact Kx.bears_x | exact bears_u | assumption) rfl (by kernel_rfl) (by kernel_rfl) (by kernel_rfl) (fun _ _ _ h => h) (by kernel_rfl) ?w8_124 ?y8_124 ?f8_124 ?r8_124
  case w8_124 => kernel_rfl
  case y8_124 => (intro W hW; first | (refine Eq.trans (tells_cell (v := .int .i64 la) (ad.add (n' - 1)) rfl (Tryd.isAgg2 _) (hW.old HLA.out)) ?_; with_reducible rfl))
  case f8_124 => (go_simp; try with_reducible rfl)
  refine Kx.tk 9 rfl ?_
  refine Kx.tk 10 rfl ?_
  refine anyW_take (i := 11) (v := ?v11_125) (a' := ?a11_125) (by first | exact Kx.bears_x | exact bears_u | assumption) rfl (by kernel_rfl) (by kernel_rfl) (by kernel_rfl) (fun _ _ _ h => h) (by kernel_rfl) ?w11_125 ?y11_125 ?f11_125 ?r11_125
  case w11_125 => kernel_rfl
  case y11_125 => (intro W hW; first | (refine Eq.trans (Kx.tells_load1_x (v := .int .i64 c.d) hW b3 14 rfl (cf c) inferInstance (Tryd.isAgg2 _) rfl) ?_; with_reducible rfl))
  case f11_125 => (go_simp; try with_reducible rfl)
  refine Kx.tk 12 rfl ?_
  refine Kx.tk 13 rfl ?_
  refine anyW_done (by kernel_rfl) ?_
  clear HB
  intro w_ HB_
  have HB := Lib.hid HB_
  clear HB_
  go_wp2_with fail
  refine Kx.region_x HB (fun i => false) (by kernel_rfl) ?_
  refine Kx.tk 0 rfl ?_
  refine Kx.tk 1 rfl ?_
  refine anyW_take (i := 2) (v := ?v2_126) (a' := ?a2_126) (by first | exact Kx.bears_x | exact bears_u | assumption) rfl (by kernel_rfl) (by kernel_rfl) (by kernel_rfl) (fun _ _ _ h => h) (by kernel_rfl) ?w2_126 ?y2_126 ?f2_126 ?r2_126
  case w2_126 => kernel_rfl
  case y2_126 => (intro W hW; first | (refine Eq.trans (Kx.tells_load1_x (v := .int .i64 (b : Int)) hW b3 16 rfl (cf c) inferInstance (Tryd.isAgg3 _) HBC.out) ?_; with_reducible rfl))
  case f2_126 => (go_simp; try with_reducible rfl)
  refine Kx.tk 3 rfl ?_
  refine Kx.tk 4 rfl ?_
  refine Kx.tk 5 rfl ?_
  refine Kx.tk 6 rfl ?_
  refine Kx.tk 7 rfl ?_
  refine Kx.tk 8 rfl ?_
  refine anyW_take (i := 9) (v := ?v9_127) (a' := ?a9_127) (by first | exact Kx.bears_x | exact bears_u | assumption) rfl (by kernel_rfl) (by kernel_rfl) (by kernel_rfl) (fun _ _ _ h => h) (by kernel_rfl) ?w9_127 ?y9_127 ?f9_127 ?r9_127
  case w9_127 => kernel_rfl
  case y9_127 => (intro W hW; first | (refine Eq.trans (Kx.tells_load1_x (v := .int .i64 (b : Int)) hW b3 16 rfl (cf c) inferInstance (Tryd.isAgg3 _) HBC.out) ?_; with_reducible rfl))
  case f9_127 => (go_simp; try with_reducible rfl)
  refine Kx.tk 10 rfl ?_
  refine Kx.tk 11 rfl ?_
  refine anyW_take (i := 12) (v := ?v12_128) (a' := ?a12_128) (by first | exact Kx.bears_x | exact bears_u | assumption) rfl (by kernel_rfl) (by kernel_rfl) (by kernel_rfl) (fun _ _ _ h => h) (by kernel_rfl) ?w12_128 ?y12_128 ?f12_128 ?r12_128
  case w12_128 => kernel_rfl
  case y12_128 => (intro W hW; first | (refine Eq.trans (tells_cell (v := .int .i64 lb) (ad.add (n' - b)) rfl (Tryd.isAgg2 _) (hW.old HLB.out)) ?_; with_reducible rfl))
  case f12_128 => (go_simp; try with_reducible rfl)
  refine Kx.tk 13 rfl ?_
  refine Kx.tk 14 rfl ?_
  refine anyW_take (i := 15) (v := ?v15_129) (a' := ?a15_129) (by first | exact Kx.bears_x | exact bears_u | assumption) rfl (by kernel_rfl) (by kernel_rfl) (by kernel_rfl) (fun _ _ _ h => h) (by kernel_rfl) ?w15_129 ?y15_129 ?f15_129 ?r15_129
  case w15_129 => kernel_rfl
  case y15_129 => (intro W hW; first | (refine Eq.trans (Kx.tells_load1_x (v := .int .i64 c.w) hW b3 15 rfl (cf c) inferInstance (Tryd.isAgg2 _) rfl) ?_; with_reducible rfl))
  case f15_129 => (go_simp; try with_reducible rfl)
  refine Kx.tk 16 rfl ?_
  refine Kx.tk 17 rfl ?_
  refine Kx.tk 18 rfl ?_
  refine anyW_done (by kernel_rfl) ?_
  clear HB
  intro w_ HB_
  have HB := Lib.hid HB_
  clear HB_
  go_wp2_with fail
  go_ret
  exact ⟨rfl, HB.out.below⟩

theorem rest_may {x : Gm.Pl} {z t : Int} {g b : Nat} {d w dwell : Int} : MayP x z t g b d w dwell ↔ z ≠ x.t ∧ RestP x.ch t b d w ∧ (Gm.has g x.t = false ∨ dwell ≤ t - x.si) := by
  unfold MayP RestP
  constructor
  · rintro ⟨a, b, c, d⟩; exact ⟨a, ⟨b, c⟩, d⟩
  · rintro ⟨a, ⟨b, c⟩, d⟩; exact ⟨a, b, c, d⟩

set_option maxRecDepth 100000 in
set_option maxHeartbeats 2000000 in
theorem mayChange_any (c : Cf) (x : Gm.Pl) (A : Option Addr) (n c0 : Nat) (A' : Option Addr) (n' c' : Nat) (z : Int) (g b B : Nat) (w : World) (hp : PAt w B x A n c0 A' n' c') (hB : B ≤ w.heap.size) (hg : g < 18446744073709551616) (hxt : -1 ≤ x.t ∧ x.t ≤ 15) (hb : c.b = (b : Int)) (hb1 : 1 ≤ b ∧ b ≤ 8) (hn : n' ≤ 8) (ht : Gm.T x.st) (hch : ∀ v ∈ x.ch, Gm.T v) (hsi : Gm.T x.si) :
    Calls Tryd.prog 17 #[.agg (cf c).toArray, .agg (pc x A n c0 A' n' c').toArray, .int .i64 z, .int .u64 (g : Int)] w fun e w' => e = .returned (.bool (decide (MayP x z x.st g b c.d c.w c.dwell))) ∧ Below w.heap.size w w' := by
  have HB := Lib.hid (Bxs.start w)
  have HR : Hid (∀ W, Below w.heap.size w W → Calls Tryd.prog 40 #[.agg (cf c).toArray, .slice A' n' c', .int .i64 x.st] W fun e w' => e = .returned (.bool (decide (RestP x.ch x.st b c.d c.w))) ∧ Below W.heap.size W w') := Lib.hid (fun W hw => rested_any c A' n' c' x.ch x.st b B W (hp.ch.below (hw.mono hB)) (Nat.le_trans hB hw.size) hp.n' hb hb1 hn ht hch)
  have HH : Hid (∀ W, Calls Tryd.prog 41 #[.int .u64 (g : Int), .int .i64 x.t] W fun e w' => e = .returned (.bool (Gm.has g x.t)) ∧ Below W.heap.size W w') := Lib.hid (fun W => (PHas_any g x.t W hg hxt.1 hxt.2).mono fun _ _ h => ⟨h.1, h.2 ▸ Below.refl _ _⟩)
  have hs3 := T_sub ht hsi
  have HM := Lib.hid (rest_may (x := x) (z := z) (t := x.st) (g := g) (b := b) (d := c.d) (w := c.w) (dwell := c.dwell))
  clear hp hB hg hxt hb hb1 hn ht hch hsi
  by_cases h1 : z = x.t
  · have d1 : (z != x.t) = false := by simp [h1]
    rw [decide_eq_false (fun q => (HM.out.1 q).1 h1)]
    clear h1
    go_enter Tryd.func17, Tryd.ntmps17
    go_wp2_with (first | ((with_reducible refine Kx.absorb HB ?_); clear HB; intro w_ HB) | ((with_reducible refine Kx.box_gate ?_); (first | refine Kx.boxa HB rfl ?_ | refine Kx.boxt HB rfl rfl ?_ | refine Kx.box1 HB rfl rfl ?_); clear HB; intro b_ w_ HB; refine Kx.fr ?_) | ((with_reducible refine Kx.alloc_gate ?_); (first | refine Kx.ala HB ?_ | refine Kx.al1 HB ?_); clear HB; intro b_ w_ HB; refine Kx.fr ?_) | ((with_reducible refine Kx.loads_gate ?_); first | refine Kx.l1 HB rfl rfl ?_ | refine Kx.la HB rfl ?_ | refine Kx.lo HB rfl HC.out ?_) | ((with_reducible refine Kx.loadg_gate ?_); first | refine Kx.l1g HB rfl rfl rfl ?_ | refine Kx.lag HB rfl rfl ?_ | refine Kx.log HB rfl HC.out rfl ?_) | ((with_reducible refine Kx.store_gate ?_); (first | refine Kx.stwa HB rfl rfl ?_ | refine Kx.sta HB rfl rfl ?_ | refine Kx.stc HB rfl rfl ?_ | refine Kx.stt HB rfl rfl rfl ?_ | refine Kx.st1 HB rfl rfl rfl ?_); clear HB; intro w_ HB))
    go_ret
    exact ⟨rfl, HB.out.below⟩
  have d1 : (z != x.t) = true := by rw [bne_iff_ne]; exact h1
  by_cases h2 : RestP x.ch x.st b c.d c.w
  case neg =>
    rw [decide_eq_false h2] at HR
    rw [decide_eq_false (fun q => h2 (HM.out.1 q).2.1)]
    clear h1 h2
    go_enter Tryd.func17, Tryd.ntmps17
    go_wp2_with (first | (go_at_call 40; refine Calls.mono (HR.out _ HB.out.below) ?_; rintro e w_ ⟨rfl, hb_⟩; replace HB := Lib.hid (HB.out.call hb_); clear hb_) | (first | ((with_reducible refine Kx.absorb HB ?_); clear HB; intro w_ HB) | ((with_reducible refine Kx.box_gate ?_); (first | refine Kx.boxa HB rfl ?_ | refine Kx.boxt HB rfl rfl ?_ | refine Kx.box1 HB rfl rfl ?_); clear HB; intro b_ w_ HB; refine Kx.fr ?_) | ((with_reducible refine Kx.alloc_gate ?_); (first | refine Kx.ala HB ?_ | refine Kx.al1 HB ?_); clear HB; intro b_ w_ HB; refine Kx.fr ?_) | ((with_reducible refine Kx.loads_gate ?_); first | refine Kx.l1 HB rfl rfl ?_ | refine Kx.la HB rfl ?_ | refine Kx.lo HB rfl HC.out ?_) | ((with_reducible refine Kx.loadg_gate ?_); first | refine Kx.l1g HB rfl rfl rfl ?_ | refine Kx.lag HB rfl rfl ?_ | refine Kx.log HB rfl HC.out rfl ?_) | ((with_reducible refine Kx.store_gate ?_); (first | refine Kx.stwa HB rfl rfl ?_ | refine Kx.sta HB rfl rfl ?_ | refine Kx.stc HB rfl rfl ?_ | refine Kx.stt HB rfl rfl rfl ?_ | refine Kx.st1 HB rfl rfl rfl ?_); clear HB; intro w_ HB)))
    go_ret
    exact ⟨rfl, HB.out.below⟩
  rw [decide_eq_true h2] at HR
  cases h3 : Gm.has g x.t with
  | false =>
    rw [h3] at HH
    rw [decide_eq_true (HM.out.2 ⟨h1, h2, .inl h3⟩)]
    clear h1 h2 h3
    go_enter Tryd.func17, Tryd.ntmps17
    go_wp2_with (first | (go_at_call 40; refine Calls.mono (HR.out _ HB.out.below) ?_; rintro e w_ ⟨rfl, hb_⟩; replace HB := Lib.hid (HB.out.call hb_); clear hb_) | (go_at_call 41; refine Calls.mono (HH.out _) ?_; rintro e w_ ⟨rfl, hb_⟩; replace HB := Lib.hid (HB.out.call hb_); clear hb_) | (first | ((with_reducible refine Kx.absorb HB ?_); clear HB; intro w_ HB) | ((with_reducible refine Kx.box_gate ?_); (first | refine Kx.boxa HB rfl ?_ | refine Kx.boxt HB rfl rfl ?_ | refine Kx.box1 HB rfl rfl ?_); clear HB; intro b_ w_ HB; refine Kx.fr ?_) | ((with_reducible refine Kx.alloc_gate ?_); (first | refine Kx.ala HB ?_ | refine Kx.al1 HB ?_); clear HB; intro b_ w_ HB; refine Kx.fr ?_) | ((with_reducible refine Kx.loads_gate ?_); first | refine Kx.l1 HB rfl rfl ?_ | refine Kx.la HB rfl ?_ | refine Kx.lo HB rfl HC.out ?_) | ((with_reducible refine Kx.loadg_gate ?_); first | refine Kx.l1g HB rfl rfl rfl ?_ | refine Kx.lag HB rfl rfl ?_ | refine Kx.log HB rfl HC.out rfl ?_) | ((with_reducible refine Kx.store_gate ?_); (first | refine Kx.stwa HB rfl rfl ?_ | refine Kx.sta HB rfl rfl ?_ | refine Kx.stc HB rfl rfl ?_ | refine Kx.stt HB rfl rfl rfl ?_ | refine Kx.st1 HB rfl rfl rfl ?_); clear HB; intro w_ HB)))
    go_ret
    exact ⟨rfl, HB.out.below⟩
  | true =>
    rw [h3] at HH
    have HE : Hid (decide (MayP x z x.st g b c.d c.w c.dwell) = decide (c.dwell ≤ x.st - x.si)) := Lib.hid (decide_eq_decide.2 ⟨fun q => by rcases (HM.out.1 q).2.2 with k | k; rw [h3] at k; cases k; exact k, fun q => HM.out.2 ⟨h1, h2, .inr q⟩⟩)
    rw [HE.out]
    clear h1 h2 h3 HE
    go_enter Tryd.func17, Tryd.ntmps17
    go_wp2_with (first | (go_at_call 40; refine Calls.mono (HR.out _ HB.out.below) ?_; rintro e w_ ⟨rfl, hb_⟩; replace HB := Lib.hid (HB.out.call hb_); clear hb_) | (go_at_call 41; refine Calls.mono (HH.out _) ?_; rintro e w_ ⟨rfl, hb_⟩; replace HB := Lib.hid (HB.out.call hb_); clear hb_) | (first | ((with_reducible refine Kx.absorb HB ?_); clear HB; intro w_ HB) | ((with_reducible refine Kx.box_gate ?_); (first | refine Kx.boxa HB rfl ?_ | refine Kx.boxt HB rfl rfl ?_ | refine Kx.box1 HB rfl rfl ?_); clear HB; intro b_ w_ HB; refine Kx.fr ?_) | ((with_reducible refine Kx.alloc_gate ?_); (first | refine Kx.ala HB ?_ | refine Kx.al1 HB ?_); clear HB; intro b_ w_ HB; refine Kx.fr ?_) | ((with_reducible refine Kx.loads_gate ?_); first | refine Kx.l1 HB rfl rfl ?_ | refine Kx.la HB rfl ?_ | refine Kx.lo HB rfl HC.out ?_) | ((with_reducible refine Kx.loadg_gate ?_); first | refine Kx.l1g HB rfl rfl rfl ?_ | refine Kx.lag HB rfl rfl ?_ | refine Kx.log HB rfl HC.out rfl ?_) | ((with_reducible refine Kx.store_gate ?_); (first | refine Kx.stwa HB rfl rfl ?_ | refine Kx.sta HB rfl rfl ?_ | refine Kx.stc HB rfl rfl ?_ | refine Kx.stt HB rfl rfl rfl ?_ | refine Kx.st1 HB rfl rfl rfl ?_); clear HB; intro w_ HB)))
    go_ret
    exact ⟨rfl, HB.out.below⟩

theorem best_any (A : Option Addr) (n cap : Nat) (ti : List Int) (mask : Nat) (w : World) (hr : Rd w w.heap.size A (Kc.i64s ti)) (hl : ti.length = n) (hn : n ≤ 16) (hm : mask < 2 ^ n) (hb : BTab w) :
    Calls Tryd.prog 20 #[.slice A n cap, .int .u64 (mask : Int)] w fun e w' => e = .returned (.int .i64 (Gm.bestTo ti mask n)) ∧ Below w.heap.size w w' :=
  callsIn_wide.1 (best_in A n cap w.heap.size ti mask w hr (Nat.le_refl _) hl hn hm hb)

/-- who would be the target -/
def candT (xs : List Int) (N g u : Nat) (t : Int) : Int := if g ≠ 0 then Gm.bestTo xs g N else if u ≠ 0 then Gm.bestTo xs u N else t
set_option maxRecDepth 100000 in
set_option maxHeartbeats 2000000 in
theorem candidate_any (c : Cf) (xs : List Int) (x : Gm.Pl) (A : Option Addr) (n c0 : Nat) (A' : Option Addr) (n' c' : Nat) (N g u : Nat) (w : World) (hr : Rd w w.heap.size c.ta (Kc.i64s xs)) (hl : xs.length = N) (htn : c.tn = N) (hN : N ≤ 16) (hg : g < 2 ^ N) (hu : u < 2 ^ N) (hxu : x.up = (u : Int)) (hb : BTab w) :
    Calls Tryd.prog 16 #[.agg (cf c).toArray, .agg (pc x A n c0 A' n' c').toArray, .int .u64 (g : Int)] w fun e w' => e = .returned (.int .i64 (candT xs N g u x.t)) ∧ Below w.heap.size w w' := by
  have HB := Lib.hid (Bxs.start w)
  have H1 : Hid (∀ W, Below w.heap.size w W → Calls Tryd.prog 20 #[.slice c.ta c.tn c.tc, .int .u64 (g : Int)] W fun e w' => e = .returned (.int .i64 (Gm.bestTo xs g N)) ∧ Below W.heap.size W w') := Lib.hid (fun W hw => by rw [htn]; exact best_any c.ta N c.tc xs g W ((hr.below hw).more hw.size) hl hN hg (hb.below hw (Nat.le_refl _)))
  have H2 : Hid (∀ W, Below w.heap.size w W → Calls Tryd.prog 20 #[.slice c.ta c.tn c.tc, .int .u64 (u : Int)] W fun e w' => e = .returned (.int .i64 (Gm.bestTo xs u N)) ∧ Below W.heap.size W w') := Lib.hid (fun W hw => by rw [htn]; exact best_any c.ta N c.tc xs u W ((hr.below hw).more hw.size) hl hN hu (hb.below hw (Nat.le_refl _)))
  clear hr hl htn hN hg hu hb
  unfold candT
  obtain ⟨xe, xt, xp, xs', xc, xst, xsi, xra, xup, xsu, pen, ch⟩ := x
  dsimp only at hxu
  subst hxu
  dsimp only [pc]
  generalize Gm.bestTo xs g N = r1 at *
  generalize Gm.bestTo xs u N = r2 at *
  by_cases hg0 : g ≠ 0
  · rw [if_pos hg0]
    have d1 : ((g : Int) != 0) = true := by rw [bne_iff_ne]; omega
    clear hg0
    go_enter Tryd.func16, Tryd.ntmps16
    go_wp2_with (first | (go_at_call 20; refine Calls.mono (H1.out _ HB.out.below) ?_; rintro e w_ ⟨rfl, hb_⟩; replace HB := Lib.hid (HB.out.call hb_); clear hb_) | (first | ((with_reducible refine Kx.absorb HB ?_); clear HB; intro w_ HB) | ((with_reducible refine Kx.box_gate ?_); (first | refine Kx.boxa HB rfl ?_ | refine Kx.boxt HB rfl rfl ?_ | refine Kx.box1 HB rfl rfl ?_); clear HB; intro b_ w_ HB; refine Kx.fr ?_) | ((with_reducible refine Kx.alloc_gate ?_); (first | refine Kx.ala HB ?_ | refine Kx.al1 HB ?_); clear HB; intro b_ w_ HB; refine Kx.fr ?_) | ((with_reducible refine Kx.loads_gate ?_); first | refine Kx.l1 HB rfl rfl ?_ | refine Kx.la HB rfl ?_ | refine Kx.lo HB rfl HC.out ?_) | ((with_reducible refine Kx.loadg_gate ?_); first | refine Kx.l1g HB rfl rfl rfl ?_ | refine Kx.lag HB rfl rfl ?_ | refine Kx.log HB rfl HC.out rfl ?_) | ((with_reducible refine Kx.store_gate ?_); (first | refine Kx.stwa HB rfl rfl ?_ | refine Kx.sta HB rfl rfl ?_ | refine Kx.stc HB rfl rfl ?_ | refine Kx.stt HB rfl rfl rfl ?_ | refine Kx.st1 HB rfl rfl rfl ?_); clear HB; intro w_ HB)))
    go_ret
    exact ⟨rfl, HB.out.below⟩
  · rw [if_neg hg0]
    have d1 : ((g : Int) != 0) = false := by simp; omega
    clear hg0
    by_cases hu0 : u ≠ 0
    · rw [if_pos hu0]
      have d2 : ((u : Int) != 0) = true := by rw [bne_iff_ne]; omega
      clear hu0
      go_enter Tryd.func16, Tryd.ntmps16
      go_wp2_with (first | (go_at_call 20; refine Calls.mono (H2.out _ HB.out.below) ?_; rintro e w_ ⟨rfl, hb_⟩; replace HB := Lib.hid (HB.out.call hb_); clear hb_) | (first | ((with_reducible refine Kx.absorb HB ?_); clear HB; intro w_ HB) | ((with_reducible refine Kx.box_gate ?_); (first | refine Kx.boxa HB rfl ?_ | refine Kx.boxt HB rfl rfl ?_ | refine Kx.box1 HB rfl rfl ?_); clear HB; intro b_ w_ HB; refine Kx.fr ?_) | ((with_reducible refine Kx.alloc_gate ?_); (first | refine Kx.ala HB ?_ | refine Kx.al1 HB ?_); clear HB; intro b_ w_ HB; refine Kx.fr ?_) | ((with_reducible refine Kx.loads_gate ?_); first | refine Kx.l1 HB rfl rfl ?_ | refine Kx.la HB rfl ?_ | refine Kx.lo HB rfl HC.out ?_) | ((with_reducible refine Kx.loadg_gate ?_); first | refine Kx.l1g HB rfl rfl rfl ?_ | refine Kx.lag HB rfl rfl ?_ | refine Kx.log HB rfl HC.out rfl ?_) | ((with_reducible refine Kx.store_gate ?_); (first | refine Kx.stwa HB rfl rfl ?_ | refine Kx.sta HB rfl rfl ?_ | refine Kx.stc HB rfl rfl ?_ | refine Kx.stt HB rfl rfl rfl ?_ | refine Kx.st1 HB rfl rfl rfl ?_); clear HB; intro w_ HB)))
      go_ret
      exact ⟨rfl, HB.out.below⟩
    · rw [if_neg hu0]
      have d2 : ((u : Int) != 0) = false := by simp; omega
      clear hu0
      go_enter Tryd.func16, Tryd.ntmps16
      go_wp2_with (first | ((with_reducible refine Kx.absorb HB ?_); clear HB; intro w_ HB) | ((with_reducible refine Kx.box_gate ?_); (first | refine Kx.boxa HB rfl ?_ | refine Kx.boxt HB rfl rfl ?_ | refine Kx.box1 HB rfl rfl ?_); clear HB; intro b_ w_ HB; refine Kx.fr ?_) | ((with_reducible refine Kx.alloc_gate ?_); (first | refine Kx.ala HB ?_ | refine Kx.al1 HB ?_); clear HB; intro b_ w_ HB; refine Kx.fr ?_) | ((with_reducible refine Kx.loads_gate ?_); first | refine Kx.l1 HB rfl rfl ?_ | refine Kx.la HB rfl ?_ | refine Kx.lo HB rfl HC.out ?_) | ((with_reducible refine Kx.loadg_gate ?_); first | refine Kx.l1g HB rfl rfl rfl ?_ | refine Kx.lag HB rfl rfl ?_ | refine Kx.log HB rfl HC.out rfl ?_) | ((with_reducible refine Kx.store_gate ?_); (first | refine Kx.stwa HB rfl rfl ?_ | refine Kx.sta HB rfl rfl ?_ | refine Kx.stc HB rfl rfl ?_ | refine Kx.stt HB rfl rfl rfl ?_ | refine Kx.st1 HB rfl rfl rfl ?_); clear HB; intro w_ HB))
      go_ret
      exact ⟨rfl, HB.out.below⟩

set_option maxRecDepth 100000 in
set_option maxHeartbeats 2000000 in
theorem differ_any (x y : Gm.Pl) (A : Option Addr) (n c0 : Nat) (A' : Option Addr) (n' c' : Nat) (A2 : Option Addr) (m k0 : Nat) (A3 : Option Addr) (m' k' : Nat) (w : World) :
    Calls Tryd.prog 22 #[.agg (pc x A n c0 A' n' c').toArray, .agg (pc y A2 m k0 A3 m' k').toArray] w fun e w' => e = .returned (.bool (!decide (Gm.Same y x))) ∧ Below w.heap.size w w' := by
  have HB := Lib.hid (Bxs.start w)
  have hS : Gm.Same y x ↔ x.t = y.t ∧ x.c = y.c ∧ x.up = y.up ∧ x.su = y.su ∧ x.s = y.s := Iff.rfl
  obtain ⟨xe, xt, xp, xs, xc, xst, xsi, xra, xup, xsu, pen, ch⟩ := x
  obtain ⟨ye, yt, yp, ys, yc, yst, ysi, yra, yup, ysu, ypen, ych⟩ := y
  dsimp only [pc] at *
  by_cases h1 : xt = yt
  case neg =>
    have d1 : (xt != yt) = true := by rw [bne_iff_ne]; exact h1
    rw [decide_eq_false (fun q => h1 (hS.1 q).1)]
    clear hS h1
    go_enter Tryd.func22, Tryd.ntmps22
    go_wp2_with (first | ((with_reducible refine Kx.absorb HB ?_); clear HB; intro w_ HB) | ((with_reducible refine Kx.box_gate ?_); (first | refine Kx.boxa HB rfl ?_ | refine Kx.boxt HB rfl rfl ?_ | refine Kx.box1 HB rfl rfl ?_); clear HB; intro b_ w_ HB; refine Kx.fr ?_) | ((with_reducible refine Kx.alloc_gate ?_); (first | refine Kx.ala HB ?_ | refine Kx.al1 HB ?_); clear HB; intro b_ w_ HB; refine Kx.fr ?_) | ((with_reducible refine Kx.loads_gate ?_); first | refine Kx.l1 HB rfl rfl ?_ | refine Kx.la HB rfl ?_ | refine Kx.lo HB rfl HC.out ?_) | ((with_reducible refine Kx.loadg_gate ?_); first | refine Kx.l1g HB rfl rfl rfl ?_ | refine Kx.lag HB rfl rfl ?_ | refine Kx.log HB rfl HC.out rfl ?_) | ((with_reducible refine Kx.store_gate ?_); (first | refine Kx.stwa HB rfl rfl ?_ | refine Kx.sta HB rfl rfl ?_ | refine Kx.stc HB rfl rfl ?_ | refine Kx.stt HB rfl rfl rfl ?_ | refine Kx.st1 HB rfl rfl rfl ?_); clear HB; intro w_ HB))
    go_ret
    exact ⟨rfl, HB.out.below⟩
  have d1 : (xt != yt) = false := by simp [h1]
  by_cases h2 : xc = yc
  case neg =>
    have d2 : (xc != yc) = true := by rw [bne_iff_ne]; exact h2
    rw [decide_eq_false (fun q => h2 (hS.1 q).2.1)]
    clear hS h1 h2
    go_enter Tryd.func22, Tryd.ntmps22
    go_wp2_with (first | ((with_reducible refine Kx.absorb HB ?_); clear HB; intro w_ HB) | ((with_reducible refine Kx.box_gate ?_); (first | refine Kx.boxa HB rfl ?_ | refine Kx.boxt HB rfl rfl ?_ | refine Kx.box1 HB rfl rfl ?_); clear HB; intro b_ w_ HB; refine Kx.fr ?_) | ((with_reducible refine Kx.alloc_gate ?_); (first | refine Kx.ala HB ?_ | refine Kx.al1 HB ?_); clear HB; intro b_ w_ HB; refine Kx.fr ?_) | ((with_reducible refine Kx.loads_gate ?_); first | refine Kx.l1 HB rfl rfl ?_ | refine Kx.la HB rfl ?_ | refine Kx.lo HB rfl HC.out ?_) | ((with_reducible refine Kx.loadg_gate ?_); first | refine Kx.l1g HB rfl rfl rfl ?_ | refine Kx.lag HB rfl rfl ?_ | refine Kx.log HB rfl HC.out rfl ?_) | ((with_reducible refine Kx.store_gate ?_); (first | refine Kx.stwa HB rfl rfl ?_ | refine Kx.sta HB rfl rfl ?_ | refine Kx.stc HB rfl rfl ?_ | refine Kx.stt HB rfl rfl rfl ?_ | refine Kx.st1 HB rfl rfl rfl ?_); clear HB; intro w_ HB))
    go_ret
    exact ⟨rfl, HB.out.below⟩
  have d2 : (xc != yc) = false := by simp [h2]
  by_cases h3 : xup = yup
  case neg =>
    have d3 : (xup != yup) = true := by rw [bne_iff_ne]; exact h3
    rw [decide_eq_false (fun q => h3 (hS.1 q).2.2.1)]
    clear hS h1 h2 h3
    go_enter Tryd.func22, Tryd.ntmps22
    go_wp2_with (first | ((with_reducible refine Kx.absorb HB ?_); clear HB; intro w_ HB) | ((with_reducible refine Kx.box_gate ?_); (first | refine Kx.boxa HB rfl ?_ | refine Kx.boxt HB rfl rfl ?_ | refine Kx.box1 HB rfl rfl ?_); clear HB; intro b_ w_ HB; refine Kx.fr ?_) | ((with_reducible refine Kx.alloc_gate ?_); (first | refine Kx.ala HB ?_ | refine Kx.al1 HB ?_); clear HB; intro b_ w_ HB; refine Kx.fr ?_) | ((with_reducible refine Kx.loads_gate ?_); first | refine Kx.l1 HB rfl rfl ?_ | refine Kx.la HB rfl ?_ | refine Kx.lo HB rfl HC.out ?_) | ((with_reducible refine Kx.loadg_gate ?_); first | refine Kx.l1g HB rfl rfl rfl ?_ | refine Kx.lag HB rfl rfl ?_ | refine Kx.log HB rfl HC.out rfl ?_) | ((with_reducible refine Kx.store_gate ?_); (first | refine Kx.stwa HB rfl rfl ?_ | refine Kx.sta HB rfl rfl ?_ | refine Kx.stc HB rfl rfl ?_ | refine Kx.stt HB rfl rfl rfl ?_ | refine Kx.st1 HB rfl rfl rfl ?_); clear HB; intro w_ HB))
    go_ret
    exact ⟨rfl, HB.out.below⟩
  have d3 : (xup != yup) = false := by simp [h3]
  by_cases h4 : xsu = ysu
  case neg =>
    have d4 : (xsu != ysu) = true := by rw [bne_iff_ne]; exact h4
    rw [decide_eq_false (fun q => h4 (hS.1 q).2.2.2.1)]
    clear hS h1 h2 h3 h4
    go_enter Tryd.func22, Tryd.ntmps22
    go_wp2_with (first | ((with_reducible refine Kx.absorb HB ?_); clear HB; intro w_ HB) | ((with_reducible refine Kx.box_gate ?_); (first | refine Kx.boxa HB rfl ?_ | refine Kx.boxt HB rfl rfl ?_ | refine Kx.box1 HB rfl rfl ?_); clear HB; intro b_ w_ HB; refine Kx.fr ?_) | ((with_reducible refine Kx.alloc_gate ?_); (first | refine Kx.ala HB ?_ | refine Kx.al1 HB ?_); clear HB; intro b_ w_ HB; refine Kx.fr ?_) | ((with_reducible refine Kx.loads_gate ?_); first | refine Kx.l1 HB rfl rfl ?_ | refine Kx.la HB rfl ?_ | refine Kx.lo HB rfl HC.out ?_) | ((with_reducible refine Kx.loadg_gate ?_); first | refine Kx.l1g HB rfl rfl rfl ?_ | refine Kx.lag HB rfl rfl ?_ | refine Kx.log HB rfl HC.out rfl ?_) | ((with_reducible refine Kx.store_gate ?_); (first | refine Kx.stwa HB rfl rfl ?_ | refine Kx.sta HB rfl rfl ?_ | refine Kx.stc HB rfl rfl ?_ | refine Kx.stt HB rfl rfl rfl ?_ | refine Kx.st1 HB rfl rfl rfl ?_); clear HB; intro w_ HB))
    go_ret
    exact ⟨rfl, HB.out.below⟩
  have d4 : (xsu != ysu) = false := by simp [h4]
  have HE : Hid ((!decide (Gm.Same ⟨ye, yt, yp, ys, yc, yst, ysi, yra, yup, ysu, ypen, ych⟩ ⟨xe, xt, xp, xs, xc, xst, xsi, xra, xup, xsu, pen, ch⟩)) = (xs != ys)) := by
    by_cases h5 : xs = ys
    · rw [decide_eq_true (hS.2 ⟨h1, h2, h3, h4, h5⟩)]; exact Lib.hid (by simp [h5])
    · rw [decide_eq_false (fun q => h5 (hS.1 q).2.2.2.2)]; exact Lib.hid (by rw [eq_comm]; show (xs != ys) = true; rw [bne_iff_ne]; exact h5)
  rw [HE.out]
  clear hS h1 h2 h3 h4 HE
  go_enter Tryd.func22, Tryd.ntmps22
  go_wp2_with (first | ((with_reducible refine Kx.absorb HB ?_); clear HB; intro w_ HB) | ((with_reducible refine Kx.box_gate ?_); (first | refine Kx.boxa HB rfl ?_ | refine Kx.boxt HB rfl rfl ?_ | refine Kx.box1 HB rfl rfl ?_); clear HB; intro b_ w_ HB; refine Kx.fr ?_) | ((with_reducible refine Kx.alloc_gate ?_); (first | refine Kx.ala HB ?_ | refine Kx.al1 HB ?_); clear HB; intro b_ w_ HB; refine Kx.fr ?_) | ((with_reducible refine Kx.loads_gate ?_); first | refine Kx.l1 HB rfl rfl ?_ | refine Kx.la HB rfl ?_ | refine Kx.lo HB rfl HC.out ?_) | ((with_reducible refine Kx.loadg_gate ?_); first | refine Kx.l1g HB rfl rfl rfl ?_ | refine Kx.lag HB rfl rfl ?_ | refine Kx.log HB rfl HC.out rfl ?_) | ((with_reducible refine Kx.store_gate ?_); (first | refine Kx.stwa HB rfl rfl ?_ | refine Kx.sta HB rfl rfl ?_ | refine Kx.stc HB rfl rfl ?_ | refine Kx.stt HB rfl rfl rfl ?_ | refine Kx.st1 HB rfl rfl rfl ?_); clear HB; intro w_ HB))
  go_ret
  exact ⟨rfl, HB.out.below⟩

set_option maxRecDepth 100000 in
set_option maxHeartbeats 1000000 in
theorem CloneL_any (A : Option Addr) (n cap B : Nat) (l : List Int) (w : World) (hr : Rd w B A (Kc.i64s l)) (hB : B ≤ w.heap.size) (hn : l.length = n) (hm : n ≤ 100000) :
    Calls Tryd.prog 42 #[.slice A n cap] w fun e w' => ∃ A' c', e = .returned (.slice A' n c') ∧ Below w.heap.size w w' ∧ w'.ownsRow w.heap.size 2 1 (.slice A' n c') n (Kc.i64s l) := by
  have HB := Lib.hid (Bxs.start w)
  have HR := Lib.hid (hr.more hB)
  have HN := Lib.hid hn
  cases A with
  | none =>
    have hl : l = [] := by
      cases l with
      | nil => rfl
      | cons v l => obtain ⟨ad, e, _⟩ := hr 0 (.int .i64 v) rfl; cases e
    subst hl
    subst hn
    have hnl := fun W => Lib.run_eql_slice_nil (P := Tryd.prog) W 26 2 none 0 cap 0 0 Tryd.underlying26
    clear hr HR HN
    go_enter Tryd.func42, Tryd.ntmps42
    go_wp2_with fail
    go_ret
    exact ⟨none, 0, rfl, Below.refl _ _, World.ownsRow_nil _ _ _ _⟩
  | some ad =>
    have hnl := fun W => Lib.run_eql_slice_nil (P := Tryd.prog) W 26 2 (some ad) n cap 0 0 Tryd.underlying26
    clear hr hn hB
    go_enter Tryd.func42, Tryd.ntmps42
    go_wp2_with (first | ((with_reducible refine Kx.alloced_gate ?_); refine Kx.absorb_row 0 1 rfl (by decide) HB ?_; clear HB; intro w_ HB) | (at_builtin; first | (refine Kx.wpList_app_x HB rfl _ _ 26 rfl _ _ _ rfl 8 2 1 _ rfl Tryd.underlying26 (by kernel_rfl) (by decide) _ _ _ rfl _ (Kc.i64s l) (HR.out.below HB.out.below) (by (first | (rw [i64s_len, HN.out, Nat.mul_one]) | exact i64s_cells l | (unfold maxLen; omega) | omega)) (by (first | (rw [i64s_len, HN.out, Nat.mul_one]) | exact i64s_cells l | (unfold maxLen; omega) | omega)) (by (first | (rw [i64s_len, HN.out, Nat.mul_one]) | exact i64s_cells l | (unfold maxLen; omega) | omega)) (by (first | (rw [i64s_len, HN.out, Nat.mul_one]) | exact i64s_cells l | (unfold maxLen; omega) | omega)) ?_; clear HB; intro A_ c_ w_ hl_ hm_ HB; refine Kx.framed ?_ (by simp only [Act.put, List.setIfInBounds_toArray, List.set_cons_succ, List.set_cons_zero] <;> rfl)) | (refine Kx.wpList_appn_x HB rfl _ _ 26 rfl rfl 8 2 1 Tryd.underlying26 (by kernel_rfl) (by decide) _ _ _ rfl _ (Kc.i64s l) (HR.out.below HB.out.below) (by (first | (rw [i64s_len, HN.out, Nat.mul_one]) | exact i64s_cells l | (unfold maxLen; omega) | omega)) (by (first | (rw [i64s_len, HN.out, Nat.mul_one]) | exact i64s_cells l | (unfold maxLen; omega) | omega)) (by (first | (rw [i64s_len, HN.out, Nat.mul_one]) | exact i64s_cells l | (unfold maxLen; omega) | omega)) (by (first | (rw [i64s_len, HN.out, Nat.mul_one]) | exact i64s_cells l | (unfold maxLen; omega) | omega)) ?_; clear HB; intro A_ c_ w_ hl_ hm_ HB; refine Kx.framed ?_ (by simp only [Act.put, List.setIfInBounds_toArray, List.set_cons_succ, List.set_cons_zero] <;> rfl))))
    go_ret
    have := (HB.out.rows _ (List.mem_cons_self ..)).1
    refine ⟨A_, c_, by simp, HB.out.below, ?_⟩
    simpa [Rw.own] using this
end Go.Proofs.YtpbogacodhjlfaaDoor
