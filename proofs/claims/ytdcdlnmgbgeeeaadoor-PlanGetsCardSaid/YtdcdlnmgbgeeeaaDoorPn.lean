/- The plain model of the document's reading of a plan. No program in it. -/
import Derived.Test.YtdcdlnmgbgeeeaaDoorPe
namespace Go.Proofs.YtdcdlnmgbgeeeaaDoor.Pm
open Go.RowKit

theorem sm_in {v lo hi : Int} (h1 : -1 ≤ lo) (h2 : hi ≤ 1000000) : (lo ≤ sm v ∧ sm v ≤ hi) ↔ (lo ≤ v ∧ v ≤ hi) := by unfold sm; split <;> omega
theorem sm_id {v : Int} (h1 : -1 ≤ v) (h2 : v ≤ 1000000) : sm v = v := if_pos ⟨h1, h2⟩
theorem sm_fit (v : Int) : I (sm v) := by unfold I sm; split <;> omega

/-- the plan of ten numbers and two lists, numbers that are no index struck -/
def sml (ns pen ch : List Int) : Pl :=
  ⟨ns.getD 0 0, sm (ns.getD 1 0), sm (ns.getD 2 0), sm (ns.getD 3 0), sm (ns.getD 4 0), ns.getD 5 0, ns.getD 6 0, ns.getD 7 0, us (ns.getD 8 0), us (ns.getD 9 0), pen.map sm, ch⟩
theorem sml_ok {ns pen ch : List Int} (hf : Wm.Fits ns) (hc : Wm.Fits ch) : (sml ns pen ch).Ok :=
  ⟨fit_at hf 0, sm_fit _, sm_fit _, sm_fit _, sm_fit _, fit_at hf 5, fit_at hf 6, fit_at hf 7, us_fit (fit_at hf 8), us_fit (fit_at hf 9), (fun n hn => by
    obtain ⟨v, _, rfl⟩ := List.mem_map.1 hn
    exact sm_fit v), hc⟩

theorem bd_sm {pen : List Int} : Bd (pen.map sm) 16 1000000 ↔ Bd pen 16 1000000 := by
  unfold Bd
  rw [List.length_map]
  refine and_congr Iff.rfl ⟨fun h n hn => ?_, fun h n hn => ?_⟩
  · exact (sm_in (by omega) (by omega)).1 (h (sm n) (List.mem_map.2 ⟨n, hn, rfl⟩))
  · obtain ⟨v, hv, rfl⟩ := List.mem_map.1 hn
    exact (sm_in (by omega) (by omega)).2 (h v hv)

theorem at_sm {ns pen ch : List Int} (hf : Wm.Fits ns) (k : Nat) (hk : k < 10) : At (sml ns pen ch).nums k ↔ At ns k := by
  have e8 := sg_us (fit_at hf 8)
  have e9 := sg_us (fit_at hf 9)
  match k, hk with
  | 0, _ => exact Iff.rfl
  | 1, _ => exact sm_in (lo := -1) (hi := 15) (by omega) (by omega)
  | 2, _ => exact sm_in (lo := -1) (hi := 15) (by omega) (by omega)
  | 3, _ => exact sm_in (lo := -1) (hi := 15) (by omega) (by omega)
  | 4, _ => exact sm_in (lo := 0) (hi := 100) (by omega) (by omega)
  | 5, _ => exact Iff.rfl
  | 6, _ => exact Iff.rfl
  | 7, _ => exact Iff.rfl
  | 8, _ => show (0 ≤ sg (us (ns.getD 8 0)) ∧ sg (us (ns.getD 8 0)) ≤ 65535) ↔ (0 ≤ ns.getD 8 0 ∧ ns.getD 8 0 ≤ 65535); rw [e8]
  | 9, _ => show (0 ≤ sg (us (ns.getD 9 0)) ∧ sg (us (ns.getD 9 0)) ≤ 65535) ↔ (0 ≤ ns.getD 9 0 ∧ ns.getD 9 0 ≤ 65535); rw [e9]

theorem sml_right {ns pen ch : List Int} (hf : Wm.Fits ns) : (sml ns pen ch).right = ask (Rt ns pen ch) := by
  refine congrArg ask (propext ?_)
  unfold Rt
  refine and_congr ⟨fun h k hk => (at_sm hf k hk).1 (h k hk), fun h k hk => (at_sm hf k hk).2 (h k hk)⟩ (and_congr bd_sm Iff.rfl)

theorem sml_eq {ns pen ch : List Int} (h : Rt ns pen ch) : sml ns pen ch = plOf ns pen ch := by
  obtain ⟨ha, hb, _⟩ := h
  have a1 : -1 ≤ ns.getD 1 0 ∧ ns.getD 1 0 ≤ 15 := ha 1 (by omega)
  have a2 : -1 ≤ ns.getD 2 0 ∧ ns.getD 2 0 ≤ 15 := ha 2 (by omega)
  have a3 : -1 ≤ ns.getD 3 0 ∧ ns.getD 3 0 ≤ 15 := ha 3 (by omega)
  have a4 : 0 ≤ ns.getD 4 0 ∧ ns.getD 4 0 ≤ 100 := ha 4 (by omega)
  have hp : pen.map sm = pen := by
    have : pen.map sm = pen.map id := List.map_congr_left (fun v hv => sm_id (by have := (hb.2 v hv).1; omega) (hb.2 v hv).2)
    rw [this, List.map_id]
  have b1 := sm_id (v := ns.getD 1 0) (by omega) (by omega)
  have b2 := sm_id (v := ns.getD 2 0) (by omega) (by omega)
  have b3 := sm_id (v := ns.getD 3 0) (by omega) (by omega)
  have b4 := sm_id (v := ns.getD 4 0) (by omega) (by omega)
  show Pl.mk _ (sm (ns.getD 1 0)) (sm (ns.getD 2 0)) (sm (ns.getD 3 0)) (sm (ns.getD 4 0)) _ _ _ _ _ (pen.map sm) _ = Pl.mk _ _ _ _ _ _ _ _ _ _ _ _
  exact congr (congr (congr (congr (congr (congr (congr (congr (congr (congr (congr (congrArg Pl.mk rfl) b1) b2) b3) b4) rfl) rfl) rfl) rfl) rfl) hp) rfl

theorem rt_neg8 {ns pen ch : List Int} (h : ns.getD 8 0 < 0) : ask (Rt ns pen ch) ≠ true := by
  rw [ask_no (fun q => by have : 0 ≤ ns.getD 8 0 ∧ _ := q.1 8 (by omega); omega)]; decide
theorem rt_neg9 {ns pen ch : List Int} (h : ns.getD 9 0 < 0) : ask (Rt ns pen ch) ≠ true := by
  rw [ask_no (fun q => by have : 0 ≤ ns.getD 9 0 ∧ _ := q.1 9 (by omega); omega)]; decide

theorem get_len {b l : List Int} {n : Nat} (hb : ∀ c ∈ b, 0 ≤ c ∧ c ≤ 255) (h : Wm.rints b 0 = (l, (n : Int), 0)) (hl : l.length ≠ 10) : get b = (zero, 41) := by
  rcases get3_cases hb with h3 | ⟨l', n', e0, n0, f0, s0, h3⟩
  · exact get_none h3.2
  rcases h3 with h3 | ⟨m', i, e1, n1, f1, s1, h3⟩
  · exact get_none h3.2
  rcases h3 with h3 | ⟨o', j, e2, n2, f2, s2, h3⟩
  · exact get_none h3.2
  rcases h3 with h3 | ⟨hj, h4, hU⟩
  · exact get_none h3.2
  have e3 : l = l' := congrArg Prod.fst (h.symm.trans e0)
  subst e3
  exact get_no h4 (fun q => hl q.1)
end Go.Proofs.YtdcdlnmgbgeeeaaDoor.Pm
