/- Records put one by one, some of them synced: the plain model of JournalRecovers. No program in it. -/
import Derived.Test.YtgpagddaopgdgaaDoorJu
namespace Go.Proofs.YtgpagddaopgdgaaDoor.Rm
open Go.RowKit

/-- the frames behind the synced ones, the synced ones, where each of the former ends -/
def T (ps : List (Int × List Int)) (a i : Nat) : List Int := Fm.cat ((ps.take i).drop a)
def L (ps : List (Int × List Int)) (a i : Nat) : List Int := Fm.cat (ps.take (min i a))
def E (ps : List (Int × List Int)) (a i : Nat) : List Int := (List.range (i - a)).map fun j => (((Fm.cat ((ps.drop a).take (j + 1))).length : Nat) : Int)
/-- the journal ahead of the i-th record, and with the first ones synced -/
def st' (ps : List (Int × List Int)) (a i : Nat) : Jm.St := ⟨Fm.cat (ps.take a), T ps a i, -1, false⟩
def st (ps : List (Int × List Int)) (a i : Nat) : Jm.St := if i ≤ a then ⟨[], Fm.cat (ps.take i), -1, false⟩ else st' ps a i

section
variable {ps : List (Int × List Int)} {a i : Nat} {k : Int} {b : List Int}

theorem cat_snoc (h : ps[i]? = some (k, b)) : Fm.cat (ps.take (i + 1)) = Fm.cat (ps.take i) ++ Fm.frm k b := by
  rw [List.take_add_one, h, Fm.cat_app]
  show _ ++ Fm.cat [(k, b)] = _
  rw [Fm.cat_cons, Fm.cat_nil, List.append_nil]
theorem T_lo (h : i ≤ a) : T ps a i = [] := by
  unfold T
  rw [List.drop_eq_nil_of_le (by rw [List.length_take]; omega)]
  rfl
theorem T_hi (ha : a ≤ i) (h : ps[i]? = some (k, b)) : T ps a (i + 1) = T ps a i ++ Fm.frm k b := by
  have hl := (List.getElem?_eq_some_iff.1 h).1
  unfold T
  rw [List.take_add_one, h, List.drop_append_of_le_length (by rw [List.length_take]; omega), Fm.cat_app]
  show _ ++ Fm.cat [(k, b)] = _
  rw [Fm.cat_cons, Fm.cat_nil, List.append_nil]
theorem L_lo (ha : i < a) (h : ps[i]? = some (k, b)) : L ps a (i + 1) = L ps a i ++ Fm.frm k b := by
  unfold L
  rw [Nat.min_eq_left (by omega), Nat.min_eq_left (by omega)]
  exact cat_snoc h
theorem L_hi (ha : a ≤ i) : L ps a (i + 1) = L ps a i := by
  unfold L
  rw [Nat.min_eq_right (by omega), Nat.min_eq_right (by omega)]
theorem E_lo (h : i ≤ a) : E ps a i = [] := by
  unfold E
  rw [show i - a = 0 by omega]
  rfl
theorem take_drop (ps : List (Int × List Int)) (a i : Nat) : (ps.take i).drop a = (ps.drop a).take (i - a) := by
  rw [List.drop_take]
theorem E_hi (ha : a ≤ i) : E ps a (i + 1) = E ps a i ++ [(((T ps a (i + 1)).length : Nat) : Int)] := by
  unfold E T
  rw [show i + 1 - a = (i - a) + 1 by omega, List.range_succ, List.map_append, take_drop ps a (i + 1), show i + 1 - a = (i - a) + 1 by omega]
  rfl
theorem E_len : (E ps a i).length = i - a := by unfold E; rw [List.length_map, List.length_range]
theorem E_at {m : Nat} (h : m < i - a) : (E ps a i)[m]? = some (((Fm.cat ((ps.drop a).take (m + 1))).length : Nat) : Int) := by
  unfold E
  rw [List.getElem?_map, List.getElem?_range h]
  rfl

theorem st_lo (hb : b.length ≤ 8192) (ha : i < a) (h : ps[i]? = some (k, b)) : Jm.append (st ps a i) k b = (st ps a (i + 1), 0) := by
  unfold st
  rw [if_pos (by omega), if_pos (by omega), Jm.append_up hb, cat_snoc h]
theorem st_hi (hb : b.length ≤ 8192) (ha : a ≤ i) (h : ps[i]? = some (k, b)) : Jm.append (st' ps a i) k b = (st' ps a (i + 1), 0) := by
  unfold st'
  rw [Jm.append_up hb, T_hi ha h]
theorem st_sync : Jm.sync (st ps a a) = (st' ps a a, 0) := by
  unfold st st'
  rw [if_pos (Nat.le_refl _), Jm.sync_up, List.nil_append, T_lo (Nat.le_refl _)]
theorem st_gt (h : a < i) : st ps a i = st' ps a i := if_neg (by omega)
theorem st_zero : st ps a 0 = Jm.new := by unfold st; rw [if_pos (Nat.zero_le _)]; rfl

theorem cat_le : ∀ (fs : List (Int × List Int)), (∀ f ∈ fs, f.2.length ≤ 8192) → (Fm.cat fs).length ≤ 8200 * fs.length
  | [], _ => Nat.zero_le _
  | f :: fs, h => by
    rw [Fm.cat_cons, List.length_append, Fm.frm_len, List.length_cons]
    have h1 := h f (by simp)
    have h2 := cat_le fs (fun g hg => h g (by simp [hg]))
    omega
theorem size_st' (ha : a ≤ i) (h : ∀ f ∈ ps.take i, f.2.length ≤ 8192) : Jm.size (st' ps a i) ≤ 8200 * i := by
  have e : Fm.cat (ps.take i) = Fm.cat (ps.take a) ++ T ps a i := by
    unfold T
    rw [← Fm.cat_app]
    congr 1
    have : (ps.take i).take a = ps.take a := by rw [List.take_take, Nat.min_eq_left ha]
    rw [← this, List.take_append_drop]
  have h2 := cat_le _ h
  rw [e, List.length_append, List.length_take] at h2
  show (Fm.cat (ps.take a)).length + (T ps a i).length ≤ _
  have : min i ps.length ≤ i := Nat.min_le_left _ _
  omega
theorem size_st (h : ∀ f ∈ ps.take i, f.2.length ≤ 8192) : Jm.size (st ps a i) ≤ 8200 * i := by
  unfold st
  split
  · have h2 := cat_le _ h
    rw [List.length_take] at h2
    show 0 + (Fm.cat (ps.take i)).length ≤ _
    have : min i ps.length ≤ i := Nat.min_le_left _ _
    omega
  · exact size_st' (by omega) h
theorem more_ok (h : ∀ f ∈ ps.take i, f.2.length ≤ 8192) (hi : ps[i]? = some (k, b)) (hb : b.length ≤ 8192) : ∀ f ∈ ps.take (i + 1), f.2.length ≤ 8192 := by
  intro f hf
  rw [List.take_add_one, hi, List.mem_append] at hf
  rcases hf with hf | hf
  · exact h f hf
  · simp at hf
    subst hf
    exact hb
/-- behind all records and a crash that keeps p bytes: q of the records behind the synced ones are whole -/
theorem ends {n : Nat} (hn : ps.length = n) (h : ∀ f ∈ ps, f.2.length ≤ 8192) (p : Nat) :
    ∃ q, q ≤ n - a ∧ Fm.al (Fm.cat (ps.take a) ++ (T ps a n).take p) = ps.take (a + q) ∧ (∀ m, m ≤ n - a → ((Fm.cat ((ps.drop a).take m)).length ≤ p ↔ m ≤ q)) := by
  obtain ⟨q, h1, h2, h3⟩ := Jm.al_kept (fs := ps.take a) (gs := ps.drop a) (fun f hf => h f (List.mem_of_mem_take hf)) (fun f hf => h f (List.mem_of_mem_drop hf)) p
  rw [List.length_drop, hn] at h1
  refine ⟨q, h1, ?_, fun m hm => h3 m (by rw [List.length_drop, hn]; exact hm)⟩
  unfold T
  rw [← hn, List.take_length, h2, List.take_add]
theorem T_all {n : Nat} (hn : ps.length = n) : T ps a n = Fm.cat (ps.drop a) := by unfold T; rw [← hn, List.take_length]
theorem T_cut {n : Nat} (hn : ps.length = n) (q : Nat) : (T ps a n).take (Fm.cat ((ps.drop a).take q)).length = Fm.cat ((ps.drop a).take q) := by
  rw [T_all hn]
  conv => lhs; rw [show Fm.cat (ps.drop a) = Fm.cat ((ps.drop a).take q) ++ Fm.cat ((ps.drop a).drop q) by rw [← Fm.cat_app, List.take_append_drop], List.take_left]
theorem T_le {n : Nat} (hn : ps.length = n) (q : Nat) : (Fm.cat ((ps.drop a).take q)).length ≤ (T ps a n).length := by
  rw [T_all hn]
  conv => rhs; rw [show Fm.cat (ps.drop a) = Fm.cat ((ps.drop a).take q) ++ Fm.cat ((ps.drop a).drop q) by rw [← Fm.cat_app, List.take_append_drop], List.length_append]
  omega
theorem L_all {n : Nat} (ha : a ≤ n) (q : Nat) : L ps a n ++ Fm.cat ((ps.drop a).take q) = Fm.cat (ps.take (a + q)) := by
  unfold L
  rw [Nat.min_eq_right ha, ← Fm.cat_app, List.take_add]
end
end Go.Proofs.YtgpagddaopgdgaaDoor.Rm
