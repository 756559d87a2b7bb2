/- Plain facts on rows of numbers and on bytes as strings: no program in it. -/
import Derived.Test.YtnljpopjhjcocaaDoorWm2
namespace Go.Proofs.YtnljpopjhjcocaaDoor.Wm
open Go.RowKit

theorem ofNat_inj {a b : Int} (ha : 0 ≤ a ∧ a ≤ 255) (hb : 0 ≤ b ∧ b ≤ 255) (h : UInt8.ofNat a.toNat = UInt8.ofNat b.toNat) : a = b := by
  have h1 := congrArg UInt8.toNat h
  simp only [UInt8.toNat_ofNat'] at h1
  omega

theorem map_ofNat_inj : ∀ {a b : List Int}, (∀ x ∈ a, 0 ≤ x ∧ x ≤ 255) → (∀ x ∈ b, 0 ≤ x ∧ x ≤ 255) → (a.map fun n => UInt8.ofNat n.toNat) = (b.map fun n => UInt8.ofNat n.toNat) → a = b := by
  intro a
  induction a with
  | nil => intro b _ _ h; cases b with
    | nil => rfl
    | cons y b => simp at h
  | cons x a ih =>
    intro b ha hb h
    cases b with
    | nil => simp at h
    | cons y b =>
      rw [List.map_cons, List.map_cons] at h
      injection h with h1 h2
      rw [ofNat_inj (ha x (List.mem_cons_self ..)) (hb y (List.mem_cons_self ..)) h1, ih (fun z hz => ha z (List.mem_cons_of_mem _ hz)) (fun z hz => hb z (List.mem_cons_of_mem _ hz)) h2]

/-- two strings of bytes are alike just if the bytes are -/
theorem str_beq {a b : List Int} (ha : ∀ x ∈ a, 0 ≤ x ∧ x ≤ 255) (hb : ∀ x ∈ b, 0 ≤ x ∧ x ≤ 255) : ((strOfNums a).toList == (strOfNums b).toList) = decide (a = b) := by
  have e : ∀ l, (strOfNums l).toList = l.map fun n => UInt8.ofNat n.toNat := fun l => by unfold strOfNums; rw [ByteArray.toList_mk]
  rw [e, e, Bool.eq_iff_iff, beq_iff_eq, decide_eq_true_iff]
  exact ⟨map_ofNat_inj ha hb, fun h => by rw [h]⟩

def Fits (l : List Int) : Prop := ∀ n ∈ l, -9223372036854775808 ≤ n ∧ n ≤ 9223372036854775807

theorem flat_byte {l : List Int} (h : Fits l) : ∀ x ∈ l.flatMap pint, 0 ≤ x ∧ x ≤ 255 := by
  intro x hx
  obtain ⟨n, hn, hx⟩ := List.mem_flatMap.1 hx
  exact pint_byte (h n hn).1 (h n hn).2 x hx

theorem flat_len : ∀ (l : List Int), (l.flatMap pint).length ≤ 10 * l.length := by
  intro l
  induction l with
  | nil => simp
  | cons n l ih => rw [List.flatMap_cons, List.length_append, List.length_cons]; have := pint_len n; omega

theorem pint_head {a b : Int} {r s : List Int} (ha : -9223372036854775808 ≤ a ∧ a ≤ 9223372036854775807) (hb : -9223372036854775808 ≤ b ∧ b ≤ 9223372036854775807) (h : pint a ++ r = pint b ++ s) : a = b ∧ r = s := by
  have h1 := pint_scan ha.1 ha.2 r
  rw [h, pint_scan hb.1 hb.2 s] at h1
  have e : fold b = fold a := congrArg (·.1) h1
  have e2 : a = b := by rw [← unfold_fold a, ← e, unfold_fold]
  subst e2
  exact ⟨rfl, List.append_cancel_left h⟩

theorem flat_inj : ∀ {l m : List Int}, Fits l → Fits m → l.flatMap pint = m.flatMap pint → l = m := by
  intro l
  induction l with
  | nil =>
    intro m _ hm h
    cases m with
    | nil => rfl
    | cons n m =>
      have h1 := congrArg List.length h
      rw [List.flatMap_cons, List.length_append] at h1
      have := pint_len n
      simp only [List.flatMap_nil, List.length_nil] at h1
      omega
  | cons a l ih =>
    intro m hl hm h
    cases m with
    | nil =>
      have h1 := congrArg List.length h
      rw [List.flatMap_cons, List.length_append] at h1
      have := pint_len a
      simp only [List.flatMap_nil, List.length_nil] at h1
      omega
    | cons b m =>
      rw [List.flatMap_cons, List.flatMap_cons] at h
      obtain ⟨e1, e2⟩ := pint_head (hl a (List.mem_cons_self ..)) (hm b (List.mem_cons_self ..)) h
      rw [e1, ih (fun z hz => hl z (List.mem_cons_of_mem _ hz)) (fun z hz => hm z (List.mem_cons_of_mem _ hz)) e2]

theorem flat_beq {l m : List Int} (hl : Fits l) (hm : Fits m) : ((strOfNums (l.flatMap pint)).toList == (strOfNums (m.flatMap pint)).toList) = decide (l = m) := by
  rw [str_beq (flat_byte hl) (flat_byte hm)]
  have : (l.flatMap pint = m.flatMap pint) ↔ (l = m) := ⟨flat_inj hl hm, fun h => by rw [h]⟩
  exact decide_eq_decide.2 this

theorem flat_take_succ {l : List Int} {k : Nat} {x : Int} (h : l[k]? = some x) : (l.take (k + 1)).flatMap pint = (l.take k).flatMap pint ++ pint x := by
  rw [List.take_add_one, h]
  simp

theorem flat_rd {l : List Int} (hl : Fits l) {k : Nat} {x : Int} (h : l[k]? = some x) :
    rd (l.flatMap pint) (((l.take k).flatMap pint).length : Int) = (x, (((l.take k).flatMap pint).length : Int) + (pint x).length, 0) := by
  have hx := hl x (List.mem_of_getElem? h)
  have e : l.flatMap pint = (l.take k).flatMap pint ++ (pint x ++ (l.drop (k + 1)).flatMap pint) := by
    conv => lhs; rw [← List.take_append_drop k l]
    rw [List.flatMap_append]
    congr 1
    have hk : k < l.length := by
      rcases Nat.lt_or_ge k l.length with h1 | h1
      · exact h1
      · rw [List.getElem?_eq_none h1] at h; cases h
    rw [List.drop_eq_getElem_cons hk, List.flatMap_cons]
    rw [List.getElem?_eq_getElem hk] at h
    injection h with h
    rw [h]
  rw [e]
  exact rd_pint hx.1 hx.2 _ _

/-- the bytes of numbers, one behind the other -/
def flat (l : List Int) : List Int := l.flatMap pint
theorem flat_nil : flat [] = [] := rfl
theorem flat_take0 (l : List Int) : flat (l.take 0) = [] := rfl
theorem flatLen (l : List Int) : (flat l).length ≤ 10 * l.length := flat_len l
theorem flatByte {l : List Int} (h : Fits l) : ∀ x ∈ flat l, 0 ≤ x ∧ x ≤ 255 := flat_byte h
theorem flatBeq {l m : List Int} (hl : Fits l) (hm : Fits m) : ((strOfNums (flat l)).toList == (strOfNums (flat m)).toList) = decide (l = m) := flat_beq hl hm
theorem flatSucc {l : List Int} {k : Nat} {x : Int} (h : l[k]? = some x) : flat (l.take (k + 1)) = flat (l.take k) ++ pint x := flat_take_succ h
theorem flatRd {l : List Int} (hl : Fits l) {k : Nat} {x : Int} (h : l[k]? = some x) :
    rd (flat l) ((flat (l.take k)).length : Int) = (x, ((flat (l.take k)).length : Int) + (pint x).length, 0) := flat_rd hl h

end Go.Proofs.YtnljpopjhjcocaaDoor.Wm
