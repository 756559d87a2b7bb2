/- Calls of a journal as a law's argument; whether they are too many. -/
import Derived.Test.YtgpagddaopgdgaaDoorJr
import Derived.Deep.Slices
import Derived.Deep.Fields
import Derived.ChangeSame
import Derived.OpenShut
import Derived.ChangeOld
namespace Go.Proofs.YtgpagddaopgdgaaDoor
open Go.RowKit Go.Shelf Km

/-- a call: which, a kind, a body, a number -/
structure Cl where
  what : Int
  kind : Int
  body : List Int
  num : Int

/-- calls in memory: four cells each -/
structure ClAt (w : World) (B : Nat) (ad : Addr) (i : Nat) (o : Cl) (A : Option Addr) (c : Nat) : Prop where
  blk : ad.block < B
  c0 : w.cell? (ad.add (i * 4)) = some (.int .i64 o.what)
  c1 : w.cell? ⟨(ad.add (i * 4)).block, (ad.add (i * 4)).off + 1, none⟩ = some (.int .u8 o.kind)
  c2 : w.cell? ⟨(ad.add (i * 4)).block, (ad.add (i * 4)).off + 2, none⟩ = some (.slice A o.body.length c)
  c3 : w.cell? ⟨(ad.add (i * 4)).block, (ad.add (i * 4)).off + 3, none⟩ = some (.int .i64 o.num)
  rd : Rd w B A (u8s o.body)
  lc : o.body.length ≤ c
  cm : c ≤ maxLen
  by_ : Fm.By o.body
  k : 0 ≤ o.kind ∧ o.kind ≤ 255
  w0 : -9223372036854775808 ≤ o.what ∧ o.what ≤ 9223372036854775807
  n0 : -9223372036854775808 ≤ o.num ∧ o.num ≤ 9223372036854775807
def ClsAt (w : World) (B : Nat) (a : Option Addr) (len cap : Nat) (os : List Cl) : Prop :=
  os.length = len ∧ len ≤ cap ∧ cap ≤ maxLen ∧ ∀ i o, os[i]? = some o → ∃ ad A c, a = some ad ∧ ClAt w B ad i o A c

theorem field_at (ad : Addr) (i j : Nat) (h : 0 < j) : ad.add (i * 4 + j) = ⟨(ad.add (i * 4)).block, (ad.add (i * 4)).off + j, none⟩ := by
  obtain ⟨k, rfl⟩ : ∃ k, j = k + 1 := ⟨j - 1, by omega⟩
  rw [← addr_add_add, Addr.add_succ']
theorem ClAt.below {w w' : World} {B : Nat} {ad : Addr} {i : Nat} {o : Cl} {A : Option Addr} {c : Nat} (h : ClAt w B ad i o A c) (hb : Below B w w') : ClAt w' B ad i o A c :=
  ⟨h.blk, (hb.cell (by rw [addr_add_block]; exact h.blk)).trans h.c0, (hb.cell (by dsimp only; rw [addr_add_block]; exact h.blk)).trans h.c1, (hb.cell (by dsimp only; rw [addr_add_block]; exact h.blk)).trans h.c2, (hb.cell (by dsimp only; rw [addr_add_block]; exact h.blk)).trans h.c3, h.rd.below hb, h.lc, h.cm, h.by_, h.k, h.w0, h.n0⟩
theorem ClsAt.below {w w' : World} {B : Nat} {a : Option Addr} {len cap : Nat} {os : List Cl} (h : ClsAt w B a len cap os) (hb : Below B w w') : ClsAt w' B a len cap os :=
  ⟨h.1, h.2.1, h.2.2.1, fun i o e => by obtain ⟨ad, A, c, q1, q2⟩ := h.2.2.2 i o e; exact ⟨ad, A, c, q1, q2.below hb⟩⟩

/-- how great calls are -/
def wt (os : List Cl) : Nat := (os.map fun o => 10 + o.body.length).sum
def wm (os : List Cl) : Nat := (os.map fun o => 10 + min o.body.length 200000).sum
theorem wm_take {os : List Cl} {k : Nat} {o : Cl} (h : os[k]? = some o) : wm (os.take (k + 1)) = wm (os.take k) + (10 + min o.body.length 200000) := by
  unfold wm
  rw [List.take_add_one, h]
  simp
theorem wt_take {os : List Cl} {k : Nat} {o : Cl} (h : os[k]? = some o) : wt (os.take (k + 1)) = wt (os.take k) + (10 + o.body.length) := by
  unfold wt
  rw [List.take_add_one, h]
  simp
theorem wm_wt : ∀ (os : List Cl), wm os < 200000 → wt os = wm os
  | [], _ => rfl
  | o :: os, h => by
    have e1 : wm (o :: os) = (10 + min o.body.length 200000) + wm os := by unfold wm; simp
    have e2 : wt (o :: os) = (10 + o.body.length) + wt os := by unfold wt; simp
    rw [e1] at h
    rw [e1, e2, wm_wt os (by omega)]
    omega
theorem wt_le {os : List Cl} (k : Nat) : wt (os.take k) ≤ wt os := by
  have : wt os = wt (os.take k) + wt (os.drop k) := by
    unfold wt
    rw [← List.sum_append, ← List.map_append, List.take_append_drop]
  omega

set_option maxRecDepth 100000 in
set_option maxHeartbeats 2000000 in
theorem great_any (a : Option Addr) (len cap B : Nat) (os : List Cl) (w : World) (h : ClsAt w B a len cap os) :
    Calls Tryd.prog 11 #[.slice a len cap] w fun e w' => ∃ b, e = .returned (.bool b) ∧ (b = false → wt os < 200000) ∧ w' = w := by
  have HN := Lib.hid h.1
  have hm := h.2.2.1
  have hlc := h.2.1
  unfold maxLen at hm
  have HC := Lib.hid h.2.2.2
  clear h
  go_enter Tryd.func11, Tryd.ntmps11
  go_wp2_with fail
  go_loopw [3, 4] (fun mx ix wr => ∃ (k m : Nat), ix = .int .i64 (k : Int) ∧ mx = .int .i64 (m : Int) ∧ k ≤ len ∧ m ≤ 400010 ∧ Hid (m = wm (os.take k)) ∧ wr = w) (fun _ ix _ => len - (intOf ix).toNat)
  case atStart => exact ⟨0, 0, rfl, rfl, by omega, by omega, Lib.hid rfl, rfl⟩
  case round =>
    obtain ⟨k, m, rfl, rfl, hk, hmm, HM, rfl⟩ := hrel
    by_cases hlt : k < len
    · by_cases hml : m < 200000
      · obtain ⟨o, ho⟩ : ∃ o, os[k]? = some o := ⟨os[k]'(by rw [HN.out]; exact hlt), List.getElem?_eq_getElem _⟩
        obtain ⟨ad, A, c, rfl, hcl⟩ := HC.out k o ho
        have HS := Lib.hid (wm_take ho)
        have c2 := hcl.c2
        have d1 : decide ((k : Int) < (len : Int)) = true := by simpa using hlt
        have d2 : decide ((m : Int) < 200000) = true := by simp; omega
        have d3 : (k : Int) < (len : Int) := by omega
        clear ho hcl
        go_wp2_with fail
        go_roundw
        case rel => exact ⟨k + 1, m + (10 + min o.body.length 200000), by go_num, congrArg (Value.int IntKind.i64) (by split <;> omega), by omega, by omega, Lib.hid (by rw [HS.out, ← HM.out]), trivial⟩
        case measure => simp [intOf]; omega
      · have d1 : decide ((k : Int) < (len : Int)) = true := by simpa using hlt
        have d2 : decide ((m : Int) < 200000) = false := by simp; omega
        have d4 : decide ((200000 : Int) ≤ (m : Int)) = true := by simp; omega
        go_wp2
        go_ret
        exact ⟨_, rfl, fun q => by first | (cases q) | (simp at q; omega), rfl⟩
    · have hkl : k = len := by omega
      have HF : Hid (m = wm os) := by
        have := HM.out
        rw [hkl, ← HN.out, List.take_length] at this
        exact this
      have d1 : decide ((k : Int) < (len : Int)) = false := by simp; omega
      clear hkl HM
      go_wp2
      go_ret
      refine ⟨_, rfl, fun q => ?_, rfl⟩
      have q2 : m < 200000 := by simp at q; omega
      have := HF.out
      rw [wm_wt os (by omega)]
      omega
end Go.Proofs.YtgpagddaopgdgaaDoor
