/- A journal of a law's own: its calls as the laws take them; and the live question. -/
import Derived.Test.YtgpagddaopgdgaaDoorJq
import Derived.Test.YtgpagddaopgdgaaDoorKitF
import Derived.Lib.SlBytesConst
namespace Go.Proofs.YtgpagddaopgdgaaDoor
open Go.RowKit Go.Shelf Km

namespace Jm
theorem append_new {k : Int} {b : List Int} (h : b.length ≤ 8192) : append new k b = (⟨[], Fm.frm k b, -1, false⟩, 0) := by
  rw [append_ok (by omega) (by rw [eff_none (s := new) rfl (by decide)])]
  rw [eff_none (s := new) rfl (by decide)]
  rfl
theorem append_up {a r : List Int} {k : Int} {b : List Int} (h : b.length ≤ 8192) : append ⟨a, r, -1, false⟩ k b = (⟨a, r ++ Fm.frm k b, -1, false⟩, 0) := by
  have e : eff ⟨a, r, -1, false⟩ = (⟨a, r, -1, false⟩, 0) := eff_none rfl (by show (-1 : Int) < 0; decide)
  rw [append_ok (by omega) (by rw [e]), e]
theorem sync_up (a r : List Int) : sync ⟨a, r, -1, false⟩ = (⟨a ++ r, [], -1, false⟩, 0) := by
  have e : eff ⟨a, r, -1, false⟩ = (⟨a, r, -1, false⟩, 0) := eff_none rfl (by show (-1 : Int) < 0; decide)
  rw [sync_ok (by rw [e]), e]
theorem crash_empty (a : List Int) (b : Int) (d : Bool) (n : Int) : crash ⟨a, [], b, d⟩ n = ⟨a, [], -1, true⟩ := by
  unfold crash
  rw [show (St.mk a [] b d).rest = [] from rfl, List.take_nil, List.append_nil]
theorem al_whole {fs : List (Int × List Int)} (h : ∀ f ∈ fs, f.2.length ≤ 8192) : Fm.al (Fm.cat fs) = fs := by
  have := Fm.al_cat fs [] h
  rw [List.append_nil, Fm.al_none (by rfl : Fm.g1 [] = none), List.append_nil] at this
  exact this
theorem opn_whole {fs : List (Int × List Int)} (h : ∀ f ∈ fs, f.2.length ≤ 8192) (r : List Int) (b : Int) (d : Bool) : opn ⟨Fm.cat fs, r, b, d⟩ = (⟨Fm.cat fs, [], b, false⟩, fs, 0) := by
  have e := al_whole h
  rw [opn_all (s := ⟨Fm.cat fs, r, b, d⟩) (by unfold whole; dsimp only; rw [e]; omega)]
  dsimp only
  rw [e]
  rfl
theorem cat_one (k : Int) (b : List Int) : Fm.cat [(k, b)] = Fm.frm k b := by rw [Fm.cat_cons, Fm.cat_nil, List.append_nil]
end Jm

/-- the journal is the law's own: all its blocks are new since w0, and all older ones as they were -/
def Own (w0 w : World) (g : Nat) (s : Jm.St) : Prop := ∃ S, Jat w S g s ∧ (∀ b, S b → w0.heap.size ≤ b) ∧ Below w0.heap.size w0 w

section
variable {w0 w w' : World} {g : Nat} {s s' : Jm.St}

theorem Own.bel (h : Own w0 w g s) : Below w0.heap.size w0 w := by obtain ⟨S, -, -, h3⟩ := h; exact h3
theorem Own.below (h : Own w0 w g s) (hb : Below w.heap.size w w') : Own w0 w' g s := by
  obtain ⟨S, ⟨kv, rv, h1⟩, h2, h3⟩ := h
  exact ⟨S, ⟨kv, rv, h1.below hb⟩, h2, h3.trans (hb.mono h3.size)⟩
theorem Own.did {S : Nat → Prop} (d : Did S w w' g s') (h2 : ∀ b, S b → w0.heap.size ≤ b) (h3 : Below w0.heap.size w0 w) : Own w0 w' g s' :=
  ⟨_, d.1, fun b q => q.elim (h2 b) (fun q => Nat.le_trans h3.size q.1), h3.trans (d.2.to h2 h3.size)⟩
theorem Own.same {S : Nat → Prop} (d : Jat w' S g s') (o : Out S w w') (h2 : ∀ b, S b → w0.heap.size ≤ b) (h3 : Below w0.heap.size w0 w) : Own w0 w' g s' :=
  ⟨_, d, h2, h3.trans (o.to h2 h3.size)⟩
theorem Own.tab (h : Own w0 w g s) (ht : HTab w0) : HTab w := ht.below h.bel (Nat.le_refl _)
theorem Own.ok (h : Own w0 w g s) : Jm.Ok s := by obtain ⟨S, ⟨kv, rv, h1⟩, -⟩ := h; exact h1.ok

theorem new_own (w0 w : World) (hb : Below w0.heap.size w0 w) : Calls Tryd.prog 9 #[] w fun e w' => e = .returned (.pointer (some ⟨w.heap.size, 0, none⟩)) ∧ Own w0 w' w.heap.size Jm.new :=
  (new_any w).mono fun e w' ⟨h1, h2, h3⟩ => ⟨h1, _, ⟨_, _, h2⟩, (fun b q => by rw [q]; exact hb.size), hb.trans (h3.mono hb.size)⟩
theorem append_own (h : Own w0 w g s) (ht : HTab w0) (k : Int) (A : Option Addr) (n cap B : Nat) (xs : List Int) (hk : 0 ≤ k ∧ k ≤ 255) (hx : Rd w B A (u8s xs)) (hn : xs.length = n) (hnc : n ≤ cap) (hcap : cap ≤ maxLen) (hB : B ≤ w.heap.size) (hb : Fm.By xs) (hz : Jm.size s ≤ 16777216) :
    Calls Tryd.prog 12 #[.pointer (some ⟨g, 0, none⟩), .int .u8 k, .slice A n cap] w fun e w' => e = .returned (.int .i64 (Jm.append s k xs).2) ∧ Own w0 w' g (Jm.append s k xs).1 := by
  have htw := h.tab ht
  obtain ⟨S, ⟨kv, rv, h1⟩, h2, h3⟩ := h
  exact (append_any h1 k A n cap B xs hk hx hn hnc hcap hB hb htw hz).mono fun e w' ⟨q1, q2⟩ => ⟨q1, Own.did q2 h2 h3⟩
theorem sync_own (h : Own w0 w g s) (hz : Jm.size s ≤ 16777216) : Calls Tryd.prog 14 #[.pointer (some ⟨g, 0, none⟩)] w fun e w' => e = .returned (.int .i64 (Jm.sync s).2) ∧ Own w0 w' g (Jm.sync s).1 := by
  obtain ⟨S, ⟨kv, rv, h1⟩, h2, h3⟩ := h
  exact (sync_any h1 hz).mono fun e w' ⟨q1, q2⟩ => ⟨q1, Own.did q2 h2 h3⟩
theorem crash_own (h : Own w0 w g s) (n : Int) (hz : Jm.size s ≤ 16777216) : Calls Tryd.prog 20 #[.pointer (some ⟨g, 0, none⟩), .int .i64 n] w fun e w' => e = .returned (.tuple #[]) ∧ Own w0 w' g (Jm.crash s n) := by
  obtain ⟨S, ⟨kv, rv, h1⟩, h2, h3⟩ := h
  exact (crash_any h1 n hz).mono fun e w' ⟨q1, q2⟩ => ⟨q1, Own.did q2 h2 h3⟩
theorem effect_own (h : Own w0 w g s) : Calls Tryd.prog 16 #[.pointer (some ⟨g, 0, none⟩)] w fun e w' => e = .returned (.int .i64 (Jm.eff s).2) ∧ Own w0 w' g (Jm.eff s).1 := by
  obtain ⟨S, ⟨kv, rv, h1⟩, h2, h3⟩ := h
  exact (effect_any h1).mono fun e w' ⟨q1, q2, q3⟩ => ⟨q1, Own.same ⟨_, _, q2⟩ q3 h2 h3⟩
theorem fuse_own (h : Own w0 w g s) (n : Int) (hn : n ≤ 9223372036854775807) : Calls Tryd.prog 18 #[.pointer (some ⟨g, 0, none⟩), .int .i64 n] w fun e w' => e = .returned (.tuple #[]) ∧ Own w0 w' g (Jm.fuse s n) := by
  obtain ⟨S, ⟨kv, rv, h1⟩, h2, h3⟩ := h
  exact (fuse_any h1 n hn).mono fun e w' ⟨q1, q2, q3⟩ => ⟨q1, Own.same ⟨_, _, q2⟩ q3 h2 h3⟩
theorem down_own (h : Own w0 w g s) : Calls Tryd.prog 25 #[.pointer (some ⟨g, 0, none⟩)] w fun e w' => e = .returned (.bool s.off) ∧ w' = w := by
  obtain ⟨S, ⟨kv, rv, h1⟩, h2, h3⟩ := h
  exact down_any h1
theorem synced_own (h : Own w0 w g s) (hz : Jm.size s ≤ 16777216) : Calls Tryd.prog 26 #[.pointer (some ⟨g, 0, none⟩)] w fun e w' => ∃ v, e = .returned v ∧ w'.ownsRow w.heap.size 5 1 v s.kept.length (u8s s.kept) ∧ Below w.heap.size w w' := by
  obtain ⟨S, ⟨kv, rv, h1⟩, h2, h3⟩ := h
  unfold Jm.size at hz
  exact synced_any h1 (by omega)
theorem tail_own (h : Own w0 w g s) (hz : Jm.size s ≤ 16777216) : Calls Tryd.prog 27 #[.pointer (some ⟨g, 0, none⟩)] w fun e w' => ∃ v, e = .returned v ∧ w'.ownsRow w.heap.size 5 1 v s.rest.length (u8s s.rest) ∧ Below w.heap.size w w' := by
  obtain ⟨S, ⟨kv, rv, h1⟩, h2, h3⟩ := h
  unfold Jm.size at hz
  exact tail_any h1 (by omega)
/-- what was told before stays: it lies in blocks that are new, but not the journal's -/
theorem open_own (h : Own w0 w g s) (ht : HTab w0) (hz : Jm.size s ≤ 4194304) : Calls Tryd.prog 22 #[.pointer (some ⟨g, 0, none⟩)] w fun e w' => ∃ kk bb, e = .returned (.tuple #[kk, bb, .int .i64 (Jm.opn s).2.2]) ∧ Told w.heap.size w' kk bb (Jm.opn s).2.1 ∧ Own w0 w' g (Jm.opn s).1 := by
  have htw := h.tab ht
  obtain ⟨S, ⟨kv, rv, h1⟩, h2, h3⟩ := h
  have nT : ¬ S 0 := fun q => by
    have e := World.block_lt_of_cell? w0 _ (ht 0 (by omega))
    have := h2 _ q
    dsimp only at e
    omega
  exact (open_any h1 htw nT hz).mono fun e w' ⟨kk, bb, q1, q2, q3, q4⟩ => ⟨kk, bb, q1, q2, Own.same q3 q4 h2 h3⟩
end

set_option maxRecDepth 100000 in
set_option maxHeartbeats 2000000 in
theorem head_any (w : World) (ht : HTab w) : Calls Tryd.prog 8 #[] w fun e w' => e = .returned (.bool true) ∧ Below w.heap.size w w' := by
  have hby : Fm.By [97] := by unfold Fm.By; decide
  have e1 := Lib.hid (Jm.append_new (k := 1) (b := [97]) (by decide))
  have e2 := Lib.hid (Jm.sync_up [] (Fm.frm 1 [97]))
  have e4 : Hid (Jm.eff ⟨[] ++ Fm.frm 1 [97], [], -1, true⟩ = (⟨[] ++ Fm.frm 1 [97], [], -1, true⟩, 61)) := Jm.eff_off rfl
  have e5 : Hid (Jm.opn ⟨[] ++ Fm.frm 1 [97], [], -1, true⟩ = (⟨[] ++ Fm.frm 1 [97], [], -1, false⟩, [(1, [97])], 0)) := by
    have := Jm.opn_whole (fs := [(1, [97])]) (by intro f hf; rw [List.mem_singleton] at hf; subst hf; decide) [] (-1) true
    rw [Jm.cat_one] at this
    exact this
  have hl : (Fm.frm 1 [97]).length = 9 := Fm.frm_len _ _
  go_enter Tryd.func8, Tryd.ntmps8
  go_wp2_with (go_at_call 9; fail)
  refine (new_own w w (Below.refl _ _)).mono ?_
  rintro e w1 ⟨rfl, j1⟩
  have kc := Lib.run_convert_bytes_const (P := Tryd.prog) w1 29 5 #[.int .u8 97] 1 1 Tryd.underlying29 Tryd.underlying5
  rw [show (#[Value.int .u8 97] : Array Value).size = 1 from rfl] at kc
  have hstr : strOfNums [97] = ⟨#[97]⟩ := rfl
  have R1 : Rd (w1.alloc (.cells #[.int .u8 97] 5 (1, 2))) (w1.heap.size + 1) (some ⟨w1.heap.size, 0, none⟩) (u8s [97]) := Rd.new w1 (w1.heap.size + 1) (u8s [97]) 5 (1, 2) (by omega)
  have j1a := j1.below ((Below.refl _ w1).alloc (Nat.le_refl _) (.cells #[.int .u8 97] 5 (1, 2)))
  have hs1 : (w1.alloc (.cells #[.int .u8 97] 5 (1, 2))).heap.size = w1.heap.size + 1 := World.size_alloc ..
  have H1 := Lib.hid (append_own j1a ht 1 (some ⟨w1.heap.size, 0, none⟩) 1 1 (w1.heap.size + 1) [97] (by omega) R1 rfl (by omega) (by unfold maxLen; omega) (by omega) hby (by decide))
  rw [e1.out] at H1
  dsimp only at H1
  clear R1 j1a hs1 j1
  go_wp2_with (go_at_call 12; fail)
  refine H1.out.mono ?_
  rintro e w2 ⟨rfl, j2⟩
  have H2 := Lib.hid (sync_own j2 (by show _ + _ ≤ _; rw [hl]; decide))
  rw [e2.out] at H2
  dsimp only at H2
  clear j2 kc
  go_wp2_with (go_at_call 14; fail)
  refine H2.out.mono ?_
  rintro e w3 ⟨rfl, j3⟩
  have hz3 : Jm.size ⟨[] ++ Fm.frm 1 [97], [], -1, false⟩ ≤ 16777216 := by show _ + _ ≤ _; rw [List.nil_append, hl]; decide
  have H3 := Lib.hid (crash_own j3 0 hz3)
  rw [Jm.crash_empty] at H3
  clear j3
  go_wp2_with (go_at_call 20; fail)
  refine H3.out.mono ?_
  rintro e w4 ⟨rfl, j4⟩
  have H4 := Lib.hid (effect_own j4)
  rw [e4.out] at H4
  dsimp only at H4
  clear j4
  go_wp2_with (go_at_call 16; fail)
  refine H4.out.mono ?_
  rintro e w5 ⟨rfl, j5⟩
  have H5 := Lib.hid (open_own j5 ht (by show _ + _ ≤ _; rw [List.nil_append, hl]; decide))
  rw [e5.out] at H5
  dsimp only at H5
  clear j5
  go_wp2_with (go_at_call 22; fail)
  refine H5.out.mono ?_
  rintro e w6 ⟨kk, bb, rfl, told, j6⟩
  obtain ⟨A, c, vs, A', c', rfl, rfl, -, -, -, hrd, hbd⟩ := told.outF
  obtain ⟨v, hv⟩ : ∃ v, vs[0]? = some v := ⟨vs[0]'(by rw [hbd.1]; decide), List.getElem?_eq_getElem _⟩
  obtain ⟨ad, rfl, -, hcl⟩ := hrd 0 v hv
  obtain ⟨Ab, cb, rfl, -, -, hrb⟩ := hbd.2 0 v [97] hv rfl
  have hcs := str_of (n := 1) (cap := cb) hrb rfl
  have HB := Lib.hid j6.bel
  rw [Addr.add_zero'] at hcl
  clear told hrd hbd hv j6 hrb
  go_wp2
  go_ret
  exact ⟨rfl, HB.out⟩
end Go.Proofs.YtgpagddaopgdgaaDoor
