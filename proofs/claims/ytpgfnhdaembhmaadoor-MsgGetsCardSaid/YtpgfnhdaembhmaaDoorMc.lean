/- Rows of bytes joined (slices.Concat, slices.Grow); lists, texts and plans as bytes: the program's. -/
import Derived.Test.YtpgfnhdaembhmaaDoorMa
import Derived.Lib.AppendZeros
namespace Go.Proofs.YtpgfnhdaembhmaaDoor
open Go.RowKit Go.Shelf

/-- slices that read as these rows of bytes -/
def Rws (w : World) (B : Nat) (vs : List Value) (bs : List (List Int)) : Prop := vs.length = bs.length ∧ ∀ (j : Nat) v b, vs[j]? = some v → bs[j]? = some b → ∃ A c, v = .slice A b.length c ∧ b.length ≤ c ∧ c ≤ maxLen ∧ Rd w B A (u8s b)
theorem Rws.below {w w' : World} {B : Nat} {vs : List Value} {bs : List (List Int)} (h : Rws w B vs bs) (hb : Below B w w') : Rws w' B vs bs :=
  ⟨h.1, fun j v b hv hb' => by obtain ⟨A, c, e, h1, h2, h3⟩ := h.2 j v b hv hb'; exact ⟨A, c, e, h1, h2, h3.below hb⟩⟩

set_option maxRecDepth 100000 in
set_option maxHeartbeats 1000000 in
theorem Grow_nil (n : Nat) (w : World) (hn : n ≤ 1000000) :
    Calls Tryd.prog 58 #[.slice none 0 0, .int .i64 (n : Int)] w fun e w' => ∃ v, e = .returned v ∧ w'.ownsRow w.heap.size 5 1 v 0 [] ∧ Below w.heap.size w w' := by
  obtain ⟨i0, hi, hz0, hz1, hz2⟩ := info_parts info_u8
  have hneg : ¬ ((n : Int) < 0) := by omega
  have hwr : IntKind.i64.wrap (n : Int) = n := by rw [IntKind.wrap_i64]; omega
  cases n with
  | zero =>
    go_enter Tryd.func58, Tryd.ntmps58
    go_wp2
    go_ret
    exact ⟨_, rfl, own_none, Below.refl _ _⟩
  | succ m =>
    have hpos : (0 : Int) < ((m + 1 : Nat) : Int) := by omega
    have hrun := Lib.run_append_nil_zeros (P := Tryd.prog) w 28 3 28 5 i0 (.int .u8 0) .i64 .i64 Tryd.underlying28 Tryd.underlying3 hi hz0 (m + 1) (by omega) (by rw [hz1]; decide) (by omega) (by rw [hz2]; omega)
    have hcap := grownCap_le_maxLen w (m + 1) 0 5 (by unfold maxLen; omega)
    have hge := grownCap_ge w (m + 1) 0 5
    obtain ⟨cp, hcp⟩ : ∃ cp, grownCap w (m + 1) 0 5 = cp := ⟨_, rfl⟩
    rw [hcp] at hrun hcap hge
    have hsz : ((Builtin.zeroCells (Value.int .u8 0).cells (m + 1) ++ Builtin.zeroCells (Value.int .u8 0).cells (cp - (m + 1))) : Array Value).size = cp * 1 := by
      rw [Array.size_append, size_zeroCells, size_zeroCells]
      show (m + 1) * 1 + (cp - (m + 1)) * 1 = cp * 1
      omega
    generalize (Builtin.zeroCells (Value.int .u8 0).cells (m + 1) ++ Builtin.zeroCells (Value.int .u8 0).cells (cp - (m + 1))) = cur at *
    have hown := World.ownsRow_made (base := w.heap.size) (e := 5) (size := 1) w.drew cur cp (Nat.le_refl _) hcap hsz
    have hbel : Below w.heap.size w (w.drew.alloc (.cells cur 5)) := (Below.refl _ w).drew.alloc (Nat.le_refl _) _
    have HR := Lib.hid hrun
    have HO := Lib.hid hown
    generalize hk : ((m + 1 : Nat) : Int) = k at *
    have hc0 : ¬ (cp : Int) < 0 := by omega
    clear hrun hown hsz hge
    go_enter Tryd.func58, Tryd.ntmps58
    go_wp2_with (at_builtin; refine Lib.wpList_append_run _ rfl _ _ _ _ rfl _ _ rfl rfl _ _ HR.out ?_)
    go_ret
    exact ⟨_, rfl, HO.out, hbel⟩

/-- the rows up to k, joined -/
def cats (bs : List (List Int)) (k : Nat) : List Int := (bs.take k).flatten
theorem cats_succ {bs : List (List Int)} {k : Nat} {b : List Int} (h : bs[k]? = some b) : cats bs (k + 1) = cats bs k ++ b := by
  unfold cats
  rw [List.take_add_one, h]
  simp
theorem cats_all (bs : List (List Int)) : cats bs bs.length = bs.flatten := by unfold cats; rw [List.take_length]
theorem cats_le (bs : List (List Int)) (k : Nat) : (cats bs k).length ≤ bs.flatten.length := by
  have h : bs.flatten = cats bs k ++ (bs.drop k).flatten := by unfold cats; rw [← List.flatten_append, List.take_append_drop]
  rw [h, List.length_append]
  omega

set_option maxRecDepth 100000 in
set_option maxHeartbeats 2000000 in
theorem Concat_any (A0 : Option Addr) (m c0 B : Nat) (vs : List Value) (bs : List (List Int)) (w : World) (hr : Rd w B A0 vs) (hv : Rws w B vs bs) (hm : bs.length = m) (hm64 : m ≤ 64) (hl : bs.flatten.length ≤ 1000000) (hB : B ≤ w.heap.size) :
    Calls Tryd.prog 25 #[.slice A0 m c0] w fun e w' => ∃ v, e = .returned v ∧ w'.ownsRow w.heap.size 5 1 v bs.flatten.length (u8s bs.flatten) ∧ Below w.heap.size w w' := by
  have HR := Lib.hid hr
  have HV := Lib.hid hv
  have HM := Lib.hid hm
  have HL := Lib.hid (fun k => Nat.le_trans (cats_le bs k) hl)
  have HA : Hid (cats bs m = bs.flatten) := by rw [← hm]; exact cats_all bs
  have HG := Lib.hid (Grow_nil (cats bs m).length w (HL.out m))
  have at_ : ∀ k, k < m → ∃ v b, vs[k]? = some v ∧ bs[k]? = some b := fun k hk => ⟨vs[k]'(by have := hv.1; omega), bs[k]'(by omega), List.getElem?_eq_getElem _, List.getElem?_eq_getElem _⟩
  have HAT := Lib.hid at_
  clear hr hv hm at_
  obtain ⟨i0, hi, hz0, hz1, hz2⟩ := info_parts info_u8
  go_enter Tryd.func25, Tryd.ntmps25
  go_wp2
  go_loopw [3, 11] (fun sz ix wr => ∃ k : Nat, ix = .int .i64 (k : Int) ∧ k ≤ m ∧ sz = .int .i64 ((cats bs k).length : Int) ∧ Hid (w = wr)) (fun _ ix _ => m - (intOf ix).toNat)
  case atStart => exact ⟨0, rfl, Nat.zero_le _, rfl, Lib.hid rfl⟩
  case round =>
    obtain ⟨k, rfl, hk, rfl, hw⟩ := hrel
    obtain rfl := hw.out
    clear hw
    by_cases hlt : k < m
    · obtain ⟨v, b, hvk, hbk⟩ := HAT.out k hlt
      obtain ⟨ad, rfl, _, hc⟩ := HR.out k v hvk
      obtain ⟨Ak, ck, rfl, _, _, _⟩ := HV.out.2 k v b hvk hbk
      have hs := congrArg List.length (cats_succ hbk)
      rw [List.length_append] at hs
      have hle := HL.out (k + 1)
      rw [hs] at hle
      have hwr : IntKind.i64.wrap (((cats bs k).length : Int) + (b.length : Int)) = (((cats bs k).length + b.length : Nat) : Int) := by rw [IntKind.wrap_i64]; omega
      have hng : ¬ ((((cats bs k).length + b.length : Nat) : Int) < 0) := by omega
      have HS := Lib.hid hs
      generalize hq : (cats bs k).length = q at *
      generalize b.length = nb at *
      clear hq hs hvk hbk
      go_wp2
      go_roundw
      case rel => exact ⟨k + 1, by go_num, by omega, by rw [HS.out]; simp, by trivial⟩
      case measure => simp [intOf]; omega
    · obtain rfl : k = m := by omega
      clear hlt
      go_wp2_with (go_at_call 58; fail)
      refine HG.out.mono ?_
      rintro e w1 ⟨v1, rfl, hown1, hb1⟩
      have HO1 := Lib.hid hown1
      have HB1 := Lib.hid hb1
      have hz1' := hb1.size
      clear hown1 hb1 HG
      go_wp2
      go_loopw [6, 27] (fun out ix wq => ∃ j : Nat, ix = .int .i64 (j : Int) ∧ j ≤ k ∧ wq.ownsRow w.heap.size 5 1 out (cats bs j).length (u8s (cats bs j)) ∧ Hid (Below w.heap.size w wq)) (fun _ ix _ => k - (intOf ix).toNat)
      case atStart => exact ⟨0, rfl, Nat.zero_le _, HO1.out, HB1⟩
      case round =>
        obtain ⟨j, rfl, hj, hown, hBw⟩ := hrel
        by_cases hlt : j < k
        · obtain ⟨v, b, hvk, hbk⟩ := HAT.out j hlt
          obtain ⟨ad, rfl, _, hc⟩ := (HR.out.below (hBw.out.mono hB)) j v hvk
          obtain ⟨Ak, ck, rfl, _, _, hrd⟩ := (HV.out.below (hBw.out.mono hB)).2 j v b hvk hbk
          have hs := cats_succ hbk
          have hle := HL.out (j + 1)
          rw [hs, List.length_append] at hle
          have HS := Lib.hid hs
          clear hs hvk hbk
          go_wp2_with (at_builtin; go_must (refine wpList_app rfl _ _ 28 rfl w.heap.size 5 i0 (.int .u8 0) 1 Tryd.underlying28 hi hz0 hz1 hz2 rfl _ _ _ rfl hown B Ak b.length ck (u8s b) rfl (by rw [List.length_map]) hrd (oneCell_ints _ _) (by unfold maxLen; omega) (by omega) hBw.out.size ?_); intro v8 w8 hown8 hgrow8 hone8)
          have hB8 := below_app hBw.out hown hgrow8 hBw.out.size
          have HO : Hid (w8.ownsRow w.heap.size 5 1 v8 (cats bs (j + 1)).length (u8s (cats bs (j + 1)))) := by
            show World.ownsRow _ _ _ _ _ _ _
            rw [HS.out, List.length_append]
            simpa [u8s] using hown8
          clear hown hown8 hgrow8 hone8
          go_roundw
          case rel => exact ⟨j + 1, by go_num, by omega, HO.out, Lib.hid hB8⟩
          case measure => simp [intOf]; omega
        · obtain rfl : j = k := by omega
          go_wp2
          go_ret
          rw [HA.out] at hown
          exact ⟨_, rfl, hown, hBw.out⟩

set_option maxRecDepth 100000 in
set_option maxHeartbeats 1000000 in
theorem list_any (A : Option Addr) (n cap B : Nat) (xs : List Int) (w : World) (hx : Rd w B A (i64s xs)) (hn : xs.length = n) (hf : Wm.Fits xs) (hB : B ≤ w.heap.size) :
    Calls Tryd.prog 26 #[.slice A n cap] w fun e w' => ∃ v, e = .returned v ∧ w'.ownsRow w.heap.size 5 1 v (Wm.pintsE xs).1.length (u8s (Wm.pintsE xs).1) ∧ Below w.heap.size w w' := by
  have HC := Lib.hid (PutInts_all A n cap B xs w hx hn hf hB)
  clear hx
  go_enter Tryd.func26, Tryd.ntmps26
  go_wp2_with (go_at_call 59; refine HC.out.mono ?_; rintro e w1 ⟨v, rfl, hown, hb⟩)
  go_ret
  exact ⟨_, rfl, hown, hb⟩

set_option maxRecDepth 100000 in
set_option maxHeartbeats 1000000 in
theorem text_any (A : Option Addr) (n cap B : Nat) (xs : List Int) (w : World) (hx : Rd w B A (u8s xs)) (hn : xs.length = n) (hB : B ≤ w.heap.size) :
    Calls Tryd.prog 28 #[.slice A n cap] w fun e w' => ∃ v, e = .returned v ∧ w'.ownsRow w.heap.size 5 1 v (Wm.ptextE xs).1.length (u8s (Wm.ptextE xs).1) ∧ Below w.heap.size w w' := by
  have HC := Lib.hid (PutText_all A n cap B xs w hx hn hB)
  clear hx
  go_enter Tryd.func28, Tryd.ntmps28
  go_wp2_with (go_at_call 61; refine HC.out.mono ?_; rintro e w1 ⟨v, rfl, hown, hb⟩)
  go_ret
  exact ⟨_, rfl, hown, hb⟩

set_option maxRecDepth 100000 in
set_option maxHeartbeats 1000000 in
theorem planText_any (x : Mm.Ms) (l : Lo) (B : Nat) (w : World) (hp : MsAt w B x l) (hB : B ≤ w.heap.size) (ht : Tab w) :
    Calls Tryd.prog 27 #[mv x l] w fun e w' => ∃ v, e = .returned v ∧ w'.ownsRow w.heap.size 5 1 v x.ptx.length (u8s x.ptx) ∧ Below w.heap.size w w' := by
  have hx1 := Mx.new w x l 30
  have hb1 : Hid (Below w.heap.size w (w.alloc (.cells (mvs x l).toArray 30))) := (Below.refl _ w).alloc (Nat.le_refl _) _
  have hz1 : w.heap.size ≤ (w.alloc (.cells (mvs x l).toArray 30)).heap.size := by rw [World.size_alloc]; omega
  have HPL := Lib.hid hx1.plan
  have k10 := hx1.at 10 rfl
  have HP := Lib.hid (Put_any x.plan _ _ _ _ _ _ B _ (hp.pl.below hb1.out hB) (Nat.le_trans hB hz1) (ht.below hb1.out (Nat.le_refl _)))
  have HZ := Lib.hid hz1
  unfold mv
  generalize mvs x l = L at *
  clear hx1 hz1
  have HE : Hid (x.ptx = if x.has then Wm.ptext x.plan.put.1 else []) := rfl
  have HPL2 := Lib.hid (Pm.put_len (x := x.plan))
  generalize x.ptx = pr at *
  generalize x.has = hh at *
  cases hh
  · go_enter Tryd.func27, Tryd.ntmps27
    go_wp2
    go_ret
    rw [HE.out]
    exact ⟨_, rfl, own_none, hb1.out⟩
  · have HE' : Hid (pr = Wm.ptext x.plan.put.1) := HE.out
    go_enter Tryd.func27, Tryd.ntmps27
    go_wp2_with (first | (refine wpList_load_mid rfl 27 _ rfl w.heap.size 11 rfl _ _ HPL.out Tryd.underlying27 rfl info_plan ?_) | (go_at_call 60; fail))
    refine HP.out.mono ?_
    rintro e w2 ⟨v, rfl, hown, hb2⟩
    obtain ⟨A2, c2, rfl, _, _, hrd⟩ := own_view hown
    have HT := Lib.hid (text_any A2 _ c2 w2.heap.size x.plan.put.1 w2 hrd rfl (Nat.le_refl _))
    rw [Wm.ptextE_ok (by have := HPL2.out; omega)] at HT
    have HB2 := Lib.hid (hb1.out.trans (hb2.mono HZ.out))
    clear hown hb2 hrd HP
    go_wp2_with (go_at_call 28; fail)
    refine HT.out.mono ?_
    rintro e w3 ⟨v3, rfl, hown3, hb3⟩
    go_wp2
    go_ret
    rw [HE'.out]
    exact ⟨_, rfl, own_mono hown3 HB2.out.size, HB2.out.trans (hb3.mono HB2.out.size)⟩
end Go.Proofs.YtpgfnhdaembhmaaDoor
