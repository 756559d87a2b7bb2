import Derived.Test.YtbkdenlhfigjhaaDoorBWa
import Derived.Test.YtbkdenlhfigjhaaDoorBWm
import Derived.Lib.SliceRun
import Derived.Test.YtbkdenlhfigjhaaDoorBK
namespace Go.Proofs.YtbkdenlhfigjhaaDoor
open Go.RowKit Go.Shelf

set_option maxRecDepth 100000 in
set_option maxHeartbeats 2000000 in
theorem PutInts_all (A : Option Addr) (n cap B : Nat) (xs : List Int) (w : World) (hx : Rd w B A (i64s xs)) (hn : xs.length = n) (hf : Wm.Fits xs) (hB : B ≤ w.heap.size) :
    Calls Tryd.prog 77 #[.slice A n cap] w fun e w' => ∃ v, e = .returned (.tuple #[v, .int .i64 (Wm.pintsE xs).2]) ∧
      w'.ownsRow w.heap.size 5 1 v (Wm.pintsE xs).1.length (u8s (Wm.pintsE xs).1) ∧ Below w.heap.size w w' := by
  by_cases hm : 64 < xs.length
  · have HE := Lib.hid (Wm.pintsE_many hm)
    have hm' : 64 < n := by omega
    clear hx hf
    go_enter Tryd.func77, Tryd.ntmps77
    go_wp2
    go_ret2
    rw [HE.out]
    exact ⟨_, rfl, own_none, Below.refl _ _⟩
  · have HE := Lib.hid (Wm.pintsE_ok hm)
    obtain ⟨i0, hi, hz0, hz1, hz2⟩ := info_parts info_u8
    have HN := Lib.hid hn
    have HX := Lib.hid hx
    have HF : Hid (Wm.Fits xs) := hf
    have hm' : n ≤ 64 := by omega
    have HZ : Hid (Wm.pintsU xs 0 = Wm.pint (n : Int)) := by
      show _ = _
      rw [Wm.pintsU_zero, hn]
    clear hn hx hf hm
    go_enter Tryd.func77, Tryd.ntmps77
    go_wp2_with (go_at_call 83; refine (PutInt_any _ _ (by omega) (by omega)).mono ?_; rintro e w1 ⟨v, rfl, hown0, hb0⟩)
    go_loopw [4, 15] (fun out ix wr => ∃ k : Nat, ix = .int .i64 (k : Int) ∧ k ≤ n ∧ wr.ownsRow w.heap.size 5 1 out (Wm.pintsU xs k).length (u8s (Wm.pintsU xs k)) ∧ Below w.heap.size w wr)
      (fun _ ix _ => n - (intOf ix).toNat)
    case atStart => exact ⟨0, rfl, by omega, by rw [HZ.out]; exact hown0, hb0⟩
    case round =>
      obtain ⟨k, rfl, hk, hown, hBl⟩ := hrel
      by_cases hlt : k < n
      · obtain ⟨x, hxk⟩ : ∃ x, xs[k]? = some x := ⟨xs[k]'(by have := HN.out; omega), List.getElem?_eq_getElem _⟩
        have hxb := HF.out x (List.mem_of_getElem? hxk)
        obtain ⟨ad, rfl, _, hcl⟩ := (HX.out.below (hBl.mono hB)).getU hxk
        have HS := Lib.hid (Wm.pintsU_succ hxk)
        have hfl := Wm.pintsU_len xs k
        have hpl := Wm.pint_len x
        clear hxk
        go_wp2_with (first | (go_at_call 83; refine (PutInt_any _ _ hxb.1 hxb.2).mono ?_; rintro e w2 ⟨v, rfl, hown2, hb2⟩; obtain ⟨A2, cap2, rfl, hcp2, hcm2, hrd2⟩ := own_view hown2) | (at_builtin; refine wpList_app rfl _ _ 37 rfl w.heap.size 5 i0 (.int .u8 0) 1 Tryd.underlying37 hi hz0 hz1 hz2 rfl _ _ _ rfl (own_below hown hb2 (Nat.le_refl _)) w2.heap.size A2 _ cap2 (u8s (Wm.pint x)) rfl (by rw [List.length_map]) hrd2 (oneCell_ints _ _) (by unfold maxLen; omega) (by omega) (Nat.le_trans hBl.size hb2.size) ?_; intro v' w3 hown' hgrow _))
        have hB3 := below_app (hBl.trans (hb2.mono hBl.size)) (own_below hown hb2 (Nat.le_refl _)) hgrow (Nat.le_trans hBl.size hb2.size)
        have HO : Hid (w3.ownsRow w.heap.size 5 1 v' (Wm.pintsU xs (k + 1)).length (u8s (Wm.pintsU xs (k + 1)))) := by
          show World.ownsRow _ _ _ _ _ _ _
          rw [HS.out, List.length_append]
          simpa [u8s] using hown'
        go_roundw
        case rel => exact ⟨k + 1, by go_num, by omega, HO.out, hB3⟩
        case measure => simp [intOf]; omega
      · obtain rfl : k = n := by omega
        go_wp2
        go_ret2
        rw [HE.out, HN.out]
        exact ⟨_, rfl, hown, hBl⟩

end Go.Proofs.YtbkdenlhfigjhaaDoor

namespace Go.Proofs.YtbkdenlhfigjhaaDoor
open Go.RowKit Go.Shelf

theorem i64s_set (ys : List Int) (k : Nat) (y : Int) : (i64s ys).set k (.int .i64 y) = i64s (ys.set k y) := by simp [i64s, List.map_set]
theorem info_i64 : (Tryd.prog.info? 2).map (fun i => (i.zero, i.size, i.bytes)) = some (some (.int .i64 0), 1, 8) := by kernel_rfl
theorem made_i64 (n : Nat) : (madeCells (Value.int .i64 0).cells (n * 1)).toList = i64s (List.replicate n 0) := by
  show (madeCells #[Value.int .i64 0] (n * 1)).toList = _
  rw [toList_madeCells_one]
  simp [i64s]

end Go.Proofs.YtbkdenlhfigjhaaDoor

namespace Go.Proofs.YtbkdenlhfigjhaaDoor
open Go.RowKit Go.Shelf

end Go.Proofs.YtbkdenlhfigjhaaDoor

namespace Go.Proofs.YtbkdenlhfigjhaaDoor
open Go.RowKit Go.Shelf

set_option maxRecDepth 100000 in
set_option maxHeartbeats 1000000 in
theorem PutText_many (A : Option Addr) (n cap : Nat) (w : World) (hn : 4096 < n) :
    Calls Tryd.prog 79 #[.slice A n cap] w fun e w' => e = .returned (.tuple #[.slice none 0 0, .int .i64 2]) ∧ w = w' := by
  go_enter Tryd.func79, Tryd.ntmps79
  go_wp2
  go_ret2
  exact ⟨rfl, rfl⟩

set_option maxRecDepth 100000 in
set_option maxHeartbeats 1000000 in
theorem PutText_any (A : Option Addr) (n cap B : Nat) (xs : List Int) (w : World) (hx : Rd w B A (u8s xs)) (hn : xs.length = n) (hB : B ≤ w.heap.size) (hle : n ≤ 4096) :
    Calls Tryd.prog 79 #[.slice A n cap] w fun e w' => ∃ v, e = .returned (.tuple #[v, .int .i64 0]) ∧
      w'.ownsRow w.heap.size 5 1 v (Wm.ptext xs).length (u8s (Wm.ptext xs)) ∧ Below w.heap.size w w' := by
  obtain ⟨i0, hi, hz0, hz1, hz2⟩ := info_parts info_u8
  have hpl := Wm.pint_len (n : Int)
  have HN := Lib.hid hn
  clear hn
  go_enter Tryd.func79, Tryd.ntmps79
  go_wp2_with (first | (go_at_call 83; refine (PutInt_any _ _ (by omega) (by omega)).mono ?_; rintro e w1 ⟨v, rfl, hrow, hb⟩) | (at_builtin; (refine wpList_app rfl _ _ 37 rfl w.heap.size 5 i0 (.int .u8 0) 1 Tryd.underlying37 hi hz0 hz1 hz2 rfl _ _ _ rfl hrow B A n cap (u8s xs) rfl (by rw [List.length_map]; exact HN.out) (hx.below (hb.mono hB)) (oneCell_ints _ _) (by unfold maxLen; omega) (by omega) hb.size ?_); intro v' w2 hown' hgrow _))
  go_ret2
  refine ⟨v', rfl, ?_, below_app hb hrow hgrow hb.size⟩
  have e1 : (Wm.ptext xs).length = (Wm.pint (n : Int)).length + n := by unfold Wm.ptext; rw [HN.out, List.length_append, HN.out]
  have e2 : u8s (Wm.ptext xs) = u8s (Wm.pint (n : Int)) ++ u8s xs := by unfold Wm.ptext; rw [HN.out]; simp [u8s]
  rw [e1, e2]
  exact hown'

end Go.Proofs.YtbkdenlhfigjhaaDoor

namespace Go.Proofs.YtbkdenlhfigjhaaDoor
open Go.RowKit Go.Shelf

end Go.Proofs.YtbkdenlhfigjhaaDoor

namespace Go.Proofs.YtbkdenlhfigjhaaDoor
open Go.RowKit Go.Shelf


end Go.Proofs.YtbkdenlhfigjhaaDoor

namespace Go.Proofs.YtbkdenlhfigjhaaDoor
open Go.RowKit Go.Shelf

end Go.Proofs.YtbkdenlhfigjhaaDoor

namespace Go.Proofs.YtbkdenlhfigjhaaDoor
open Go.RowKit Go.Shelf

theorem PutText_all (A : Option Addr) (n cap B : Nat) (xs : List Int) (w : World) (hx : Rd w B A (u8s xs)) (hn : xs.length = n) (hB : B ≤ w.heap.size) :
    Calls Tryd.prog 79 #[.slice A n cap] w fun e w' => ∃ v, e = .returned (.tuple #[v, .int .i64 (Wm.ptextE xs).2]) ∧
      w'.ownsRow w.heap.size 5 1 v (Wm.ptextE xs).1.length (u8s (Wm.ptextE xs).1) ∧ Below w.heap.size w w' := by
  by_cases h : 4096 < xs.length
  · rw [Wm.ptextE_many h]
    refine (PutText_many A n cap w (by omega)).mono ?_
    rintro e w' ⟨rfl, rfl⟩
    exact ⟨_, rfl, own_none, Below.refl _ _⟩
  · rw [Wm.ptextE_ok h]
    exact PutText_any A n cap B xs w hx hn hB (by omega)

end Go.Proofs.YtbkdenlhfigjhaaDoor
