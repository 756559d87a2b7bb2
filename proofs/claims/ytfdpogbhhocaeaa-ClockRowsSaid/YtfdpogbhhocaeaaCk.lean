/- Whether clocks drift: the document's. -/
import Derived.Test.YtfdpogbhhocaeaaCc
import Derived.Test.YtfdpogbhhocaeaaCi
namespace Go.Proofs.Ytfdpogbhhocaeaa
open Go.RowKit Go.Shelf Km

theorem any_take (zs : List Int) (k : Nat) {x : Int} (h : zs[k]? = some x) (P : Int → Bool) : (zs.take (k + 1)).any P = ((zs.take k).any P || P x) := by
  have : zs.take (k + 1) = zs.take k ++ [x] := by rw [List.take_add_one, h]; rfl
  rw [this, List.any_append, List.any_cons, List.any_nil, Bool.or_false]

set_option maxRecDepth 100000 in
set_option maxHeartbeats 4000000 in
theorem holds_any (A : Option Addr) (n cap B : Nat) (l : List (Int × Int)) (A1 : Option Addr) (n1 c1 B1 : Nat) (some1 : List Int) (much : Int) (A3 : Option Addr) (n3 c3 B3 : Nat) (others : List Int) (least : Int) (w : World)
    (hr : Rd w B A (svs l)) (hn : l.length = n) (hB : B ≤ w.heap.size) (hm : n ≤ 8388607)
    (h1 : Rd w B1 A1 (i64s some1)) (hn1 : some1.length = n1) (hB1 : B1 ≤ w.heap.size) (hm1 : n1 ≤ 1000000)
    (h3 : Rd w B3 A3 (i64s others)) (hn3 : others.length = n3) (hB3 : B3 ≤ w.heap.size) (hm3 : n3 ≤ 1000000) :
    Calls Try.prog 21 #[.slice A n cap, .slice A1 n1 c1, .int .i64 much, .slice A3 n3 c3, .int .i64 least] w fun e w' => ∃ b, e = .returned (.bool b) ∧ (b = true ↔ Cl.Hd (Cl.gain l) some1 much others least) ∧ Below w.heap.size w w' := by
  have HR := Lib.hid hr
  have HN := Lib.hid hn
  have H1 := Lib.hid h1
  have HN1 := Lib.hid hn1
  have H3 := Lib.hid h3
  have HN3 := Lib.hid hn3
  clear hr hn h1 hn1 h3 hn3
  go_enter Try.func21, Try.ntmps21
  go_wp2_with fail
  go_loopg [11, 12] n1 (fun gh gx ix wr => ∃ k : Nat, gh + k = n1 ∧ gx = .bool ((some1.take k).any (fun a => decide (much ≤ Cl.gain l a))) ∧ ix = .int .i64 (k : Int) ∧ Hid (Below w.heap.size w wr))
  case atStart => exact ⟨0, by omega, rfl, rfl, Lib.hid (Below.refl _ _)⟩
  case round =>
    obtain ⟨k, hk, rfl, rfl, hb⟩ := hrel
    by_cases hlt : k < n1
    · obtain ⟨x, hx⟩ : ∃ x, some1[k]? = some x := ⟨some1[k]'(by rw [HN1.out]; exact hlt), List.getElem?_eq_getElem _⟩
      obtain ⟨ad, rfl, hab, hcx⟩ := (H1.out.below (hb.out.mono hB1)) k _ (i64s_get hx)
      have HA := Lib.hid (any_take some1 k hx (fun a => decide (much ≤ Cl.gain l a)))
      have d3 : (k : Int) < (n1 : Int) := by omega
      generalize (some1.take k).any (fun a => decide (much ≤ Cl.gain l a)) = q at *
      have HG := Lib.hid (RGain_any A n cap B l x wr (HR.out.below (hb.out.mono hB)) HN.out (Nat.le_trans hB hb.out.size) hm)
      clear hx hab
      cases q with
      | true =>
        clear HG
        go_wp2
        go_roundg (gk - 1)
        case measure => omega
        case rel => exact ⟨k + 1, by omega, congrArg _ HA.out.symm, by go_num, hb⟩
      | false =>
        go_wp2_with (go_at_call 11; fail)
        refine HG.out.mono ?_
        rintro e w2 ⟨rfl, hb2⟩
        have HB2 := Lib.hid (hb.out.trans (hb2.mono hb.out.size))
        clear hb2 HG hcx hb
        have hA := HA.out
        rw [Bool.false_or] at hA
        have HA2 := Lib.hid hA
        clear hA HA
        go_wp2
        go_roundg (gk - 1)
        case measure => omega
        case rel => exact ⟨k + 1, by omega, congrArg _ HA2.out.symm, by go_num, HB2⟩
    · obtain rfl : k = n1 := by omega
      have d3 : decide ((k : Int) < (k : Int)) = false := by simp
      have e1 : some1.take k = some1 := List.take_of_length_le (by rw [HN1.out]; exact Nat.le_refl _)
      rw [e1]
      clear e1
      generalize hq : some1.any (fun a => decide (much ≤ Cl.gain l a)) = q at *
      have HQ := Lib.hid hq
      clear hq
      obtain ⟨wz, hwz⟩ : ∃ wz, wz = wr := ⟨_, rfl⟩
      subst hwz
      have hsz := hb.out.size
      go_wp2_with fail
      go_loopg [13] n3 (fun gh ix wx => ∃ j : Nat, gh + j = n3 ∧ ix = .int .i64 (j : Int) ∧ Hid (q = true → ∀ b ∈ others.take j, least ≤ Cl.gain l b) ∧ Hid (Below w.heap.size w wx))
      case atStart => exact ⟨0, by omega, rfl, Lib.hid (fun _ b h => by rw [List.take_zero] at h; cases h), hb⟩
      case round =>
        clear hb
        obtain ⟨j, hj, rfl, HT, hb⟩ := hrel
        cases q with
        | false =>
          have HH : Hid (Cl.Hd (Cl.gain l) some1 much others least) := Lib.hid (fun h => by
            obtain ⟨a, ha, hm⟩ := h
            exact absurd (List.any_eq_false.1 HQ.out a ha) (by simp; exact hm))
          by_cases hlt2 : j < n3
          · have d4 : (j : Int) < (n3 : Int) := by omega
            go_wp2
            go_ret
            exact ⟨true, rfl, ⟨(fun _ => HH.out), fun _ => rfl⟩, hb.out⟩
          · have d4 : decide ((j : Int) < (n3 : Int)) = false := by simp; omega
            go_wp2
            go_ret
            exact ⟨true, rfl, ⟨(fun _ => HH.out), fun _ => rfl⟩, hb.out⟩
        | true =>
          by_cases hlt2 : j < n3
          · obtain ⟨x, hx⟩ : ∃ x, others[j]? = some x := ⟨others[j]'(by rw [HN3.out]; exact hlt2), List.getElem?_eq_getElem _⟩
            obtain ⟨ad, rfl, hab, hcx⟩ := (H3.out.below (hb.out.mono hB3)) j _ (i64s_get hx)
            have d4 : (j : Int) < (n3 : Int) := by omega
            have HG := Lib.hid (RGain_any A n cap B l x wr (HR.out.below (hb.out.mono hB)) HN.out (Nat.le_trans hB hb.out.size) hm)
            have ht : others.take (j + 1) = others.take j ++ [x] := by rw [List.take_add_one, hx]; rfl
            have HM := Lib.hid (List.mem_of_getElem? hx)
            have HTT := Lib.hid ht
            clear hx hab ht
            go_wp2_with (go_at_call 11; fail)
            refine HG.out.mono ?_
            rintro e w2 ⟨rfl, hb2⟩
            have HB2 := Lib.hid (hb.out.trans (hb2.mono hb.out.size))
            clear hb2 HG hcx hb
            by_cases hlow : Cl.gain l x < least
            · have HH : Hid (¬ Cl.Hd (Cl.gain l) some1 much others least) := Lib.hid (fun h => by
                obtain ⟨a, ha, hm⟩ := List.any_eq_true.1 HQ.out
                have := h ⟨a, ha, of_decide_eq_true hm⟩ x HM.out
                omega)
              generalize Cl.gain l x = gx at *
              go_wp2
              go_ret
              exact ⟨false, rfl, ⟨(fun h => by cases h), fun h => absurd h HH.out⟩, HB2.out⟩
            · have HT2 : Hid (∀ b ∈ others.take (j + 1), least ≤ Cl.gain l b) := Lib.hid (fun b hb => by
                rw [HTT.out] at hb
                rcases List.mem_append.1 hb with h | h
                · exact HT.out (by simp) b h
                · cases List.mem_singleton.1 h; omega)
              generalize Cl.gain l x = gx at hlow ⊢
              have d5 : decide (gx < least) = false := decide_eq_false hlow
              clear hlow HT
              go_wp2
              go_roundg (gk - 1)
              case measure => omega
              case rel => exact ⟨j + 1, by omega, by go_num, Lib.hid (fun _ => HT2.out), HB2⟩
          · obtain rfl : j = n3 := by omega
            have d4 : decide ((j : Int) < (j : Int)) = false := by simp
            have HH : Hid (Cl.Hd (Cl.gain l) some1 much others least) := Lib.hid (fun _ b hb => HT.out (by simp) b (by rw [List.take_of_length_le (by rw [HN3.out]; exact Nat.le_refl _)]; exact hb))
            go_wp2
            go_ret
            first | exact ⟨true, rfl, ⟨(fun _ => HH.out), fun _ => rfl⟩, hb.out⟩ | exact .inr ⟨rfl, HH.out, hb.out⟩

set_option maxRecDepth 100000 in
set_option maxHeartbeats 4000000 in
theorem RDrift_any (A : Option Addr) (n cap B : Nat) (l : List (Int × Int)) (A1 : Option Addr) (n1 c1 B1 : Nat) (some1 : List Int) (much : Int) (A3 : Option Addr) (n3 c3 B3 : Nat) (others : List Int) (least : Int) (w : World)
    (hr : Rd w B A (svs l)) (hn : l.length = n) (hnc : n ≤ cap) (hB : B ≤ w.heap.size) (hm : n ≤ 10000)
    (h1 : Rd w B1 A1 (i64s some1)) (hn1 : some1.length = n1) (hB1 : B1 ≤ w.heap.size) (hm1 : n1 ≤ 1000000)
    (h3 : Rd w B3 A3 (i64s others)) (hn3 : others.length = n3) (hB3 : B3 ≤ w.heap.size) (hm3 : n3 ≤ 1000000) :
    Calls Try.prog 13 #[.slice A n cap, .slice A1 n1 c1, .int .i64 much, .slice A3 n3 c3, .int .i64 least] w fun e w' => ∃ b, e = .returned (.bool b) ∧ (b = true ↔ Cl.Dr l some1 much others least) ∧ Below w.heap.size w w' := by
  have HR := Lib.hid hr
  have HN := Lib.hid hn
  have H1 := Lib.hid h1
  have HN1 := Lib.hid hn1
  have H3 := Lib.hid h3
  have HN3 := Lib.hid hn3
  have HDR := Lib.hid (@Cl.dr_rows l some1 others much least)
  have d0 : decide ((10000 : Int) < (n : Int)) = false := by simp; omega
  clear hr hn h1 hn1 h3 hn3
  go_enter Try.func13, Try.ntmps13
  go_wp2_with fail
  go_loopg [11] (n + 1) (fun gh ix wr => ∃ i : Nat, gh + i = n + 1 ∧ ix = .int .i64 (i : Int) ∧ Hid (∀ i' k', i' < i → i' ≤ k' → k' ≤ n → Cl.Hd (Cl.gain (Cl.row l i' k')) some1 much others least) ∧ Hid (Below w.heap.size w wr))
  case atStart => exact ⟨0, by omega, rfl, Lib.hid (fun _ _ h => absurd h (Nat.not_lt_zero _)), Lib.hid (Below.refl _ _)⟩
  case round =>
    obtain ⟨i, hi, rfl, HD, hb⟩ := hrel
    obtain ⟨g0, rfl⟩ : ∃ q, q = gk := ⟨_, rfl⟩
    by_cases hin : i ≤ n
    · have d3 : (i : Int) ≤ (n : Int) := by omega
      go_wp2_with fail
      go_loopg [12] (n + 1 - i) (fun gh kx wr => ∃ k : Nat, gh + k = n + 1 ∧ i ≤ k ∧ kx = .int .i64 (k : Int) ∧ Hid (∀ k', i ≤ k' → k' < k → k' ≤ n → Cl.Hd (Cl.gain (Cl.row l i k')) some1 much others least) ∧ Hid (Below w.heap.size w wr))
      case atStart => exact ⟨i, by omega, Nat.le_refl _, rfl, Lib.hid (fun k' h1 h2 => by omega), hb⟩
      case round =>
        clear hb
        obtain ⟨k, hk, hik, rfl, HK, hb⟩ := hrel
        obtain ⟨g1, rfl⟩ : ∃ q, q = gk := ⟨_, rfl⟩
        by_cases hkn : k ≤ n
        · have d4 : (k : Int) ≤ (n : Int) := by omega
          have hcut := run_cutSm A n cap i k hik (by omega)
          have hsz := hb.out.size
          have hlen : (Cl.row l i k).length = k - i := by unfold Cl.row; rw [List.length_drop, List.length_take, HN.out, Nat.min_eq_left hkn]
          have hrd : Rd wr B (cutS A i cap) (svs (Cl.row l i k)) := by
            unfold Cl.row
            refine Rd.cutS ?_ (by rw [List.length_take, HN.out]; omega)
            rw [← svs_take]
            exact (HR.out.below (hb.out.mono hB)).take _
          have HH := Lib.hid (holds_any (cutS A i cap) (k - i) (cap - i) B (Cl.row l i k) A1 n1 c1 B1 some1 much A3 n3 c3 B3 others least wr hrd hlen (by omega) (by omega) (H1.out.below (hb.out.mono hB1)) HN1.out (by omega) hm1 (H3.out.below (hb.out.mono hB3)) HN3.out (by omega) hm3)
          clear hlen hrd
          go_wp2_with (go_at_call 21; fail)
          refine HH.out.mono ?_
          rintro e w2 ⟨b, rfl, hbi, hb2⟩
          have HB2 := Lib.hid (hb.out.trans (hb2.mono hsz))
          have HBI := Lib.hid hbi
          clear hb2 hb HH hcut hbi hsz
          cases b with
          | true =>
            have HH2 := HBI.out.1 rfl
            have HK2 : Hid (∀ k', i ≤ k' → k' < k + 1 → k' ≤ n → Cl.Hd (Cl.gain (Cl.row l i k')) some1 much others least) := Lib.hid (fun k' h1 h2 h3 => by
              by_cases e : k' < k
              · exact HK.out k' h1 e h3
              · obtain rfl : k' = k := by omega
                exact HH2)
            clear HH2 HBI HK
            go_wp2
            go_roundg (g1 - 1)
            case measure => omega
            case rel => exact ⟨k + 1, by omega, by omega, by go_num, HK2, HB2⟩
          | false =>
            have HNO : Hid (¬ Cl.Dr l some1 much others least) := Lib.hid (fun h => by
              have := HBI.out.2 (HDR.out.1 h i k hik (by rw [HN.out]; exact hkn))
              cases this)
            clear HBI
            go_wp2
            go_ret
            first | exact ⟨false, rfl, ⟨(fun h => by cases h), fun h => absurd h HNO.out⟩, HB2.out⟩ | exact .inl ⟨rfl, HNO.out, HB2.out⟩
        · obtain rfl : k = n + 1 := by omega
          have d4 : decide (((n + 1 : Nat) : Int) ≤ (n : Int)) = false := by simp; omega
          have d5 : ¬ ((n + 1 : Nat) : Int) ≤ (n : Int) := by omega
          have HD2 : Hid (∀ i' k', i' < i + 1 → i' ≤ k' → k' ≤ n → Cl.Hd (Cl.gain (Cl.row l i' k')) some1 much others least) := Lib.hid (fun i' k' h1 h2 h3 => by
            by_cases e : i' < i
            · exact HD.out i' k' e h2 h3
            · obtain rfl : i' = i := by omega
              exact HK.out k' h2 (by omega) h3)
          clear HK HD
          go_wp2
          go_roundg (g0 - 1)
          case measure => omega
          case rel => exact ⟨i + 1, by omega, by go_num, HD2, hb⟩
    · obtain rfl : i = n + 1 := by omega
      have d4 : decide (((n + 1 : Nat) : Int) ≤ (n : Int)) = false := by simp; omega
      have d5 : ¬ ((n + 1 : Nat) : Int) ≤ (n : Int) := by omega
      have HY : Hid (Cl.Dr l some1 much others least) := Lib.hid (HDR.out.2 (fun i' k' h1 h2 => HD.out i' k' (by rw [HN.out] at h2; omega) h1 (by rw [HN.out] at h2; exact h2)))
      clear HD
      go_wp2
      go_ret
      first | exact ⟨true, rfl, ⟨(fun _ => HY.out), fun _ => rfl⟩, hb.out⟩ | exact .inr ⟨rfl, HY.out, hb.out⟩
end Go.Proofs.Ytfdpogbhhocaeaa
