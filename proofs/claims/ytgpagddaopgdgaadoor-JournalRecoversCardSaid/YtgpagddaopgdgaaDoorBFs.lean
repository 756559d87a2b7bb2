import Derived.Test.YtgpagddaopgdgaaDoorBF

/- Rows of slices of bytes; two rows that grow side by side; whether two are alike. -/
namespace Go.Proofs.YtgpagddaopgdgaaDoor
open Go.RowKit Go.Shelf

/-- a slice value that reads as the bytes b, all in blocks that 'ok' allows -/
def Bod (w : World) (ok : Nat → Prop) (v : Value) (b : List Int) : Prop :=
  ∃ A c, v = .slice A b.length c ∧ b.length ≤ c ∧ c ≤ maxLen ∧ ∀ j u, (u8s b)[j]? = some u → ∃ ad, A = some ad ∧ ok ad.block ∧ w.cell? (ad.add j) = some u

theorem Bod.rd {w : World} {ok : Nat → Prop} {v : Value} {b : List Int} (h : Bod w ok v b) {B : Nat} (hB : ∀ g, ok g → g < B) : ∃ A c, v = .slice A b.length c ∧ b.length ≤ c ∧ c ≤ maxLen ∧ Rd w B A (u8s b) := by
  obtain ⟨A, c, e, h1, h2, h3⟩ := h
  exact ⟨A, c, e, h1, h2, fun j u hj => by obtain ⟨ad, e, h4, h5⟩ := h3 j u hj; exact ⟨ad, e, hB _ h4, h5⟩⟩

theorem Bod.keep {w w' : World} {ok ok' : Nat → Prop} {v : Value} {b : List Int} (h : Bod w ok v b) (hk : ∀ g, ok g → w'.heap[g]? = w.heap[g]? ∧ ok' g) : Bod w' ok' v b := by
  obtain ⟨A, c, e, h1, h2, h3⟩ := h
  refine ⟨A, c, e, h1, h2, fun j u hj => ?_⟩
  obtain ⟨ad, e, h4, h5⟩ := h3 j u hj
  exact ⟨ad, e, (hk _ h4).2, (World.cell?_of_block (by rw [addr_add_block]; exact (hk _ h4).1)).trans h5⟩

theorem Bod.own {w : World} {base : Nat} {v : Value} {b : List Int} (h : w.ownsRow base 5 1 v b.length (u8s b)) : Bod w (fun g => base ≤ g ∧ g < w.heap.size) v b := by
  obtain ⟨A, c, rfl, h1, h2, h3⟩ := own_view h
  refine ⟨A, c, rfl, h1, h2, fun j u hj => ?_⟩
  obtain ⟨ad, e, h4, h5⟩ := h3 j u hj
  subst e
  exact ⟨ad, rfl, h.lt _ rfl, h5⟩

theorem own_same {w w' : World} {base : Nat} {e : TypeId} {v : Value} {n : Nat} {xs : List Value} (h : w.ownsRow base e 1 v n xs) (hk : ∀ g, v.ownBlock = some g → w'.heap[g]? = w.heap[g]?) : w'.ownsRow base e 1 v n xs := by
  refine ⟨h.1, ?_⟩
  rcases h.2 with h | ⟨g, cap, cur, rfl, h1, h2, h3⟩
  · exact .inl h
  · exact .inr ⟨g, cap, cur, rfl, h1, (hk g rfl).trans h2, h3⟩

theorem own_uniq {w : World} {base : Nat} {e : TypeId} {v : Value} {n : Nat} {xs ys : List Value} (h : w.ownsRow base e 1 v n xs) (k : w.ownsRow base e 1 v n ys) : xs = ys := by
  rcases h.2 with ⟨rfl, rfl⟩ | ⟨g, cap, cur, rfl, _, h2, _, _, _, h6⟩
  · have h1 := h.1
    have k1 := k.1
    simp only [Nat.zero_mul, List.length_eq_zero_iff] at h1 k1
    rw [h1, k1]
  · rcases k.2 with ⟨hv, _⟩ | ⟨g', cap', cur', hv, _, k2, _, _, _, k6⟩
    · cases hv
    · cases hv
      rw [h2] at k2
      cases k2
      rw [← h6, ← k6]

/-- the kinds and the bodies that came so far -/
def Acc (base : Nat) (w : World) (kv bv : Value) (ks : List Int) (bs : List (List Int)) : Prop :=
  ∃ vs, w.ownsRow base 5 1 kv ks.length (u8s ks) ∧ w.ownsRow base 29 1 bv bs.length vs ∧ (∀ g, kv.ownBlock = some g → bv.ownBlock ≠ some g) ∧ base ≤ w.heap.size ∧
    ∀ (j : Nat) v b, vs[j]? = some v → bs[j]? = some b → Bod w (fun g => base ≤ g ∧ g < w.heap.size ∧ kv.ownBlock ≠ some g ∧ bv.ownBlock ≠ some g) v b

theorem Acc.nil (base : Nat) (w : World) (hb : base ≤ w.heap.size) : Acc base w (.slice none 0 0) (.slice none 0 0) [] [] :=
  ⟨[], World.ownsRow_nil _ _ _ _, World.ownsRow_nil _ _ _ _, (fun g h => nomatch h), hb, (fun j v b h => by simp at h)⟩

theorem Acc.keep {base : Nat} {w w' : World} {kv bv : Value} {ks : List Int} {bs : List (List Int)} (h : Acc base w kv bv ks bs) (hs : w.heap.size ≤ w'.heap.size) (hk : ∀ g, base ≤ g → g < w.heap.size → w'.heap[g]? = w.heap[g]?) : Acc base w' kv bv ks bs := by
  obtain ⟨vs, h1, h2, h3, h4, h5⟩ := h
  refine ⟨vs, own_same h1 fun g e => hk g (h1.lt g e).1 (h1.lt g e).2, own_same h2 fun g e => hk g (h2.lt g e).1 (h2.lt g e).2, h3, by omega, fun j v b hv hb => ?_⟩
  exact (h5 j v b hv hb).keep fun g hg => ⟨hk g hg.1 hg.2.1, hg.1, by omega, hg.2.2⟩

theorem Acc.below {base : Nat} {w w' : World} {kv bv : Value} {ks : List Int} {bs : List (List Int)} (h : Acc base w kv bv ks bs) (hb : Below w.heap.size w w') : Acc base w' kv bv ks bs :=
  h.keep hb.size fun g _ hg => hb.block g hg

theorem Acc.kinds {base : Nat} {w w' : World} {kv bv kv' : Value} {ks : List Int} {bs : List (List Int)} (h : Acc base w kv bv ks bs) {k : Int} (hg : w.grownBy w' kv.ownBlock)
    (hown : w'.ownsRow base 5 1 kv' (ks.length + 1) (u8s ks ++ [.int .u8 k])) (hb : kv'.ownBlock = kv.ownBlock ∨ kv'.ownBlock = some w.heap.size) : Acc base w' kv' bv (ks ++ [k]) bs := by
  obtain ⟨vs, h1, h2, h3, h4, h5⟩ := h
  have hs := hg.size
  refine ⟨vs, by simpa [u8s] using hown, own_same h2 fun g e => hg.block g (h2.lt g e).2 (fun e' => h3 g e'.symm e), fun g e => ?_, by omega, fun j v b hv hb' => ?_⟩
  · rcases hb with e' | e'
    · exact h3 g (e' ▸ e)
    · rw [e'] at e
      intro e2
      have := (h2.lt g e2).2
      simp only [Option.some.injEq] at e
      omega
  · refine (h5 j v b hv hb').keep fun g hg' => ⟨hg.block g hg'.2.1 (fun e => hg'.2.2.1 e.symm), hg'.1, by omega, ?_, hg'.2.2.2⟩
    rcases hb with e' | e'
    · rw [e']; exact hg'.2.2.1
    · rw [e']
      intro e
      simp only [Option.some.injEq] at e
      omega

theorem Bod.kinds {base : Nat} {w w' : World} {kv bv kv' : Value} {v : Value} {b : List Int} (h : Bod w (fun g => base ≤ g ∧ g < w.heap.size ∧ kv.ownBlock ≠ some g ∧ bv.ownBlock ≠ some g) v b) (hg : w.grownBy w' kv.ownBlock)
    (hb : kv'.ownBlock = kv.ownBlock ∨ kv'.ownBlock = some w.heap.size) : Bod w' (fun g => base ≤ g ∧ g < w'.heap.size ∧ kv'.ownBlock ≠ some g ∧ bv.ownBlock ≠ some g) v b := by
  have hs := hg.size
  refine h.keep fun g hg' => ⟨hg.block g hg'.2.1 (fun e => hg'.2.2.1 e.symm), hg'.1, by omega, ?_, hg'.2.2.2⟩
  rcases hb with e' | e'
  · rw [e']; exact hg'.2.2.1
  · rw [e']
    intro e
    simp only [Option.some.injEq] at e
    omega

/-- a body that was made behind the two rows -/
theorem Bod.fresh {base : Nat} {w0 w : World} {kv bv : Value} {ks : List Int} {bs : List (List Int)} {v : Value} {b : List Int} (h : Acc base w0 kv bv ks bs) (_hs : w0.heap.size ≤ w.heap.size) (hv : w.ownsRow w0.heap.size 5 1 v b.length (u8s b)) :
    Bod w (fun g => base ≤ g ∧ g < w.heap.size ∧ kv.ownBlock ≠ some g ∧ bv.ownBlock ≠ some g) v b := by
  obtain ⟨vs, h1, h2, h3, h4, h5⟩ := h
  refine (Bod.own hv).keep fun g hg => ⟨rfl, by omega, hg.2, fun e => ?_, fun e => ?_⟩
  · have := (h1.lt g e).2; omega
  · have := (h2.lt g e).2; omega

theorem Acc.bodies {base : Nat} {w w' : World} {kv bv bv' : Value} {ks : List Int} {bs : List (List Int)} (h : Acc base w kv bv ks bs) {v : Value} {b : List Int} (hv : Bod w (fun g => base ≤ g ∧ g < w.heap.size ∧ kv.ownBlock ≠ some g ∧ bv.ownBlock ≠ some g) v b)
    {us : List Value} (hu : w.ownsRow base 29 1 bv bs.length us) (hg : w.grownBy w' bv.ownBlock) (hown : w'.ownsRow base 29 1 bv' (bs.length + 1) (us ++ [v])) (hb : bv'.ownBlock = bv.ownBlock ∨ bv'.ownBlock = some w.heap.size) : Acc base w' kv bv' ks (bs ++ [b]) := by
  obtain ⟨vs, h1, h2, h3, h4, h5⟩ := h
  obtain rfl := own_uniq hu h2
  have hs := hg.size
  have hvl : us.length = bs.length := by simpa using h2.1
  have ok : ∀ g, base ≤ g ∧ g < w.heap.size ∧ kv.ownBlock ≠ some g ∧ bv.ownBlock ≠ some g → w'.heap[g]? = w.heap[g]? ∧ base ≤ g ∧ g < w'.heap.size ∧ kv.ownBlock ≠ some g ∧ bv'.ownBlock ≠ some g := fun g hg' => by
    refine ⟨hg.block g hg'.2.1 (fun e => hg'.2.2.2 e.symm), hg'.1, by omega, hg'.2.2.1, ?_⟩
    rcases hb with e' | e'
    · rw [e']; exact hg'.2.2.2
    · rw [e']
      intro e
      simp only [Option.some.injEq] at e
      omega
  refine ⟨us ++ [v], own_same h1 fun g e => hg.block g (h1.lt g e).2 (fun e' => h3 g e e'.symm), by rw [List.length_append]; exact hown, fun g e => ?_, by omega, fun j u c hu hc => ?_⟩
  · rcases hb with e' | e'
    · rw [e']; exact h3 g e
    · rw [e']
      intro e2
      have := (h1.lt g e).2
      simp only [Option.some.injEq] at e2
      omega
  · by_cases hj : j < bs.length
    · rw [List.getElem?_append_left (by omega)] at hu hc
      exact (h5 j u c hu hc).keep ok
    · have hj2 : j = bs.length := by
        have := (List.getElem?_eq_some_iff.1 hc).1
        rw [List.length_append] at this
        simp at this
        omega
      subst hj2
      rw [← hvl, List.getElem?_concat_length] at hu
      rw [List.getElem?_concat_length] at hc
      simp only [Option.some.injEq] at hu hc
      subst hu hc
      exact hv.keep ok

/-- the kinds' row alone, and what the bodies' row reads as -/
theorem Acc.parts {base : Nat} {w : World} {kv bv : Value} {ks : List Int} {bs : List (List Int)} (h : Acc base w kv bv ks bs) : w.ownsRow base 5 1 kv ks.length (u8s ks) ∧ ∃ vs, w.ownsRow base 29 1 bv bs.length vs := by
  obtain ⟨vs, h1, h2, -⟩ := h
  exact ⟨h1, vs, h2⟩

/-- rows of slices, one by one -/
def Bods (w : World) (B : Nat) (vs : List Value) (bs : List (List Int)) : Prop := vs.length = bs.length ∧ ∀ (j : Nat) v b, vs[j]? = some v → bs[j]? = some b → ∃ A c, v = .slice A b.length c ∧ b.length ≤ c ∧ c ≤ maxLen ∧ Rd w B A (u8s b)

theorem Bods.below {w w' : World} {B : Nat} {vs : List Value} {bs : List (List Int)} (h : Bods w B vs bs) (hb : Below B w w') : Bods w' B vs bs :=
  ⟨h.1, fun j v b hv hc => by obtain ⟨A, c, e, h1, h2, h3⟩ := h.2 j v b hv hc; exact ⟨A, c, e, h1, h2, h3.below hb⟩⟩
theorem Bods.more {w : World} {B B' : Nat} {vs : List Value} {bs : List (List Int)} (h : Bods w B vs bs) (hB : B ≤ B') : Bods w B' vs bs :=
  ⟨h.1, fun j v b hv hc => by obtain ⟨A, c, e, h1, h2, h3⟩ := h.2 j v b hv hc; exact ⟨A, c, e, h1, h2, h3.more hB⟩⟩

/-- what is told at the end -/
theorem Acc.out {base : Nat} {w : World} {kv bv : Value} {ks : List Int} {bs : List (List Int)} (h : Acc base w kv bv ks bs) : (∃ A c, kv = .slice A ks.length c ∧ ks.length ≤ c ∧ c ≤ maxLen ∧ Rd w w.heap.size A (u8s ks)) ∧
    ∃ vs A c, bv = .slice A bs.length c ∧ bs.length ≤ c ∧ c ≤ maxLen ∧ Rd w w.heap.size A vs ∧ Bods w w.heap.size vs bs := by
  obtain ⟨vs, h1, h2, h3, h4, h5⟩ := h
  refine ⟨own_view h1, vs, ?_⟩
  obtain ⟨A, c, e, q1, q2, q3⟩ := own_view h2
  exact ⟨A, c, e, q1, q2, q3, by simpa using h2.1, fun j v b hv hc => (h5 j v b hv hc).rd fun g hg => hg.2.1⟩

theorem take_step {α : Type} {l m : List α} {k : Nat} {x : α} (h : l.take k = m.take k) (hx : l[k]? = some x) (hy : m[k]? = some x) : l.take (k + 1) = m.take (k + 1) := by
  rw [List.take_add_one, List.take_add_one, h, hx, hy]

set_option maxRecDepth 100000 in
set_option maxHeartbeats 2000000 in
theorem Same_any (A1 A2 : Option Addr) (n1 n2 c1 c2 B1 B2 : Nat) (vs us : List Value) (bs cs : List (List Int)) (w : World) (hx : Rd w B1 A1 vs) (hy : Rd w B2 A2 us) (hv : Bods w B1 vs bs) (hu : Bods w B2 us cs) (hn1 : bs.length = n1) (hn2 : cs.length = n2)
    (hm1 : n1 ≤ maxLen) (hb1 : ∀ b ∈ bs, Fm.By b) (hb2 : ∀ b ∈ cs, Fm.By b) :
    Calls Tryd.prog 24 #[.slice A1 n1 c1, .slice A2 n2 c2] w fun e w' => e = .returned (.bool (decide (bs = cs))) ∧ ∃ n, w' = w.drewN n := by
  unfold maxLen at hm1
  have HV := Lib.hid hv
  have HU := Lib.hid hu
  have HB1 := Lib.hid hb1
  have HB2 := Lib.hid hb2
  have HN1 := Lib.hid hn1
  have HN2 := Lib.hid hn2
  clear hv hu hb1 hb2 hn1 hn2
  by_cases hne : n1 = n2
  · subst hne
    go_enter Tryd.func24, Tryd.ntmps24
    go_wp2
    go_loopw [5] (fun ix wr => ∃ (k : Nat) (nd : Nat), ix = .int .i64 (k : Int) ∧ k ≤ n1 ∧ Hid (bs.take k = cs.take k) ∧ Hid (wr = w.drewN nd)) (fun ix _ => n1 - (intOf ix).toNat)
    case atStart => exact ⟨0, 0, rfl, by omega, Lib.hid rfl, Lib.hid rfl⟩
    case round =>
      obtain ⟨k, nd, rfl, hk, hT, hW⟩ := hrel
      have hx' : Rd wr B1 A1 vs := by rw [hW.out]; exact hx
      have hy' : Rd wr B2 A2 us := by rw [hW.out]; exact hy
      by_cases hlt : k < n1
      · have vl1 := HV.out.1
        have vl2 := HU.out.1
        rw [HN1.out] at vl1
        rw [HN2.out] at vl2
        obtain ⟨x, hxk⟩ : ∃ x, bs[k]? = some x := ⟨bs[k]'(by rw [HN1.out]; exact hlt), List.getElem?_eq_getElem _⟩
        obtain ⟨y, hyk⟩ : ∃ y, cs[k]? = some y := ⟨cs[k]'(by rw [HN2.out]; exact hlt), List.getElem?_eq_getElem _⟩
        obtain ⟨vx, hvx⟩ : ∃ v, vs[k]? = some v := ⟨vs[k], List.getElem?_eq_getElem (by omega)⟩
        obtain ⟨vy, hvy⟩ : ∃ v, us[k]? = some v := ⟨us[k], List.getElem?_eq_getElem (by omega)⟩
        obtain ⟨ad1, rfl, _, hc1⟩ := hx' k vx hvx
        obtain ⟨ad2, rfl, _, hc2⟩ := hy' k vy hvy
        obtain ⟨Ax, cx, rfl, -, -, rx⟩ := HV.out.2 k vx x hvx hxk
        obtain ⟨Ay, cy, rfl, -, -, ry⟩ := HU.out.2 k vy y hvy hyk
        have bx := HB1.out x (List.mem_of_getElem? hxk)
        have by' := HB2.out y (List.mem_of_getElem? hyk)
        have s1 : ∀ nq, (convert 29 9 (.slice Ax x.length cx)).run Tryd.prog (wr.drewN nq) = .ok (.string (strOfNums x)) (wr.drewN nq) := fun nq => by
          rw [hW.out]
          exact str_of ((rx.drewN nd).drewN nq) rfl
        have s2 : ∀ nq, (convert 29 9 (.slice Ay y.length cy)).run Tryd.prog (wr.drewN nq) = .ok (.string (strOfNums y)) (wr.drewN nq) := fun nq => by
          rw [hW.out]
          exact str_of ((ry.drewN nd).drewN nq) rfl
        have HS := Lib.hid (str_beq bx by')
        have HX := Lib.hid hxk
        have HY := Lib.hid hyk
        have hr : decide ((k : Int) < (n1 : Int)) = true := by simp; omega
        have kk : (k : Int) < (n1 : Int) := by omega
        clear hxk hyk hx hy hx' hy' rx ry bx by' hvx hvy
        by_cases hxy : x = y
        · have hs2 : ((strOfNums x).toList == (strOfNums y).toList) = true := by rw [HS.out]; simpa using hxy
          have HXY := Lib.hid hxy
          clear hxy
          go_wp2_with fail
          go_quiet (fail)
          go_wp2
          go_roundw
          case rel => exact ⟨k + 1, nd + _, by go_num, by omega, Lib.hid (take_step hT.out HX.out (by rw [HXY.out]; exact HY.out)), Lib.hid (by rw [hW.out, World.drewN_drewN])⟩
          case measure => simp [intOf]; omega
        · have hs2 : ((strOfNums x).toList == (strOfNums y).toList) = false := by rw [HS.out]; simpa using hxy
          have hne : bs ≠ cs := by
            intro e
            have h1 := HX.out
            rw [e, HY.out] at h1
            exact hxy (by injection h1 with h1; exact h1.symm)
          have HE := Lib.hid (show decide (bs = cs) = false by simpa using hne)
          clear hne hxy
          go_wp2_with fail
          go_quiet (fail)
          go_wp2
          go_ret
          exact ⟨ret_bool HE.out.symm, nd + _, by rw [hW.out, World.drewN_drewN]⟩
      · have HE : Hid (decide (bs = cs) = true) := by
          have h := hT.out
          rw [List.take_of_length_le (by rw [HN1.out]; omega), List.take_of_length_le (by rw [HN2.out]; omega)] at h
          exact Lib.hid (by simpa using h)
        clear hx hy hx' hy'
        go_wp2
        go_ret
        exact ⟨ret_bool HE.out.symm, nd, hW.out⟩
  · have HE : Hid (decide (bs = cs) = false) := by
      have : bs ≠ cs := by intro e; apply hne; rw [← HN1.out, ← HN2.out, e]
      exact Lib.hid (by simpa using this)
    have hk : ((n1 : Int) != (n2 : Int)) = true := by rw [bne_iff_ne]; omega
    clear hx hy
    go_enter Tryd.func24, Tryd.ntmps24
    go_wp2
    go_ret
    exact ⟨ret_bool HE.out.symm, 0, rfl⟩
end Go.Proofs.YtgpagddaopgdgaaDoor

/- All frames from the beginning on: the document's. -/
namespace Go.Proofs.YtgpagddaopgdgaaDoor
open Go.RowKit Go.Shelf

theorem info_sl : (Tryd.prog.info? 29).map (fun i => (i.zero, i.size, i.bytes)) = some (some (.slice none 0 0), 1, 24) := by kernel_rfl
theorem info_parts_sl : ∃ i, Tryd.prog.info? 29 = some i ∧ i.zero = some (.slice none 0 0) ∧ i.size = 1 ∧ i.bytes = 24 := by
  have h := info_sl
  cases hi : Tryd.prog.info? 29 with
  | none => rw [hi] at h; cases h
  | some i => rw [hi] at h; simp only [Option.map_some, Option.some.injEq, Prod.mk.injEq] at h; exact ⟨i, rfl, h.1, h.2.1, h.2.2⟩

theorem drop_two (xs : List Int) (m k : Nat) : (xs.drop m).drop k = xs.drop (m + k) := List.drop_drop ..

theorem cat_more (fs : List (Int × List Int)) (k : Int) (b : List Int) : (Fm.cat (fs ++ [(k, b)])).length = (Fm.cat fs).length + (b.length + 8) := by
  rw [Fm.cat_app, List.length_append, Fm.cat_cons, Fm.cat_nil, List.append_nil, Fm.frm_len]

set_option maxRecDepth 100000 in
set_option maxHeartbeats 4000000 in
theorem RAll_any (A : Option Addr) (n cap B : Nat) (xs : List Int) (w : World) (hx : Rd w B A (u8s xs)) (hn : xs.length = n) (hnc : n ≤ cap) (hcap : cap ≤ maxLen) (hB : B ≤ w.heap.size) (hb : Fm.By xs) (hsm : n ≤ 4194304) :
    Calls Tryd.prog 38 #[.slice A n cap] w fun e w' => ∃ kv bv, e = .returned (.tuple #[kv, bv, .int .i64 (((Fm.cat (Fm.al xs)).length : Nat) : Int)]) ∧
      Acc w.heap.size w' kv bv ((Fm.al xs).map (·.1)) ((Fm.al xs).map (·.2)) ∧ Below w.heap.size w w' := by
  obtain ⟨i0, hi, hz0, hz1, hz2⟩ := info_parts info_u8
  obtain ⟨i1, hi1, hy0, hy1, hy2⟩ := info_parts_sl
  have HX := Lib.hid hx
  have HN := Lib.hid hn
  have HB := Lib.hid hb
  clear hx hn hb
  go_enter Tryd.func38, Tryd.ntmps38
  go_wp2_with fail
  go_loopw [5, 6, 7] (fun kv bv ax wr => ∃ (fs : List (Int × List Int)) (m : Nat), ax = .int .i64 (m : Int) ∧ m ≤ n ∧ Hid (Fm.al xs = fs ++ Fm.al (xs.drop m)) ∧ Hid (m = (Fm.cat fs).length) ∧ 8 * fs.length ≤ m ∧ Acc w.heap.size wr kv bv (fs.map (·.1)) (fs.map (·.2)) ∧ Below w.heap.size w wr)
    (fun _ _ ax _ => n - (intOf ax).toNat)
  case atStart => exact ⟨[], 0, rfl, by omega, Lib.hid rfl, Lib.hid rfl, by simp, Acc.nil _ _ (Nat.le_refl _), Below.refl _ _⟩
  case round =>
    obtain ⟨fs, m, rfl, hm, hS, hC, h8, hacc, hbw⟩ := hrel
    have HG := Lib.hid (FRGet_any A n cap B xs (m : Int) wr (HX.out.below (hbw.mono hB)) HN.out hnc hcap (Nat.le_trans hB hbw.size) HB.out (by omega) (by omega))
    cases hg : Fm.g1 (xs.drop m) with
    | none =>
      have hE := Fm.get_none (b := xs) (n := m) (by rw [HN.out]; exact hm) hg
      have HS2 : Hid (Fm.al xs = fs) := by
        have h := hS.out
        rw [Fm.al_none hg, List.append_nil] at h
        exact h
      have HAC := Lib.hid hacc
      have HBW := Lib.hid hbw
      generalize Fm.get xs (m : Int) = q at HG hE
      obtain ⟨q1, q2, q3, q4⟩ := q
      dsimp only at HG hE
      have hq : (q4 != 0) = true := by rw [bne_iff_ne]; exact hE
      clear hS hg hacc hbw hE
      go_wp2_with (go_at_call 43; refine HG.out.mono ?_; rintro e w1 ⟨v, rfl, -, hb1⟩)
      go_ret3
      rw [HS2.out, ← hC.out]
      exact ⟨u5, u6, rfl, HAC.out.below hb1, HBW.out.trans (hb1.mono HBW.out.size)⟩
    | some p =>
      obtain ⟨k, b⟩ := p
      have hE := Fm.get_some (b := xs) (n := m) (by rw [HN.out]; exact hm) HB.out hg
      obtain ⟨hl, hk, -, hle, -, -⟩ := Fm.g1_some (HB.out.drop m) hg
      rw [List.length_drop, HN.out] at hle
      have HS2 : Hid (Fm.al xs = (fs ++ [(k, b)]) ++ Fm.al (xs.drop (m + (b.length + 8)))) := by
        have h := hS.out
        rw [Fm.al_some hg, drop_two] at h
        rw [List.append_assoc]
        exact h
      have HC2 : Hid (m + (b.length + 8) = (Fm.cat (fs ++ [(k, b)])).length) := by
        show _ = _
        rw [cat_more, ← hC.out]
      rw [hE] at HG
      dsimp only at HG
      have HAC := Lib.hid hacc
      have HBW := Lib.hid hbw
      clear hS hC hg hacc hbw hE
      go_wp2_with (go_at_call 43; fail)
      refine HG.out.mono ?_
      rintro e w1 ⟨v, rfl, hown, hb1⟩
      have acc1 := HAC.out.below hb1
      have bod1 := Bod.fresh HAC.out hb1.size hown
      obtain ⟨Av, cv, rfl, -, -, -⟩ := bod1
      have bod1 := Bod.fresh HAC.out hb1.size hown
      have acc1a := acc1.below ((Below.refl w1.heap.size w1).alloc (Nat.le_refl _) (.cells #[.int .u8 k] 5))
      have bod1a := bod1.keep (w' := w1.alloc (.cells #[.int .u8 k] 5)) (ok' := fun g => w.heap.size ≤ g ∧ g < (w1.alloc (.cells #[.int .u8 k] 5)).heap.size ∧ u5.ownBlock ≠ some g ∧ u6.ownBlock ≠ some g) (fun g hg => ⟨Below.heap_alloc _ _ _ hg.2.1, hg.1, by simp; omega, hg.2.2⟩)
      have B1 := Lib.hid (HBW.out.trans (hb1.mono HBW.out.size))
      have hl1 : (fs.map (·.1)).length = fs.length := by simp
      have hl2 : (fs.map (·.2)).length = fs.length := by simp
      go_wp2_with (first
        | (at_builtin; refine wpList_app rfl _ _ 29 rfl w.heap.size 5 i0 (.int .u8 0) 1 Tryd.underlying29 hi hz0 hz1 hz2 rfl _ _ _ rfl acc1a.parts.1 (w1.heap.size + 1) (some ⟨w1.heap.size, 0, none⟩) 1 1 [.int .u8 k] rfl rfl (by exact Rd.new w1 (w1.heap.size + 1) [.int .u8 k] 5 (0, 0) (by omega)) (by simp [Value.oneCell']) (by unfold maxLen; omega) (by omega) (by have := B1.out.size; simp; omega) ?_; intro kv2 w2 hown2 hgrow2 hblk2; have acc2 := Acc.kinds acc1a hgrow2 hown2 hblk2; have bod2 := Bod.kinds bod1a hgrow2 hblk2; have B2 := Lib.hid (below_app (B1.out.alloc B1.out.size _) acc1a.parts.1 hgrow2 (by have := B1.out.size; simp; omega)); have acc2a := acc2.below ((Below.refl w2.heap.size w2).alloc (Nat.le_refl _) (.cells #[.slice Av b.length cv] 29)); have bod2a := bod2.keep (w' := w2.alloc (.cells #[.slice Av b.length cv] 29)) (ok' := fun g => w.heap.size ≤ g ∧ g < (w2.alloc (.cells #[.slice Av b.length cv] 29)).heap.size ∧ kv2.ownBlock ≠ some g ∧ u6.ownBlock ≠ some g) (fun g hg => ⟨Below.heap_alloc _ _ _ hg.2.1, hg.1, by simp; omega, hg.2.2⟩); obtain ⟨us, hus⟩ := acc2a.parts.2; clear hown2 acc2 bod2 hgrow2)
        | (at_builtin; refine wpList_app rfl _ _ 36 rfl w.heap.size 29 i1 (.slice none 0 0) 24 Tryd.underlying36 hi1 hy0 hy1 hy2 rfl _ _ _ rfl hus (w2.heap.size + 1) (some ⟨w2.heap.size, 0, none⟩) 1 1 [.slice Av b.length cv] rfl rfl (by exact Rd.new w2 (w2.heap.size + 1) [.slice Av b.length cv] 29 (0, 0) (by omega)) (by simp [Value.oneCell']) (by unfold maxLen; omega) (by omega) (by have := B2.out.size; simp; omega) ?_; intro bv2 w3 hown3 hgrow3 hblk3; have acc3 := Acc.bodies acc2a bod2a hus hgrow3 hown3 hblk3; have B3 := Lib.hid (below_app (B2.out.alloc B2.out.size _) hus hgrow3 (by have := B2.out.size; simp; omega)); clear hown3 hgrow3))
      go_roundw
      case rel => exact ⟨fs ++ [(k, b)], m + (b.length + 8), by go_num, by omega, HS2, HC2, by simp; omega, by rw [List.map_append, List.map_append]; exact acc3, B3.out⟩
      case measure => simp [intOf]; omega
end Go.Proofs.YtgpagddaopgdgaaDoor
