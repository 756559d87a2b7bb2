/- What holds while a message is read of a body: the reader, the numbers, the message in its box. -/
import Derived.Test.YtpgfnhdaembhmaaDoorMp
import Derived.Test.YtpgfnhdaembhmaaDoorMr
namespace Go.Proofs.YtpgfnhdaembhmaaDoor
open Go.RowKit Go.Shelf

theorem range_app {w : World} {b o : Nat} {xs ys : List Value} (h1 : w.rangeAt b o xs) (h2 : w.rangeAt b (o + xs.length) ys) : w.rangeAt b o (xs ++ ys) := fun j v hv => by
  by_cases hj : j < xs.length
  · rw [List.getElem?_append_left hj] at hv
    exact h1 j v hv
  · rw [List.getElem?_append_right (by omega)] at hv
    have := h2 (j - xs.length) v hv
    rwa [show o + xs.length + (j - xs.length) = o + j from by omega] at this
theorem range_head {w : World} {b o : Nat} {xs ys : List Value} (h : w.rangeAt b o (xs ++ ys)) : w.rangeAt b o xs := fun j v hv => h j v (by rw [List.getElem?_append_left (List.getElem?_eq_some_iff.1 hv).1]; exact hv)
theorem range_tail {w : World} {b o : Nat} {xs ys : List Value} (h : w.rangeAt b o (xs ++ ys)) : w.rangeAt b (o + xs.length) ys := fun j v hv => by
  have := h (xs.length + j) v (by rw [List.getElem?_append_right (Nat.le_add_right _ _), Nat.add_sub_cancel_left]; exact hv)
  rwa [← Nat.add_assoc] at this
theorem range_set {w : World} {b o p : Nat} {xs ys zs cs : List Value} (h : w.rangeAt b o (xs ++ (ys ++ zs))) (hp : o + xs.length = p) (hl : ys.length = cs.length) (ht : w.there b p cs.length) :
    (w.setCells b p cs).rangeAt b o (xs ++ (cs ++ zs)) := by
  subst hp
  refine range_app (World.rangeAt_setCells_apart (range_head h) b _ cs (.inr (.inl (Nat.le_refl _)))) (range_app (World.rangeAt_setCells_same w b _ cs ht) ?_)
  have h2 := range_tail (range_tail h)
  rw [hl] at h2
  exact World.rangeAt_setCells_apart h2 b _ cs (.inr (.inr (Nat.le_refl _)))
theorem there_part {w : World} {b o n p m : Nat} (h : w.there b o n) (h1 : o ≤ p) (h2 : p + m ≤ o + n) : w.there b p m := fun j hj => by
  have := h (p - o + j) (by omega)
  rwa [show o + (p - o + j) = p + j from by omega] at this

/-- a message's slices lie in no block below -/
structure LoFr (base : Nat) (l : Lo) : Prop where
  f1 : Fr base l.A1
  f2 : Fr base l.A2
  f3 : Fr base l.A3
  f4 : Fr base l.A4
  f5 : Fr base l.A5
theorem LoFr.zero (base : Nat) : LoFr base Lo.zero := ⟨Fr.none, Fr.none, Fr.none, Fr.none, Fr.none⟩
theorem LoFr.mono {base base' : Nat} {l : Lo} (h : LoFr base l) (hb : base' ≤ base) : LoFr base' l := ⟨h.f1.mono hb, h.f2.mono hb, h.f3.mono hb, h.f4.mono hb, h.f5.mono hb⟩
theorem MsAt.other {w w' : World} {B b base : Nat} {x : Mm.Ms} {l : Lo} (h : MsAt w B x l) (hf : LoFr base l) (hg : w.grownBy w' (some b)) (hb : b < base) (hB : B ≤ w.heap.size) : MsAt w' B x l :=
  ⟨h.ok, h.pl.other hf.f1 hf.f2 hg hb hB, h.r3.other hf.f3 hg hb hB, h.l3, h.c3, h.m3, h.r4.other hf.f4 hg hb hB, h.l4, h.c4, h.m4, h.r5.other hf.f5 hg hb hB, h.l5, h.c5, h.m5⟩

theorem Mm.Pl1.bounds {b : List Int} {s : Int × Int} (h : Mm.Pl1 b s) {n cap : Nat} (hn : b.length = n) (hnc : n ≤ cap) (hcap : cap ≤ maxLen) : s.2 = 0 → -9223372036854775808 ≤ s.1 ∧ s.1 ≤ 9223372036854775807 := fun e => by
  obtain ⟨m, hm, hl⟩ := h e
  unfold maxLen at hcap
  omega

/-- while a body is read: the result's box, the reader, the numbers' box, the message's box -/
structure Ofs (w W : World) (A : Option Addr) (n cap : Nat) (at_ err : Int) (b7 b8 : Nat) (ns : List Int) (x : Mm.Ms) (l : Lo) : Prop where
  r : Rdr W (w.heap.size + 1) A n cap at_ err
  n7 : W.rangeAt b7 0 (i64s ns)
  m8 : W.rangeAt b8 0 (mvs x l)
  t8 : W.there b8 0 26
  t4 : W.there w.heap.size 0 26
  ms : MsAt W W.heap.size x l
  fr : LoFr (b8 + 1) l
  h1 : w.heap.size + 1 < b7
  h2 : b7 < b8
  h3 : b8 < W.heap.size
  bel : Below w.heap.size w W

section
variable {w W W2 : World} {A : Option Addr} {n cap : Nat} {at_ err at2 err2 : Int} {b7 b8 : Nat} {ns : List Int} {x x' : Mm.Ms} {l l' : Lo}
theorem Ofs.read (h : Ofs w W A n cap at_ err b7 b8 ns x l) (hr : Rdr W2 (w.heap.size + 1) A n cap at2 err2) (hg : W.grownBy W2 (some (w.heap.size + 1))) : Ofs w W2 A n cap at2 err2 b7 b8 ns x l := by
  have h1 := h.h1
  have h2 := h.h2
  have h3 := h.h3
  have hz := h.bel.size
  exact ⟨hr, rangeAt_grown h.n7 hg (by omega) (by omega), rangeAt_grown h.m8 hg (by omega) (by omega), there_grown h.t8 hg (by omega) (by omega), there_grown h.t4 hg (by omega) (by omega),
    (h.ms.other h.fr hg (by omega) (Nat.le_refl _)).more hg.size, h.fr, h1, h2, Nat.lt_of_lt_of_le h3 hg.size, below_grown h.bel hg (by omega) hz⟩
theorem Ofs.set (h : Ofs w W A n cap at_ err b7 b8 ns x l) {p : Nat} {xs ys zs cs : List Value} (e : mvs x l = xs ++ (ys ++ zs)) (e' : mvs x' l' = xs ++ (cs ++ zs)) (hp : xs.length = p) (hl : ys.length = cs.length)
    (hms : MsAt W W.heap.size x' l') (hfr : LoFr (b8 + 1) l') : Ofs w (W.setCells b8 p cs) A n cap at_ err b7 b8 ns x' l' := by
  have h1 := h.h1
  have h2 := h.h2
  have h3 := h.h3
  have hz := h.bel.size
  have hg := grown_set b8 cs p W
  have h26 := mvs_len x l
  rw [e, List.length_append, List.length_append] at h26
  refine ⟨h.r.grown hg (by omega) (by omega), rangeAt_grown h.n7 hg (by omega) (by omega), ?_, World.there_setCells h.t8 b8 p cs, there_grown h.t4 hg (by omega) (by omega),
    (hms.other hfr hg (by omega) (Nat.le_refl _)).more hg.size, hfr, h1, h2, Nat.lt_of_lt_of_le h3 hg.size, below_grown h.bel hg (by omega) hz⟩
  rw [e']
  have hm := h.m8
  rw [e] at hm
  exact range_set hm (by omega) hl (there_part h.t8 (Nat.zero_le _) (by omega))
theorem Ofs.plan (h : Ofs w W A n cap at_ err b7 b8 ns x l) (p : Pm.Pl) (A1 : Option Addr) (n1 c1 : Nat) (A2 : Option Addr) (n2 c2 : Nat) (hp : PlAt W W.heap.size p A1 n1 c1 A2 n2 c2) (f1 : Fr (b8 + 1) A1) (f2 : Fr (b8 + 1) A2) :
    Ofs w (W.setCells b8 11 (pvs p A1 n1 c1 A2 n2 c2)) A n cap at_ err b7 b8 ns { x with plan := p } { l with A1 := A1, n1 := n1, c1 := c1, A2 := A2, n2 := n2, c2 := c2 } := by
  have m := h.ms
  have o := m.ok
  exact h.set (xs := [.int .i64 x.k, .int .i64 x.f, .int .i64 x.t, .int .i64 x.e, .int .i64 x.b, .int .i64 x.a, .int .i64 x.n, .int .i64 x.ti, .int .u64 x.up, .int .i64 x.co, .bool x.has]) (ys := pvs x.plan l.A1 l.n1 l.c1 l.A2 l.n2 l.c2)
    (zs := [.slice l.A3 l.n3 l.c3, .slice l.A4 l.n4 l.c4, .slice l.A5 l.n5 l.c5]) rfl rfl rfl rfl
    ⟨⟨o.k, o.f, o.t, o.e, o.b, o.a, o.n, o.ti, o.up, o.co, hp.ok, o.id, o.se, o.pa⟩, hp, m.r3, m.l3, m.c3, m.m3, m.r4, m.l4, m.c4, m.m4, m.r5, m.l5, m.c5, m.m5⟩ ⟨f1, f2, h.fr.f3, h.fr.f4, h.fr.f5⟩
theorem Ofs.kind (h : Ofs w W A n cap at_ err b7 b8 ns x l) (k : Int) (hk : Pm.I k) : Ofs w (W.setCell ⟨b8, 0, none⟩ (.int .i64 k)) A n cap at_ err b7 b8 ns { x with k := k } l := by
  have m := h.ms
  have o := m.ok
  exact h.set (p := 0) (xs := []) (ys := [.int .i64 x.k]) (cs := [.int .i64 k])
    (zs := (mvs x l).drop 1) rfl rfl rfl rfl
    ⟨⟨hk, o.f, o.t, o.e, o.b, o.a, o.n, o.ti, o.up, o.co, o.plan, o.id, o.se, o.pa⟩, m.pl, m.r3, m.l3, m.c3, m.m3, m.r4, m.l4, m.c4, m.m4, m.r5, m.l5, m.c5, m.m5⟩ h.fr
theorem Ofs.id (h : Ofs w W A n cap at_ err b7 b8 ns x l) (v : List Int) (D : Option Addr) (m c : Nat) (hr : Rd W W.heap.size D (i64s v)) (hl : v.length = m) (hc : m ≤ c) (hm : c ≤ maxLen) (hf : Wm.Fits v) (f : Fr (b8 + 1) D) :
    Ofs w (W.setCell ⟨b8, 23, none⟩ (.slice D m c)) A n cap at_ err b7 b8 ns { x with id := v } { l with A3 := D, n3 := m, c3 := c } := by
  have q := h.ms
  have o := q.ok
  exact h.set (p := 23) (xs := (mvs x l).take 23) (ys := [.slice l.A3 l.n3 l.c3]) (cs := [.slice D m c])
    (zs := [.slice l.A4 l.n4 l.c4, .slice l.A5 l.n5 l.c5]) rfl rfl rfl rfl
    ⟨⟨o.k, o.f, o.t, o.e, o.b, o.a, o.n, o.ti, o.up, o.co, o.plan, hf, o.se, o.pa⟩, q.pl, hr, hl, hc, hm, q.r4, q.l4, q.c4, q.m4, q.r5, q.l5, q.c5, q.m5⟩ ⟨h.fr.f1, h.fr.f2, f, h.fr.f4, h.fr.f5⟩
theorem Ofs.se (h : Ofs w W A n cap at_ err b7 b8 ns x l) (v : List Int) (D : Option Addr) (m c : Nat) (hr : Rd W W.heap.size D (u8s v)) (hl : v.length = m) (hc : m ≤ c) (hm : c ≤ maxLen) (hf : Fm.By v) (f : Fr (b8 + 1) D) :
    Ofs w (W.setCell ⟨b8, 24, none⟩ (.slice D m c)) A n cap at_ err b7 b8 ns { x with se := v } { l with A4 := D, n4 := m, c4 := c } := by
  have q := h.ms
  have o := q.ok
  exact h.set (p := 24) (xs := (mvs x l).take 24) (ys := [.slice l.A4 l.n4 l.c4]) (cs := [.slice D m c])
    (zs := [.slice l.A5 l.n5 l.c5]) rfl rfl rfl rfl
    ⟨⟨o.k, o.f, o.t, o.e, o.b, o.a, o.n, o.ti, o.up, o.co, o.plan, o.id, hf, o.pa⟩, q.pl, q.r3, q.l3, q.c3, q.m3, hr, hl, hc, hm, q.r5, q.l5, q.c5, q.m5⟩ ⟨h.fr.f1, h.fr.f2, h.fr.f3, f, h.fr.f5⟩
theorem Ofs.pa (h : Ofs w W A n cap at_ err b7 b8 ns x l) (v : List Int) (D : Option Addr) (m c : Nat) (hr : Rd W W.heap.size D (u8s v)) (hl : v.length = m) (hc : m ≤ c) (hm : c ≤ maxLen) (hf : Fm.By v) (f : Fr (b8 + 1) D) :
    Ofs w (W.setCell ⟨b8, 25, none⟩ (.slice D m c)) A n cap at_ err b7 b8 ns { x with pa := v } { l with A5 := D, n5 := m, c5 := c } := by
  have q := h.ms
  have o := q.ok
  exact h.set (p := 25) (xs := (mvs x l).take 25) (ys := [.slice l.A5 l.n5 l.c5]) (cs := [.slice D m c])
    (zs := []) rfl rfl rfl rfl
    ⟨⟨o.k, o.f, o.t, o.e, o.b, o.a, o.n, o.ti, o.up, o.co, o.plan, o.id, o.se, hf⟩, q.pl, q.r3, q.l3, q.c3, q.m3, q.r4, q.l4, q.c4, q.m4, hr, hl, hc, hm⟩ ⟨h.fr.f1, h.fr.f2, h.fr.f3, h.fr.f4, f⟩
theorem Ofs.cell (h : Ofs w W A n cap at_ err b7 b8 ns x l) (j : Nat) {v : Value} (hv : (mvs x l)[j]? = some v) : W.cell? ⟨b8, j, none⟩ = some v ∧ W.frozen? ⟨b8, j, none⟩ = false := by
  have hj : j < 26 := by
    have := (List.getElem?_eq_some_iff.1 hv).1
    rwa [mvs_len] at this
  have := (h.t8 j hj).2
  rw [Nat.zero_add] at this
  exact ⟨range_at h.m8 j hv, this⟩
end

/-- the boxes made: the numbers' and the message's -/
theorem Ofs.start {w W2 W3 : World} {A : Option Addr} {n cap : Nat} {at_ err : Int} {ns : List Int} (hf : Wm.Fits ns) (t4 : W2.there w.heap.size 0 26) (hr : Rdr W2 (w.heap.size + 1) A n cap at_ err) (hz : w.heap.size + 2 ≤ W2.heap.size) (bel : Below w.heap.size w W2)
    (hb : Below (W2.alloc (.cells (i64s ns).toArray 49)).heap.size (W2.alloc (.cells (i64s ns).toArray 49)) W3) :
    Ofs w (W3.alloc (.cells (mvs (Mm.msOf 0 ns) Lo.zero).toArray 30)) A n cap at_ err W2.heap.size W3.heap.size ns (Mm.msOf 0 ns) Lo.zero := by
  have hz1 : (W2.alloc (.cells (i64s ns).toArray 49)).heap.size = W2.heap.size + 1 := World.size_alloc ..
  have hz3 := hb.size
  rw [hz1] at hz3
  have b2 : Below W2.heap.size W2 (W2.alloc (.cells (i64s ns).toArray 49)) := (Below.refl _ _).alloc (Nat.le_refl _) _
  have b3 : Below W2.heap.size W2 (W3.alloc (.cells (mvs (Mm.msOf 0 ns) Lo.zero).toArray 30)) := (b2.trans (hb.mono (by omega))).alloc (by omega) _
  have hz4 : (W3.alloc (.cells (mvs (Mm.msOf 0 ns) Lo.zero).toArray 30)).heap.size = W3.heap.size + 1 := World.size_alloc ..
  have b4 : Below (W2.alloc (.cells (i64s ns).toArray 49)).heap.size (W2.alloc (.cells (i64s ns).toArray 49)) (W3.alloc (.cells (mvs (Mm.msOf 0 ns) Lo.zero).toArray 30)) := hb.alloc (by rw [hz1]; exact hz3) _
  refine ⟨hr.below b3 (by omega), range_below (range_new W2 (i64s ns) 49) b4 (by rw [hz1]; exact Nat.lt_succ_self _), range_new W3 _ _, ?_, there_below t4 b3 (by omega), ?_, LoFr.zero _, by omega, by omega, by omega, (bel.trans (b3.mono (by omega)))⟩
  · have := there_new W3 (mvs (Mm.msOf 0 ns) Lo.zero) 30
    rwa [mvs_len] at this
  · exact ⟨Mm.ok_msOf ⟨by decide, by decide⟩ hf, PlAt.zero _ _, Rd.nil _ _ _, rfl, Nat.le_refl _, Nat.zero_le _, Rd.nil _ _ _, rfl, Nat.le_refl _, Nat.zero_le _, Rd.nil _ _ _, rfl, Nat.le_refl _, Nat.zero_le _⟩
end Go.Proofs.YtpgfnhdaembhmaaDoor
