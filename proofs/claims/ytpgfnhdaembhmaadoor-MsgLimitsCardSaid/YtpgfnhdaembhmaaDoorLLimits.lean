/- The law MsgLimits walked. -/
import Derived.Test.YtpgfnhdaembhmaaDoorMw
namespace Go.Proofs.YtpgfnhdaembhmaaDoor
open Go.RowKit Go.Shelf

theorem load_gate {P : Program} {ops : Array Oper} {Q : Exit → Act → World → Prop} {w : World} {rest : List Oper} {a : Act} {d : Option Tmp} {t ty : TypeId} {x : Operand} {pos : String} {af : Array Edge} {g : Option (Nat × Bool)}
    (h : wpList P ops Q (Oper.mk d (.load t x) ty pos af g :: rest) a w) : wpList P ops Q (Oper.mk d (.load t x) ty pos af g :: rest) a w := h

/-- a cell of a row set, in a block made since W -/
theorem set_at {W V : World} {b p : Nat} {L : List Value} {old : Value} (hr : V.rangeAt b 0 L) (ht : V.there b 0 L.length) (hb : Below W.heap.size W V) (h1 : W.heap.size ≤ b) (h2 : b < V.heap.size) (h : L[p]? = some old) (v : Value) :
    V.cell? ⟨b, p, none⟩ = some old ∧ V.frozen? ⟨b, p, none⟩ = false ∧ Hid ((V.setCell ⟨b, p, none⟩ v).rangeAt b 0 (L.set p v)) ∧ Hid (Below W.heap.size W (V.setCell ⟨b, p, none⟩ v)) ∧ Hid (b < (V.setCell ⟨b, p, none⟩ v).heap.size) := by
  have hp : p < L.length := (List.getElem?_eq_some_iff.1 h).1
  have hf := (ht p hp).2
  rw [Nat.zero_add] at hf
  have hg := grown_set1 b p v V
  refine ⟨range_at hr p h, hf, ?_, below_grown hb hg h1 hb.size, Nat.lt_of_lt_of_le h2 hg.size⟩
  have e : L = L.take p ++ ([old] ++ L.drop (p + 1)) := by
    obtain ⟨_, rfl⟩ := List.getElem?_eq_some_iff.1 h
    simp
  have e' : L.set p v = L.take p ++ ([v] ++ L.drop (p + 1)) := by
    rw [List.set_eq_take_append_cons_drop, if_pos hp]
    rfl
  show World.rangeAt _ _ _ _
  rw [e']
  rw [e] at hr
  have := range_set (p := p) (cs := [v]) hr (by rw [List.length_take, Nat.min_eq_left (Nat.le_of_lt hp)]; omega) rfl (there_part ht (Nat.zero_le _) (by show p + 1 ≤ _; omega))
  exact this
theorem new_set {W : World} {p : Nat} {L : List Value} {old : Value} (t : TypeId) (h : L[p]? = some old) (v : Value) :
    (W.alloc (.cells L.toArray t)).cell? ⟨W.heap.size, p, none⟩ = some old ∧ (W.alloc (.cells L.toArray t)).frozen? ⟨W.heap.size, p, none⟩ = false ∧ Hid (((W.alloc (.cells L.toArray t)).setCell ⟨W.heap.size, p, none⟩ v).rangeAt W.heap.size 0 (L.set p v)) ∧
    Hid (Below W.heap.size W ((W.alloc (.cells L.toArray t)).setCell ⟨W.heap.size, p, none⟩ v)) ∧ Hid (W.heap.size < ((W.alloc (.cells L.toArray t)).setCell ⟨W.heap.size, p, none⟩ v).heap.size) :=
  set_at (range_new W L t) (there_new W L t) ((Below.refl _ _).alloc (Nat.le_refl _) _) (Nat.le_refl _) (by rw [World.size_alloc]; omega) h v
theorem new_set2 {W : World} {p : Nat} {L : List Value} {old : Value} (t : TypeId) (c : List Value) (t2 : TypeId) (h : L[p]? = some old) (v : Value) :
    ((W.alloc (.cells L.toArray t)).alloc (.cells c.toArray t2)).cell? ⟨W.heap.size, p, none⟩ = some old ∧ ((W.alloc (.cells L.toArray t)).alloc (.cells c.toArray t2)).frozen? ⟨W.heap.size, p, none⟩ = false ∧
    Hid ((((W.alloc (.cells L.toArray t)).alloc (.cells c.toArray t2)).setCell ⟨W.heap.size, p, none⟩ v).rangeAt W.heap.size 0 (L.set p v)) ∧
    Hid (Below W.heap.size W (((W.alloc (.cells L.toArray t)).alloc (.cells c.toArray t2)).setCell ⟨W.heap.size, p, none⟩ v)) ∧ Hid (W.heap.size < (((W.alloc (.cells L.toArray t)).alloc (.cells c.toArray t2)).setCell ⟨W.heap.size, p, none⟩ v).heap.size) ∧
    Hid (Rd (((W.alloc (.cells L.toArray t)).alloc (.cells c.toArray t2)).setCell ⟨W.heap.size, p, none⟩ v) (((W.alloc (.cells L.toArray t)).alloc (.cells c.toArray t2)).setCell ⟨W.heap.size, p, none⟩ v).heap.size (some ⟨(W.alloc (.cells L.toArray t)).heap.size, 0, none⟩) c) := by
  have hz : (W.alloc (.cells L.toArray t)).heap.size = W.heap.size + 1 := World.size_alloc ..
  have hb : Below (W.heap.size + 1) (W.alloc (.cells L.toArray t)) ((W.alloc (.cells L.toArray t)).alloc (.cells c.toArray t2)) := (Below.refl _ _).alloc (by omega) _
  have hz2 : ((W.alloc (.cells L.toArray t)).alloc (.cells c.toArray t2)).heap.size = W.heap.size + 2 := by rw [World.size_alloc, hz]
  obtain ⟨h1, h2, h3, h4, h5⟩ := set_at (W := W) (range_below (range_new W L t) hb (Nat.lt_succ_self _)) (there_below (there_new W L t) hb (Nat.lt_succ_self _)) (((Below.refl W.heap.size W).alloc (Nat.le_refl _) _).trans (hb.mono (Nat.le_succ _))) (Nat.le_refl _) (by rw [hz2]; omega) h v
  refine ⟨h1, h2, h3, h4, h5, ?_⟩
  have hn := Rd.new (W.alloc (.cells L.toArray t)) (W.heap.size + 2) c t2 (0, 0) (by omega)
  have hg := grown_set1 W.heap.size p v ((W.alloc (.cells L.toArray t)).alloc (.cells c.toArray t2))
  exact (hn.other (base := W.heap.size + 1) (fun ad e => by cases e; show W.heap.size + 1 ≤ (W.alloc (.cells L.toArray t)).heap.size; omega) hg (Nat.lt_succ_self _) (by rw [hz2]; exact Nat.le_refl _)).more (Nat.le_trans (by rw [hz2]; exact Nat.le_refl _) hg.size)

namespace Mm
theorem lim_f {x : Ms} : ({ x with f := 256 } : Ms).right = false := no_of fun r => by have h : (256 : Int) ≤ 255 := r.2.2.1.2; omega
theorem lim_t {x : Ms} : ({ x with t := -1 } : Ms).right = false := no_of fun r => by have h : (0 : Int) ≤ -1 := r.2.2.2.1.1; omega
theorem lim_up {x : Ms} : ({ x with up := 65536 } : Ms).right = false := no_of fun r => by have h : (65536 : Int) ≤ 65535 := r.2.2.2.2.1; omega
theorem lim_co {x : Ms} : ({ x with co := 1001 } : Ms).right = false := no_of fun r => by have h : (1001 : Int) ≤ 1000 := r.2.2.2.2.2.2.1; omega
theorem lim_k {x : Ms} : ({ x with k := 20 } : Ms).right = false := no_of fun r => by have h : (20 : Int) ≤ 19 := r.2.1; omega
theorem lim_id {x : Ms} : ({ x with id := [1, 2] } : Ms).right = false := no_of fun r => by
  rcases r.2.2.2.2.2.2.2.2.1 with h | h
  · have h' : (2 : Nat) = 0 := h
    omega
  · have h' : (2 : Nat) = 3 := h
    omega
theorem lim_pa {x : Ms} {v : List Int} (hv : v.length = 1025) : ({ x with pa := v } : Ms).right = false := no_of fun r => by have h : v.length ≤ 1024 := r.2.2.2.2.2.2.2.2.2.2; omega
end Mm
theorem MsAt.f {w : World} {B : Nat} {x : Mm.Ms} {l : Lo} (h : MsAt w B x l) : MsAt w B { x with f := 256 } l := have o := h.ok; ⟨⟨o.k, (show Pm.I (256) from ⟨by decide, by decide⟩), o.t, o.e, o.b, o.a, o.n, o.ti, o.up, o.co, o.plan, o.id, o.se, o.pa⟩, h.pl, h.r3, h.l3, h.c3, h.m3, h.r4, h.l4, h.c4, h.m4, h.r5, h.l5, h.c5, h.m5⟩
theorem MsAt.t {w : World} {B : Nat} {x : Mm.Ms} {l : Lo} (h : MsAt w B x l) : MsAt w B { x with t := -1 } l := have o := h.ok; ⟨⟨o.k, o.f, (show Pm.I (-1) from ⟨by decide, by decide⟩), o.e, o.b, o.a, o.n, o.ti, o.up, o.co, o.plan, o.id, o.se, o.pa⟩, h.pl, h.r3, h.l3, h.c3, h.m3, h.r4, h.l4, h.c4, h.m4, h.r5, h.l5, h.c5, h.m5⟩
theorem MsAt.co {w : World} {B : Nat} {x : Mm.Ms} {l : Lo} (h : MsAt w B x l) : MsAt w B { x with co := 1001 } l := have o := h.ok; ⟨⟨o.k, o.f, o.t, o.e, o.b, o.a, o.n, o.ti, o.up, (show Pm.I (1001) from ⟨by decide, by decide⟩), o.plan, o.id, o.se, o.pa⟩, h.pl, h.r3, h.l3, h.c3, h.m3, h.r4, h.l4, h.c4, h.m4, h.r5, h.l5, h.c5, h.m5⟩
theorem MsAt.up {w : World} {B : Nat} {x : Mm.Ms} {l : Lo} (h : MsAt w B x l) : MsAt w B { x with up := 65536 } l := have o := h.ok; ⟨⟨o.k, o.f, o.t, o.e, o.b, o.a, o.n, o.ti, (show Pm.U (65536) from ⟨by decide, by decide⟩), o.co, o.plan, o.id, o.se, o.pa⟩, h.pl, h.r3, h.l3, h.c3, h.m3, h.r4, h.l4, h.c4, h.m4, h.r5, h.l5, h.c5, h.m5⟩
theorem MsAt.k {w : World} {B : Nat} {x : Mm.Ms} {l : Lo} (h : MsAt w B x l) : MsAt w B { x with k := 20 } l := have o := h.ok; ⟨⟨(show Pm.I (20) from ⟨by decide, by decide⟩), o.f, o.t, o.e, o.b, o.a, o.n, o.ti, o.up, o.co, o.plan, o.id, o.se, o.pa⟩, h.pl, h.r3, h.l3, h.c3, h.m3, h.r4, h.l4, h.c4, h.m4, h.r5, h.l5, h.c5, h.m5⟩
theorem MsAt.id {w : World} {B : Nat} {x : Mm.Ms} {l : Lo} (h : MsAt w B x l) {A : Option Addr} (hr : Rd w B A (i64s [1, 2])) : MsAt w B { x with id := [1, 2] } { l with A3 := A, n3 := 2, c3 := 2 } := have o := h.ok; ⟨⟨o.k, o.f, o.t, o.e, o.b, o.a, o.n, o.ti, o.up, o.co, o.plan, (fun n hn => by
    simp at hn
    rcases hn with rfl | rfl <;> exact ⟨by decide, by decide⟩), o.se, o.pa⟩, h.pl, hr, rfl, Nat.le_refl _, (show 2 ≤ maxLen by unfold maxLen; omega), h.r4, h.l4, h.c4, h.m4, h.r5, h.l5, h.c5, h.m5⟩
theorem MsAt.pa {w : World} {B : Nat} {x : Mm.Ms} {l : Lo} (h : MsAt w B x l) {A : Option Addr} {v : List Int} (hr : Rd w B A (u8s v)) (hl : v.length = 1025) (hb : Fm.By v) : MsAt w B { x with pa := v } { l with A5 := A, n5 := 1025, c5 := 1025 } := have o := h.ok; ⟨⟨o.k, o.f, o.t, o.e, o.b, o.a, o.n, o.ti, o.up, o.co, o.plan, o.id, o.se, hb⟩, h.pl, h.r3, h.l3, h.c3, h.m3, h.r4, h.l4, h.c4, h.m4, hr, hl, Nat.le_refl _, (show 1025 ≤ maxLen by unfold maxLen; omega)⟩

theorem make_zeros (n : Nat) (hn : n ≤ 100000) : ∃ zs : List Int, zs.length = n ∧ Fm.By zs ∧ ∀ W, (Instr.makeSlice 28 (.int .i64 (n : Int)) (.int .i64 (n : Int))).run Tryd.prog W = .ok (.slice (some ⟨W.heap.size, 0, none⟩) n n) (W.alloc (.cells (u8s zs).toArray 5)) := by
  obtain ⟨i0, hi, hy0, hy1, hy2⟩ := info_parts info_u8
  refine ⟨List.replicate n 0, List.length_replicate, fun c hc => by rw [(List.mem_replicate.1 hc).2]; exact ⟨by decide, by decide⟩, fun W => ?_⟩
  have h := run_make (P := Tryd.prog) W 28 5 i0 (.int .u8 0) Tryd.underlying28 hi hy0 .i64 .i64 (n : Int) (n : Int) (by omega) (by omega) (by rw [hy2]; omega) (by omega)
  have e : madeCells (Value.int .u8 0).cells (n * 1) = (u8s (List.replicate n 0)).toArray := by
    have : (madeCells #[Value.int .u8 0] (n * 1)).toList = u8s (List.replicate n 0) := by rw [toList_madeCells_one, u8s, List.map_replicate, Nat.mul_one]
    rw [← this]
    rfl
  rw [hy1, Int.toNat_natCast, e] at h
  exact h

set_option maxRecDepth 100000 in
set_option maxHeartbeats 16000000 in
theorem mlimits_walk (x : Mm.Ms) (l : Lo) (w : World) (hp : MsAt w w.heap.size x l) (ht : Tab w) (hh : HTab w) :
    Calls Tryd.prog 8 #[mv x l] w fun e w' => e = .returned (.bool true) ∧ Below w.heap.size w w' := by
  have hx1 := range_new w (mvs x l) 30
  have hb1 : Hid (Below w.heap.size w (w.alloc (.cells (mvs x l).toArray 30))) := (Below.refl _ w).alloc (Nat.le_refl _) _
  have HT := Lib.hid (fun (W : World) (h : Below w.heap.size w W) => ht.below h (Nat.le_refl _))
  have HH := Lib.hid (fun (W : World) (h : Below w.heap.size w W) => hh.below h (Nat.le_refl _))
  have HD := Lib.hid (fun (W : World) (h : Below w.heap.size w W) => mhead_any W (HT.out W h) (HH.out W h))
  have HMS := Lib.hid (fun (W : World) (h : Below w.heap.size w W) => hp.below h (Nat.le_refl _))
  have HRI := Lib.hid (fun (W : World) (h : Below w.heap.size w W) => MRight_any x l w.heap.size W (HMS.out W h) h.size (HT.out W h))
  have HRA := Lib.hid (fun (y : Mm.Ms) (m : Lo) (B : Nat) (W : World) (h : Below w.heap.size w W) (hm : MsAt W B y m) (hB : B ≤ W.heap.size) (hr : y.right = false) => by
    have := MRight_any y m B W hm hB (HT.out W h)
    rw [hr] at this
    exact this)
  have HZ1 : Hid ((w.alloc (.cells (mvs x l).toArray 30)).heap.size = w.heap.size + 1) := World.size_alloc ..
  have HR : Hid (∀ (W : World), Below (w.heap.size + 1) (w.alloc (.cells (mvs x l).toArray 30)) W → W.rangeAt w.heap.size 0 (mvs x l)) := fun W h => range_below hx1 h (Nat.lt_succ_self _)
  have HW : Hid (∀ (W : World), Below (w.heap.size + 1) (w.alloc (.cells (mvs x l).toArray 30)) W → Below w.heap.size w W) := fun W h => hb1.out.trans (h.mono (Nat.le_succ _))
  have HI : Hid ((Tryd.prog.info? 30).map (·.size) = some (mvs x l).length) := info_msg
  have HI2 : Hid ((Tryd.prog.info? 30).map (·.size) = some (mvs x l).toArray.size) := info_msg
  have HS0 : Hid (26 = (mvs x l).toArray.size) := rfl
  have HO := Lib.hid (mvs_one x l)
  have HL1 : Hid (∀ p v, (mvs x l).set p v = (mvs x l).set p v) := fun _ _ => rfl
  have Gf : Hid ((mvs x l)[1]? = some (.int .i64 x.f)) := rfl
  have Ef : Hid ((mvs x l).set 1 (.int .i64 256) = mvs { x with f := 256 } l) := rfl
  have Gt : Hid ((mvs x l)[2]? = some (.int .i64 x.t)) := rfl
  have Et : Hid ((mvs x l).set 2 (.int .i64 (-1)) = mvs { x with t := -1 } l) := rfl
  have Gco : Hid ((mvs x l)[9]? = some (.int .i64 x.co)) := rfl
  have Eco : Hid ((mvs x l).set 9 (.int .i64 1001) = mvs { x with co := 1001 } l) := rfl
  have Gup : Hid ((mvs x l)[8]? = some (.int .u64 x.up)) := rfl
  have Eup : Hid ((mvs x l).set 8 (.int .u64 65536) = mvs { x with up := 65536 } l) := rfl
  have Gk : Hid ((mvs x l)[0]? = some (.int .i64 x.k)) := rfl
  have Ek : Hid ((mvs x l).set 0 (.int .i64 20) = mvs { x with k := 20 } l) := rfl
  have Gid : Hid ((mvs x l)[23]? = some (.slice l.A3 l.n3 l.c3)) := rfl
  have Eid : Hid (∀ A, (mvs x l).set 23 (.slice A 2 2) = mvs { x with id := [1, 2] } { l with A3 := A, n3 := 2, c3 := 2 }) := fun _ => rfl
  have Gpa : Hid ((mvs x l)[25]? = some (.slice l.A5 l.n5 l.c5)) := rfl
  have Epa : Hid (∀ A v, (mvs x l).set 25 (.slice A 1025 1025) = mvs { x with pa := v } { l with A5 := A, n5 := 1025, c5 := 1025 }) := fun _ _ => rfl
  obtain ⟨zs, hzl, hzb, hmk0⟩ := make_zeros 1025 (by omega)
  have hmk : ∀ W, (Instr.makeSlice 28 (.int .i64 1025) (.int .i64 1025)).run Tryd.prog W = .ok (.slice (some ⟨W.heap.size, 0, none⟩) 1025 1025) (W.alloc (.cells (u8s zs).toArray 5)) := hmk0
  have HZL := Lib.hid hzl
  have HZB := Lib.hid hzb
  have hmk' := Lib.hid hmk
  clear hx1 hp ht hh hzl hzb hmk hmk0
  unfold mv at HRI ⊢
  obtain ⟨L, hL⟩ : ∃ L, L = mvs x l := ⟨_, rfl⟩
  rw [← hL] at HRI HZ1 HR HW HI HI2 HS0 HO Gf Ef Gt Et Gco Eco Gup Eup Gk Ek Gid Eid Gpa Epa hb1 ⊢
  clear hL HL1
  go_enter Tryd.func8, Tryd.ntmps8
  go_wp2_with (go_at_call 9; fail)
  refine (HD.out _ hb1.out).mono ?_
  rintro e w2 ⟨rfl, hb2⟩
  have hC2 : Hid (Below (w.heap.size + 1) (w.alloc (.cells L.toArray 30)) w2) := hb2.mono (by rw [HZ1.out]; exact Nat.le_refl _)
  have hz2 : w.heap.size + 1 ≤ w2.heap.size := by have := hC2.out.size; rwa [HZ1.out] at this
  clear hb2 HD
  go_wp2_with (first | ((with_reducible refine wpList_gate ?_); refine wpList_load_mid rfl 30 _ rfl w.heap.size 0 rfl L _ (HR.out _ hC2.out) Tryd.underlying30 rfl HI.out ?_) | (go_at_call 14; fail))
  refine (HRI.out _ (HW.out _ hC2.out)).mono ?_
  rintro e w3 ⟨rfl, hb3⟩
  have hC3 := Lib.hid (hC2.out.trans (hb3.mono hz2))
  have hz3 := Nat.le_trans hz2 hb3.size
  clear hb3 hC2 HRI
  cases hr : x.right with
  | false =>
    clear hr
    go_wp2
    go_ret
    exact ⟨rfl, HW.out _ hC3.out⟩
  | true =>
    clear hr
    dsimp only
    repeat (first | ((with_reducible refine wpList_gate ?_); (fail_if_success (with_reducible refine load_gate ?_)); go_step) | ((fail_if_success (with_reducible refine wpList_gate ?_)); first | go_upon | go_step))
    obtain ⟨kc, fc, hr4, hb4, hs4⟩ := new_set (W := w3) 30 Gf.out (.int .i64 256)
    (with_reducible refine wpList_gate ?_)
    refine wpList_load_mid rfl 30 _ rfl w.heap.size 0 rfl L _ (HR.out _ hC3.out) Tryd.underlying30 rfl HI.out ?_
    repeat (first | ((with_reducible refine wpList_gate ?_); (fail_if_success (with_reducible refine load_gate ?_)); first | (refine wpList_store_new rfl 30 _ _ rfl _ L.toArray rfl rfl HI2.out HS0.out HO.out ?_; generalize World.alloc w3 _ = v0 at *) | go_step) | ((fail_if_success (with_reducible refine wpList_gate ?_)); first | go_upon | go_step))
    clear kc fc
    generalize World.setCell _ _ _ = w4 at *
    have hC4 := Lib.hid (hC3.out.trans (hb4.out.mono (by omega)))
    have hz4 : w.heap.size + 1 ≤ w4.heap.size := by have := hs4.out; omega
    obtain ⟨kc, fc, hr5, hb5, hs5⟩ := new_set (W := w4) 30 Gt.out (.int .i64 (-1))
    (with_reducible refine wpList_gate ?_)
    refine wpList_load_mid rfl 30 _ rfl w.heap.size 0 rfl L _ (HR.out _ hC4.out) Tryd.underlying30 rfl HI.out ?_
    repeat (first | ((with_reducible refine wpList_gate ?_); (fail_if_success (with_reducible refine load_gate ?_)); first | (refine wpList_store_new rfl 30 _ _ rfl _ L.toArray rfl rfl HI2.out HS0.out HO.out ?_; generalize World.alloc w4 _ = v1 at *) | go_step) | ((fail_if_success (with_reducible refine wpList_gate ?_)); first | go_upon | go_step))
    clear kc fc
    generalize World.setCell _ _ _ = w5 at *
    have hC5 := Lib.hid (hC4.out.trans (hb5.out.mono (by omega)))
    have hz5 : w.heap.size + 1 ≤ w5.heap.size := by have := hs5.out; omega
    obtain ⟨kc, fc, hr6, hb6, hs6⟩ := new_set (W := w5) 30 Gco.out (.int .i64 1001)
    (with_reducible refine wpList_gate ?_)
    refine wpList_load_mid rfl 30 _ rfl w.heap.size 0 rfl L _ (HR.out _ hC5.out) Tryd.underlying30 rfl HI.out ?_
    repeat (first | ((with_reducible refine wpList_gate ?_); (fail_if_success (with_reducible refine load_gate ?_)); first | (refine wpList_store_new rfl 30 _ _ rfl _ L.toArray rfl rfl HI2.out HS0.out HO.out ?_; generalize World.alloc w5 _ = v2 at *) | go_step) | ((fail_if_success (with_reducible refine wpList_gate ?_)); first | go_upon | go_step))
    clear kc fc
    generalize World.setCell _ _ _ = w6 at *
    have hC6 := Lib.hid (hC5.out.trans (hb6.out.mono (by omega)))
    have hz6 : w.heap.size + 1 ≤ w6.heap.size := by have := hs6.out; omega
    obtain ⟨kc, fc, hr7, hb7, hs7⟩ := new_set (W := w6) 30 Gup.out (.int .u64 65536)
    (with_reducible refine wpList_gate ?_)
    refine wpList_load_mid rfl 30 _ rfl w.heap.size 0 rfl L _ (HR.out _ hC6.out) Tryd.underlying30 rfl HI.out ?_
    repeat (first | ((with_reducible refine wpList_gate ?_); (fail_if_success (with_reducible refine load_gate ?_)); first | (refine wpList_store_new rfl 30 _ _ rfl _ L.toArray rfl rfl HI2.out HS0.out HO.out ?_; generalize World.alloc w6 _ = v3 at *) | go_step) | ((fail_if_success (with_reducible refine wpList_gate ?_)); first | go_upon | go_step))
    clear kc fc
    generalize World.setCell _ _ _ = w7 at *
    have hC7 := Lib.hid (hC6.out.trans (hb7.out.mono (by omega)))
    have hz7 : w.heap.size + 1 ≤ w7.heap.size := by have := hs7.out; omega
    obtain ⟨kc, fc, hr8, hb8, hs8⟩ := new_set (W := w7) 30 Gk.out (.int .i64 20)
    (with_reducible refine wpList_gate ?_)
    refine wpList_load_mid rfl 30 _ rfl w.heap.size 0 rfl L _ (HR.out _ hC7.out) Tryd.underlying30 rfl HI.out ?_
    repeat (first | ((with_reducible refine wpList_gate ?_); (fail_if_success (with_reducible refine load_gate ?_)); first | (refine wpList_store_new rfl 30 _ _ rfl _ L.toArray rfl rfl HI2.out HS0.out HO.out ?_; generalize World.alloc w7 _ = v4 at *) | go_step) | ((fail_if_success (with_reducible refine wpList_gate ?_)); first | go_upon | go_step))
    clear kc fc
    generalize World.setCell _ _ _ = w8 at *
    have hC8 := Lib.hid (hC7.out.trans (hb8.out.mono (by omega)))
    have hz8 : w.heap.size + 1 ≤ w8.heap.size := by have := hs8.out; omega
    obtain ⟨kc, fc, hr9, hb9, hs9, hd9⟩ := new_set2 (W := w8) 30 [.int .i64 1, .int .i64 2] 2 Gid.out (.slice (some ⟨(w8.alloc (.cells L.toArray 30)).heap.size, 0, none⟩) 2 2)
    (with_reducible refine wpList_gate ?_)
    refine wpList_load_mid rfl 30 _ rfl w.heap.size 0 rfl L _ (HR.out _ hC8.out) Tryd.underlying30 rfl HI.out ?_
    repeat (first | ((with_reducible refine wpList_gate ?_); (fail_if_success (with_reducible refine load_gate ?_)); first | (refine wpList_store_new rfl 30 _ _ rfl _ L.toArray rfl rfl HI2.out HS0.out HO.out ?_; generalize World.alloc w8 _ = v5 at *) | go_step) | ((fail_if_success (with_reducible refine wpList_gate ?_)); first | go_upon | go_step))
    clear kc fc
    generalize World.setCell _ _ _ = w9 at *
    have hC9 := Lib.hid (hC8.out.trans (hb9.out.mono (by omega)))
    have hz9 : w.heap.size + 1 ≤ w9.heap.size := by have := hs9.out; omega
    obtain ⟨kc, fc, hr10, hb10, hs10, hd10⟩ := new_set2 (W := w9) 30 (u8s zs) 5 Gpa.out (.slice (some ⟨(w9.alloc (.cells L.toArray 30)).heap.size, 0, none⟩) 1025 1025)
    have hmk := hmk'.out
    (with_reducible refine wpList_gate ?_)
    refine wpList_load_mid rfl 30 _ rfl w.heap.size 0 rfl L _ (HR.out _ hC9.out) Tryd.underlying30 rfl HI.out ?_
    repeat (first | ((with_reducible refine wpList_gate ?_); (fail_if_success (with_reducible refine load_gate ?_)); first | (refine wpList_store_new rfl 30 _ _ rfl _ L.toArray rfl rfl HI2.out HS0.out HO.out ?_; generalize World.alloc w9 _ = v6 at *) | go_step) | ((fail_if_success (with_reducible refine wpList_gate ?_)); first | go_upon | go_step))
    clear kc fc
    generalize World.setCell _ _ _ = w10 at *
    have hC10 := Lib.hid (hC9.out.trans (hb10.out.mono (by omega)))
    have hz10 : w.heap.size + 1 ≤ w10.heap.size := by have := hs10.out; omega
    have hW10 := Lib.hid (fun (W : World) (h : Below w10.heap.size w10 W) => HW.out W (hC10.out.trans (h.mono (by omega))))
    have zs4 := hs4.out
    have zs5 := hs5.out
    have zs6 := hs6.out
    have zs7 := hs7.out
    have zs8 := hs8.out
    have zs9 := hs9.out
    have zs10 := hs10.out
    have B10 := Lib.hid (Below.refl w10.heap.size w10)
    have B9 := Lib.hid (hb10.out.trans (B10.out.mono (by omega)))
    have B8 := Lib.hid (hb9.out.trans (B9.out.mono (by omega)))
    have B7 := Lib.hid (hb8.out.trans (B8.out.mono (by omega)))
    have B6 := Lib.hid (hb7.out.trans (B7.out.mono (by omega)))
    have B5 := Lib.hid (hb6.out.trans (B6.out.mono (by omega)))
    have B4 := Lib.hid (hb5.out.trans (B5.out.mono (by omega)))
    rw [Ef.out] at hr4
    have hq4 : Hid (∀ W, Below w10.heap.size w10 W → W.rangeAt w3.heap.size 0 (mvs ({ x with f := 256 } : Mm.Ms) l)) := fun W h => range_below (range_below hr4.out B4.out hs4.out) h (by omega)
    have hc4 : Hid (∀ W, Below w10.heap.size w10 W → Calls Tryd.prog 14 #[.agg (mvs ({ x with f := 256 } : Mm.Ms) l).toArray] W fun e w' => e = .returned (.bool false) ∧ Below W.heap.size W w') := fun W h => HRA.out ({ x with f := 256 } : Mm.Ms) l w.heap.size W (hW10.out W h) ((HMS.out W (hW10.out W h)).f) (hW10.out W h).size Mm.lim_f
    have hi4 : Hid ((Tryd.prog.info? 30).map (·.size) = some (mvs ({ x with f := 256 } : Mm.Ms) l).length) := info_msg
    obtain ⟨Y4, hY⟩ : ∃ Y, Y = mvs ({ x with f := 256 } : Mm.Ms) l := ⟨_, rfl⟩
    rw [← hY] at hq4 hc4 hi4
    clear hY
    rw [Et.out] at hr5
    have hq5 : Hid (∀ W, Below w10.heap.size w10 W → W.rangeAt w4.heap.size 0 (mvs ({ x with t := -1 } : Mm.Ms) l)) := fun W h => range_below (range_below hr5.out B5.out hs5.out) h (by omega)
    have hc5 : Hid (∀ W, Below w10.heap.size w10 W → Calls Tryd.prog 14 #[.agg (mvs ({ x with t := -1 } : Mm.Ms) l).toArray] W fun e w' => e = .returned (.bool false) ∧ Below W.heap.size W w') := fun W h => HRA.out ({ x with t := -1 } : Mm.Ms) l w.heap.size W (hW10.out W h) ((HMS.out W (hW10.out W h)).t) (hW10.out W h).size Mm.lim_t
    have hi5 : Hid ((Tryd.prog.info? 30).map (·.size) = some (mvs ({ x with t := -1 } : Mm.Ms) l).length) := info_msg
    obtain ⟨Y5, hY⟩ : ∃ Y, Y = mvs ({ x with t := -1 } : Mm.Ms) l := ⟨_, rfl⟩
    rw [← hY] at hq5 hc5 hi5
    clear hY
    rw [Eco.out] at hr6
    have hq6 : Hid (∀ W, Below w10.heap.size w10 W → W.rangeAt w5.heap.size 0 (mvs ({ x with co := 1001 } : Mm.Ms) l)) := fun W h => range_below (range_below hr6.out B6.out hs6.out) h (by omega)
    have hc6 : Hid (∀ W, Below w10.heap.size w10 W → Calls Tryd.prog 14 #[.agg (mvs ({ x with co := 1001 } : Mm.Ms) l).toArray] W fun e w' => e = .returned (.bool false) ∧ Below W.heap.size W w') := fun W h => HRA.out ({ x with co := 1001 } : Mm.Ms) l w.heap.size W (hW10.out W h) ((HMS.out W (hW10.out W h)).co) (hW10.out W h).size Mm.lim_co
    have hi6 : Hid ((Tryd.prog.info? 30).map (·.size) = some (mvs ({ x with co := 1001 } : Mm.Ms) l).length) := info_msg
    obtain ⟨Y6, hY⟩ : ∃ Y, Y = mvs ({ x with co := 1001 } : Mm.Ms) l := ⟨_, rfl⟩
    rw [← hY] at hq6 hc6 hi6
    clear hY
    rw [Eup.out] at hr7
    have hq7 : Hid (∀ W, Below w10.heap.size w10 W → W.rangeAt w6.heap.size 0 (mvs ({ x with up := 65536 } : Mm.Ms) l)) := fun W h => range_below (range_below hr7.out B7.out hs7.out) h (by omega)
    have hc7 : Hid (∀ W, Below w10.heap.size w10 W → Calls Tryd.prog 14 #[.agg (mvs ({ x with up := 65536 } : Mm.Ms) l).toArray] W fun e w' => e = .returned (.bool false) ∧ Below W.heap.size W w') := fun W h => HRA.out ({ x with up := 65536 } : Mm.Ms) l w.heap.size W (hW10.out W h) ((HMS.out W (hW10.out W h)).up) (hW10.out W h).size Mm.lim_up
    have hi7 : Hid ((Tryd.prog.info? 30).map (·.size) = some (mvs ({ x with up := 65536 } : Mm.Ms) l).length) := info_msg
    obtain ⟨Y7, hY⟩ : ∃ Y, Y = mvs ({ x with up := 65536 } : Mm.Ms) l := ⟨_, rfl⟩
    rw [← hY] at hq7 hc7 hi7
    clear hY
    rw [Ek.out] at hr8
    have hq8 : Hid (∀ W, Below w10.heap.size w10 W → W.rangeAt w7.heap.size 0 (mvs ({ x with k := 20 } : Mm.Ms) l)) := fun W h => range_below (range_below hr8.out B8.out hs8.out) h (by omega)
    have hc8 : Hid (∀ W, Below w10.heap.size w10 W → Calls Tryd.prog 14 #[.agg (mvs ({ x with k := 20 } : Mm.Ms) l).toArray] W fun e w' => e = .returned (.bool false) ∧ Below W.heap.size W w') := fun W h => HRA.out ({ x with k := 20 } : Mm.Ms) l w.heap.size W (hW10.out W h) ((HMS.out W (hW10.out W h)).k) (hW10.out W h).size Mm.lim_k
    have hi8 : Hid ((Tryd.prog.info? 30).map (·.size) = some (mvs ({ x with k := 20 } : Mm.Ms) l).length) := info_msg
    obtain ⟨Y8, hY⟩ : ∃ Y, Y = mvs ({ x with k := 20 } : Mm.Ms) l := ⟨_, rfl⟩
    rw [← hY] at hq8 hc8 hi8
    clear hY
    rw [Eid.out] at hr9
    have hq9 : Hid (∀ W, Below w10.heap.size w10 W → W.rangeAt w8.heap.size 0 (mvs ({ x with id := [1, 2] } : Mm.Ms) { l with A3 := some ⟨v5.heap.size, 0, none⟩, n3 := 2, c3 := 2 })) := fun W h => range_below (range_below hr9.out B9.out hs9.out) h (by omega)
    have hc9 : Hid (∀ W, Below w10.heap.size w10 W → Calls Tryd.prog 14 #[.agg (mvs ({ x with id := [1, 2] } : Mm.Ms) { l with A3 := some ⟨v5.heap.size, 0, none⟩, n3 := 2, c3 := 2 }).toArray] W fun e w' => e = .returned (.bool false) ∧ Below W.heap.size W w') := fun W h => HRA.out ({ x with id := [1, 2] } : Mm.Ms) { l with A3 := some ⟨v5.heap.size, 0, none⟩, n3 := 2, c3 := 2 } w10.heap.size W (hW10.out W h) (((HMS.out W (hW10.out W h)).more (B' := w10.heap.size) (by omega)).id (((hd9.out.below B9.out).more (by omega)).below h)) h.size Mm.lim_id
    have hi9 : Hid ((Tryd.prog.info? 30).map (·.size) = some (mvs ({ x with id := [1, 2] } : Mm.Ms) { l with A3 := some ⟨v5.heap.size, 0, none⟩, n3 := 2, c3 := 2 }).length) := info_msg
    obtain ⟨Y9, hY⟩ : ∃ Y, Y = mvs ({ x with id := [1, 2] } : Mm.Ms) { l with A3 := some ⟨v5.heap.size, 0, none⟩, n3 := 2, c3 := 2 } := ⟨_, rfl⟩
    rw [← hY] at hq9 hc9 hi9
    clear hY
    rw [Epa.out _ zs] at hr10
    have hq10 : Hid (∀ W, Below w10.heap.size w10 W → W.rangeAt w9.heap.size 0 (mvs ({ x with pa := zs } : Mm.Ms) { l with A5 := some ⟨v6.heap.size, 0, none⟩, n5 := 1025, c5 := 1025 })) := fun W h => range_below (range_below hr10.out B10.out hs10.out) h (by omega)
    have hc10 : Hid (∀ W, Below w10.heap.size w10 W → Calls Tryd.prog 14 #[.agg (mvs ({ x with pa := zs } : Mm.Ms) { l with A5 := some ⟨v6.heap.size, 0, none⟩, n5 := 1025, c5 := 1025 }).toArray] W fun e w' => e = .returned (.bool false) ∧ Below W.heap.size W w') := fun W h => HRA.out ({ x with pa := zs } : Mm.Ms) { l with A5 := some ⟨v6.heap.size, 0, none⟩, n5 := 1025, c5 := 1025 } w10.heap.size W (hW10.out W h) (((HMS.out W (hW10.out W h)).more (B' := w10.heap.size) (by omega)).pa (((hd10.out.below B10.out).more (by omega)).below h) HZL.out HZB.out) h.size (Mm.lim_pa HZL.out)
    have hi10 : Hid ((Tryd.prog.info? 30).map (·.size) = some (mvs ({ x with pa := zs } : Mm.Ms) { l with A5 := some ⟨v6.heap.size, 0, none⟩, n5 := 1025, c5 := 1025 }).length) := info_msg
    obtain ⟨Y10, hY⟩ : ∃ Y, Y = mvs ({ x with pa := zs } : Mm.Ms) { l with A5 := some ⟨v6.heap.size, 0, none⟩, n5 := 1025, c5 := 1025 } := ⟨_, rfl⟩
    rw [← hY] at hq10 hc10 hi10
    clear hY
    clear HMS HRA hmk' HZL HZB Gf Ef Gt Et Gco Eco Gup Eup Gk Ek Gid Eid Gpa Epa hr4 hr5 hr6 hr7 hr8 hr9 hr10 hd9 hd10
    have hF3 := B10
    go_wp2_with (first | ((with_reducible refine wpList_gate ?_); refine wpList_load_on 30 _ rfl w3.heap.size 0 rfl Y4 _ (hq4.out _ hF3.out) Tryd.underlying30 rfl hi4.out (by kernel_rfl) ?_) | (go_at_call 14; fail))
    refine (hc4.out _ hF3.out).mono ?_
    rintro e u4 ⟨rfl, hbu⟩
    have hF4 := Lib.hid (hF3.out.trans (hbu.mono hF3.out.size))
    clear hbu hq4 hc4
    go_wp2_with (first | ((with_reducible refine wpList_gate ?_); refine wpList_load_on 30 _ rfl w4.heap.size 0 rfl Y5 _ (hq5.out _ hF4.out) Tryd.underlying30 rfl hi5.out (by kernel_rfl) ?_) | (go_at_call 14; fail))
    refine (hc5.out _ hF4.out).mono ?_
    rintro e u5 ⟨rfl, hbu⟩
    have hF5 := Lib.hid (hF4.out.trans (hbu.mono hF4.out.size))
    clear hbu hq5 hc5
    go_wp2_with (first | ((with_reducible refine wpList_gate ?_); refine wpList_load_on 30 _ rfl w5.heap.size 0 rfl Y6 _ (hq6.out _ hF5.out) Tryd.underlying30 rfl hi6.out (by kernel_rfl) ?_) | (go_at_call 14; fail))
    refine (hc6.out _ hF5.out).mono ?_
    rintro e u6 ⟨rfl, hbu⟩
    have hF6 := Lib.hid (hF5.out.trans (hbu.mono hF5.out.size))
    clear hbu hq6 hc6
    go_wp2_with (first | ((with_reducible refine wpList_gate ?_); refine wpList_load_on 30 _ rfl w6.heap.size 0 rfl Y7 _ (hq7.out _ hF6.out) Tryd.underlying30 rfl hi7.out (by kernel_rfl) ?_) | (go_at_call 14; fail))
    refine (hc7.out _ hF6.out).mono ?_
    rintro e u7 ⟨rfl, hbu⟩
    have hF7 := Lib.hid (hF6.out.trans (hbu.mono hF6.out.size))
    clear hbu hq7 hc7
    go_wp2_with (first | ((with_reducible refine wpList_gate ?_); refine wpList_load_on 30 _ rfl w7.heap.size 0 rfl Y8 _ (hq8.out _ hF7.out) Tryd.underlying30 rfl hi8.out (by kernel_rfl) ?_) | (go_at_call 14; fail))
    refine (hc8.out _ hF7.out).mono ?_
    rintro e u8 ⟨rfl, hbu⟩
    have hF8 := Lib.hid (hF7.out.trans (hbu.mono hF7.out.size))
    clear hbu hq8 hc8
    go_wp2_with (first | ((with_reducible refine wpList_gate ?_); refine wpList_load_on 30 _ rfl w8.heap.size 0 rfl Y9 _ (hq9.out _ hF8.out) Tryd.underlying30 rfl hi9.out (by kernel_rfl) ?_) | (go_at_call 14; fail))
    refine (hc9.out _ hF8.out).mono ?_
    rintro e u9 ⟨rfl, hbu⟩
    have hF9 := Lib.hid (hF8.out.trans (hbu.mono hF8.out.size))
    clear hbu hq9 hc9
    go_wp2_with (first | ((with_reducible refine wpList_gate ?_); refine wpList_load_on 30 _ rfl w9.heap.size 0 rfl Y10 _ (hq10.out _ hF9.out) Tryd.underlying30 rfl hi10.out (by kernel_rfl) ?_) | (go_at_call 14; fail))
    refine (hc10.out _ hF9.out).mono ?_
    rintro e u10 ⟨rfl, hbu⟩
    have hF10 := Lib.hid (hF9.out.trans (hbu.mono hF9.out.size))
    clear hbu hq10 hc10
    go_wp2
    go_ret
    exact ⟨rfl, hW10.out _ hF10.out⟩
end Go.Proofs.YtpgfnhdaembhmaaDoor
