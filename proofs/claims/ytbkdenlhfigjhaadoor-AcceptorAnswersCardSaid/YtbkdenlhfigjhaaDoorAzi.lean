/- What becomes of a new acceptor: plain. -/
import Derived.Test.YtbkdenlhfigjhaaDoorAn
import Derived.Test.YtbkdenlhfigjhaaDoorKpm
namespace Go.Proofs.YtbkdenlhfigjhaaDoor
open Go.RowKit Go.Shelf Km Kx Kc Kt
set_option linter.unusedVariables false
set_option linter.unusedSimpArgs false

theorem zq_right {N : Nat} (hN : N ≤ 16) {e st : Int} (he : 0 ≤ e ∧ e ≤ 9223372036854775807) (hs : 0 ≤ st ∧ st ≤ 1099511627776) : ({ zp N with e := e, st := st } : Pm.Pl).right = true := by
 refine Pm.ask_yes ⟨fun k hk => ?_, ⟨?_, fun n hn => ?_⟩, ⟨Nat.zero_le _, fun n hn => by cases hn⟩, fun k hk => by have h : k + 1 < 0 := hk; omega⟩
 ·have h : k = 0 ∨ k = 1 ∨ k = 2 ∨ k = 3 ∨ k = 4 ∨ k = 5 ∨ k = 6 ∨ k = 7 ∨ k = 8 ∨ k = 9 := by omega
  rcases h with rfl | rfl | rfl | rfl | rfl | rfl | rfl | rfl | rfl | rfl <;> first | exact he | exact hs | exact (show (-1 : Int) ≤ -1 ∧ (-1 : Int) ≤ 15 from ⟨by decide, by decide⟩) | exact (show (0 : Int) ≤ 0 ∧ (0 : Int) ≤ 100 from ⟨by decide, by decide⟩) | exact (show (0 : Int) ≤ 0 ∧ (0 : Int) ≤ 1099511627776 from ⟨by decide, by decide⟩) | exact (show (0 : Int) ≤ 0 ∧ (0 : Int) ≤ 65535 from ⟨by decide, by decide⟩)
 ·show (List.replicate N (0 : Int)).length ≤ 16
  rw [List.length_replicate]; exact hN
 ·rw [(List.mem_replicate.1 hn).2]; exact ⟨by decide, by decide⟩

/-- a message of two nodes, an epoch, a ballot and a plan -/
def pm (k f t e b : Int) (p : Pm.Pl) : Mm.Ms := ⟨k, f, t, e, b, 0, 0, 0, 0, 0, true, p, [], [], []⟩
theorem pm_right {k f t e b : Int} {p : Pm.Pl} (hk : 1 ≤ k ∧ k ≤ 19) (hf : 0 ≤ f ∧ f ≤ 255) (ht : 0 ≤ t ∧ t ≤ 255) (hp : p.right = true) : (pm k f t e b p).right = true :=
 Mm.right_iff.2 ⟨hk.1, hk.2, hf, ht, (by show (0 : Int) ≤ 65535; decide), (by show (0 : Int) ≤ 0; decide), (by show (0 : Int) ≤ 1000; decide), hp, .inl rfl, Nat.zero_le _, Nat.zero_le _⟩

/-- up, without a fuse, and not too long -/
structure Live (s : Jm.St) (n : Nat) : Prop where
 off : s.off = false
 burn : s.burn = -1
 len : Jm.size s ≤ n
theorem live_new : Live Jm.new 0 := ⟨rfl, rfl, Nat.le_refl _⟩
theorem keep_live {s : Jm.St} {n : Nat} (h : Live s n) {x : Mm.Ms} (hx : x.right = true) : (keep s x).2 = true ∧ Live (keep s x).1 (n + 8200) := by
 have hbl := Mm.body_len hx
 have e1 : Jm.eff s = (s, 0) := Jm.eff_none h.off (by rw [h.burn]; decide)
 have a1 : Jm.append s x.k x.body = ({ s with rest := s.rest ++ Fm.frm x.k x.body }, 0) := by rw [Jm.append_ok (by omega) (by rw [e1]), e1]
 have e2 : Jm.eff ({ s with rest := s.rest ++ Fm.frm x.k x.body } : Jm.St) = ({ s with rest := s.rest ++ Fm.frm x.k x.body }, 0) := Jm.eff_none h.off (by show s.burn < 0; rw [h.burn]; decide)
 have b1 : Jm.sync ({ s with rest := s.rest ++ Fm.frm x.k x.body } : Jm.St) = ({ s with kept := s.kept ++ (s.rest ++ Fm.frm x.k x.body), rest := [] }, 0) := by rw [Jm.sync_ok (by rw [e2]), e2]
 have hk : keep s x = ({ s with kept := s.kept ++ (s.rest ++ Fm.frm x.k x.body), rest := [] }, true) := by
  unfold keep
  rw [if_pos hx, a1]
  dsimp only
  rw [if_pos rfl, b1]
  rfl
 rw [hk]
 refine ⟨rfl, h.off, h.burn, ?_⟩
 have := h.len
 unfold Jm.size at this ⊢
 simp only [List.length_append, Fm.frm_len, List.length_nil]
 omega

/-- the acceptor behind its first promise -/
def mid (c : Cf) (node : Int) (b : Int) (p : Pt) : Ac := ⟨c, node, 1, p, b, 0, noPt, 0, 0, false, -1, 0, 0, 0, 0⟩
theorem first_handle {c : Cf} {node : Int} {p : Pt} {f t b : Int} {q : Pm.Pl} {lo : Lo} {now : Int} {s : Jm.St} {n : Nat} (hs : Live s n) (hq : q.right = true) (he : q.e = 0) (hf : 0 ≤ f ∧ f ≤ 255) (ht : 0 ≤ t ∧ t ≤ 255) (hb : 1 ≤ b) (hn : 0 ≤ now ∧ now ≤ 1099511627776) :
  ∃ s1, handle (newA c node p) s (pm 4 f t 1 b q) lo now = (mid c node b (mpt (pm 4 f t 1 b q) lo), s1, some (promised (mid c node b (mpt (pm 4 f t 1 b q) lo)) (pm 4 f t 1 b q), loOf noPt)) ∧ Live s1 (n + 8200) := by
 have hr := pm_right (k := 4) (e := 1) (b := b) (by decide) hf ht hq
 have hx : (rpro (pm 4 f t 1 b q) (mpt (pm 4 f t 1 b q) lo)).right = true := Mm.right_iff.2 ⟨by show (1 : Int) ≤ 5; decide, by show (5 : Int) ≤ 19; decide, ⟨by show (0 : Int) ≤ 0; decide, by show (0 : Int) ≤ 255; decide⟩, ⟨by show (0 : Int) ≤ 0; decide, by show (0 : Int) ≤ 255; decide⟩, by show (0 : Int) ≤ 65535; decide, by show (0 : Int) ≤ 0; decide, by show (0 : Int) ≤ 1000; decide, hq, .inl rfl, Nat.zero_le _, Nat.zero_le _⟩
 obtain ⟨k1, k2⟩ := keep_live hs hx
 refine ⟨_, ?_, k2⟩
 have hrep : (newA c node p).replay (rpro (pm 4 f t 1 b q) (mpt (pm 4 f t 1 b q) lo)) (mpt (pm 4 f t 1 b q) lo) = mid c node b (mpt (pm 4 f t 1 b q) lo) := by
  unfold Ac.replay
  rw [if_pos (show (rpro (pm 4 f t 1 b q) (mpt (pm 4 f t 1 b q) lo)).k = 5 from rfl)]
  have h1 : (if (rpro (pm 4 f t 1 b q) (mpt (pm 4 f t 1 b q) lo)).e = (newA c node p).e then newA c node p else (newA c node p).enter (rpro (pm 4 f t 1 b q) (mpt (pm 4 f t 1 b q) lo)).e) = (newA c node p).enter 1 := if_neg (by show ¬ (1 : Int) = 0; decide)
  have h2 : (newA c node p).enter 1 = { newA c node p with e := 1, ac := 0, pl := noPt, lo := 0, hi := 0 } := if_pos (by show (0 : Int) < 1; decide)
  rw [h1, h2]
  rfl
 have hp : promise (newA c node p) s (pm 4 f t 1 b q) (mpt (pm 4 f t 1 b q) lo) = (mid c node b (mpt (pm 4 f t 1 b q) lo), (keep s (rpro (pm 4 f t 1 b q) (mpt (pm 4 f t 1 b q) lo))).1, some (promised (mid c node b (mpt (pm 4 f t 1 b q) lo)) (pm 4 f t 1 b q), loOf noPt)) := by
  unfold promise
  rw [if_pos k1, hrep]
  rfl
 unfold handle
 rw [if_pos ⟨hr, hn.1, hn.2, hs.off⟩, if_pos (show (pm 4 f t 1 b q).k = 4 from rfl), if_pos ⟨by show (1 : Int) ≤ 1; decide, hb, rfl, he⟩]
 unfold prepare
 rw [if_neg (show ¬ (pm 4 f t 1 b q).e < (newA c node p).e from (by decide : ¬ (1 : Int) < 0)), if_pos (show (newA c node p).e < (pm 4 f t 1 b q).e from (by decide : (0 : Int) < 1)), if_neg (fun q => q.1 rfl), hp]
theorem again_handle {c : Cf} {node : Int} {p : Pt} {f t b : Int} {q : Pm.Pl} {lo : Lo} {now : Int} {s : Jm.St} {n : Nat} (hs : Live s n) (hq : q.right = true) (he : q.e = 0) (hf : 0 ≤ f ∧ f ≤ 255) (ht : 0 ≤ t ∧ t ≤ 255) (hb : 1 ≤ b) (hn : 0 ≤ now ∧ now ≤ 1099511627776) :
  handle (mid c node b p) s (pm 4 f t 1 b q) lo now = (mid c node b p, s, some (nacked (mid c node b p) (pm 4 f t 1 b q), Lo.zero)) := by
 have hr := pm_right (k := 4) (e := 1) (b := b) (by decide) hf ht hq
 unfold handle
 rw [if_pos ⟨hr, hn.1, hn.2, hs.off⟩, if_pos (show (pm 4 f t 1 b q).k = 4 from rfl), if_pos ⟨by show (1 : Int) ≤ 1; decide, hb, rfl, he⟩]
 unfold prepare
 rw [if_neg (show ¬ (pm 4 f t 1 b q).e < (mid c node b p).e from (by decide : ¬ (1 : Int) < 1)), if_neg (show ¬ (mid c node b p).e < (pm 4 f t 1 b q).e from (by decide : ¬ (1 : Int) < 1)), if_pos (show (pm 4 f t 1 b q).b ≤ (mid c node b p).pr from Int.le_refl b)]
end Go.Proofs.YtbkdenlhfigjhaaDoor

/- What holds of an acceptor between calls, and of what it answers: plain. Messages that come as arguments. -/
namespace Go.Proofs.YtbkdenlhfigjhaaDoor
open Go.RowKit Go.Shelf Km Kx Kc Kt
set_option linter.unusedVariables false
set_option linter.unusedSimpArgs false

def PtOk (F : Fz) (p : Pt) : Prop := p.Fine ∧ Within p.fz F ∧ p.x.right = true
structure Inv (F : Fz) (node : Int) (a : Ac) : Prop where
 kn : PtOk F a.kn
 pl : a.ac = 0 ∨ PtOk F a.pl
 pr : Pm.I a.pr
 ac : Pm.I a.ac
 node : a.node = node
 l : 0 ≤ a.c.l ∧ a.c.l ≤ 1048576
 m : 0 ≤ a.c.m ∧ a.c.m ≤ 1048576
theorem Inv.ok {F : Fz} {node : Int} {a : Ac} (h : Inv F node a) : AcOk a F := ⟨h.kn.1, h.kn.2.1, h.l, h.m⟩
theorem Inv.pro {F : Fz} {node : Int} {a : Ac} (h : Inv F node a) {m : Mm.Ms} {p : Pt} (hp : PtOk F p) (hb : Pm.I m.b) : Inv F node (a.replay (rpro m p) p) := by
 unfold Ac.replay
 rw [if_pos (show (rpro m p).k = 5 from rfl)]
 split
 ·exact ⟨hp, h.pl, hb, h.ac, h.node, h.l, h.m⟩
 ·unfold Ac.enter
  split
  ·exact ⟨hp, .inl rfl, hb, I0, h.node, h.l, h.m⟩
  ·exact ⟨hp, .inl rfl, hb, I0, h.node, h.l, h.m⟩
theorem Inv.acc {F : Fz} {node : Int} {a : Ac} (h : Inv F node a) {m : Mm.Ms} {p : Pt} (hp : PtOk F p) (hb : Pm.I m.b) : Inv F node (a.replay (racc m) p) := by
 unfold Ac.replay
 rw [if_neg (show ¬ (racc m).k = 5 by show ¬ (8 : Int) = 5; decide), if_pos (show (racc m).k = 8 from rfl)]
 exact ⟨h.kn, .inr hp, hb, hb, h.node, h.l, h.m⟩
theorem Inv.lw {F : Fz} {node : Int} {a : Ac} (h : Inv F node a) {m : Mm.Ms} {p : Pt} : Inv F node (a.replay (rlw m) p) := by
 unfold Ac.replay
 rw [if_neg (show ¬ (rlw m).k = 5 by show ¬ (11 : Int) = 5; decide), if_neg (show ¬ (rlw m).k = 8 by show ¬ (11 : Int) = 8; decide), if_pos (show (rlw m).k = 11 ∧ (rlw m).co = 1 from ⟨rfl, rfl⟩)]
 unfold Ac.widen
 split <;> exact ⟨h.kn, h.pl, h.pr, h.ac, h.node, h.l, h.m⟩
theorem Inv.ll {F : Fz} {node : Int} {a : Ac} (h : Inv F node a) {m : Mm.Ms} {p : Pt} : Inv F node (a.replay (rll m) p) := by
 unfold Ac.replay
 rw [if_neg (show ¬ (rll m).k = 5 by show ¬ (11 : Int) = 5; decide), if_neg (show ¬ (rll m).k = 8 by show ¬ (11 : Int) = 8; decide), if_neg (show ¬ ((rll m).k = 11 ∧ (rll m).co = 1) from fun q => absurd q.2 (by show ¬ (2 : Int) = 1; decide)), if_pos (show (rll m).k = 11 ∧ (rll m).co = 2 from ⟨rfl, rfl⟩)]
 exact ⟨h.kn, h.pl, h.pr, h.ac, h.node, h.l, h.m⟩
theorem same_zero : Pm.same Pm.zero Pm.zero = true := Mm.psame_yes
theorem noPt_in {F : Fz} : Within noPt.fz F := fun q hq => by
 rcases List.mem_cons.1 hq with rfl | hq
 ·exact .inl rfl
 ·rcases List.mem_cons.1 hq with rfl | hq
  ·exact .inl rfl
  ·cases hq
theorem Inv.spl {F : Fz} {node : Int} {a : Ac} (h : Inv F node a) : a.spl.Fine ∧ Within a.spl.fz F ∧ (if a.ac != 0 then a.spl.x.right else Pm.same a.spl.x Pm.zero) = true := by
 unfold Ac.spl
 by_cases q : a.ac = 0
 ·rw [if_pos q, q]
  exact ⟨noPt_fine, noPt_in, same_zero⟩
 ·rw [if_neg q]
  have hp := h.pl.resolve_left q
  refine ⟨hp.1, hp.2.1, ?_⟩
  rw [if_pos (by simpa using q)]
  exact hp.2.2
/-- a message of few numbers, and a plan or none, is right -/
theorem mk_right {p : Pt} {k f t e b ac n co : Int} {has : Bool} (hk : 1 ≤ k ∧ k ≤ 19) (hf : 0 ≤ f ∧ f ≤ 255) (ht : 0 ≤ t ∧ t ≤ 255) (hc : 0 ≤ co ∧ co ≤ 1000) (hp : (if has then p.x.right else Pm.same p.x Pm.zero) = true) : ({ mk k e b ac n co has p.x with f := f, t := t } : Mm.Ms).right = true :=
 Mm.right_iff.2 ⟨hk.1, hk.2, hf, ht, (by show (0 : Int) ≤ 65535; decide), hc.1, hc.2, hp, .inl rfl, Nat.zero_le _, Nat.zero_le _⟩
theorem byte_I {x : Int} (h : 0 ≤ x ∧ x ≤ 255) : Pm.I x := ⟨by have := h.1; omega, by have := h.2; omega⟩
/-- what is told of an answer -/
structure AnsOk (F : Fz) (node : Int) (m y : Mm.Ms) (lo : Lo) : Prop where
 ok : MsOk y lo
 fz : Within (mfz y lo) F
 rt : y.right = true
 f : y.f = node
 t : y.t = m.f
 k : (m.k = 4 ∧ (y.k = 9 ∨ y.k = 5 ∨ y.k = 6)) ∨ (m.k = 7 ∧ (y.k = 9 ∨ y.k = 8 ∨ y.k = 6)) ∨ (m.k = 10 ∧ y.k = 11 ∧ y.n = m.n ∧ y.co = m.co ∧ y.e = m.e)
theorem told_mk {F : Fz} {node : Int} {a : Ac} {m : Mm.Ms} {p : Pt} {k e b ac n co : Int} {has : Bool} (hn : a.node = node) (hnb : 0 ≤ node ∧ node ≤ 255) (hm : 0 ≤ m.f ∧ m.f ≤ 255) (hpf : p.Fine) (hpi : Within p.fz F) (hp : (if has then p.x.right else Pm.same p.x Pm.zero) = true) (hk : 1 ≤ k ∧ k ≤ 19) (he : Pm.I e) (hb : Pm.I b) (ha : Pm.I ac) (hnn : Pm.I n) (hc : 0 ≤ co ∧ co ≤ 1000)
  (hkk : (m.k = 4 ∧ (k = 9 ∨ k = 5 ∨ k = 6)) ∨ (m.k = 7 ∧ (k = 9 ∨ k = 8 ∨ k = 6)) ∨ (m.k = 10 ∧ k = 11 ∧ n = m.n ∧ co = m.co ∧ e = m.e)) : AnsOk F node m (reply a m (mk k e b ac n co has p.x)) (loOf p) := by
 have h1 := mk_ok hpf (k := k) (e := e) (b := b) (ac := ac) (n := n) (co := co) (has := has) ⟨by have := hk.1; omega, by have := hk.2; omega⟩ he hb ha hnn ⟨by have := hc.1; omega, by have := hc.2; omega⟩
 have h2 := h1.ok
 exact ⟨⟨⟨h2.k, by rw [show (reply a m (mk k e b ac n co has p.x)).f = a.node from rfl, hn]; exact byte_I hnb, byte_I hm, h2.e, h2.b, h2.a, h2.n, h2.ti, h2.up, h2.co, h2.plan, h2.id, h2.se, h2.pa⟩, h1.l1, h1.c1, h1.m1, h1.l2, h1.c2, h1.m2, h1.l3, h1.c3, h1.m3, h1.l4, h1.c4, h1.m4, h1.l5, h1.c5, h1.m5⟩,
  mk_in hpi (k := k) (e := e) (b := b) (ac := ac) (n := n) (co := co) (has := has), mk_right (f := a.node) (t := m.f) hk (by rw [hn]; exact hnb) hm hc hp, hn, rfl, hkk⟩
def ResOk (F : Fz) (node : Int) (m : Mm.Ms) (n : Nat) (R : Res) : Prop := Inv F node R.1 ∧ Live R.2.1 n ∧ ∀ q, R.2.2 = some q → AnsOk F node m q.1 q.2
theorem Live.more {s : Jm.St} {n k : Nat} (h : Live s n) (hk : n ≤ k) : Live s k := ⟨h.off, h.burn, Nat.le_trans h.len hk⟩
theorem resOk_none {F : Fz} {node : Int} {m : Mm.Ms} {n : Nat} {a : Ac} {s : Jm.St} (h : Inv F node a) (hs : Live s n) : ResOk F node m (n + 8200) (a, s, none) := ⟨h, hs.more (Nat.le_add_right ..), fun q e => by cases e⟩
theorem resOk_some {F : Fz} {node : Int} {m : Mm.Ms} {n : Nat} {a : Ac} {s : Jm.St} {y : Mm.Ms} {lo : Lo} (h : Inv F node a) (hs : Live s n) (ht : AnsOk F node m y lo) : ResOk F node m n (a, s, some (y, lo)) := ⟨h, hs, fun q e => by cases e; exact ht⟩
section
variable {F : Fz} {node : Int} {a : Ac} {s : Jm.St} {m : Mm.Ms} {lo : Lo} {now : Int} {n : Nat}
theorem decided_told (h : Inv F node a) (hnb : 0 ≤ node ∧ node ≤ 255) (hf : 0 ≤ m.f ∧ m.f ≤ 255) (hk : m.k = 4 ∨ m.k = 7) : AnsOk F node m (decided a m) (loOf a.kn) :=
 told_mk h.node hnb hf h.kn.1 h.kn.2.1 h.kn.2.2 ⟨by decide, by decide⟩ h.kn.1.ok.e I0 I0 I0 ⟨by decide, by decide⟩ (hk.elim (fun q => .inl ⟨q, .inl rfl⟩) (fun q => .inr (.inl ⟨q, .inl rfl⟩)))
theorem nacked_told (h : Inv F node a) (hm : MsOk m lo) (hnb : 0 ≤ node ∧ node ≤ 255) (hf : 0 ≤ m.f ∧ m.f ≤ 255) (hk : m.k = 4 ∨ m.k = 7) : AnsOk F node m (nacked a m) Lo.zero :=
 told_mk (p := noPt) h.node hnb hf noPt_fine noPt_in same_zero ⟨by decide, by decide⟩ hm.ok.e h.pr I0 I0 ⟨by decide, by decide⟩ (hk.elim (fun q => .inl ⟨q, .inr (.inr rfl)⟩) (fun q => .inr (.inl ⟨q, .inr (.inr rfl)⟩)))
theorem leased_told (h : Inv F node a) (hm : MsOk m lo) (hnb : 0 ≤ node ∧ node ≤ 255) (hf : 0 ≤ m.f ∧ m.f ≤ 255) (hk : m.k = 10) {co : Int} (hc : m.co = co) (hcc : 0 ≤ co ∧ co ≤ 1000) : AnsOk F node m (leased a m co) Lo.zero :=
 told_mk (p := noPt) h.node hnb hf noPt_fine noPt_in same_zero ⟨by decide, by decide⟩ hm.ok.e I0 I0 hm.ok.n hcc (.inr (.inr ⟨hk, rfl, rfl, hc.symm, rfl⟩))
theorem promise_ok (h : Inv F node a) (hs : Live s n) (hm : MsOk m lo) (hnb : 0 ≤ node ∧ node ≤ 255) (hf : 0 ≤ m.f ∧ m.f ≤ 255) (hk : m.k = 4) {p : Pt} (hp : PtOk F p) : ResOk F node m (n + 8200) (promise a s m p) := by
 have hx : (rpro m p).right = true := mk_right (f := 0) (t := 0) (has := true) ⟨by decide, by decide⟩ ⟨by decide, by decide⟩ ⟨by decide, by decide⟩ ⟨by decide, by decide⟩ hp.2.2
 obtain ⟨k1, k2⟩ := keep_live hs hx
 unfold promise
 rw [if_pos k1]
 have hi := h.pro (m := m) hp hm.ok.b
 have hsp := hi.spl
 refine resOk_some hi k2 ?_
 exact told_mk hi.node hnb hf hsp.1 hsp.2.1 hsp.2.2 ⟨by decide, by decide⟩ hm.ok.e hi.pr hi.ac I0 ⟨by decide, by decide⟩ (.inl ⟨hk, .inr (.inl rfl)⟩)
theorem handle_ok (h : Inv F node a) (hs : Live s n) (hm : MsOk m lo) (hz : Within (mfz m lo) F) (hnb : 0 ≤ node ∧ node ≤ 255) : ResOk F node m (n + 8200) (handle a s m lo now) := by
 by_cases hnf : ¬ Fit s m now
 ·rw [handle_not hnf]; exact resOk_none h hs
 have hfit : Fit s m now := Classical.byContradiction hnf
 have hr := Mm.right_iff.1 hfit.1
 have hf : 0 ≤ m.f ∧ m.f ≤ 255 := hr.2.2.1
 have hpr : m.pright = true := hr.2.2.2.2.2.2.2.1
 have hpt : ∀ e, Prp m e → PtOk F (mpt m lo) := fun e q => ⟨hm.pt, (fun z hz' => by
  rcases List.mem_cons.1 hz' with rfl | hz'
  ·exact hz _ (List.mem_cons_self ..)
  ·rcases List.mem_cons.1 hz' with rfl | hz'
   ·exact hz _ (List.mem_cons_of_mem _ (List.mem_cons_self ..))
   ·cases hz'), by
  have h8 := hpr
  unfold Mm.Ms.pright at h8
  rwa [q.2.2.1] at h8⟩
 unfold handle
 rw [if_pos hfit]
 split
 ·rename_i hk
  split
  ·rename_i hp
   unfold prepare
   split
   ·exact resOk_some h (hs.more (Nat.le_add_right ..)) (decided_told h hnb hf (.inl hk))
   ·split
    ·split
     ·exact resOk_none ⟨h.kn, h.pl, h.pr, h.ac, h.node, h.l, h.m⟩ hs
     ·exact promise_ok h hs hm hnb hf hk (hpt _ hp)
    ·split
     ·exact resOk_some h (hs.more (Nat.le_add_right ..)) (nacked_told h hm hnb hf (.inl hk))
     ·exact promise_ok h hs hm hnb hf hk h.kn
  ·exact resOk_none h hs
 ·split
  ·rename_i hk
   split
   ·rename_i hp
    have hx : (racc m).right = true := mk_right (p := mpt m lo) (f := 0) (t := 0) (has := true) ⟨by decide, by decide⟩ ⟨by decide, by decide⟩ ⟨by decide, by decide⟩ ⟨by decide, by decide⟩ (hpt _ hp).2.2
    obtain ⟨k1, k2⟩ := keep_live hs hx
    unfold accept
    split
    ·exact resOk_none h hs
    ·split
     ·exact resOk_some h (hs.more (Nat.le_add_right ..)) (decided_told h hnb hf (.inr hk))
     ·split
      ·exact resOk_some h (hs.more (Nat.le_add_right ..)) (nacked_told h hm hnb hf (.inr hk))
      ·split
       ·exact resOk_none h hs
       ·try rw [if_pos k1]
        have hi := h.acc (m := m) (hpt _ hp) hm.ok.b
        exact resOk_some hi k2 (told_mk (p := noPt) hi.node hnb hf noPt_fine noPt_in same_zero ⟨by decide, by decide⟩ hm.ok.e hm.ok.b I0 I0 ⟨by decide, by decide⟩ (.inr (.inl ⟨hk, .inr (.inl rfl)⟩)))
   ·exact resOk_none h hs
  ·split
   ·rename_i hk
    split
    ·rename_i hc
     have hx : (rlw m).right = true := mk_right (p := noPt) (f := m.f) (t := 0) (has := false) ⟨by decide, by decide⟩ hf ⟨by decide, by decide⟩ ⟨by decide, by decide⟩ same_zero
     obtain ⟨k1, k2⟩ := keep_live hs hx
     unfold grantW
     split
     ·exact resOk_none h hs
     ·split
      ·have hi : Inv F node { a with wr := now } := ⟨h.kn, h.pl, h.pr, h.ac, h.node, h.l, h.m⟩
       exact resOk_some hi (hs.more (Nat.le_add_right ..)) (leased_told (a := a) h hm hnb hf hk hc ⟨by decide, by decide⟩)
      ·try rw [if_pos k1]
       have hi := h.lw (m := m) (p := noPt)
       exact resOk_some ⟨hi.kn, hi.pl, hi.pr, hi.ac, hi.node, hi.l, hi.m⟩ k2 (leased_told hi hm hnb hf hk hc ⟨by decide, by decide⟩)
    ·split
     ·rename_i hc
      have hx : (rll m).right = true := mk_right (p := noPt) (f := m.f) (t := 0) (has := false) ⟨by decide, by decide⟩ hf ⟨by decide, by decide⟩ ⟨by decide, by decide⟩ same_zero
      obtain ⟨k1, k2⟩ := keep_live hs hx
      unfold grantL
      split
      ·exact resOk_some ⟨h.kn, h.pl, h.pr, h.ac, h.node, h.l, h.m⟩ (hs.more (Nat.le_add_right ..)) (leased_told (a := a) h hm hnb hf hk hc ⟨by decide, by decide⟩)
      ·split
       ·exact resOk_none h hs
       ·try rw [if_pos k1]
        have hi := h.ll (m := m) (p := noPt)
        exact resOk_some ⟨hi.kn, hi.pl, hi.pr, hi.ac, hi.node, hi.l, hi.m⟩ k2 (leased_told hi hm hnb hf hk hc ⟨by decide, by decide⟩)
     ·exact resOk_none h hs
   ·exact resOk_none h hs
end

/-! messages that come as arguments -/
def Pq.pl (x : Pq) : Pm.Pl := ⟨x.e, x.t, x.p, x.s, x.c, x.st, x.si, x.ra, x.up, x.su, x.pen.xs, x.ch.xs⟩
def Mg.ms (x : Mg) : Mm.Ms := ⟨x.k, x.f, x.t, x.e, x.b, x.a, x.n, x.ti, x.up, x.co, x.has, x.pl.pl, x.id.xs, x.se.xs, x.pa.xs⟩
def Mg.lo (x : Mg) : Lo := ⟨x.pl.pen.A, x.pl.pen.n, x.pl.pen.k, x.pl.ch.A, x.pl.ch.n, x.pl.ch.k, x.id.A, x.id.n, x.id.k, x.se.A, x.se.n, x.se.k, x.pa.A, x.pa.n, x.pa.k⟩
theorem Mg.fits {w : World} {B : Nat} {s : Ks.Sl} (h : s.At .i64 w B) : Wm.Fits s.xs := fun v hv => Ks.i64_of (h.wf v hv)
theorem Mg.by8 {w : World} {B : Nat} {s : Ks.Sl} (h : s.At .u8 w B) : Fm.By s.xs := fun v hv => by
 have := h.wf v hv
 simpa [Lit.wf, IntKind.min, IntKind.max, IntKind.signed, IntKind.bits] using this
theorem Mg.msOk {w : World} {B : Nat} {x : Mg} (h : x.At w B) : MsOk x.ms x.lo :=
 ⟨⟨h.k, h.f, h.t, h.e, h.b, h.a, h.n, h.ti, h.up, h.co, ⟨h.pl.e, h.pl.t, h.pl.p, h.pl.s, h.pl.c, h.pl.st, h.pl.si, h.pl.ra, h.pl.up, h.pl.su, Mg.fits h.pl.pen, Mg.fits h.pl.ch⟩, Mg.fits h.id, Mg.by8 h.se, Mg.by8 h.pa⟩,
  h.pl.pen.len, h.pl.pen.le, h.pl.pen.max, h.pl.ch.len, h.pl.ch.le, h.pl.ch.max, h.id.len, h.id.le, h.id.max, h.se.len, h.se.le, h.se.max, h.pa.len, h.pa.le, h.pa.max⟩
theorem Mg.rd {w : World} {B : Nat} {x : Mg} (h : x.At w B) : ∀ q ∈ mfz x.ms x.lo, Rd w B q.1 q.2 := fun q hq => by
 rcases List.mem_cons.1 hq with rfl | hq
 ·exact h.pl.pen.rd
 ·rcases List.mem_cons.1 hq with rfl | hq
  ·exact h.pl.ch.rd
  ·rcases List.mem_cons.1 hq with rfl | hq
   ·exact h.id.rd
   ·rcases List.mem_cons.1 hq with rfl | hq
    ·exact h.se.rd
    ·rcases List.mem_cons.1 hq with rfl | hq
     ·exact h.pa.rd
     ·cases hq
/-- what the messages of a list of happenings hold -/
def ofz : List Op → Fz
 | [] => []
 | o :: l => mfz o.m.ms o.m.lo ++ ofz l
theorem ofz_mem {l : List Op} {o : Op} (h : o ∈ l) : ∀ q ∈ mfz o.m.ms o.m.lo, q ∈ ofz l := by
 induction l with
 | nil => cases h
 | cons x l ih =>
  intro q hq
  rcases List.mem_cons.1 h with rfl | h
  ·exact List.mem_append.2 (.inl hq)
  ·exact List.mem_append.2 (.inr (ih h q hq))
theorem ofz_rd {w : World} {B : Nat} : ∀ {l : List Op}, (∀ o ∈ l, o.At w B) → ∀ q ∈ ofz l, Rd w B q.1 q.2
 | [], _ => fun q hq => by cases hq
 | o :: l, h => fun q hq => by
  rcases List.mem_append.1 hq with hq | hq
  ·exact Mg.rd (h o (List.mem_cons_self ..)).m q hq
  ·exact ofz_rd (fun x hx => h x (List.mem_cons_of_mem _ hx)) q hq
theorem stayAllOld {w0 w : World} {l : List (Nat × List Value)} {r : List Rw} {F : Fz} (h : Bxs w0 w l r F) : ∀ {G : Fz}, (∀ q ∈ G, Rd w0 w0.heap.size q.1 q.2) → Bxs w0 w l r (G ++ F)
 | [], _ => h
 | q :: G, hG => (stayAllOld h (G := G) (fun x hx => hG x (List.mem_cons_of_mem _ hx))).stayOld (hG q (List.mem_cons_self ..))
theorem ops_of {H : Type} {enc : TypeId × Value → H} {w : World} {base fuel : Nat} {held : Bool} {a : Option Addr} {len cap : Nat} {x : DataW H × List MemPlace} (h : DataW.trod enc Tryd.prog w base (fun _ => true) held fuel 25 (Value.slice a len cap).cells.toList = some x) : ∃ l : List Op, l.length = len ∧ len ≤ cap ∧ cap ≤ maxLen ∧ (∀ p ∈ l, p.At w w.heap.size) ∧ Rd w w.heap.size a (cat Op.cells l) := Op_rows h
end Go.Proofs.YtbkdenlhfigjhaaDoor
