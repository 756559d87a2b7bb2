import Derived.Test.YtponpgcpmlcdpaaGreatDoorAz
import Derived.Test.YtponpgcpmlcdpaaGreatDoorOo
namespace Go.Proofs.YtponpgcpmlcdpaaGreatDoor
open Go.RowKit Go.Shelf Km Kx Kc Kt
set_option linter.unusedVariables false
set_option linter.unusedSimpArgs false
def PtOk (F : Fz) (p : Pt) : Prop := p.Fine ∧ Within p.fz F ∧ p.x.right = true
structure Inv (F : Fz) (node : Int) (a : Ac) : Prop where
 kn : PtOk F a.kn
 pl : a.ac = 0 ∨ PtOk F a.pl
 pr : Pm.I a.pr
 ac : Pm.I a.ac
 node : a.node = node
 l : 0 ≤ a.c.l ∧ a.c.l ≤ 1048576
 m : 0 ≤ a.c.m ∧ a.c.m ≤ 1048576
theorem Inv.ok {F : Fz} {node : Int} {a : Ac} (h : Inv F node a) : AcOk a F := ⟨h.kn.1, h.kn.2.1, h.l, h.m⟩
theorem Inv.pro {F : Fz} {node : Int} {a : Ac} (h : Inv F node a) {m : Mm.Ms} {p : Pt} (hp : PtOk F p) (hb : Pm.I m.b) : Inv F node (a.replay (rpro m p) p) := by
 unfold Ac.replay
 rw [if_pos (show (rpro m p).k = 5 from rfl)]
 split
 ·exact ⟨hp, h.pl, hb, h.ac, h.node, h.l, h.m⟩
 ·unfold Ac.enter
  split
  ·exact ⟨hp, .inl rfl, hb, I0, h.node, h.l, h.m⟩
  ·exact ⟨hp, .inl rfl, hb, I0, h.node, h.l, h.m⟩
theorem Inv.acc {F : Fz} {node : Int} {a : Ac} (h : Inv F node a) {m : Mm.Ms} {p : Pt} (hp : PtOk F p) (hb : Pm.I m.b) : Inv F node (a.replay (racc m) p) := by
 unfold Ac.replay
 rw [if_neg (show ¬ (racc m).k = 5 by show ¬ (8 : Int) = 5; decide), if_pos (show (racc m).k = 8 from rfl)]
 exact ⟨h.kn, .inr hp, hb, hb, h.node, h.l, h.m⟩
theorem Inv.lw {F : Fz} {node : Int} {a : Ac} (h : Inv F node a) {m : Mm.Ms} {p : Pt} : Inv F node (a.replay (rlw m) p) := by
 unfold Ac.replay
 rw [if_neg (show ¬ (rlw m).k = 5 by show ¬ (11 : Int) = 5; decide), if_neg (show ¬ (rlw m).k = 8 by show ¬ (11 : Int) = 8; decide), if_pos (show (rlw m).k = 11 ∧ (rlw m).co = 1 from ⟨rfl, rfl⟩)]
 unfold Ac.widen
 split <;> exact ⟨h.kn, h.pl, h.pr, h.ac, h.node, h.l, h.m⟩
theorem Inv.ll {F : Fz} {node : Int} {a : Ac} (h : Inv F node a) {m : Mm.Ms} {p : Pt} : Inv F node (a.replay (rll m) p) := by
 unfold Ac.replay
 rw [if_neg (show ¬ (rll m).k = 5 by show ¬ (11 : Int) = 5; decide), if_neg (show ¬ (rll m).k = 8 by show ¬ (11 : Int) = 8; decide), if_neg (show ¬ ((rll m).k = 11 ∧ (rll m).co = 1) from fun q => absurd q.2 (by show ¬ (2 : Int) = 1; decide)), if_pos (show (rll m).k = 11 ∧ (rll m).co = 2 from ⟨rfl, rfl⟩)]
 exact ⟨h.kn, h.pl, h.pr, h.ac, h.node, h.l, h.m⟩
theorem zhh : Pm.same Pm.zero Pm.zero = true := Mm.zp2
theorem noPt_in {F : Fz} : Within noPt.fz F := fun q hq => by
 rcases List.mem_cons.1 hq with rfl | hq
 ·exact .inl rfl
 ·rcases List.mem_cons.1 hq with rfl | hq
  ·exact .inl rfl
  ·cases hq
theorem Inv.spl {F : Fz} {node : Int} {a : Ac} (h : Inv F node a) : a.spl.Fine ∧ Within a.spl.fz F ∧ (if a.ac != 0 then a.spl.x.right else Pm.same a.spl.x Pm.zero) = true := by
 unfold Ac.spl
 by_cases q : a.ac = 0
 ·rw [if_pos q, q]
  exact ⟨zqd, noPt_in, zhh⟩
 ·rw [if_neg q]
  have hp := h.pl.resolve_left q
  refine ⟨hp.1, hp.2.1, ?_⟩
  rw [if_pos (by simpa using q)]
  exact hp.2.2
theorem zg8 {p : Pt} {k f t e b ac n co : Int} {has : Bool} (hk : 1 ≤ k ∧ k ≤ 19) (hf : 0 ≤ f ∧ f ≤ 255) (ht : 0 ≤ t ∧ t ≤ 255) (hc : 0 ≤ co ∧ co ≤ 1000) (hp : (if has then p.x.right else Pm.same p.x Pm.zero) = true) : ({ mk k e b ac n co has p.x with f := f, t := t } : Mm.Ms).right = true :=
 Mm.zby.2 ⟨hk.1, hk.2, hf, ht, (by show (0 : Int) ≤ 65535; decide), hc.1, hc.2, hp, .inl rfl, Nat.zero_le _, Nat.zero_le _⟩
structure AnsOk (F : Fz) (node : Int) (m y : Mm.Ms) (lo : Lo) : Prop where
 ok : MsOk y lo
 fz : Within (mfz y lo) F
 rt : y.right = true
 f : y.f = node
 t : y.t = m.f
 k : (m.k = 4 ∧ (y.k = 9 ∨ y.k = 5 ∨ y.k = 6)) ∨ (m.k = 7 ∧ (y.k = 9 ∨ y.k = 8 ∨ y.k = 6)) ∨ (m.k = 10 ∧ y.k = 11 ∧ y.n = m.n ∧ y.co = m.co ∧ y.e = m.e)
theorem Live.more {s : Jm.St} {n k : Nat} (h : Live s n) (hk : n ≤ k) : Live s k := ⟨h.off, h.burn, Nat.le_trans h.len hk⟩
section
variable {F : Fz} {node : Int} {a : Ac} {s : Jm.St} {m : Mm.Ms} {lo : Lo} {now : Int} {n : Nat}
end
def Pq.pl (x : Pq) : Pm.Pl := ⟨x.e, x.t, x.p, x.s, x.c, x.st, x.si, x.ra, x.up, x.su, x.pen.xs, x.ch.xs⟩
def Mg.ms (x : Mg) : Mm.Ms := ⟨x.k, x.f, x.t, x.e, x.b, x.a, x.n, x.ti, x.up, x.co, x.has, x.pl.pl, x.id.xs, x.se.xs, x.pa.xs⟩
def Mg.lo (x : Mg) : Lo := ⟨x.pl.pen.A, x.pl.pen.n, x.pl.pen.k, x.pl.ch.A, x.pl.ch.n, x.pl.ch.k, x.id.A, x.id.n, x.id.k, x.se.A, x.se.n, x.se.k, x.pa.A, x.pa.n, x.pa.k⟩
theorem Mg.fits {w : World} {B : Nat} {s : Ks.Sl} (h : s.At .i64 w B) : Wm.Fits s.xs := fun v hv => Ks.znj (h.wf v hv)
theorem Mg.by8 {w : World} {B : Nat} {s : Ks.Sl} (h : s.At .u8 w B) : Fm.By s.xs := fun v hv => by
 have := h.wf v hv
 simpa [Lit.wf, IntKind.min, IntKind.max, IntKind.signed, IntKind.bits] using this
theorem Mg.msOk {w : World} {B : Nat} {x : Mg} (h : x.At w B) : MsOk x.ms x.lo :=
 ⟨⟨h.k, h.f, h.t, h.e, h.b, h.a, h.n, h.ti, h.up, h.co, ⟨h.pl.e, h.pl.t, h.pl.p, h.pl.s, h.pl.c, h.pl.st, h.pl.si, h.pl.ra, h.pl.up, h.pl.su, Mg.fits h.pl.pen, Mg.fits h.pl.ch⟩, Mg.fits h.id, Mg.by8 h.se, Mg.by8 h.pa⟩,
  h.pl.pen.len, h.pl.pen.le, h.pl.pen.max, h.pl.ch.len, h.pl.ch.le, h.pl.ch.max, h.id.len, h.id.le, h.id.max, h.se.len, h.se.le, h.se.max, h.pa.len, h.pa.le, h.pa.max⟩
theorem Mg.rd {w : World} {B : Nat} {x : Mg} (h : x.At w B) : ∀ q ∈ mfz x.ms x.lo, Rd w B q.1 q.2 := fun q hq => by
 rcases List.mem_cons.1 hq with rfl | hq
 ·exact h.pl.pen.rd
 ·rcases List.mem_cons.1 hq with rfl | hq
  ·exact h.pl.ch.rd
  ·rcases List.mem_cons.1 hq with rfl | hq
   ·exact h.id.rd
   ·rcases List.mem_cons.1 hq with rfl | hq
    ·exact h.se.rd
    ·rcases List.mem_cons.1 hq with rfl | hq
     ·exact h.pa.rd
     ·cases hq
end Go.Proofs.YtponpgcpmlcdpaaGreatDoor
