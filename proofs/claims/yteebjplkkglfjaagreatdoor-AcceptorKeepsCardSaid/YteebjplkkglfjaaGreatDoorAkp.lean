import Derived.Test.YteebjplkkglfjaaGreatDoorAvm
namespace Go.Proofs.YteebjplkkglfjaaGreatDoor
open Go.RowKit Go.Shelf Km Kx Kc Kt
set_option linter.unusedVariables false
set_option linter.unusedSimpArgs false
section
variable {z:Pm.Pl} {node:Int} {c1:Cf} {n:Nat} {F0 F F':Fz} {rs rs':List Mm.Ms} {a a':Ac} {s:Jm.St} {m:Mm.Ms} {now:Int} {R:Res}
theorem rp_pro {C:Co} {m:Mm.Ms} {p:Pt}:(C.rp (rpro m p)) = { (if m.e = C.e then C else C.enter m.e) with kn:=p.x,pr:=m.b }:=if_pos rfl
def KAns (z:Pm.Pl) (E B:Int) (rs':List Mm.Ms) (m:Mm.Ms) (now cs:Int) (y:Mm.Ms):Prop :=
 (y.k ≠ 5 ∧ y.k ≠ 8 ∧ KInv E B (KK z rs')) ∨
 (y.k = 5 ∧ (E < y.e ∨ (y.e = E ∧ B < y.b)) ∧ (y.has = true → y.a < y.b ∧ y.plan.e = y.e) ∧ KInv y.e y.b (KK z rs')) ∨
 (y.k = 8 ∧ (E < y.e ∨ (y.e = E ∧ B ≤ y.b)) ∧ m.plan.st ≤ now + cs ∧ (0 ≤ now ∧ now ≤ 1099511627776) ∧ KInv y.e y.b (KK z rs'))
theorem keeps_step {E B:Int} (h:KInv E B (KK z rs)) (k:Stp z F a s rs m now R rs'):(R.2.2 = none → KInv E B (KK z rs')) ∧ ∀ y lo,R.2.2 = some (y,lo) → KAns z E B rs' m now a.c.s y:=by
 cases k with
 | quiet i t j => exact ⟨fun _ => h,fun _ _ e => by cases e⟩
 | told y lo hk j => exact ⟨fun _ => h,fun y' lo' e => by cases e; exact .inl ⟨by rcases hk with q | q <;> rw [q] <;> decide,by rcases hk with q | q <;> rw [q] <;> decide,h⟩⟩
 | wr hf hm hg j => exact ⟨fun _ => h,fun y' lo' e => by cases e; exact .inl ⟨(by show (11:Int) ≠ 5; decide),(by show (11:Int) ≠ 8; decide),h⟩⟩
 | ld hf hl j => exact ⟨fun _ => h,fun y' lo' e => by cases e; exact .inl ⟨(by show (11:Int) ≠ 5; decide),(by show (11:Int) ≠ 8; decide),h⟩⟩
 | lost s' j hz => exact ⟨fun _ => h,fun _ _ e => by cases e⟩
 | lw s' hf hm j0 nx j hz =>
   have h2:KInv E B (KK z (rs ++ [rlw m])):=by rw [zek]; exact h.next nx
   exact ⟨fun _ => h2,fun y' lo' e => by cases e; exact .inl ⟨(by show (11:Int) ≠ 5; decide),(by show (11:Int) ≠ 8; decide),h2⟩⟩
 | ll s' hf hn j0 nx j hz =>
   have h2:KInv E B (KK z (rs ++ [rll m])):=by rw [zek]; exact h.next nx
   exact ⟨fun _ => h2,fun y' lo' e => by cases e; exact .inl ⟨(by show (11:Int) ≠ 5; decide),(by show (11:Int) ≠ 8; decide),h2⟩⟩
 | acc p s' hf hp hn j0 nx j hz =>
   have h2:KInv E B (KK z (rs ++ [racc m])):=by rw [zek]; exact h.next nx
   refine ⟨fun q => (by cases q),fun y' lo' e => ?_⟩
   cases e
   have e1:m.e = (KK z rs).e:=by rw [←j0.co]; exact hn.1
   have e2:m.b = (KK z rs).pr:=by rw [←j0.co]; exact hn.2.1
   refine .inr (.inr ⟨rfl,?_,?_,⟨hf.2.1,hf.2.2.1⟩,?_⟩)
   ·show E < m.e ∨ (m.e = E ∧ B ≤ m.b)
    rw [e1,e2]
    rcases h.lex with q | q
    ·exact .inl q
    ·exact .inr ⟨q.1.symm,q.2⟩
   ·have:=hn.2.2; omega
   ·show KInv m.e m.b _
    refine ⟨.inr ?_,h2.ac⟩
    rw [zek,rp_8 rfl]
    exact ⟨e1,Int.le_refl _⟩
 | pro p s' lo hf hp hb hn j0 nx j hz =>
   have h2:KInv E B (KK z (rs ++ [rpro m p])):=by rw [zek]; exact h.next nx
   refine ⟨fun q => (by cases q),fun y' lo' e => ?_⟩
   cases e
   have hC:(a.replay (rpro m p) p).co = { (if m.e = (KK z rs).e then KK z rs else (KK z rs).enter m.e) with kn:=p.x,pr:=m.b }:=by rw [j.co,zek]; exact rp_pro
   have hpr:(a.replay (rpro m p) p).pr = m.b:=by have:=congrArg Co.pr hC; exact this
   have hac:(a.replay (rpro m p) p).ac = (if m.e = (KK z rs).e then KK z rs else (KK z rs).enter m.e).ac:=by have:=congrArg Co.ac hC; exact this
   have hpl:(a.replay (rpro m p) p).pl.x = (if m.e = (KK z rs).e then KK z rs else (KK z rs).enter m.e).pl:=by have:=congrArg Co.pl hC; exact this
   have hn2:((KK z rs).e < m.e) ∨ (m.e = (KK z rs).e ∧ (KK z rs).pr < m.b):=by
    rw [←j0.co]
    exact hn.imp (fun q => q.1) id
   refine .inr (.inl ⟨rfl,?_,?_,?_⟩)
   ·show E < m.e ∨ (m.e = E ∧ B < (a.replay (rpro m p) p).pr)
    rw [hpr]
    rcases hn2 with q | q
    ·rcases h.lex with u | u
     ·exact .inl (by omega)
     ·exact .inl (by omega)
    ·rcases h.lex with u | u
     ·exact .inl (by omega)
     ·exact .inr ⟨by omega,by omega⟩
   ·intro hh
    have hh2:(a.replay (rpro m p) p).ac ≠ 0:=by
     have:((a.replay (rpro m p) p).ac != 0) = true:=hh
     simpa using this
    show (a.replay (rpro m p) p).ac < (a.replay (rpro m p) p).pr ∧ (a.replay (rpro m p) p).spl.x.e = m.e
    have hs:(a.replay (rpro m p) p).spl = (a.replay (rpro m p) p).pl:=if_neg hh2
    rw [hs,hpl,hpr,hac]
    rw [hac] at hh2
    rcases hn2 with q | q
    ·rw [if_neg (by omega)] at hh2
     exact absurd (zqw _ _).2.1 hh2
    ·rw [if_pos q.1] at hh2 ⊢
     rcases h.ac with u | u
     ·exact absurd u hh2
     ·exact ⟨by omega,by rw [u.2,q.1]⟩
   ·show KInv m.e (a.replay (rpro m p) p).pr _
    rw [hpr]
    refine ⟨.inr ?_,h2.ac⟩
    rw [zek,rp_pro]
    refine ⟨?_,Int.le_refl _⟩
    show m.e = (if m.e = (KK z rs).e then KK z rs else (KK z rs).enter m.e).e
    split
    ·assumption
    ·exact (zqw _ _).1.symm
end
end Go.Proofs.YteebjplkkglfjaaGreatDoor
