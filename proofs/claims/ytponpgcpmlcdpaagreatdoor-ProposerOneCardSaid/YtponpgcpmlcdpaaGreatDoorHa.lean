import Derived.Test.YtponpgcpmlcdpaaGreatDoorGa
import Derived.Deep.CutBlock
import Derived.Deep.DeepCutAuto
import Derived.Test.YtponpgcpmlcdpaaGreatDoorKX
namespace Go.Proofs.YtponpgcpmlcdpaaGreatDoor
open Go.RowKit Go.Shelf Km Kx Kc Kt
structure Pt where
 x:Gm.Pl
 A:Option Addr
 n:Nat
 c:Nat
 A':Option Addr
 n':Nat
 c':Nat
def Pt.cells (p:Pt):List Value:=pc p.x p.A p.n p.c p.A' p.n' p.c'
theorem Pt.zcu (p:Pt):p.cells.length=12:=rfl
theorem Pt.cells_one (p:Pt):∀u∈p.cells,u.oneCell'=true:=fun u hu=>by
 unfold Pt.cells pc at hu
 simp only [List.mem_cons,List.not_mem_nil,or_false] at hu
 rcases hu with rfl|rfl|rfl|rfl|rfl|rfl|rfl|rfl|rfl|rfl|rfl|rfl<;>rfl
def Pt.fz (p:Pt):Fz:=[(p.A,i64s p.x.pen),(p.A',i64s p.x.ch)]
structure Pt.Ok (p:Pt):Prop where
 ok:p.x.Ok
 n:p.x.pen.length=p.n
 n':p.x.ch.length=p.n'
 k':p.n'≤p.c'
theorem Pt.Ok.at {p:Pt} (h:p.Ok) {w:World} {B:Nat} (h1:Rd w B p.A (i64s p.x.pen)) (h2:Rd w B p.A' (i64s p.x.ch)):PAt w B p.x p.A p.n p.c p.A' p.n' p.c':=⟨h.ok,h1,h2,h.k',h.n,h.n'⟩
theorem Pt.Ok.stays {p:Pt} (h:p.Ok) {w0 w:World} {l:List (Nat×List Value)} {r:List Rw} {F:Fz} (hB:Bxs w0 w l r F) (hs:∀q∈p.fz,q∈F):PAt w w.heap.size p.x p.A p.n p.c p.A' p.n' p.c' :=
 h.at (hB.zfc (hs _ (List.mem_cons_self ..))) (hB.zfc (hs _ (List.mem_cons_of_mem _ (List.mem_cons_self ..))))
def noPt:Pt:=⟨noPlan,none,0,0,none,0,0⟩
def gc (c:Cf) (xs:List Int):Gm.Gc:=⟨c.targets.toNat,xs,c.dwell,c.d,c.w,c.b.toNat,c.hit,c.suppress,c.reuse,c.half,c.first,c.step,c.stepTime⟩
theorem few {c:Cf} {xs:List Int} (hc:zfa c xs) {p:Pt} (ho:p.Ok) (hf:Gm.Fits (gc c xs) p.x):p.n≤1000∧p.n'≤1000:=by
 have h3:=hc.targets
 have h4:=hc.b
 have h5:p.x.pen.length=c.targets.toNat:=hf.pen.1
 have h6:p.x.ch.length≤c.b.toNat:=hf.ch.1
 rw [ho.n] at h5
 rw [ho.n'] at h6
 omega
open Classical in
noncomputable def tell (c:Cf) (xs:List Int) (p:Gm.Pl) (up:Nat) (now:Int):Option Gm.Pl :=
 if zfa c xs∧FitsP c.targets.toNat c.b.toNat p∧p.e < 4611686018427387904 then Gm.next (gc c xs) p up now else none
end Go.Proofs.YtponpgcpmlcdpaaGreatDoor
