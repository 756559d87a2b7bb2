import Derived.Test.YtponpgcpmlcdpaaGreatDoorBF
namespace Go.Proofs.YtponpgcpmlcdpaaGreatDoor.Jm
open Go.RowKit
structure St where
 kept:List Int
 rest:List Int
 burn:Int
 off:Bool
def new:St:=⟨[],[],-1,false⟩
def eff (s:St):St×Int :=
 if s.off=true then (s,61) else if s.burn=0 then ({ s with off:=true,burn := -1 },61) else if 0 < s.burn then ({ s with burn:=s.burn - 1 },0) else (s,0)
theorem eff_off {s:St} (h:s.off=true):eff s=(s,61):=if_pos h
theorem zkn {s:St} (h:s.off=false) (h0:s.burn=0):eff s=({ s with off:=true,burn := -1 },61):=by unfold eff;rw [if_neg (by rw [h];decide),if_pos h0]
theorem zko {s:St} (h:s.off=false) (h0:0 < s.burn):eff s=({ s with burn:=s.burn - 1 },0):=by unfold eff;rw [if_neg (by rw [h];decide),if_neg (by omega),if_pos h0]
theorem zgl {s:St} (h:s.off=false) (h0:s.burn < 0):eff s=(s,0):=by unfold eff;rw [if_neg (by rw [h];decide),if_neg (by omega),if_neg (by omega)]
theorem zdl (s:St):(eff s).1.kept=s.kept∧(eff s).1.rest=s.rest:=by unfold eff;split<;>(try split)<;>(try split)<;>exact ⟨rfl,rfl⟩
theorem eff_err (s:St):(eff s).2=0∨(eff s).2=61:=by unfold eff;split<;>(try split)<;>(try split)<;>simp
def append (s:St) (k:Int) (b:List Int):St×Int :=
 if 8192 < b.length then (s,2) else if (eff s).2≠0 then eff s else ({ (eff s).1 with rest:=s.rest++Fm.frm k b },0)
def sync (s:St):St×Int:=if (eff s).2≠0 then eff s else ({ (eff s).1 with kept:=s.kept++s.rest,rest:=[] },0)
def fuse (s:St) (n:Int):St:={ s with burn:=if n < -1 then -1 else n }
def part (s:St) (n:Int):Nat:=if n < 0 then 0 else if (s.rest.length:Int) < n then s.rest.length else n.toNat
def crash (s:St) (n:Int):St:=⟨s.kept++s.rest.take (part s n),[],-1,true⟩
def up (s:St):St:={ s with rest:=[],off:=false }
def whole (s:St):Nat:=(Fm.cat (Fm.al s.kept)).length
def opn (s:St):St×List (Int×List Int)×Int :=
 if whole s < s.kept.length then
  if (eff (up s)).2≠0 then ((eff (up s)).1,[],61) else ({ (eff (up s)).1 with kept:=s.kept.take (whole s) },Fm.al s.kept,0)
 else (up s,Fm.al s.kept,0)
theorem znd {s:St} {k:Int} {b:List Int} (h:8192 < b.length):append s k b=(s,2):=if_pos h
theorem zjw {s:St} {k:Int} {b:List Int} (h:¬ 8192 < b.length) (h1:(eff s).2≠0):append s k b=eff s:=by unfold append;rw [if_neg h,if_pos h1]
theorem ziw {s:St} {k:Int} {b:List Int} (h:¬ 8192 < b.length) (h1:(eff s).2=0):append s k b=({ (eff s).1 with rest:=s.rest++Fm.frm k b },0):=by unfold append;rw [if_neg h,if_neg (by simpa using h1)]
theorem zj4 {s:St} (h1:(eff s).2≠0):sync s=eff s:=if_pos h1
theorem zj3 {s:St} (h1:(eff s).2=0):sync s=({ (eff s).1 with kept:=s.kept++s.rest,rest:=[] },0):=if_neg (by simpa using h1)
theorem zmt {s:St} (h:¬ whole s < s.kept.length):opn s=(up s,Fm.al s.kept,0):=if_neg h
theorem zka {s:St} (h:whole s < s.kept.length) (h1:(eff (up s)).2≠0):opn s=((eff (up s)).1,[],61):=by unfold opn;rw [if_pos h,if_pos h1]
theorem zkb {s:St} (h:whole s < s.kept.length) (h1:(eff (up s)).2=0):opn s=({ (eff (up s)).1 with kept:=s.kept.take (whole s) },Fm.al s.kept,0):=by unfold opn;rw [if_pos h,if_neg (by simpa using h1)]
structure Ok (s:St):Prop where
 k:Fm.By s.kept
 r:Fm.By s.rest
 lo : -1≤s.burn
 hi:s.burn≤9223372036854775807
theorem ok_new:Ok new:=⟨Fm.By.nil,Fm.By.nil,by decide,by decide⟩
def size (s:St):Nat:=s.kept.length+s.rest.length
theorem zhm (s:St):size (eff s).1=size s:=by unfold size;rw [(zdl s).1,(zdl s).2]
theorem size_append (s:St) (k:Int) (b:List Int):size (append s k b).1≤size s+8+b.length∧(8192 < b.length→size (append s k b).1=size s):=by
 have h1:=zhm s
 unfold append
 split
 ·exact ⟨by show size s≤_;omega,fun _=>rfl⟩
 ·rename_i h
  refine ⟨?_,fun q=>absurd q h⟩
  split
  ·rw [h1];omega
  ·show (eff s).1.kept.length+(s.rest++Fm.frm k b).length≤_
   rw [(zdl s).1,List.length_append,Fm.zds]
   unfold size
   omega
theorem zp0 (s:St):size (sync s).1=size s:=by
 unfold sync
 split
 ·exact zhm s
 ·show (s.kept++s.rest).length+0=_
  rw [List.length_append]
  rfl
theorem zgr (s:St) (n:Int):size (crash s n)≤size s:=by
 show (s.kept++s.rest.take (part s n)).length+0≤s.kept.length+s.rest.length
 rw [List.length_append,List.length_take]
 omega
theorem znq (s:St):size (opn s).1≤size s:=by
 have h1:=zdl (up s)
 have h2:(up s).rest.length=0:=rfl
 have h3:(up s).kept=s.kept:=rfl
 unfold opn size
 split
 ·split
  ·rw [h1.1,h1.2,h2,h3];omega
  ·show (s.kept.take (whole s)).length+(eff (up s)).1.rest.length≤_
   rw [h1.2,h2,List.length_take];omega
 ·show s.kept.length+0≤_
  omega
end Go.Proofs.YtponpgcpmlcdpaaGreatDoor.Jm
