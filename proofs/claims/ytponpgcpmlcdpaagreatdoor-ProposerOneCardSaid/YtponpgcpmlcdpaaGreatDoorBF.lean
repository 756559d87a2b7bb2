import Derived.Test.YtponpgcpmlcdpaaGreatDoorBC
import Derived.Test.YtponpgcpmlcdpaaGreatDoorBK
import Derived.Lib.SliceRun
import Derived.Test.YtponpgcpmlcdpaaGreatDoorBWx
set_option maxRecDepth 100000
namespace Go.Proofs.YtponpgcpmlcdpaaGreatDoor.Fm
open Go.RowKit
def By (l:List Int):Prop:=∀x∈l,0≤x∧x≤255
theorem By.nil:By []:=fun _ h=>by cases h
theorem By.take {l:List Int} (h:By l) (n:Nat):By (l.take n):=fun x hx=>h x (List.mem_of_mem_take hx)
theorem By.drop {l:List Int} (h:By l) (n:Nat):By (l.drop n):=fun x hx=>h x (List.mem_of_mem_drop hx)
theorem By.app {l m:List Int} (h:By l) (k:By m):By (l++m):=fun x hx=>by
 rcases List.mem_append.1 hx with a|a
 ·exact h x a
 ·exact k x a
theorem By.set {l:List Int} (h:By l) (i:Nat) {y:Int} (hy:0≤y∧y≤255):By (l.set i y):=fun x hx=>by
 rcases List.mem_or_eq_of_mem_set hx with a|a
 ·exact h x a
 ·rw [a];exact hy
theorem By.at {l:List Int} (h:By l) (i:Nat):0≤l.getD i 0∧l.getD i 0≤255:=by
 rw [List.getD_eq_getElem?_getD]
 cases e:l[i]? with
 |none=>simp
 |some x=>exact h x (List.mem_of_getElem? e)
def be4 (s:BitVec 32):List Int:=[Cm.V s / 16777216,Cm.V s / 65536 % 256,Cm.V s / 256 % 256,Cm.V s % 256]
theorem be4_by (s:BitVec 32):By (be4 s):=fun x hx=>by
 have h:=Cm.V_fit s
 simp only [be4,List.mem_cons,List.not_mem_nil,or_false] at hx
 omega
theorem zr2 (s:BitVec 32):(be4 s).length=4:=rfl
def hd (k:Int) (n:Nat):List Int:=[247,k,(n:Int) / 256,(n:Int) % 256]
def pre (k:Int) (b:List Int):List Int:=hd k b.length++b
def sum (l:List Int):List Int:=be4 (Cm.crc 0#32 (l.drop 1))
def frm (k:Int) (b:List Int):List Int:=pre k b++sum (pre k b)
def put (k:Int) (b:List Int):List Int×Int:=if 8192 < b.length then ([],2) else (frm k b,0)
theorem zf4 (k:Int) (b:List Int):(pre k b).length=b.length+4:=by simp [pre,hd]
theorem zds (k:Int) (b:List Int):(frm k b).length=b.length+8:=by simp [frm,zf4,sum,zr2]
theorem pre_by {k:Int} {b:List Int} (hk:0≤k∧k≤255) (hb:By b) (hl:b.length≤8192):By (pre k b):=by
 refine By.app (fun x hx => ?_) hb
 simp only [hd,List.mem_cons,List.not_mem_nil,or_false] at hx
 omega
theorem zre {k:Int} {b:List Int} (hk:0≤k∧k≤255) (hb:By b) (hl:b.length≤8192):By (frm k b):=(pre_by hk hb hl).app (be4_by _)
theorem put_by {k:Int} {b:List Int} (hk:0≤k∧k≤255) (hb:By b):By (put k b).1:=by
 unfold put
 split
 ·exact By.nil
 ·exact zre hk hb (by omega)
theorem zfy {k:Int} {b:List Int} (h:b.length≤8192):put k b=(frm k b,0):=if_neg (by omega)
theorem znx {k:Int} {b:List Int} (h:8192 < b.length):put k b=([],2):=if_pos h
def ln (l:List Int):Nat:=(l.getD 2 0 * 256+l.getD 3 0).toNat
def meas (l:List Int):Int×Int :=
 if l.length=0 then (0,31) else if l.getD 0 0≠247 then (0,32) else if l.length < 8 then (0,31) else if 8192 < ln l then (0,2)
 else if l.length < ln l+8 then (0,31) else if sum (l.take (ln l+4))≠(l.drop (ln l+4)).take 4 then (0,33) else (((ln l+8:Nat):Int),0)
def get (b:List Int) (t:Int):Int×List Int×Int×Int :=
 if t < 0∨(b.length:Int) < t then (0,[],0,1)
 else if (meas (b.drop t.toNat)).2≠0 then (0,[],0,(meas (b.drop t.toNat)).2)
 else ((b.drop t.toNat).getD 1 0,((b.drop t.toNat).drop 4).take (ln (b.drop t.toNat)),t+((ln (b.drop t.toNat)+8:Nat):Int),0)
def g1 (l:List Int):Option (Int×List Int):=if (meas l).2=0 then some (l.getD 1 0,(l.drop 4).take (ln l)) else none
theorem zlg {l:List Int} (h:(meas l).2=0):meas l=(((ln l+8:Nat):Int),0)∧l.getD 0 0=247∧ln l≤8192∧ln l+8≤l.length∧sum (l.take (ln l+4))=(l.drop (ln l+4)).take 4:=by
 revert h
 unfold meas
 repeat' split
 all_goals simp_all
 all_goals omega
theorem meas_0 {l:List Int} (h:l.length=0):meas l=(0,31):=if_pos h
theorem meas_1 {l:List Int} (h:l.length≠0) (h1:l.getD 0 0≠247):meas l=(0,32):=by unfold meas;rw [if_neg h,if_pos h1]
theorem meas_2 {l:List Int} (h:l.length≠0) (h1:l.getD 0 0=247) (h2:l.length < 8):meas l=(0,31):=by unfold meas;rw [if_neg h,if_neg (by rw [h1];simp),if_pos h2]
theorem meas_3 {l:List Int} (h2:8≤l.length) (h1:l.getD 0 0=247) (h3:8192 < ln l):meas l=(0,2):=by
 unfold meas;rw [if_neg (by omega),if_neg (by rw [h1];simp),if_neg (by omega),if_pos h3]
theorem meas_4 {l:List Int} (h2:8≤l.length) (h1:l.getD 0 0=247) (h3:ln l≤8192) (h4:l.length < ln l+8):meas l=(0,31):=by
 unfold meas;rw [if_neg (by omega),if_neg (by rw [h1];simp),if_neg (by omega),if_neg (by omega),if_pos h4]
theorem meas_5 {l:List Int} (h1:l.getD 0 0=247) (h3:ln l≤8192) (h4:ln l+8≤l.length) (h5:sum (l.take (ln l+4))≠(l.drop (ln l+4)).take 4):meas l=(0,33):=by
 unfold meas;rw [if_neg (by omega),if_neg (by rw [h1];simp),if_neg (by omega),if_neg (by omega),if_neg (by omega),if_pos h5]
theorem meas_6 {l:List Int} (h1:l.getD 0 0=247) (h3:ln l≤8192) (h4:ln l+8≤l.length) (h5:sum (l.take (ln l+4))=(l.drop (ln l+4)).take 4):meas l=(((ln l+8:Nat):Int),0):=by
 unfold meas;rw [if_neg (by omega),if_neg (by rw [h1];simp),if_neg (by omega),if_neg (by omega),if_neg (by omega),if_neg (by rw [h5];simp)]
theorem ln_frm {k:Int} {b r:List Int} (hl:b.length≤8192):ln (frm k b++r)=b.length:=by
 simp only [ln,frm,pre,hd,List.cons_append,List.getD_cons_succ,List.getD_cons_zero]
 omega
theorem meas_frm {k:Int} {b r:List Int} (hl:b.length≤8192):meas (frm k b++r)=(((b.length+8:Nat):Int),0):=by
 have h1:=ln_frm (k:=k) (r:=r) hl
 have h2:(frm k b++r).length=b.length+8+r.length:=by rw [List.length_append,zds]
 have h0:(frm k b++r).getD 0 0=247:=by simp [frm,pre,hd]
 have e1:(frm k b++r).take (b.length+4)=pre k b:=by
  rw [frm,List.append_assoc,←zf4 k b,List.take_left]
 have e2:((frm k b++r).drop (b.length+4)).take 4=sum (pre k b):=by
  rw [frm,List.append_assoc,←zf4 k b,List.drop_left]
  exact List.take_left' (zr2 _)
 unfold meas
 rw [h1,h2,h0,e1,e2]
 rw [if_neg (by omega),if_neg (by simp),if_neg (by omega),if_neg (by omega),if_neg (by omega),if_neg (by simp)]
theorem g1_frm {k:Int} {b r:List Int} (hl:b.length≤8192):g1 (frm k b++r)=some (k,b):=by
 unfold g1
 rw [meas_frm hl,ln_frm hl,if_pos rfl]
 have e1:(frm k b++r).getD 1 0=k:=by simp [frm,pre,hd]
 have e2:((frm k b++r).drop 4).take b.length=b:=by
  simp [frm,pre,hd]
 rw [e1,e2]
theorem head4 {l:List Int} (h:4≤l.length):l=l.getD 0 0::l.getD 1 0::l.getD 2 0::l.getD 3 0::l.drop 4:=by
 match l,h with
 |a::b::c::d::r,_=>rfl
 | [],h=>simp at h
 | [_],h=>simp at h
 | [_,_],h=>simp at h
 | [_,_,_],h=>simp at h
theorem zm7 {l:List Int} {k:Int} {b:List Int} (hb:By l) (h:g1 l=some (k,b)):b.length≤8192∧(0≤k∧k≤255)∧By b∧b.length+8≤l.length∧ln l=b.length∧l=frm k b++l.drop (b.length+8):=by
 unfold g1 at h
 split at h
 ·rename_i h0
  obtain ⟨e1,e2,e3,e4,e5⟩:=zlg h0
  simp only [Option.some.injEq,Prod.mk.injEq] at h
  obtain ⟨rfl,rfl⟩:=h
  have hlen:((l.drop 4).take (ln l)).length=ln l:=by rw [List.length_take,List.length_drop];omega
  rw [hlen]
  refine ⟨e3,hb.at 1,(hb.drop 4).take _,e4,rfl,?_⟩
  have b2:=hb.at 2
  have b3:=hb.at 3
  have hp:pre (l.getD 1 0) ((l.drop 4).take (ln l))=l.take (ln l+4):=by
   unfold pre
   rw [hlen]
   obtain ⟨c,d,r,hl⟩ : ∃c d r,c=l.getD 2 0∧d=l.getD 3 0∧r=l.drop 4:=⟨_,_,_,rfl,rfl,rfl⟩
   have h4:=head4 (l:=l) (by omega)
   obtain ⟨hc,hd',hr⟩:=hl
   have hln:ln l=(c * 256+d).toNat:=by unfold ln;rw [hc,hd']
   rw [←hc] at b2 h4
   rw [←hd'] at b3 h4
   rw [←hr] at h4 ⊢
   have e:l.take (ln l+4)=l.getD 0 0::l.getD 1 0::c::d::r.take (ln l):=by
    generalize ln l=m
    exact congrArg (List.take (m+4)) h4
   rw [e,e2,hln]
   show [247,l.getD 1 0,_,_]++_=_
   have x1:(((c * 256+d).toNat:Nat):Int) / 256=c:=by omega
   have x2:(((c * 256+d).toNat:Nat):Int) % 256=d:=by omega
   rw [x1,x2]
   rfl
  unfold frm
  rw [hp,e5,List.append_assoc]
  have:(l.drop (ln l+4)).take 4++l.drop (ln l+8)=l.drop (ln l+4):=by
   conv=>rhs;rw [←List.take_append_drop 4 (l.drop (ln l+4))]
   rw [List.drop_drop]
  rw [this,List.take_append_drop]
 ·cases h
theorem zrb {b:List Int} {t:Int} (h:t < 0∨(b.length:Int) < t):get b t=(0,[],0,1):=if_pos h
theorem zm4 {b:List Int} {n:Nat} (h:n≤b.length) (he:(meas (b.drop n)).2≠0):get b (n:Int)=(0,[],0,(meas (b.drop n)).2):=by
 unfold get
 rw [if_neg (by omega),Int.toNat_natCast,if_pos he]
theorem zlm {b:List Int} {n:Nat} (h:n≤b.length) (he:(meas (b.drop n)).2=0):get b (n:Int)=((b.drop n).getD 1 0,((b.drop n).drop 4).take (ln (b.drop n)),(n:Int)+((ln (b.drop n)+8:Nat):Int),0):=by
 unfold get
 rw [if_neg (by omega),Int.toNat_natCast,if_neg (by rw [he];simp)]
theorem get_some {b:List Int} {n:Nat} {k:Int} {x:List Int} (h:n≤b.length) (hb:By b) (hg:g1 (b.drop n)=some (k,x)):get b (n:Int)=(k,x,((n+(x.length+8):Nat):Int),0):=by
 have h5:=(zm7 (hb.drop n) hg).2.2.2.2.1
 unfold g1 at hg
 split at hg
 ·rename_i h0
  rw [zlm h h0,h5]
  simp only [Option.some.injEq,Prod.mk.injEq] at hg
  obtain ⟨rfl,rfl⟩:=hg
  have:∀m:Nat,((n:Int)+((m+8:Nat):Int))=((n+(m+8):Nat):Int):=fun m=>by omega
  rw [this]
  rw [←h5]
 ·cases hg
theorem get_none {b:List Int} {n:Nat} (h:n≤b.length) (hg:g1 (b.drop n)=none):(get b (n:Int)).2.2.2≠0:=by
 unfold g1 at hg
 split at hg
 ·cases hg
 ·rename_i h0
  rw [zm4 h h0]
  exact h0
def als:Nat→List Int→List (Int×List Int)
 |0,_=>[]
 | f + 1, l => match g1 l with
   |none=>[]
   |some x=>x::als f (l.drop (x.2.length+8))
def al (l:List Int):List (Int×List Int):=als (l.length+1) l
def cat (fs:List (Int×List Int)):List Int:=fs.flatMap fun f=>frm f.1 f.2
def Ok (fs:List (Int×List Int)):Prop:=∀f∈fs,f.2.length≤8192∧(0≤f.1∧f.1≤255)∧By f.2
theorem zry:cat []=[]:=rfl
theorem zee (f:Int×List Int) (fs:List (Int×List Int)):cat (f::fs)=frm f.1 f.2++cat fs:=rfl
theorem zit (fs gs:List (Int×List Int)):cat (fs++gs)=cat fs++cat gs:=List.flatMap_append
theorem zog:∀(f g:Nat) (l:List Int),l.length < f→l.length < g→als f l=als g l
 |0,_,_,h,_=>by omega
 |_,0,_,_,h=>by omega
 | f + 1, g + 1, l, hf, hg => by
   unfold als
   cases h:g1 l with
   |none=>rfl
   | some x =>
     dsimp only
     by_cases hl:l.length=0
     ·exfalso
      unfold g1 meas at h
      rw [if_pos hl] at h
      simp at h
     ·rw [zog f g _ (by rw [List.length_drop];omega) (by rw [List.length_drop];omega)]
theorem znh {l:List Int} (h:g1 l=none):al l=[]:=by
 unfold al als
 rw [h]
theorem zng {l:List Int} {x:Int×List Int} (h:g1 l=some x):al l=x::al (l.drop (x.2.length+8)):=by
 have hl:l.length≠0:=fun e=>by
  unfold g1 meas at h
  rw [if_pos e] at h
  simp at h
 conv=>lhs;unfold al als
 rw [h]
 dsimp only
 rw [al,zog l.length ((l.drop (x.2.length+8)).length+1) _ (by rw [List.length_drop];omega) (by omega)]
theorem al_ok:∀(n:Nat) (l:List Int),l.length≤n→By l→Ok (al l)∧(cat (al l)).length≤l.length∧l=cat (al l)++l.drop (cat (al l)).length∧g1 (l.drop (cat (al l)).length)=none
 | n, l, hn, hb => by
   cases h:g1 l with
   | none =>
     rw [znh h]
     exact ⟨(fun f hf=>nomatch hf),Nat.zero_le _,rfl,h⟩
   | some x =>
     obtain ⟨k,b⟩:=x
     obtain ⟨h1,h2,h3,h4,_,h5⟩:=zm7 hb h
     cases n with
     |zero=>omega
     | succ n =>
       rw [zng h]
       dsimp only at *
       obtain ⟨i1,i2,i3,i4⟩:=al_ok n (l.drop (b.length+8)) (by rw [List.length_drop];omega) (hb.drop _)
       rw [List.length_drop] at i2
       refine ⟨fun f hf => ?_,?_,?_,?_⟩
       ·rcases List.mem_cons.1 hf with rfl|hf
        ·exact ⟨h1,h2,h3⟩
        ·exact i1 f hf
       ·rw [zee,List.length_append,zds];dsimp only;omega
       ·rw [zee,List.length_append,zds]
        dsimp only
        rw [List.append_assoc,←List.drop_drop (j:=b.length+8),←i3]
        exact h5
       ·rw [zee,List.length_append,zds]
        dsimp only
        rw [←List.drop_drop (j:=b.length+8)]
        exact i4
theorem al_cat:∀(fs:List (Int×List Int)) (r:List Int),(∀f∈fs,f.2.length≤8192)→al (cat fs++r)=fs++al r
 | [],r,_=>rfl
 | f :: fs, r, h => by
   have hf:=h f (by simp)
   rw [zee,List.append_assoc,zng (g1_frm hf)]
   dsimp only
   rw [List.drop_left' (zds _ _),al_cat fs r (fun g hg=>h g (by simp [hg]))]
   rfl
theorem meas_cut {k:Int} {b:List Int} (hl:b.length≤8192) {j:Nat} (hj:j < b.length+8):(meas ((frm k b).take j)).2=31:=by
 have hn:((frm k b).take j).length=j:=by rw [List.length_take,zds];omega
 unfold meas
 rw [hn]
 by_cases h0:j=0
 ·rw [if_pos h0]
 rw [if_neg h0]
 have e0:((frm k b).take j).getD 0 0=247:=by
  obtain ⟨i,rfl⟩ : ∃i,j=i+1:=⟨j - 1,by omega⟩
  simp [frm,pre,hd]
 rw [e0,if_neg (by simp)]
 by_cases h8:j < 8
 ·rw [if_pos h8]
 rw [if_neg h8]
 have e1:ln ((frm k b).take j)=b.length:=by
  obtain ⟨i,rfl⟩ : ∃i,j=i+4:=⟨j - 4,by omega⟩
  simp only [ln,frm,pre,hd,List.cons_append,List.take_succ_cons,List.getD_cons_succ,List.getD_cons_zero]
  omega
 rw [e1,if_neg (by omega),if_pos hj]
theorem g1_cut {k:Int} {b:List Int} (hl:b.length≤8192) {j:Nat} (hj:j < b.length+8):g1 ((frm k b).take j)=none:=by
 unfold g1
 rw [meas_cut hl hj,if_neg (by decide)]
end Go.Proofs.YtponpgcpmlcdpaaGreatDoor.Fm
namespace Go.Proofs.YtponpgcpmlcdpaaGreatDoor
open Go.RowKit Go.Shelf
set_option maxHeartbeats 1000000 in
theorem zk1 (A : Option Addr) (n cap B : Nat) (xs : List Int) (w : World) (hx : Rd w B A (u8s xs)) (hn : xs.length = n) (h1 : 1 ≤ n) (hnc : n ≤ cap) (hcap : cap ≤ maxLen) (hb : Fm.By xs) (ht : HTab w) :
  Calls Tryz.prog 122 #[.slice A n cap] w fun e w'=>e = .returned (.slice (some ⟨w.heap.size,0,none⟩) 4 4)∧w'=w.alloc (.cells (u8s (Fm.sum xs)).toArray 5):=by
 obtain ⟨i0,hi,hz0,hz1,hz2⟩:=info_parts zci
 have hsl:∀W,(Instr.slice 35 (.slice A n cap) (some (.int .i64 1)) none none).run Tryz.prog W = .ok (.slice (cutA A 1 cap) (n - 1) (cap - 1)) W:=fun W=>zh3 (P:=Tryz.prog) Tryz.underlying35 (zbo hi hz1) A n cap 1 h1 W
 have hr:=hx.zrm (k:=1) (cap:=cap) (by omega)
 generalize cutA A 1 cap=A' at hsl hr
 have HC:=Lib.hid (Sum_any A' (n - 1) (cap - 1) B (xs.drop 1) w hr (by rw [List.length_drop,hn]) (by omega) (hb.drop 1) ht)
 have HS:Hid (Fm.sum xs=Fm.be4 (Cm.crc 0#32 (xs.drop 1))):=rfl
 generalize Cm.crc 0#32 (xs.drop 1)=s at HC HS
 have hsf:=Cm.V_fit s
 clear hx hr hb ht hi hz0 hz1 hz2
 go_enter Tryz.func122,Tryz.ntmps122
 go_wp2_with (go_at_call 128;refine HC.out.mono ?_;rintro e w' ⟨rfl,rfl⟩)
 go_ret
 rw [HS.out]
 exact ⟨rfl,rfl⟩
theorem zr9 (A : Option Addr) (n cap B : Nat) (xs : List Int) (A' : Option Addr) (n' cap' B' : Nat) (ys : List Int) (w : World) (hx : Rd w B A (u8s xs)) (hn : xs.length = n) (hy : Rd w B' A' (u8s ys)) (hn' : ys.length = n') (hb : Fm.By xs) (hb' : Fm.By ys) :
  Calls Tryz.prog 121 #[.slice A n cap,.slice A' n' cap'] w fun e w'=>e = .returned (.bool (decide (xs=ys)))∧w'=w:=by
 have c1:=str_of (cap:=cap) hx hn
 have c2:=str_of (cap:=cap') hy hn'
 have HE:=Lib.hid (zpy hb hb')
 clear hx hy
 go_enter Tryz.func121,Tryz.ntmps121
 go_wp2
 go_ret
 exact ⟨za3 HE.out,rfl⟩
theorem own_hd (w:World) (k:Int) (n:Nat):(w.alloc (.cells #[.int .u8 247,.int .u8 k,.int .u8 ((n:Int) / 256),.int .u8 ((n:Int) % 256)] 5)).ownsRow w.heap.size 5 1 (.slice (some ⟨w.heap.size,0,none⟩) 4 4) 4 (u8s (Fm.hd k n)):=by
 exact own_new w w.heap.size 5 (u8s (Fm.hd k n)) 4 rfl (Nat.le_refl _) (by unfold maxLen;omega)
set_option maxHeartbeats 2000000 in
theorem FPut_any (k : Int) (A : Option Addr) (n cap B : Nat) (xs : List Int) (w : World) (hk : 0 ≤ k ∧ k ≤ 255) (hx : Rd w B A (u8s xs)) (hn : xs.length = n) (_hnc : n ≤ cap) (_hcap : cap ≤ maxLen) (hB : B ≤ w.heap.size) (hb : Fm.By xs) (ht : HTab w) :
  Calls Tryz.prog 118 #[.int .u8 k,.slice A n cap] w fun e w'=>∃v,e = .returned (.tuple #[v,.int .i64 (Fm.put k xs).2]) ∧
   w'.ownsRow w.heap.size 5 1 v (Fm.put k xs).1.length (u8s (Fm.put k xs).1)∧Below w.heap.size w w':=by
 by_cases hm:n≤8192
 ·have HP:Hid (Fm.put k xs=(Fm.pre k xs++Fm.sum (Fm.pre k xs),0)):=Fm.zfy (by omega)
  have HPB:=Lib.hid (Fm.pre_by hk hb (by omega))
  have HPL:=Lib.hid (Fm.zf4 k xs)
  have HX:=Lib.hid hx
  have HN:=Lib.hid hn
  obtain ⟨i0,hi,hz0,hz1,hz2⟩:=info_parts zci
  have hown:=own_hd w k n
  have HE:Hid (Fm.hd k n++xs=Fm.pre k xs):=by show _=_;rw [←hn];rfl
  clear hx hb hn
  go_enter Tryz.func118,Tryz.ntmps118
  go_wp2_with (first
   |(at_builtin;refine zdd rfl _ _ 35 rfl w.heap.size 5 i0 (.int .u8 0) 1 Tryz.underlying35 hi hz0 hz1 hz2 rfl _ _ _ rfl hown B A n cap (u8s xs) rfl (by rw [List.length_map];exact HN.out) (HX.out.alloc hB _) (zbs _ _) (by unfold maxLen;omega) (by omega) (by simp) ?_;intro v2 w2 hown2 hgrow2 _;have hb2:=below_app ((Below.refl w.heap.size w).alloc (Nat.le_refl _) _) hown hgrow2 (by simp);rw [←List.map_append,HE.out] at hown2;obtain ⟨A2,c2,rfl,hcp2,hcm2,hrd2⟩:=za4 hown2)
   |(go_at_call 122;refine (zk1 A2 (4+n) c2 w2.heap.size (Fm.pre k xs) w2 hrd2 (by rw [HPL.out,HN.out];omega) (by omega) hcp2 hcm2 HPB.out (ht.below hb2 (Nat.le_refl _))).mono ?_;rintro e w' ⟨rfl,rfl⟩)
   |(at_builtin;refine zdd rfl _ _ 35 rfl w.heap.size 5 i0 (.int .u8 0) 1 Tryz.underlying35 hi hz0 hz1 hz2 rfl _ _ _ rfl (own_below hown2 ((Below.refl _ w2).alloc (Nat.le_refl _) _) (Nat.le_refl _)) (w2.heap.size+1) (some ⟨w2.heap.size,0,none⟩) 4 4 (u8s (Fm.sum (Fm.pre k xs))) rfl rfl (by exact Rd.new w2 (w2.heap.size+1) (u8s (Fm.sum (Fm.pre k xs))) 5 (0,0) (by omega)) (zbs _ _) (by unfold maxLen;omega) (by omega) (by have:=hb2.size;simp;omega) ?_;intro v3 w3 hown3 hgrow3 _;have hb3:=below_app (hb2.alloc hb2.size _) (own_below hown2 ((Below.refl _ w2).alloc (Nat.le_refl _) _) (Nat.le_refl _)) hgrow3 (by have:=hb2.size;simp;omega);rw [←List.map_append] at hown3))
  go_ret2
  rw [HP.out]
  refine ⟨_,rfl,?_,hb3⟩
  have hl:(Fm.pre k xs++Fm.sum (Fm.pre k xs)).length=4+n+4:=by rw [List.length_append,HPL.out,HN.out];show n+4+4=_;omega
  rw [hl]
  exact hown3
 ·have HP:=Lib.hid (Fm.znx (k:=k) (b:=xs) (by omega))
  clear hx hb
  go_enter Tryz.func118,Tryz.ntmps118
  go_wp2
  go_ret2
  rw [HP.out]
  exact ⟨_,rfl,zcc,Below.refl _ _⟩
end Go.Proofs.YtponpgcpmlcdpaaGreatDoor
namespace Go.Proofs.YtponpgcpmlcdpaaGreatDoor
open Go.RowKit Go.Shelf
theorem zkk {xs:List Int} {i:Nat} {x:Int} (h:xs[i]? = some x):xs.getD i 0=x:=by rw [List.getD_eq_getElem?_getD,h];rfl
theorem or_len {x y:Int} (hx:0≤x∧x≤255) (hy:0≤y∧y≤255):bits .or .i64 (x * 256) y=(((x * 256+y).toNat:Nat):Int):=by
 obtain ⟨a,rfl⟩:=Int.eq_ofNat_of_zero_le hx.1
 obtain ⟨b,rfl⟩:=Int.eq_ofNat_of_zero_le hy.1
 have e:((a:Int) * 256)=((a * 256:Nat):Int):=by omega
 rw [e]
 show IntKind.i64.wrap ((BitVec.ofInt 64 ((a * 256:Nat):Int) ||| BitVec.ofInt 64 (b:Int)).toNat:Int)=_
 have hj:(a * 256) ||| b=a * 256+b:=nat_join 8 (a * 256) b (by omega) (by omega)
 rw [BitVec.toNat_or,ofInt_u64 _ (by omega),ofInt_u64 _ (by omega),hj,IntKind.wrap_i64]
 omega
set_option maxHeartbeats 4000000 in
theorem zm0 (A : Option Addr) (n cap B : Nat) (xs : List Int) (w : World) (hx : Rd w B A (u8s xs)) (hn : xs.length = n) (hnc : n ≤ cap) (hcap : cap ≤ maxLen) (hB : B ≤ w.heap.size) (hb : Fm.By xs) (ht : HTab w) :
  Calls Tryz.prog 105 #[.slice A n cap] w fun e w'=>e = .returned (.tuple #[.int .i64 (Fm.meas xs).1,.int .i64 (Fm.meas xs).2])∧Below w.heap.size w w':=by
 by_cases h0:n=0
 ·have HM:=Lib.hid (Fm.meas_0 (l:=xs) (by omega))
  have k0:((n:Int) == 0)=true:=by rw [beq_iff_eq];omega
  clear hx hb ht
  go_enter Tryz.func105,Tryz.ntmps105
  go_wp2
  go_ret2
  rw [HM.out]
  exact ⟨rfl,Below.refl _ _⟩
 have k0:((n:Int) == 0)=false:=by rw [beq_eq_false_iff_ne];omega
 obtain ⟨x0,hx0⟩ : ∃x,xs[0]? = some x:=⟨xs[0],List.getElem?_eq_getElem (by omega)⟩
 obtain ⟨ad,rfl,_,hc0⟩:=hx.getU hx0
 rw [show ad.add 0=ad from rfl] at hc0
 have hd0:=zkk hx0
 have hcap':=hcap
 unfold maxLen at hcap'
 by_cases h1:x0=247
 case neg =>
  have HM:=Lib.hid (Fm.meas_1 (l:=xs) (by omega) (by rw [hd0];exact h1))
  have k1:(x0 != 247)=true:=by rw [bne_iff_ne];exact h1
  clear hx hb ht hx0 hd0
  go_enter Tryz.func105,Tryz.ntmps105
  go_wp2
  go_ret2
  rw [HM.out]
  exact ⟨rfl,Below.refl _ _⟩
 subst h1
 by_cases h2:n < 8
 ·have HM:=Lib.hid (Fm.meas_2 (l:=xs) (by omega) hd0 (by omega))
  clear hx hb ht hx0 hd0
  go_enter Tryz.func105,Tryz.ntmps105
  go_wp2
  go_ret2
  rw [HM.out]
  exact ⟨rfl,Below.refl _ _⟩
 obtain ⟨x2,hx2⟩ : ∃x,xs[2]? = some x:=⟨xs[2],List.getElem?_eq_getElem (by omega)⟩
 obtain ⟨x3,hx3⟩ : ∃x,xs[3]? = some x:=⟨xs[3],List.getElem?_eq_getElem (by omega)⟩
 obtain ⟨_,e2,_,hc2⟩:=hx.getU hx2
 cases e2
 obtain ⟨_,e3,_,hc3⟩:=hx.getU hx3
 cases e3
 have b2:=hb _ (List.mem_of_getElem? hx2)
 have b3:=hb _ (List.mem_of_getElem? hx3)
 have hor:=or_len b2 b3
 have hln:Fm.ln xs=(x2 * 256+x3).toNat:=by unfold Fm.ln;rw [zkk hx2,zkk hx3]
 have hlb:Fm.ln xs≤65535:=by omega
 rw [←hln] at hor
 obtain ⟨m,hm⟩ : ∃m,m=Fm.ln xs:=⟨_,rfl⟩
 rw [←hm] at hor hlb
 have i2:(2:Int) < (n:Int):=by omega
 have i3:(3:Int) < (n:Int):=by omega
 have k2:decide ((n:Int) < 8)=false:=by simp;omega
 rw [show ad.add 2=⟨ad.block,ad.off+2,none⟩ from rfl] at hc2
 rw [show ad.add 3=⟨ad.block,ad.off+3,none⟩ from rfl] at hc3
 clear hln hx0 hx2 hx3
 by_cases h3:8192 < m
 ·have HM:=Lib.hid (Fm.meas_3 (l:=xs) (by omega) hd0 (by omega))
  clear hx hb ht hd0 hm
  go_enter Tryz.func105,Tryz.ntmps105
  go_wp2
  go_quiet (fail)
  go_wp2
  go_ret2
  rw [HM.out]
  exact ⟨rfl,za8 (Below.refl _ _) nq⟩
 by_cases h4:n < m+8
 ·have HM:=Lib.hid (Fm.meas_4 (l:=xs) (by omega) hd0 (by omega) (by omega))
  clear hx hb ht hd0 hm
  go_enter Tryz.func105,Tryz.ntmps105
  go_wp2
  go_quiet (fail)
  go_wp2
  go_ret2
  rw [HM.out]
  exact ⟨rfl,za8 (Below.refl _ _) nq⟩
 have HM:=Lib.hid hm
 have hw4:IntKind.i64.wrap (4+(m:Int))=4+(m:Int):=IntWalk.i64_in _ (by omega)
 have hw8:IntKind.i64.wrap (4+(m:Int)+4)=4+(m:Int)+4:=IntWalk.i64_in _ (by omega)
 obtain ⟨i0,hi,hz0,hz1,hz2⟩:=info_parts zci
 have hsA:∀W,(Instr.slice 35 (.slice (some ad) n cap) none (some (.int .i64 (4+(m:Int)))) none).run Tryz.prog W = .ok (.slice (cutA (some ad) 0 cap) (m+4) cap) W:=fun W=>by
  have h:=zh4 (P:=Tryz.prog) Tryz.underlying35 (zbo hi hz1) (some ad) n cap (m+4) (by omega) W
  rwa [show (((m+4:Nat)):Int)=4+(m:Int) by omega] at h
 have hsB:∀W,(Instr.slice 35 (.slice (some ad) n cap) (some (.int .i64 (4+(m:Int)))) (some (.int .i64 (4+(m:Int)+4))) none).run Tryz.prog W = .ok (.slice (cutA (some ad) (m+4) cap) 4 (cap - (m+4))) W:=fun W=>by
  have h:=zgs (P:=Tryz.prog) Tryz.underlying35 (zbo hi hz1) (some ad) n cap (m+4) (m+8) (by omega) (by omega) W
  rwa [show (((m+4:Nat)):Int)=4+(m:Int) by omega,show (((m+8:Nat)):Int)=4+(m:Int)+4 by omega,show m+8 - (m+4)=4 by omega] at h
 have k3:decide (8192 < (m:Int))=false:=by simp;omega
 have k4:decide ((n:Int) < 4+(m:Int)+4)=false:=by simp;omega
 have HRA:=Lib.hid (zqd (n:=m+4) hx (cap:=cap) (by omega))
 have HRB:=Lib.hid ((hx.zrm (k:=m+4) (cap:=cap) (by omega)).takeU 4)
 have HT:=Lib.hid ht
 have HB:=Lib.hid hb
 have HD:=Lib.hid hd0
 clear hm hi hz0 hz1 hz2 hx ht hb hd0
 go_enter Tryz.func105,Tryz.ntmps105
 go_wp2
 go_quiet (fail)
 go_wp2
 refine zc6 (fun w'=>Below w.heap.size w w') (by kernel_rfl) ?_
 obtain ⟨w1,hw1⟩ : ∃w1,w1=(w.drewN nq).drew:=⟨_,rfl⟩
 have hC:Below w.heap.size w w1:=by rw [hw1];exact za8 (za8 (Below.refl w.heap.size w) nq) 1
 rw [←hw1]
 clear hw1
 refine zaf (i:=0) (v := ?v0_1) (a' := ?a0_1) rfl (by kernel_rfl) (by kernel_rfl) (by kernel_rfl) (fun _ _ _ h=>h) hC ?w0_1 ?y0_1 ?f0_1 ?r0_1
 case w0_1=>kernel_rfl
 case y0_1=>(intro w hC;go_simp;try with_reducible rfl)
 case f0_1=>(go_simp;try with_reducible rfl)
 refine zaf (i:=1) (v := ?v1_2) (a' := ?a1_2) rfl (by kernel_rfl) (by kernel_rfl) (by kernel_rfl) (fun _ _ _ h=>h) hC ?w1_2 ?y1_2 ?f1_2 ?r1_2
 case w1_2=>kernel_rfl
 case y1_2=>(intro w hC;go_simp;try with_reducible rfl)
 case f1_2=>(go_simp;try with_reducible rfl)
 refine zaf (i:=2) (v := ?v2_3) (a' := ?a2_3) rfl (by kernel_rfl) (by kernel_rfl) (by kernel_rfl) (fun _ _ _ h=>h) hC ?w2_3 ?y2_3 ?f2_3 ?r2_3
 case w2_3=>kernel_rfl
 case y2_3=>(intro w hC;go_simp;try with_reducible rfl)
 case f2_3=>(go_simp;try with_reducible rfl)
 refine zaf (i:=3) (v := ?v3_4) (a' := ?a3_4) rfl (by kernel_rfl) (by kernel_rfl) (by kernel_rfl) (fun _ _ _ h=>h) hC ?w3_4 ?y3_4 ?f3_4 ?r3_4
 case w3_4=>kernel_rfl
 case y3_4=>(intro w hC;go_simp;try with_reducible rfl)
 case f3_4=>(go_simp;try with_reducible rfl)
 refine zaf (i:=5) (v := ?v5_5) (a' := ?a5_5) rfl (by kernel_rfl) (by kernel_rfl) (by kernel_rfl) (fun _ _ _ h=>h) hC ?w5_5 ?y5_5 ?f5_5 ?r5_5
 case w5_5=>kernel_rfl
 case y5_5=>(intro w hC;go_simp;try with_reducible rfl)
 case f5_5=>(go_simp;try with_reducible rfl)
 refine zaf (i:=6) (v := ?v6_6) (a' := ?a6_6) rfl (by kernel_rfl) (by kernel_rfl) (by kernel_rfl) (fun _ _ _ h=>h) hC ?w6_6 ?y6_6 ?f6_6 ?r6_6
 case w6_6=>kernel_rfl
 case y6_6=>(intro w hC;go_simp;try with_reducible rfl)
 case f6_6=>(go_simp;try with_reducible rfl)
 refine zaf (i:=7) (v := ?v7_7) (a' := ?a7_7) rfl (by kernel_rfl) (by kernel_rfl) (by kernel_rfl) (fun _ _ _ h=>h) hC ?w7_7 ?y7_7 ?f7_7 ?r7_7
 case w7_7=>kernel_rfl
 case y7_7=>(intro w hC;go_simp;try with_reducible rfl)
 case f7_7=>(go_simp;try with_reducible rfl)
 refine zaf (i:=8) (v := ?v8_8) (a' := ?a8_8) rfl (by kernel_rfl) (by kernel_rfl) (by kernel_rfl) (fun _ _ _ h=>h) hC ?w8_8 ?y8_8 ?f8_8 ?r8_8
 case w8_8=>kernel_rfl
 case y8_8=>(intro w hC;go_simp;try with_reducible rfl)
 case f8_8=>(go_simp;try with_reducible rfl)
 refine zaf (i:=9) (v := ?v9_9) (a' := ?a9_9) rfl (by kernel_rfl) (by kernel_rfl) (by kernel_rfl) (fun _ _ _ h=>h) hC ?w9_9 ?y9_9 ?f9_9 ?r9_9
 case w9_9=>kernel_rfl
 case y9_9=>(intro w hC;go_simp;try with_reducible rfl)
 case f9_9=>(go_simp;try with_reducible rfl)
 refine za5 (i:=4) rfl (by kernel_rfl) (by kernel_rfl) (fun K hK => ?_)
 go_simp
 refine (zk1 _ (m+4) cap B (xs.take (m+4)) _ (by exact HRA.out.below (hC.mono hB)) (by rw [List.length_take];omega) (by omega) (by omega) hcap (HB.out.take _) (HT.out.below hC (Nat.le_refl _))).mono ?_
 rintro e w' ⟨rfl,rfl⟩
 go_wp2_with fail
 have hC2:=hC.alloc hC.size (.cells (u8s (Fm.sum (xs.take (m+4)))).toArray 5)
 have hE:=zr9 (some ⟨w1.heap.size,0,none⟩) 4 4 (w1.heap.size+1) (Fm.sum (xs.take (m+4))) (cutA (some ad) (m+4) cap) 4 (cap - (m+4)) B ((xs.drop (m+4)).take 4) (w1.alloc (.cells (u8s (Fm.sum (xs.take (m+4)))).toArray 5))
  (by exact Rd.new w1 (w1.heap.size+1) (u8s (Fm.sum (xs.take (m+4)))) 5 (0,0) (by omega)) rfl (HRB.out.below (hC2.mono hB)) (by rw [List.length_take,List.length_drop];omega) (Fm.be4_by _) ((HB.out.drop _).take _)
 clear hC
 refine ⟨hC2,?_⟩
 generalize w1.alloc (.cells (u8s (Fm.sum (xs.take (m+4)))).toArray 5)=w2 at hC2 hE ⊢
 refine za5 (i:=10) rfl (by kernel_rfl) (by kernel_rfl) (fun K hK => ?_)
 go_simp
 go_wp2_with (go_at_call 121;fail)
 refine hE.mono ?_
 rintro e w' ⟨rfl,rfl⟩
 go_wp2_with fail
 refine ⟨hC2,?_⟩
 refine zaf (i:=11) (v := ?v11_10) (a' := ?a11_10) rfl (by kernel_rfl) (by kernel_rfl) (by kernel_rfl) (fun _ _ _ h=>h) hC2 ?w11_10 ?y11_10 ?f11_10 ?r11_10
 case w11_10=>kernel_rfl
 case y11_10=>(intro w hC;go_simp;try with_reducible rfl)
 case f11_10=>(go_simp;try with_reducible rfl)
 refine zaf (i:=12) (v := ?v12_11) (a' := ?a12_11) rfl (by kernel_rfl) (by kernel_rfl) (by kernel_rfl) (fun _ _ _ h=>h) hC2 ?w12_11 ?y12_11 ?f12_11 ?r12_11
 case w12_11=>kernel_rfl
 case y12_11=>(intro w hC;go_simp;try with_reducible rfl)
 case f12_11=>(go_simp;try with_reducible rfl)
 refine zbc (by kernel_rfl) ?_
 clear hE
 by_cases h5:Fm.sum (xs.take (m+4))=(xs.drop (m+4)).take 4
 ·have HF : Hid (Fm.meas xs = (4 + (m : Int) + 4, 0)) := by
   show _=_
   rw [HM.out] at h5
   rw [Fm.meas_6 HD.out (by rw [←HM.out];omega) (by rw [←HM.out];omega) h5,←HM.out]
   congr 1
   omega
  have hd:decide (Fm.sum (xs.take (m+4))=(xs.drop (m+4)).take 4)=true:=by simpa using h5
  rw [hd]
  clear hd h5
  go_wp2
  go_ret2
  rw [HF.out]
  exact ⟨rfl,hC2⟩
 ·have HF : Hid (Fm.meas xs = (0, 33)) := by
   show _=_
   rw [HM.out] at h5
   exact Fm.meas_5 HD.out (by rw [←HM.out];omega) (by rw [←HM.out];omega) h5
  have hd:decide (Fm.sum (xs.take (m+4))=(xs.drop (m+4)).take 4)=false:=by simpa using h5
  rw [hd]
  clear hd h5
  go_wp2
  go_ret2
  rw [HF.out]
  exact ⟨rfl,hC2⟩
end Go.Proofs.YtponpgcpmlcdpaaGreatDoor
namespace Go.Proofs.YtponpgcpmlcdpaaGreatDoor
open Go.RowKit Go.Shelf
set_option maxHeartbeats 4000000 in
theorem FGet_any (A : Option Addr) (n cap B : Nat) (xs : List Int) (t : Int) (w : World) (hx : Rd w B A (u8s xs)) (hn : xs.length = n) (hnc : n ≤ cap) (hcap : cap ≤ maxLen) (hB : B ≤ w.heap.size) (hb : Fm.By xs) (ht : HTab w)
  (t0 : -9223372036854775808≤t) (t1:t≤9223372036854775807) :
  Calls Tryz.prog 93 #[.slice A n cap,.int .i64 t] w fun e w'=>∃v,e = .returned (.tuple #[.int .u8 (Fm.get xs t).1,v,.int .i64 (Fm.get xs t).2.2.1,.int .i64 (Fm.get xs t).2.2.2]) ∧
   w'.ownsRow w.heap.size 5 1 v (Fm.get xs t).2.1.length (u8s (Fm.get xs t).2.1)∧Below w.heap.size w w':=by
 have hcap':=hcap
 unfold maxLen at hcap'
 by_cases h1:t < 0
 ·have HE:=Lib.hid (Fm.zrb (b:=xs) (t:=t) (.inl h1))
  have hd:decide (t < 0)=true:=by simpa using h1
  clear hx hb ht
  go_enter Tryz.func93,Tryz.ntmps93
  go_wp2
  (try simp only [Exit.inBlock,Exit.then]);refine bodyPost_ret (zd9 rfl _ _ _) rfl ?_
  rw [HE.out]
  exact ⟨_,rfl,zcc,Below.refl _ _⟩
 by_cases h2:(n:Int) < t
 ·have HE:=Lib.hid (Fm.zrb (b:=xs) (t:=t) (.inr (by omega)))
  have hd:decide (t < 0)=false:=by simpa using h1
  clear hx hb ht
  go_enter Tryz.func93,Tryz.ntmps93
  go_wp2
  (try simp only [Exit.inBlock,Exit.then]);refine bodyPost_ret (zd9 rfl _ _ _) rfl ?_
  rw [HE.out]
  exact ⟨_,rfl,zcc,Below.refl _ _⟩
 obtain ⟨m,rfl⟩:=Int.eq_ofNat_of_zero_le (show 0≤t by omega)
 obtain ⟨i0,hi,hz0,hz1,hz2⟩:=info_parts zci
 have hsl:=fun W=>zh3 (P:=Tryz.prog) Tryz.underlying35 (zbo hi hz1) A n cap m (by omega) W
 have hd1:decide ((m:Int) < 0)=false:=by simp
 have hd2:decide ((n:Int) < (m:Int))=false:=by simp;omega
 have HC:=Lib.hid (zm0 (cutA A m cap) (n - m) (cap - m) B (xs.drop m) w (hx.zrm (k:=m) (cap:=cap) (by omega)) (by rw [List.length_drop,hn]) (by omega) (by omega) hB (hb.drop m) ht)
 by_cases he:(Fm.meas (xs.drop m)).2=0
 case neg =>
  have HE:=Lib.hid (Fm.zm4 (n:=m) (by omega) he)
  generalize Fm.meas (xs.drop m)=q at HC HE he
  obtain ⟨q1,q2⟩:=q
  dsimp only at HC HE he
  have hq:(q2 != 0)=true:=by rw [bne_iff_ne];exact he
  clear hx hb ht he hi hz0 hz1 hz2
  go_enter Tryz.func93,Tryz.ntmps93
  go_wp2_with (go_at_call 105;refine HC.out.mono ?_;rintro e w' ⟨rfl,hb1⟩)
  (try simp only [Exit.inBlock,Exit.then]);refine bodyPost_ret (zd9 rfl _ _ _) rfl ?_
  rw [HE.out]
  exact ⟨_,rfl,zcc,hb1⟩
 obtain ⟨e1,-,h5,h6,-⟩:=Fm.zlg he
 have HE:=Lib.hid (Fm.zlm (n:=m) (by omega) he)
 obtain ⟨k,hk⟩ : ∃k,k=Fm.ln (xs.drop m):=⟨_,rfl⟩
 rw [←hk] at e1 h5 h6 HE
 have e2:Fm.meas (xs.drop m)=((k:Int)+8,0):=by rw [e1];congr 1
 rw [e2] at HC
 rw [List.length_drop,hn] at h6
 obtain ⟨x1,hx1⟩ : ∃x,xs[m+1]? = some x:=⟨xs[m+1],List.getElem?_eq_getElem (by omega)⟩
 obtain ⟨ad,rfl,hab,hc1⟩:=hx.getU hx1
 have hg1:(xs.drop m).getD 1 0=x1:=zkk (by rw [List.getElem?_drop];exact hx1)
 rw [hg1] at HE
 have hsB:∀W,(Instr.slice 35 (.slice (some ad) n cap) (some (.int .i64 ((m:Int)+4))) (some (.int .i64 ((m:Int)+((k:Int)+8) - 4))) none).run Tryz.prog W = .ok (.slice (cutA (some ad) (m+4) cap) k (cap - (m+4))) W:=fun W=>by
  have h:=zgs (P:=Tryz.prog) Tryz.underlying35 (zbo hi hz1) (some ad) n cap (m+4) (m+4+k) (by omega) (by omega) W
  rwa [show (((m+4:Nat)):Int)=(m:Int)+4 by omega,show (((m+4+k:Nat)):Int)=(m:Int)+((k:Int)+8) - 4 by omega,show m+4+k - (m+4)=k by omega] at h
 have hrB:=(hx.zrm (k:=m+4) (cap:=cap) (by omega)).takeU k
 obtain ⟨ad2,had2⟩:=zlw ad (m+4) cap
 rw [had2] at hsB hrB
 have HRB:=Lib.hid hrB
 have HL:Hid (((xs.drop (m+4)).take k).length=k):=by
  show _=_
  rw [List.length_take,List.length_drop];omega
 have HD:Hid ((xs.drop m).drop 4=xs.drop (m+4)):=by
  show _=_
  rw [List.drop_drop]
 have HX1:Hid (∀w',Below w.heap.size w w'→w'.cell? ⟨ad.block,ad.off+(m+1),none⟩=some (.int .u8 x1)):=fun w' h=>(h.cell (by dsimp only;omega)).trans hc1
 have i1:(m:Int)+1 < (n:Int):=by omega
 have j1:(0:Int)≤(m:Int)+1:=by omega
 clear hx hb ht he hi hz0 hz1 hz2 e1 e2 hk hx1 hg1 hrB had2 hc1
 go_enter Tryz.func93,Tryz.ntmps93
 go_wp2_with (go_at_call 105;refine HC.out.mono ?_;rintro e w' ⟨rfl,hb1⟩)
 refine zc6 (fun w'=>Below w.heap.size w w') (by kernel_rfl) ?_
 obtain ⟨w1,hw1⟩ : ∃w1,w1=w'.drew:=⟨_,rfl⟩
 have hC:Below w.heap.size w w1:=by rw [hw1];exact za8 hb1 1
 rw [←hw1]
 clear hw1 hb1
 have hq1:IntKind.i64.wrap ((m:Int)+1)=(m:Int)+1:=IntWalk.i64_in _ (by omega)
 have hq4:IntKind.i64.wrap ((m:Int)+4)=(m:Int)+4:=IntWalk.i64_in _ (by omega)
 have hq5:IntKind.i64.wrap ((m:Int)+((k:Int)+8) - 4)=(m:Int)+((k:Int)+8) - 4:=IntWalk.i64_in _ (by omega)
 refine zaf (i:=0) (v := ?v0_12) (a' := ?a0_12) rfl (by kernel_rfl) (by kernel_rfl) (by kernel_rfl) (fun _ _ _ h=>h) hC ?w0_12 ?y0_12 ?f0_12 ?r0_12
 case w0_12=>kernel_rfl
 case y0_12=>(intro w hC;go_simp;try with_reducible rfl)
 case f0_12=>(go_simp;try with_reducible rfl)
 refine zaf (i:=1) (v := ?v1_13) (a' := ?a1_13) rfl (by kernel_rfl) (by kernel_rfl) (by kernel_rfl) (fun _ _ _ h=>h) hC ?w1_13 ?y1_13 ?f1_13 ?r1_13
 case w1_13=>kernel_rfl
 case y1_13=>(intro w hC;go_simp;try with_reducible rfl)
 case f1_13=>(go_simp;try with_reducible rfl)
 refine zaf (i:=2) (v := ?v2_14) (a' := ?a2_14) rfl (by kernel_rfl) (by kernel_rfl) (by kernel_rfl) (fun _ _ _ h=>h) hC ?w2_14 ?y2_14 ?f2_14 ?r2_14
 case w2_14=>kernel_rfl
 case y2_14=>(intro w hC;go_simp;try with_reducible rfl)
 case f2_14=>(go_simp;try with_reducible rfl)
 refine zaf (i:=3) (v := ?v3_15) (a' := ?a3_15) rfl (by kernel_rfl) (by kernel_rfl) (by kernel_rfl) (fun _ _ _ h=>h) hC ?w3_15 ?y3_15 ?f3_15 ?r3_15
 case w3_15=>kernel_rfl
 case y3_15=>(intro w hC;go_simp;try with_reducible rfl)
 case f3_15=>(go_simp;try with_reducible rfl)
 refine zaf (i:=4) (v := ?v4_16) (a' := ?a4_16) rfl (by kernel_rfl) (by kernel_rfl) (by kernel_rfl) (fun _ _ _ h=>h) hC ?w4_16 ?y4_16 ?f4_16 ?r4_16
 case w4_16=>kernel_rfl
 case y4_16=>(intro w hC;have h4:=HX1.out w hC;go_simp;try with_reducible rfl)
 case f4_16=>(go_simp;try with_reducible rfl)
 refine zaf (i:=5) (v := ?v5_17) (a' := ?a5_17) rfl (by kernel_rfl) (by kernel_rfl) (by kernel_rfl) (fun _ _ _ h=>h) hC ?w5_17 ?y5_17 ?f5_17 ?r5_17
 case w5_17=>kernel_rfl
 case y5_17=>(intro w hC;go_simp;try with_reducible rfl)
 case f5_17=>(go_simp;try with_reducible rfl)
 refine zaf (i:=6) (v := ?v6_18) (a' := ?a6_18) rfl (by kernel_rfl) (by kernel_rfl) (by kernel_rfl) (fun _ _ _ h=>h) hC ?w6_18 ?y6_18 ?f6_18 ?r6_18
 case w6_18=>kernel_rfl
 case y6_18=>(intro w hC;go_simp;try with_reducible rfl)
 case f6_18=>(go_simp;try with_reducible rfl)
 refine zaf (i:=7) (v := ?v7_19) (a' := ?a7_19) rfl (by kernel_rfl) (by kernel_rfl) (by kernel_rfl) (fun _ _ _ h=>h) hC ?w7_19 ?y7_19 ?f7_19 ?r7_19
 case w7_19=>kernel_rfl
 case y7_19=>(intro w hC;go_simp;try with_reducible rfl)
 case f7_19=>(go_simp;try with_reducible rfl)
 refine zaf (i:=8) (v := ?v8_20) (a' := ?a8_20) rfl (by kernel_rfl) (by kernel_rfl) (by kernel_rfl) (fun _ _ _ h=>h) hC ?w8_20 ?y8_20 ?f8_20 ?r8_20
 case w8_20=>kernel_rfl
 case y8_20=>(intro w hC;go_simp;try with_reducible rfl)
 case f8_20=>(go_simp;try with_reducible rfl)
 refine zaf (i:=9) (v := ?v9_21) (a' := ?a9_21) rfl (by kernel_rfl) (by kernel_rfl) (by kernel_rfl) (fun _ _ _ h=>h) hC ?w9_21 ?y9_21 ?f9_21 ?r9_21
 case w9_21=>kernel_rfl
 case y9_21=>(intro w hC;go_simp;try with_reducible rfl)
 case f9_21=>(go_simp;try with_reducible rfl)
 refine zaf (i:=10) (v := ?v10_22) (a' := ?a10_22) rfl (by kernel_rfl) (by kernel_rfl) (by kernel_rfl) (fun _ _ _ h=>h) hC ?w10_22 ?y10_22 ?f10_22 ?r10_22
 case w10_22=>kernel_rfl
 case y10_22=>(intro w hC;go_simp;try with_reducible rfl)
 case f10_22=>(go_simp;try with_reducible rfl)
 refine zaf (i:=12) (v := ?v12_23) (a' := ?a12_23) rfl (by kernel_rfl) (by kernel_rfl) (by kernel_rfl) (fun _ _ _ h=>h) hC ?w12_23 ?y12_23 ?f12_23 ?r12_23
 case w12_23=>kernel_rfl
 case y12_23=>(intro w hC;go_simp;try with_reducible rfl)
 case f12_23=>(go_simp;try with_reducible rfl)
 refine za5 (i:=11) rfl (by kernel_rfl) (by kernel_rfl) (fun K hK => ?_)
 go_simp
 go_wp2_with (go_at_call 97;fail)
 refine (zl8 ad2 k (cap - (m+4)) B ((xs.drop (m+4)).take k) w1 (HRB.out.below (hC.mono hB)) HL.out (Nat.le_trans hB hC.size) (by omega)).mono ?_
 rintro e w2 ⟨v,rfl,hown,hb2⟩
 go_wp2_with fail
 have hC2:=hC.trans (hb2.mono hC.size)
 refine ⟨hC2,?_⟩
 refine zaf (i:=13) (v := ?v13_24) (a' := ?a13_24) rfl (by kernel_rfl) (by kernel_rfl) (by kernel_rfl) (fun _ _ _ h=>h) hC2 ?w13_24 ?y13_24 ?f13_24 ?r13_24
 case w13_24=>kernel_rfl
 case y13_24=>(intro w hC;go_simp;try with_reducible rfl)
 case f13_24=>(go_simp;try with_reducible rfl)
 refine zaf (i:=14) (v := ?v14_25) (a' := ?a14_25) rfl (by kernel_rfl) (by kernel_rfl) (by kernel_rfl) (fun _ _ _ h=>h) hC2 ?w14_25 ?y14_25 ?f14_25 ?r14_25
 case w14_25=>kernel_rfl
 case y14_25=>(intro w hC;go_simp;try with_reducible rfl)
 case f14_25=>(go_simp;try with_reducible rfl)
 refine zaf (i:=15) (v := ?v15_26) (a' := ?a15_26) rfl (by kernel_rfl) (by kernel_rfl) (by kernel_rfl) (fun _ _ _ h=>h) hC2 ?w15_26 ?y15_26 ?f15_26 ?r15_26
 case w15_26=>kernel_rfl
 case y15_26=>(intro w hC;go_simp;try with_reducible rfl)
 case f15_26=>(go_simp;try with_reducible rfl)
 refine zaf (i:=16) (v := ?v16_27) (a' := ?a16_27) rfl (by kernel_rfl) (by kernel_rfl) (by kernel_rfl) (fun _ _ _ h=>h) hC2 ?w16_27 ?y16_27 ?f16_27 ?r16_27
 case w16_27=>kernel_rfl
 case y16_27=>(intro w hC;go_simp;try with_reducible rfl)
 case f16_27=>(go_simp;try with_reducible rfl)
 refine zbc (by kernel_rfl) ?_
 go_wp2
 (try simp only [Exit.inBlock,Exit.then]);refine bodyPost_ret (zd9 rfl _ _ _) rfl ?_
 rw [HE.out,HD.out]
 refine ⟨v,?_,zb3 hown hC.size,hC2⟩
 rfl
end Go.Proofs.YtponpgcpmlcdpaaGreatDoor
namespace Go.Proofs.YtponpgcpmlcdpaaGreatDoor
open Go.RowKit Go.Shelf
end Go.Proofs.YtponpgcpmlcdpaaGreatDoor
