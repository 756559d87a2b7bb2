import Derived.WalkKit
namespace Go.Proofs.YtponpgcpmlcdpaaGreatDoor.Dm
open Go
def tab:List Int:=[65536,62757,60097,57549,55109,52773,50535,48393,46341,44376,42495,40693,38968,37316,35734,34219]
def Ar (pen dt half:Int):Prop:=(0≤pen∧pen≤1000000)∧(0≤dt∧dt≤1099511627776)∧(1≤half∧half≤1099511627776)
instance (a b c:Int):Decidable (Ar a b c):=by unfold Ar;infer_instance
def zjt (pen:Int):Nat→Int
 |0=>pen
 |k+1=>zjt (pen / 2) k
def part (dt half:Int):Int:=16 * (dt - dt / half * half) / half
def left (pen dt half:Int):Int:=if 20 < dt / half then 0 else zjt pen (dt / half).toNat * tab.getD (part dt half).toNat 0 / 65536
def bound (n:Int):Int:=if n < 0 then 0 else if 1000000 < n then 1000000 else n
def hit (pen more:Int):Int:=bound (bound pen+bound more)
def sup (was:Bool) (pen suppress reuse:Int):Bool:=if suppress≤pen then true else if pen≤reuse then false else was
theorem zjs:∀(k:Nat) {p:Int},0≤p→0≤zjt p k∧zjt p k≤p
 |0,_,h=>⟨h,Int.le_refl _⟩
 | k + 1, p, h => by
   have:=zjs k (p:=p / 2) (by omega)
   unfold zjt
   omega
theorem tab_in {n:Nat} (h:n < 16):34219≤tab.getD n 0∧tab.getD n 0≤65536:=by
 match n,h with
 |0,_=>exact ⟨by decide,by decide⟩
 |1,_=>exact ⟨by decide,by decide⟩
 |2,_=>exact ⟨by decide,by decide⟩
 |3,_=>exact ⟨by decide,by decide⟩
 |4,_=>exact ⟨by decide,by decide⟩
 |5,_=>exact ⟨by decide,by decide⟩
 |6,_=>exact ⟨by decide,by decide⟩
 |7,_=>exact ⟨by decide,by decide⟩
 |8,_=>exact ⟨by decide,by decide⟩
 |9,_=>exact ⟨by decide,by decide⟩
 |10,_=>exact ⟨by decide,by decide⟩
 |11,_=>exact ⟨by decide,by decide⟩
 |12,_=>exact ⟨by decide,by decide⟩
 |13,_=>exact ⟨by decide,by decide⟩
 |14,_=>exact ⟨by decide,by decide⟩
 |15,_=>exact ⟨by decide,by decide⟩
 |n+16,h=>exact absurd h (by omega)
theorem rest_in {dt half:Int} (h:1≤half):0≤dt - dt / half * half∧dt - dt / half * half < half:=by
 have h1:=Int.emod_nonneg dt (show half≠0 by omega)
 have h2:=Int.emod_lt_of_pos dt (show 0 < half by omega)
 have h3:=Int.mul_ediv_add_emod dt half
 have h4:dt / half * half=half * (dt / half):=Int.mul_comm _ _
 omega
theorem part_in {dt half:Int} (h:1≤half):0≤part dt half∧part dt half < 16:=by
 obtain ⟨h1,h2⟩:=rest_in (dt:=dt) h
 unfold part
 refine ⟨Int.ediv_nonneg (by omega) (by omega),?_⟩
 exact Int.ediv_lt_of_lt_mul (by omega) (by omega)
theorem left_in {pen dt half:Int} (h:Ar pen dt half):0≤left pen dt half∧left pen dt half≤pen:=by
 obtain ⟨hp,hd,hh⟩:=h
 unfold left
 split
 ·omega
 ·obtain ⟨h1,h2⟩:=part_in (dt:=dt) hh.1
  have h3:=tab_in (n:=(part dt half).toNat) (by omega)
  have h4:=zjs (dt / half).toNat hp.1
  generalize tab.getD (part dt half).toNat 0=t at *
  generalize zjt pen (dt / half).toNat=x at *
  have h5:0≤x * t:=Int.mul_nonneg h4.1 (by omega)
  have h6:x * t≤x * 65536:=Int.mul_le_mul_of_nonneg_left h3.2 h4.1
  omega
end Go.Proofs.YtponpgcpmlcdpaaGreatDoor.Dm
