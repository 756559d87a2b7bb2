import Derived.Test.YtponpgcpmlcdpaaGreatDoorAz
import Derived.Test.YtponpgcpmlcdpaaGreatDoorGe
import Derived.Test.YtponpgcpmlcdpaaGreatDoorPn
namespace Go.Proofs.YtponpgcpmlcdpaaGreatDoor
open Go.RowKit Go.Shelf Km Kx Kc Kt
set_option linter.unusedVariables false
set_option linter.unusedSimpArgs false
theorem zp4 (A : Option Addr) : zgr (zew A 50 1000 20 40 5) [1, 0] := by
 refine ⟨?_, ?_, ?_, ?_, ?_, ?_, ?_, ?_, ?_, ?_, ?_, ?_, ?_, ?_, ?_, ?_, ?_, ?_, ?_, ?_, ?_, ?_, ?_, ?_, ?_, ?_, ?_, ?_, ?_, ?_, ?_⟩
 all_goals first | (simp only [zew]; omega) | skip
 intro v hv
 simp only [List.mem_cons, List.not_mem_nil, or_false] at hv
 rcases hv with rfl | rfl <;> decide
theorem zfz_in {p : Pt} {N : Nat} {F : Fz} (hx : p.x = zp N) (h : (p.A, i64s p.x.pen) ∈ F) : Within p.fz F := fun q hq => by
 rcases List.mem_cons.1 hq with rfl | hq
 ·exact .inr h
 ·rcases List.mem_cons.1 hq with rfl | hq
  ·refine .inl ?_
   show i64s p.x.ch = []
   rw [hx]; rfl
  ·cases hq
theorem Within.more {G F F' : Fz} (h : Within G F) (hs : ∀ q ∈ F, q ∈ F') : Within G F' := fun q hq => (h q hq).imp id (hs q)
section
variable {w0 w : World} {ga g : Nat} {a : Ac} {L : List (Nat × List Value)} {r : List Rw} {F : Fz}
set_option maxRecDepth 100000 in
theorem zm0 (h : Bxs w0 w L r F) [hin : InL ga (a.cells g) L] : Calls Tryz.prog 9 #[.pointer (some ⟨ga, 0, none⟩)] w fun e w' => e = .returned (.pointer (some ⟨g, 0, none⟩)) ∧ Below w.heap.size w w' := by
 have HB := Lib.hid (Bxs.start w)
 have HC : Hid (w.cell? ⟨ga, 31, none⟩ = some (.pointer (some ⟨g, 0, none⟩))) := h.cell hin.mem rfl
 clear h
 go_enter Tryz.func9, Tryz.ntmps9
 go_wp2_with (first | ((with_reducible refine zah HB ?_); clear HB; intro w_ HB) | ((with_reducible refine zad ?_); (first | refine boxa HB rfl ?_ | refine boxt HB rfl rfl ?_ | refine box1 HB rfl rfl ?_); clear HB; intro b_ w_ HB; refine Kx.fr ?_) | ((with_reducible refine zaa ?_); (first | refine ala HB ?_ | refine al1 HB ?_); clear HB; intro b_ w_ HB; refine Kx.fr ?_) | ((with_reducible refine zab ?_); first | refine Kx.l1 HB rfl rfl ?_ | refine Kx.la HB rfl ?_ | refine Kx.lo HB rfl HC.out ?_) | ((with_reducible refine zac ?_); first | refine l1g HB rfl rfl rfl ?_ | refine Kx.lag HB rfl rfl ?_ | refine Kx.log HB rfl HC.out rfl ?_) | ((with_reducible refine zae ?_); (first | refine stwa HB rfl rfl ?_ | refine sta HB rfl rfl ?_ | refine Kx.stc HB rfl rfl ?_ | refine Kx.stt HB rfl rfl rfl ?_ | refine Kx.st1 HB rfl rfl rfl ?_); clear HB; intro w_ HB))
 go_ret
 exact ⟨rfl, HB.out.below⟩
end
end Go.Proofs.YtponpgcpmlcdpaaGreatDoor
