/- A set of observers in a map of the call's own: asked, and added to; whose vote is the first one: the program's. -/
import Derived.Test.YtpchkhphpcopkaaTa
import Derived.Maps.OwnOps
import Derived.Maps.OwnSet
namespace Go.Proofs.Ytpchkhphpcopkaa
open Go.RowKit Go.Shelf Km Kx Go.ChangeMaps Go.MapKept

theorem keyI : Maps.Keyed Try.prog 3 := Maps.int_keyed Try.underlying3
theorem key_of {x : Int} (h : in64 x) : keyOf Try.prog 3 (.int .i64 x) = some (.int .i64 x) := Maps.keyOf_int_mk Try.underlying3 (wf_in h)

/-- block b holds a set of at most n numbers: those of S -/
def SetF (w : World) (b n : Nat) (S : List Int) : Prop :=
  ∃ D : DataW Unit, w.ownsMap Try.prog 3 (unitElem (H := Unit)) b n D ∧ ∀ x, in64 x → Maps.has D (.int .i64 x) = decide (x ∈ S)
theorem SetF.lt {w : World} {b n : Nat} {S : List Int} (h : SetF w b n S) : b < w.heap.size := by obtain ⟨D, h, -⟩ := h; exact h.lt
theorem SetF.kept {w w' : World} {b n : Nat} {S : List Int} (h : SetF w b n S) {row : Option Nat} (hg : w.grownBy w' row) (hne : some b ≠ row) : SetF w' b n S := by
  obtain ⟨D, h, h2⟩ := h; exact ⟨D, h.kept hg hne, h2⟩
theorem SetF.below {w w' : World} {b n B : Nat} {S : List Int} (h : SetF w b n S) (hb : Below B w w') (hB : b < B) : SetF w' b n S := by
  obtain ⟨D, ⟨es, clock, h1, h2⟩, h3⟩ := h
  exact ⟨D, ⟨es, clock, by rw [hb.block b hB]; exact h1, h2⟩, h3⟩
theorem SetF.made (w : World) : SetF (w.alloc (.map #[] 0)) w.heap.size 0 [] := ⟨.map [], World.ownsMap_made _ _ _ _, fun _ _ => rfl⟩

theorem wpList_ask {w : World} {ops : Array Oper} {rest : List Oper} {o : Oper} {a : Act} {Q : Exit → Act → World → Prop} (hg : o.guard = none) (m x : Operand) (hop : o.op = Op.lookup 41 m x true)
    (b n : Nat) (S : List Int) (hm : a.eval m = .map (some b)) (hf : SetF w b n S) (k : Int) (hk : in64 k) (hx : a.eval x = .int .i64 k) (hK : wpList Try.prog ops Q rest (a.put o.dst (.tuple #[.agg #[], .bool (decide (k ∈ S))])) w) : wpList Try.prog ops Q (o :: rest) a w := by
  obtain ⟨D, h1, h2⟩ := hf
  refine wpList_lookup_own_unit w hg m x 41 hop 3 42 keyI Try.underlying41 (Try.zeroValue42 w) b n D hm h1 _ _ hx (key_of hk) ?_
  rw [h2 k hk]
  exact hK
theorem wpList_add {w : World} {ops : Array Oper} {rest : List Oper} {o : Oper} {a : Act} {Q : Exit → Act → World → Prop} (hg : o.guard = none) (m x v : Operand) (hop : o.op = Op.mapUpdate 41 m x v)
    (b n : Nat) (S : List Int) (hm : a.eval m = .map (some b)) (hf : SetF w b n S) (hn : n < maxLen) (k : Int) (hk : in64 k) (hx : a.eval x = .int .i64 k) (hv : a.eval v = .agg #[])
    (hK : ∀ w', SetF w' b (n + 1) (k :: S) → w.grownBy w' (some b) → wpList Try.prog ops Q rest (a.put o.dst undef) w') : wpList Try.prog ops Q (o :: rest) a w := by
  obtain ⟨D, h1, h2⟩ := hf
  refine wpList_mapUpdate_own w hg m x v 41 hop 3 42 keyI Try.underlying41 (unitElem (H := Unit)) b n D hm h1 hn _ _ _ hx hv (key_of hk) _ _ unitElem_mk ?_
  intro w' h3 h4
  refine hK w' ⟨_, h3, fun z hz => ?_⟩ h4
  have h5 := h2 z hz
  by_cases e : z = k
  · subst e
    rw [decide_eq_true (List.mem_cons_self ..)]
    exact Maps.has_put_same h1.isMap (by simp [WideAt.IsKeyLit]) _
  · rw [show decide (z ∈ k :: S) = decide (z ∈ S) by simp [e], ← h5]
    exact Maps.has_put_other (by simp [e]) _

set_option maxRecDepth 100000 in
set_option maxHeartbeats 1000000 in
theorem first_any (v : Tm.Vt) (mb bm n : Nat) (S : List Int) (w : World) (hv : in64 v.o) (hn : n < maxLen) (hc : w.cell? ⟨mb, 0, none⟩ = some (.map (some bm))) (hf : SetF w bm n S) :
    Calls Try.prog 19 #[.agg (vv v).toArray, .pointer (some ⟨mb, 0, none⟩)] w fun e w' => e = .returned (.bool (!decide (v.o ∈ S))) ∧ SetF w' bm (n + 1) (v.o :: S) ∧ w.grownBy w' (some bm) := by
  have HB := Lib.hid (Bxs.start w)
  have HC := Lib.hid hc
  have HF := Lib.hid hf
  have HV := Lib.hid hv
  have HL := Lib.hid hf.lt
  have HN := Lib.hid hn
  clear hc hf hv hn
  obtain ⟨o, u, a⟩ := v
  dsimp only [vv] at *
  have HA : Hid (∀ (W : World) (ops : Array Oper) (rest : List Oper) (op : Oper) (a : Act) (Q : Exit → Act → World → Prop), op.guard = none → ∀ (m x : Operand), op.op = Op.lookup 41 m x true → a.eval m = .map (some bm) → SetF W bm n S → a.eval x = .int .i64 o → wpList Try.prog ops Q rest (a.put op.dst (.tuple #[.agg #[], .bool (decide (o ∈ S))])) W → wpList Try.prog ops Q (op :: rest) a W) :=
    Lib.hid (fun W ops rest op a Q hg m x hop hm hf hx hK => wpList_ask hg m x hop bm n S hm hf o HV.out hx hK)
  generalize decide (o ∈ S) = c at *
  go_enter Try.func19, Try.ntmps19
  go_wp2_with (first | (at_lookup; refine HA.out _ _ _ _ _ _ rfl _ _ rfl rfl (HF.out.below HB.out.below HL.out) rfl ?_) | (at_mapUpdate; refine wpList_add rfl _ _ _ rfl bm n S rfl (HF.out.below HB.out.below HL.out) HN.out _ HV.out rfl rfl ?_; intro w9 hs9 hg9; have HS9 := Lib.hid hs9; have HG9 := Lib.hid hg9; clear hs9 hg9) | (first | ((with_reducible refine Kx.absorb HB ?_); clear HB; intro w_ HB) | ((with_reducible refine Kx.box_gate ?_); first | (refine Kx.wpList_boxa_x HB rfl _ _ rfl _ rfl ?_; clear HB; intro b_ w_ HB; refine Kx.framed ?_ (by simp only [Act.put, List.setIfInBounds_toArray, List.set_cons_succ, List.set_cons_zero] <;> rfl)) | (refine Kx.wpList_boxt_x HB rfl _ _ rfl _ rfl rfl ?_; clear HB; intro b_ w_ HB; refine Kx.framed ?_ (by simp only [Act.put, List.setIfInBounds_toArray, List.set_cons_succ, List.set_cons_zero] <;> rfl)) | (refine Kx.wpList_box1_x HB rfl _ _ rfl _ rfl rfl ?_; clear HB; intro b_ w_ HB; refine Kx.framed ?_ (by simp only [Act.put, List.setIfInBounds_toArray, List.set_cons_succ, List.set_cons_zero] <;> rfl))) | ((with_reducible refine Kx.alloc_gate ?_); first | (refine Kx.wpList_alloca_x HB rfl _ rfl _ (Try.zeroValue25 _) ?_; clear HB; intro b_ w_ HB; refine Kx.framed ?_ (by simp only [Act.put, List.setIfInBounds_toArray, List.set_cons_succ, List.set_cons_zero] <;> rfl)) | (refine Kx.wpList_alloca_x HB rfl _ rfl _ (Try.zeroValue42 _) ?_; clear HB; intro b_ w_ HB; refine Kx.framed ?_ (by simp only [Act.put, List.setIfInBounds_toArray, List.set_cons_succ, List.set_cons_zero] <;> rfl)) | (refine Kx.wpList_alloc1_x HB rfl _ rfl _ (Try.zeroValue3 _) rfl ?_; clear HB; intro b_ w_ HB; refine Kx.framed ?_ (by simp only [Act.put, List.setIfInBounds_toArray, List.set_cons_succ, List.set_cons_zero] <;> rfl)) | (refine Kx.wpList_alloc1_x HB rfl _ rfl _ (Try.zeroValue4 _) rfl ?_; clear HB; intro b_ w_ HB; refine Kx.framed ?_ (by simp only [Act.put, List.setIfInBounds_toArray, List.set_cons_succ, List.set_cons_zero] <;> rfl)) | (refine Kx.wpList_alloc1_x HB rfl _ rfl _ (Try.zeroValue41 _) rfl ?_; clear HB; intro b_ w_ HB; refine Kx.framed ?_ (by simp only [Act.put, List.setIfInBounds_toArray, List.set_cons_succ, List.set_cons_zero] <;> rfl))) | ((with_reducible refine Kx.loads_gate ?_); first | (refine Kx.wpList_load1_x HB rfl _ _ rfl _ rfl _ (Try.isAgg3 _) _ rfl (Kx.framed ?_ (by simp only [Act.put, List.setIfInBounds_toArray, List.set_cons_succ, List.set_cons_zero] <;> rfl))) | (refine Kx.wpList_load1_x HB rfl _ _ rfl _ rfl _ (Try.isAgg4 _) _ rfl (Kx.framed ?_ (by simp only [Act.put, List.setIfInBounds_toArray, List.set_cons_succ, List.set_cons_zero] <;> rfl))) | (refine Kx.wpList_load1_x HB rfl _ _ rfl _ rfl _ (Try.isAgg41 _) _ rfl (Kx.framed ?_ (by simp only [Act.put, List.setIfInBounds_toArray, List.set_cons_succ, List.set_cons_zero] <;> rfl))) | (refine Kx.wpList_load_x HB rfl _ _ rfl _ rfl _ _ (Try.isAgg25 _) (Try.sizeOf25 _) _ (by first | exact Kx.whole (by rfl) | (simp <;> rfl)) (by rfl) (Kx.framed ?_ (by simp only [Act.put, List.setIfInBounds_toArray, List.set_cons_succ, List.set_cons_zero] <;> rfl))) | (refine Kx.wpList_load_x HB rfl _ _ rfl _ rfl _ _ (Try.isAgg42 _) (Try.sizeOf42 _) _ (by first | exact Kx.whole (by rfl) | (simp <;> rfl)) (by rfl) (Kx.framed ?_ (by simp only [Act.put, List.setIfInBounds_toArray, List.set_cons_succ, List.set_cons_zero] <;> rfl))) | (refine Kx.wpList_old_x HB rfl _ _ rfl _ rfl (Try.isAgg3 _) _ HC.out (Kx.framed ?_ (by simp only [Act.put, List.setIfInBounds_toArray, List.set_cons_succ, List.set_cons_zero] <;> rfl))) | (refine Kx.wpList_old_x HB rfl _ _ rfl _ rfl (Try.isAgg4 _) _ HC.out (Kx.framed ?_ (by simp only [Act.put, List.setIfInBounds_toArray, List.set_cons_succ, List.set_cons_zero] <;> rfl))) | (refine Kx.wpList_old_x HB rfl _ _ rfl _ rfl (Try.isAgg41 _) _ HC.out (Kx.framed ?_ (by simp only [Act.put, List.setIfInBounds_toArray, List.set_cons_succ, List.set_cons_zero] <;> rfl)))) | ((with_reducible refine Kx.loadg_gate ?_); first | (refine Kx.wpList_loadg_x HB _ _ rfl _ rfl _ (Try.isAgg3 _) _ rfl rfl (Kx.framed ?_ (by simp only [Act.put, List.setIfInBounds_toArray, List.set_cons_succ, List.set_cons_zero] <;> rfl))) | (refine Kx.wpList_loadg_x HB _ _ rfl _ rfl _ (Try.isAgg4 _) _ rfl rfl (Kx.framed ?_ (by simp only [Act.put, List.setIfInBounds_toArray, List.set_cons_succ, List.set_cons_zero] <;> rfl))) | (refine Kx.wpList_loadg_x HB _ _ rfl _ rfl _ (Try.isAgg41 _) _ rfl rfl (Kx.framed ?_ (by simp only [Act.put, List.setIfInBounds_toArray, List.set_cons_succ, List.set_cons_zero] <;> rfl))) | (refine Kx.wpList_loadga_x HB _ _ rfl _ rfl _ _ (Try.isAgg25 _) (Try.sizeOf25 _) _ (by first | exact Kx.whole (by rfl) | (simp <;> rfl)) (by rfl) rfl (Kx.framed ?_ (by simp only [Act.put, List.setIfInBounds_toArray, List.set_cons_succ, List.set_cons_zero] <;> rfl))) | (refine Kx.wpList_loadga_x HB _ _ rfl _ rfl _ _ (Try.isAgg42 _) (Try.sizeOf42 _) _ (by first | exact Kx.whole (by rfl) | (simp <;> rfl)) (by rfl) rfl (Kx.framed ?_ (by simp only [Act.put, List.setIfInBounds_toArray, List.set_cons_succ, List.set_cons_zero] <;> rfl))) | (refine Kx.wpList_oldg_x HB _ _ rfl _ rfl (Try.isAgg3 _) _ HC.out rfl (Kx.framed ?_ (by simp only [Act.put, List.setIfInBounds_toArray, List.set_cons_succ, List.set_cons_zero] <;> rfl))) | (refine Kx.wpList_oldg_x HB _ _ rfl _ rfl (Try.isAgg4 _) _ HC.out rfl (Kx.framed ?_ (by simp only [Act.put, List.setIfInBounds_toArray, List.set_cons_succ, List.set_cons_zero] <;> rfl))) | (refine Kx.wpList_oldg_x HB _ _ rfl _ rfl (Try.isAgg41 _) _ HC.out rfl (Kx.framed ?_ (by simp only [Act.put, List.setIfInBounds_toArray, List.set_cons_succ, List.set_cons_zero] <;> rfl)))) | ((with_reducible refine Kx.store_gate ?_); first | (refine Kx.wpList_storewa_x HB rfl rfl _ _ _ rfl _ rfl _ rfl _ (by rfl) (by simp <;> rfl) (by rfl) ?_; clear HB; intro w_ HB) | (refine Kx.wpList_storea_x HB rfl rfl _ _ _ rfl _ rfl _ rfl _ _ (by simp [Kx.splice] <;> rfl) (by simp) (by simp <;> rfl) (by rfl) ?_; clear HB; intro w_ HB) | (refine Kx.wpList_storec_x HB rfl rfl _ _ _ rfl _ rfl rfl _ _ (by simp <;> rfl) (by simp) (by simp <;> rfl) ?_; clear HB; intro w_ HB) | (refine Kx.wpList_storet_x HB rfl rfl _ _ _ rfl _ rfl _ rfl rfl _ _ (by simp <;> rfl) (by simp) (by simp <;> rfl) ?_; clear HB; intro w_ HB) | (refine Kx.wpList_store1_x HB rfl rfl _ _ _ rfl _ rfl _ rfl rfl _ _ (by simp <;> rfl) (by simp) (by simp <;> rfl) ?_; clear HB; intro w_ HB))))
  go_ret
  exact ⟨rfl, HS9.out, (grown_of_below HB.out.below (some bm)).trans HG9.out⟩
end Go.Proofs.Ytpchkhphpcopkaa
