/- A plan in memory, as one thing; what the policy's calls answer, told of the plain model. -/
import Derived.Test.YtbkdenlhfigjhaaDoorGa
import Derived.Deep.CutBlock
import Derived.Deep.DeepCutAuto
import Derived.Test.YtbkdenlhfigjhaaDoorKX
namespace Go.Proofs.YtbkdenlhfigjhaaDoor
open Go.RowKit Go.Shelf Km Kx Kc Kt

structure Pt where
  x : Gm.Pl
  A : Option Addr
  n : Nat
  c : Nat
  A' : Option Addr
  n' : Nat
  c' : Nat
def Pt.cells (p : Pt) : List Value := pc p.x p.A p.n p.c p.A' p.n' p.c'
theorem Pt.cells_len (p : Pt) : p.cells.length = 12 := rfl
theorem Pt.cells_one (p : Pt) : ∀ u ∈ p.cells, u.oneCell' = true := fun u hu => by
  unfold Pt.cells pc at hu
  simp only [List.mem_cons, List.not_mem_nil, or_false] at hu
  rcases hu with rfl | rfl | rfl | rfl | rfl | rfl | rfl | rfl | rfl | rfl | rfl | rfl <;> rfl
/-- its two lists -/
def Pt.fz (p : Pt) : Fz := [(p.A, i64s p.x.pen), (p.A', i64s p.x.ch)]
structure Pt.Ok (p : Pt) : Prop where
  ok : p.x.Ok
  n : p.x.pen.length = p.n
  n' : p.x.ch.length = p.n'
  k' : p.n' ≤ p.c'
theorem Pt.Ok.at {p : Pt} (h : p.Ok) {w : World} {B : Nat} (h1 : Rd w B p.A (i64s p.x.pen)) (h2 : Rd w B p.A' (i64s p.x.ch)) : PAt w B p.x p.A p.n p.c p.A' p.n' p.c' := ⟨h.ok, h1, h2, h.k', h.n, h.n'⟩
theorem Pt.Ok.stays {p : Pt} (h : p.Ok) {w0 w : World} {l : List (Nat × List Value)} {r : List Rw} {F : Fz} (hB : Bxs w0 w l r F) (hs : ∀ q ∈ p.fz, q ∈ F) : PAt w w.heap.size p.x p.A p.n p.c p.A' p.n' p.c' :=
  h.at (hB.stayRdM (hs _ (List.mem_cons_self ..))) (hB.stayRdM (hs _ (List.mem_cons_of_mem _ (List.mem_cons_self ..))))
/-- all lists of some plans -/
def fzs (ps : List Pt) : Fz := ps.flatMap Pt.fz
theorem fzs_in {ps : List Pt} {p : Pt} (h : p ∈ ps) : ∀ q ∈ p.fz, q ∈ fzs ps := fun _ hq => List.mem_flatMap.2 ⟨p, h, hq⟩
theorem fzs_snoc (ps : List Pt) (p : Pt) : ∀ q ∈ fzs (ps ++ [p]), q ∈ p.fz ++ fzs ps := fun _ hq => by
  unfold fzs at hq
  rw [List.flatMap_append, List.mem_append] at hq
  rw [List.mem_append]
  rcases hq with h | h
  · exact .inr h
  · exact .inl (by simpa using h)
def noPt : Pt := ⟨noPlan, none, 0, 0, none, 0, 0⟩

/-! the config of the plain model -/
def gc (c : Cf) (xs : List Int) : Gm.Gc := ⟨c.targets.toNat, xs, c.dwell, c.d, c.w, c.b.toNat, c.hit, c.suppress, c.reuse, c.half, c.first, c.step, c.stepTime⟩
theorem ConfP.gok {c : Cf} {xs : List Int} (h : ConfP c xs) (hl : xs.length = c.tn) : (gc c xs).Ok := by
  have h1 := h.targets
  have h2 := h.n
  have h3 := h.b
  have h4 := h.reuse
  refine ⟨?_, ?_, h.dwell, h.d, h.w, ?_, h.hit, h.suppress, ?_, h.half, h.first, h.step, h.stepTime⟩
  · show 1 ≤ c.targets.toNat ∧ c.targets.toNat ≤ 16; omega
  · show xs.length = c.targets.toNat; omega
  · show 1 ≤ c.b.toNat ∧ c.b.toNat ≤ 8; omega
  · show 0 ≤ c.reuse ∧ c.reuse < c.suppress; omega
theorem pow_fit {N : Nat} (hN : N ≤ 16) : (2 : Int) ^ N ≤ 65536 := by
  have : (2 : Nat) ^ N ≤ 2 ^ 16 := Nat.pow_le_pow_right (by decide) hN
  have h2 : ((2 ^ N : Nat) : Int) ≤ ((2 ^ 16 : Nat) : Int) := Int.ofNat_le.2 this
  simpa using h2
theorem fits_iff {c : Cf} {xs : List Int} (hc : ConfP c xs) {x : Gm.Pl} (ho : x.Ok) : FitsP c.targets.toNat c.b.toNat x ↔ Gm.Fits (gc c xs) x := by
  have hN := hc.targets
  have hb := hc.b
  have hpow : (0 : Int) < 2 ^ c.targets.toNat := Int.pow_pos (by decide)
  have hp16 := pow_fit (N := c.targets.toNat) (by omega)
  have hdiv : ∀ u : Int, 0 ≤ u → (u / 2 ^ c.targets.toNat = 0 ↔ u < 2 ^ c.targets.toNat) := fun u hu =>
    ⟨fun h => by
      have h1 := Int.lt_ediv_add_one_mul_self u hpow
      rw [h] at h1
      omega, fun h => Int.ediv_eq_zero_of_lt hu h⟩
  constructor
  · intro h
    refine ⟨h.r.e, ⟨h.r.t1, h.t⟩, ⟨h.r.p1, h.p⟩, ⟨h.r.s1, h.s⟩, ⟨h.r.c1, h.r.c2⟩, h.r.st, h.r.si, h.r.ra, ⟨ho.up.1, (hdiv _ ho.up.1).1 h.up⟩, ⟨ho.su.1, (hdiv _ ho.su.1).1 h.su⟩, ⟨h.n, h.r.pen⟩, ⟨h.b, h.r.ch⟩, h.r.sd⟩
  · intro h
    have ht : x.t < ((c.targets.toNat : Nat) : Int) := h.t.2
    have hp : x.p < ((c.targets.toNat : Nat) : Int) := h.p.2
    have hs : x.s < ((c.targets.toNat : Nat) : Int) := h.s.2
    have hu : x.up < 2 ^ c.targets.toNat := h.up.2
    have hv : x.su < 2 ^ c.targets.toNat := h.su.2
    have hn : x.pen.length = c.targets.toNat := h.pen.1
    have hch : x.ch.length ≤ c.b.toNat := h.ch.1
    exact ⟨⟨h.e, h.t.1, by omega, h.p.1, by omega, h.s.1, by omega, h.per.1, h.per.2, h.st, h.si, h.ra, by omega, by omega, by omega, by omega, h.pen.2, h.ch.2, h.sd⟩, hn, ht, hp, hs, (hdiv _ ho.up.1).2 hu, (hdiv _ ho.su.1).2 hv, hch⟩
theorem fits_num {c : Cf} {xs : List Int} (hc : ConfP c xs) {x : Gm.Pl} (h : Gm.Fits (gc c xs) x) (he : x.e ≤ 9223372036854775807) : x.Ok := by
  have hN := hc.targets
  have hp16 := pow_fit (N := c.targets.toNat) (by omega)
  have ht : -1 ≤ x.t ∧ x.t < ((c.targets.toNat : Nat) : Int) := h.t
  have hp : -1 ≤ x.p ∧ x.p < ((c.targets.toNat : Nat) : Int) := h.p
  have hs : -1 ≤ x.s ∧ x.s < ((c.targets.toNat : Nat) : Int) := h.s
  have hu : 0 ≤ x.up ∧ x.up < 2 ^ c.targets.toNat := h.up
  have hv : 0 ≤ x.su ∧ x.su < 2 ^ c.targets.toNat := h.su
  have h1 := h.e
  have h2 := h.per
  have h3 : 0 ≤ x.st ∧ x.st ≤ 1099511627776 := h.st
  have h4 : 0 ≤ x.si ∧ x.si ≤ 1099511627776 := h.si
  have h5 : 0 ≤ x.ra ∧ x.ra ≤ 1099511627776 := h.ra
  refine ⟨⟨by omega, by omega⟩, ⟨by omega, by omega⟩, ⟨by omega, by omega⟩, ⟨by omega, by omega⟩, ⟨by omega, by omega⟩, ⟨by omega, by omega⟩, ⟨by omega, by omega⟩, ⟨by omega, by omega⟩, ⟨by omega, by omega⟩, ⟨by omega, by omega⟩, fun v hv => ?_, fun v hv => ?_⟩
  · have := h.pen.2 v hv; constructor <;> omega
  · have : 0 ≤ v ∧ v ≤ 1099511627776 := h.ch.2 v hv; constructor <;> omega

theorem few {c : Cf} {xs : List Int} (hc : ConfP c xs) {p : Pt} (ho : p.Ok) (hf : Gm.Fits (gc c xs) p.x) : p.n ≤ 1000 ∧ p.n' ≤ 1000 := by
  have h3 := hc.targets
  have h4 := hc.b
  have h5 : p.x.pen.length = c.targets.toNat := hf.pen.1
  have h6 : p.x.ch.length ≤ c.b.toNat := hf.ch.1
  rw [ho.n] at h5
  rw [ho.n'] at h6
  omega

/-! what is told -/
open Classical in
/-- the plan that is told, if any -/
noncomputable def tell (c : Cf) (xs : List Int) (p : Gm.Pl) (up : Nat) (now : Int) : Option Gm.Pl :=
  if ConfP c xs ∧ FitsP c.targets.toNat c.b.toNat p ∧ p.e < 4611686018427387904 then Gm.next (gc c xs) p up now else none
theorem tell_next {c : Cf} {xs : List Int} {p : Gm.Pl} {up : Nat} {now : Int} (hc : ConfP c xs) (hp : Gm.Fits (gc c xs) p) (ho : p.Ok) (he : p.e < 4611686018427387904) : tell c xs p up now = Gm.next (gc c xs) p up now := if_pos ⟨hc, (fits_iff hc ho).2 hp, he⟩
/-- Next's answer -/
def NextSays (W : World) (c : Cf) (xs : List Int) (p : Pt) (up : Nat) (now : Int) (e : Ending) (W' : World) : Prop :=
  ∃ (q : Pt) (b : Bool), e = .returned (.tuple #[.agg q.cells.toArray, .bool b]) ∧ Below W.heap.size W W' ∧ New W W' p.fz q.A (i64s q.x.pen) ∧ New W W' p.fz q.A' (i64s q.x.ch) ∧ q.Ok ∧
    (b = true → tell c xs p.x up now = some q.x) ∧ (b = false → tell c xs p.x up now = none ∧ q.x = noPlan)
/-- Zero's answer -/
def ZeroSays (W : World) (c : Cf) (xs : List Int) (e : Ending) (W' : World) : Prop :=
  ∃ (q : Pt), e = .returned (.agg q.cells.toArray) ∧ Below W.heap.size W W' ∧ New W W' [] q.A (i64s q.x.pen) ∧ New W W' [] q.A' (i64s q.x.ch) ∧ q.Ok ∧ (ConfP c xs → q.x = Gm.zero (gc c xs)) ∧ (¬ ConfP c xs → q.x = noPlan)
end Go.Proofs.YtbkdenlhfigjhaaDoor
