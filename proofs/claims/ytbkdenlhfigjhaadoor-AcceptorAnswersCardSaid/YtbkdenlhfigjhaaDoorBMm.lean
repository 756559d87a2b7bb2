/- The plain model of messages: what is right, their bytes, what is read of bytes. No program in it. -/
import Derived.Test.YtbkdenlhfigjhaaDoorBF
import Derived.Test.YtbkdenlhfigjhaaDoorBPm
namespace Go.Proofs.YtbkdenlhfigjhaaDoor.Mm
open Go.RowKit

/-- a message: ten numbers, whether it has a plan, the plan, three numbers or none, two texts -/
structure Ms where
  k : Int
  f : Int
  t : Int
  e : Int
  b : Int
  a : Int
  n : Int
  ti : Int
  up : Int
  co : Int
  has : Bool
  plan : Pm.Pl
  id : List Int
  se : List Int
  pa : List Int
  deriving DecidableEq

/-- its numbers are what their types hold -/
structure Ms.Ok (x : Ms) : Prop where
  k : Pm.I x.k
  f : Pm.I x.f
  t : Pm.I x.t
  e : Pm.I x.e
  b : Pm.I x.b
  a : Pm.I x.a
  n : Pm.I x.n
  ti : Pm.I x.ti
  up : Pm.U x.up
  co : Pm.I x.co
  plan : x.plan.Ok
  id : Wm.Fits x.id
  se : Fm.By x.se
  pa : Fm.By x.pa

def one (h : Bool) : Int := if h then 1 else 0
def Ms.nums (x : Ms) : List Int := [x.f, x.t, x.e, x.b, x.a, x.n, x.ti, Pm.sg x.up, x.co, one x.has]
theorem nums_len (x : Ms) : x.nums.length = 10 := rfl
theorem one_fit (h : Bool) : Pm.I (one h) := by cases h <;> exact ⟨by decide, by decide⟩
theorem Ms.nums_fit {x : Ms} (h : x.Ok) : Wm.Fits x.nums := by
  intro n hn
  have h1 := Pm.sg_fit h.up
  have h2 := one_fit x.has
  simp only [Ms.nums, List.mem_cons, List.not_mem_nil, or_false] at hn
  rcases hn with rfl | rfl | rfl | rfl | rfl | rfl | rfl | rfl | rfl | rfl
  · exact h.f
  · exact h.t
  · exact h.e
  · exact h.b
  · exact h.a
  · exact h.n
  · exact h.ti
  · exact h1
  · exact h.co
  · exact h2

noncomputable def Ms.pright (x : Ms) : Bool := if x.has then x.plan.right else Pm.same x.plan Pm.zero
def Nd (n : Int) : Prop := 0 ≤ n ∧ n ≤ 255
def Rt (x : Ms) : Prop := 1 ≤ x.k ∧ x.k ≤ 19 ∧ Nd x.f ∧ Nd x.t ∧ x.up ≤ 65535 ∧ 0 ≤ x.co ∧ x.co ≤ 1000 ∧ x.pright = true ∧ (x.id.length = 0 ∨ x.id.length = 3) ∧ x.se.length ≤ 64 ∧ x.pa.length ≤ 1024
noncomputable def Ms.right (x : Ms) : Bool := Pm.ask (Rt x)
theorem right_iff {x : Ms} : x.right = true ↔ Rt x := ⟨fun h => Classical.byContradiction (fun g => by rw [Ms.right, Pm.ask_no g] at h; cases h), fun h => Pm.ask_yes h⟩

theorem notB {q : Prop} [Decidable q] (h : decide q = !true) : ¬ q := by simpa using h
theorem no_of {x : Ms} (h : ¬ Rt x) : x.right = false := Pm.ask_no h
theorem no_k1 {x : Ms} (h : decide (1 ≤ x.k) = !true) : x.right = false := no_of fun r => notB h r.1
theorem no_k2 {x : Ms} (h : decide (x.k ≤ 19) = !true) : x.right = false := no_of fun r => notB h r.2.1
theorem no_f {x : Ms} (h : Pm.ask (Nd x.f) = !true) : x.right = false := no_of fun r => by rw [Pm.ask_yes r.2.2.1] at h; cases h
theorem no_t {x : Ms} (h : Pm.ask (Nd x.t) = !true) : x.right = false := no_of fun r => by rw [Pm.ask_yes r.2.2.2.1] at h; cases h
theorem no_up {x : Ms} (hu : Pm.U x.up) (h : (x.up / 65536 == 0) = !true) : x.right = false := no_of fun r => by
  have h1 := r.2.2.2.2.1
  have h2 : x.up / 65536 ≠ 0 := by simpa using h
  have h3 := hu.1
  omega
theorem no_c1 {x : Ms} (h : decide (0 ≤ x.co) = !true) : x.right = false := no_of fun r => notB h r.2.2.2.2.2.1
theorem no_c2 {x : Ms} (h : decide (x.co ≤ 1000) = !true) : x.right = false := no_of fun r => notB h r.2.2.2.2.2.2.1
theorem no_pr {x : Ms} (h : x.pright = !true) : x.right = false := no_of fun r => by rw [r.2.2.2.2.2.2.2.1] at h; cases h
theorem no_id {x : Ms} (h0 : x.id.length ≠ 0) (h3 : x.id.length ≠ 3) : x.right = false := no_of fun r => by have := r.2.2.2.2.2.2.2.2.1; omega
theorem no_se {x : Ms} {n : Nat} (hn : x.se.length = n) (h : decide ((n : Int) ≤ 64) = !true) : x.right = false := no_of fun r => notB h (by have := r.2.2.2.2.2.2.2.2.2.1; omega)
theorem no_pa {x : Ms} {n : Nat} (hn : x.pa.length = n) (h : decide ((n : Int) ≤ 1024) = !true) : x.right = false := no_of fun r => notB h (by have := r.2.2.2.2.2.2.2.2.2.2; omega)
theorem right_pa {x : Ms} {n m : Nat} (hu : Pm.U x.up) (hn : x.se.length = n) (hm : x.pa.length = m) (a1 : decide (1 ≤ x.k) = true) (a2 : decide (x.k ≤ 19) = true) (a3 : Pm.ask (Nd x.f) = true) (a4 : Pm.ask (Nd x.t) = true) (a5 : (x.up / 65536 == 0) = true)
    (a6 : decide (0 ≤ x.co) = true) (a7 : decide (x.co ≤ 1000) = true) (a8 : x.pright = true) (a9 : x.id.length = 0 ∨ x.id.length = 3) (a10 : decide ((n : Int) ≤ 64) = true) : x.right = decide ((m : Int) ≤ 1024) := by
  have b5 : x.up / 65536 = 0 := by simpa using a5
  unfold Pm.U at hu
  have yes : ∀ q, Pm.ask q = true → q := fun q h => Classical.byContradiction fun g => by rw [Pm.ask_no g] at h; cases h
  have b10 := of_decide_eq_true a10
  by_cases h : (m : Int) ≤ 1024
  · rw [decide_eq_true h]
    exact right_iff.2 ⟨of_decide_eq_true a1, of_decide_eq_true a2, yes _ a3, yes _ a4, by omega, of_decide_eq_true a6, of_decide_eq_true a7, a8, a9, by omega, by omega⟩
  · rw [decide_eq_false h]
    exact no_of fun r => by have := r.2.2.2.2.2.2.2.2.2.2; omega

theorem yesB {q : Prop} [Decidable q] (h : decide q = !false) : q := by simpa using h
theorem offB {q : Prop} [Decidable q] (h : decide q = false) : ¬ q := of_decide_eq_false h
theorem on_k1 {x : Ms} (h : decide (x.k < 1) = !false) : x.right = false := no_of fun r => by have := yesB h; have := r.1; omega
theorem on_k2 {x : Ms} (h : decide (19 < x.k) = !false) : x.right = false := no_of fun r => by have := yesB h; have := r.2.1; omega
theorem on_f1 {x : Ms} (h : decide (x.f < 0) = !false) : x.right = false := no_of fun r => by have := yesB h; have := r.2.2.1.1; omega
theorem on_f2 {x : Ms} (h : decide (255 < x.f) = !false) : x.right = false := no_of fun r => by have := yesB h; have := r.2.2.1.2; omega
theorem on_t1 {x : Ms} (h : decide (x.t < 0) = !false) : x.right = false := no_of fun r => by have := yesB h; have := r.2.2.2.1.1; omega
theorem on_t2 {x : Ms} (h : decide (255 < x.t) = !false) : x.right = false := no_of fun r => by have := yesB h; have := r.2.2.2.1.2; omega
theorem on_up {x : Ms} (h : decide (65535 < x.up) = !false) : x.right = false := no_of fun r => by have := yesB h; have := r.2.2.2.2.1; omega
theorem on_c1 {x : Ms} (h : decide (x.co < 0) = !false) : x.right = false := no_of fun r => by have := yesB h; have := r.2.2.2.2.2.1; omega
theorem on_c2 {x : Ms} (h : 1000 < x.co) : x.right = false := no_of fun r => by have := r.2.2.2.2.2.2.1; omega
theorem on_se {x : Ms} {n : Nat} (hn : x.se.length = n) (h : decide (64 < (n : Int)) = !false) : x.right = false := no_of fun r => by have := yesB h; have := r.2.2.2.2.2.2.2.2.2.1; omega
theorem on_pa {x : Ms} {n : Nat} (hn : x.pa.length = n) (h : 1024 < (n : Int)) : x.right = false := no_of fun r => by have := r.2.2.2.2.2.2.2.2.2.2; omega
theorem right_pr {x : Ms} {n m : Nat} (hn : x.se.length = n) (hm : x.pa.length = m) (a1 : decide (x.k < 1) = false) (a2 : decide (19 < x.k) = false) (a3 : decide (x.f < 0) = false) (a4 : decide (255 < x.f) = false) (a5 : decide (x.t < 0) = false) (a6 : decide (255 < x.t) = false)
    (a7 : decide (65535 < x.up) = false) (a8 : decide (x.co < 0) = false) (a9 : ¬ 1000 < x.co) (a10 : x.id.length = 0 ∨ x.id.length = 3) (a11 : decide (64 < (n : Int)) = false) (a12 : ¬ 1024 < (m : Int)) : x.right = x.pright := by
  have b1 := offB a1
  have b2 := offB a2
  have b3 := offB a3
  have b4 := offB a4
  have b5 := offB a5
  have b6 := offB a6
  have b7 := offB a7
  have b8 := offB a8
  have b11 := offB a11
  cases hp : x.pright with
  | true => exact right_iff.2 ⟨by omega, by omega, ⟨by omega, by omega⟩, ⟨by omega, by omega⟩, by omega, by omega, by omega, hp, a10, by omega, by omega⟩
  | false => exact no_of fun r => by rw [r.2.2.2.2.2.2.2.1] at hp; cases hp

/-- its body -/
noncomputable def Ms.ptx (x : Ms) : List Int := if x.has then Wm.ptext x.plan.put.1 else []
noncomputable def Ms.body (x : Ms) : List Int := Wm.pintsU x.nums x.nums.length ++ (x.ptx ++ (Wm.pintsU x.id x.id.length ++ (Wm.ptext x.se ++ Wm.ptext x.pa)))
noncomputable def Ms.bodyE (x : Ms) : Int × List Int × Int := if x.right = true then (x.k, x.body, 0) else (0, [], 51)
noncomputable def Ms.put (x : Ms) : List Int × Int := if x.right = true then (Fm.frm x.k x.body, 0) else ([], 51)
theorem put_ok {x : Ms} (h : x.right = true) : x.put = (Fm.frm x.k x.body, 0) := by unfold Ms.put; rw [if_pos h]
theorem put_no {x : Ms} (h : x.right = false) : x.put = ([], 51) := by unfold Ms.put; rw [if_neg (by rw [h]; decide)]
theorem bodyE_ok {x : Ms} (h : x.right = true) : x.bodyE = (x.k, x.body, 0) := by unfold Ms.bodyE; rw [if_pos h]
theorem bodyE_no {x : Ms} (h : x.right = false) : x.bodyE = (0, [], 51) := by unfold Ms.bodyE; rw [if_neg (by rw [h]; decide)]

theorem ptx_len (x : Ms) : x.ptx.length ≤ 2010 := by
  unfold Ms.ptx
  split
  · have h1 := Wm.ptext_len x.plan.put.1
    have h2 := Pm.put_len (x := x.plan)
    omega
  · exact Nat.zero_le _
theorem body_len {x : Ms} (h : x.right = true) : x.body.length ≤ 8192 := by
  obtain ⟨-, -, -, -, -, -, -, -, hi, hs, hp⟩ := right_iff.1 h
  have h1 := Wm.pintsU_len x.nums x.nums.length
  have h2 := Wm.pintsU_len x.id x.id.length
  have h3 := Wm.ptext_len x.se
  have h4 := Wm.ptext_len x.pa
  have h5 := ptx_len x
  have h6 := nums_len x
  unfold Ms.body
  simp only [List.length_append]
  omega
theorem ptx_by {x : Ms} (hx : x.Ok) : Fm.By x.ptx := by
  unfold Ms.ptx
  split
  · exact Wm.ptext_byte (by have := Pm.put_len (x := x.plan); omega) (Pm.put_byte hx.plan)
  · exact Fm.By.nil
theorem body_by {x : Ms} (hx : x.Ok) (h : x.right = true) : Fm.By x.body := by
  obtain ⟨-, -, -, -, -, -, -, -, hi, hs, hp⟩ := right_iff.1 h
  exact Fm.By.app (Wm.pintsU_byte (by rw [nums_len]; decide) (Ms.nums_fit hx)) (Fm.By.app (ptx_by hx) (Fm.By.app (Wm.pintsU_byte (by omega) hx.id) (Fm.By.app (Wm.ptext_byte (by omega) hx.se) (Wm.ptext_byte (by omega) hx.pa))))
theorem put_by {x : Ms} (hx : x.Ok) : Fm.By x.put.1 := by
  by_cases h : x.right = true
  · rw [put_ok h]
    obtain ⟨h1, h2, -⟩ := right_iff.1 h
    exact Fm.frm_by ⟨by omega, by omega⟩ (body_by hx h) (body_len h)
  · rw [put_no (by simpa using h)]; exact Fm.By.nil
theorem put_frame {x : Ms} (h : x.right = true) : Fm.put x.k x.body = x.put := by rw [put_ok h, Fm.put_ok (body_len h)]
theorem put_len {x : Ms} : x.put.1.length ≤ 8200 := by
  by_cases h : x.right = true
  · rw [put_ok h]
    have := body_len h
    show (Fm.frm x.k x.body).length ≤ _
    rw [Fm.frm_len]; omega
  · rw [put_no (by simpa using h)]; exact Nat.zero_le _

/-! ### what is read of a body -/
theorem rtext_at {b s : List Int} {n to : Nat} (h : Wm.rtext b (n : Int) = (s, (to : Int), 0)) (hb : Fm.By b) : ¬ 4096 < s.length ∧ Fm.By s ∧ n ≤ to ∧ to ≤ b.length ∧ b.take n ++ Wm.ptext s = b.take to := by
  by_cases he : (Wm.rlen b (n : Int) 4096).2.2 = 0
  · obtain ⟨k, m, hl, hrd, hk, _, m1, m2, e2⟩ := Wm.rlen_some he hb
    rw [Int.toNat_natCast] at e2
    have hl' : Wm.rlen b (n : Int) 4096 = ((k : Int), ((n + m : Nat) : Int), 0) := by rw [hl]; congr 2
    by_cases h2 : b.length < n + m + k
    · rw [Wm.rtext_end hl' h2] at h; simp at h
    · rw [Wm.rtext_ok hl' h2] at h
      injection h with h3 h4
      injection h4 with h4 _
      subst h3
      obtain rfl : to = n + m + k := by omega
      have hlen : ((b.drop (n + m)).take k).length = k := by rw [List.length_take, List.length_drop]; omega
      refine ⟨by omega, (Fm.By.drop hb _).take _, by omega, by omega, ?_⟩
      unfold Wm.ptext
      rw [hlen, ← e2, ← List.append_assoc, Wm.take_piece, Wm.take_piece]
  · rw [Wm.rtext_err he] at h
    injection h with _ h4
    injection h4 with _ h4
    exact absurd h4 he

theorem rtext_num {b : List Int} {n : Nat} (h : (Wm.rtext b (n : Int)).2.2 = 0) (hb : Fm.By b) : ∃ (s : List Int) (to : Nat), Wm.rtext b (n : Int) = (s, (to : Int), 0) := by
  by_cases he : (Wm.rlen b (n : Int) 4096).2.2 = 0
  · obtain ⟨k, m, hl, hrd, hk, _, m1, m2, e2⟩ := Wm.rlen_some he hb
    have hl' : Wm.rlen b (n : Int) 4096 = ((k : Int), ((n + m : Nat) : Int), 0) := by rw [hl]; congr 2
    by_cases h2 : b.length < n + m + k
    · rw [Wm.rtext_end hl' h2] at h; simp at h
    · rw [Wm.rtext_ok hl' h2]
      exact ⟨_, n + m + k, by congr 2⟩
  · rw [Wm.rtext_err he] at h; exact absurd h he

def zeros : List Int := [0, 0, 0, 0, 0, 0, 0, 0, 0, 0]
/-- the numbers at a place -/
def rN (b : List Int) (t : Int) : List Int × Int × Int :=
  if (Wm.rints b t).2.2 ≠ 0 then (zeros, 0, (Wm.rints b t).2.2) else if (Wm.rints b t).1.length ≠ 10 then (zeros, 0, 51) else Wm.rints b t
/-- the plan at a place -/
noncomputable def rP (b : List Int) (t : Int) : Pm.Pl × Int × Int :=
  if (Wm.rtext b t).2.2 ≠ 0 then (Pm.zero, 0, (Wm.rtext b t).2.2)
  else if (Pm.get (Wm.rtext b t).1).2 ≠ 0 then (Pm.zero, 0, (Pm.get (Wm.rtext b t).1).2)
  else ((Pm.get (Wm.rtext b t).1).1, (Wm.rtext b t).2.1, 0)
/-- a reading that waits for no error -/
def thenR {α : Type} (z : α) (s : Int × Int) (r : Int → α × Int × Int) : α × Int × Int := if s.2 = 0 then r s.1 else (z, s)

theorem rN_err {b : List Int} {t : Int} (h : (Wm.rints b t).2.2 ≠ 0) : rN b t = (zeros, 0, (Wm.rints b t).2.2) := by unfold rN; rw [if_pos h]
theorem rN_few {b : List Int} {t : Int} (h : (Wm.rints b t).2.2 = 0) (h1 : (Wm.rints b t).1.length ≠ 10) : rN b t = (zeros, 0, 51) := by unfold rN; rw [if_neg (by simpa using h), if_pos h1]
theorem rN_ok {b : List Int} {t : Int} (h : (Wm.rints b t).2.2 = 0) (h1 : (Wm.rints b t).1.length = 10) : rN b t = Wm.rints b t := by unfold rN; rw [if_neg (by simpa using h), if_neg (by simpa using h1)]
theorem rP_err {b : List Int} {t : Int} (h : (Wm.rtext b t).2.2 ≠ 0) : rP b t = (Pm.zero, 0, (Wm.rtext b t).2.2) := by unfold rP; rw [if_pos h]
theorem rP_no {b : List Int} {t : Int} (h : (Wm.rtext b t).2.2 = 0) (h1 : (Pm.get (Wm.rtext b t).1).2 ≠ 0) : rP b t = (Pm.zero, 0, (Pm.get (Wm.rtext b t).1).2) := by unfold rP; rw [if_neg (by simpa using h), if_pos h1]
theorem rP_ok {b : List Int} {t : Int} (h : (Wm.rtext b t).2.2 = 0) (h1 : (Pm.get (Wm.rtext b t).1).2 = 0) : rP b t = ((Pm.get (Wm.rtext b t).1).1, (Wm.rtext b t).2.1, 0) := by unfold rP; rw [if_neg (by simpa using h), if_neg (by simpa using h1)]
theorem rN_len (b : List Int) (t : Int) : (rN b t).1.length = 10 := by
  by_cases h : (Wm.rints b t).2.2 = 0
  · by_cases h1 : (Wm.rints b t).1.length = 10
    · rw [rN_ok h h1]; exact h1
    · rw [rN_few h h1]; rfl
  · rw [rN_err h]; rfl
theorem thenR_ok {α : Type} {z : α} {s : Int × Int} {r : Int → α × Int × Int} (h : s.2 = 0) : thenR z s r = r s.1 := if_pos h
theorem thenR_no {α : Type} {z : α} {s : Int × Int} {r : Int → α × Int × Int} (h : s.2 ≠ 0) : thenR z s r = (z, s) := if_neg h
theorem thenR_zero {α : Type} {z : α} {s : Int × Int} {r : Int → α × Int × Int} (h : (thenR z s r).2.2 = 0) : s.2 = 0 := Classical.byContradiction fun g => by rw [thenR_no g] at h; exact g h

noncomputable def s2 (b : List Int) : Pm.Pl × Int × Int := if (rN b 0).1.getD 9 0 = 1 then thenR Pm.zero (rN b 0).2 (rP b) else (Pm.zero, (rN b 0).2)
noncomputable def s3 (b : List Int) : List Int × Int × Int := thenR [] (s2 b).2 (Wm.rints b)
noncomputable def s4 (b : List Int) : List Int × Int × Int := thenR [] (s3 b).2 (Wm.rtext b)
noncomputable def s5 (b : List Int) : List Int × Int × Int := thenR [] (s4 b).2 (Wm.rtext b)
/-- the message of ten numbers -/
def msOf (k : Int) (ns : List Int) : Ms :=
  ⟨k, ns.getD 0 0, ns.getD 1 0, ns.getD 2 0, ns.getD 3 0, ns.getD 4 0, ns.getD 5 0, ns.getD 6 0, Pm.us (ns.getD 7 0), ns.getD 8 0, decide (ns.getD 9 0 = 1), Pm.zero, [], [], []⟩
noncomputable def got (k : Int) (b : List Int) : Ms := { msOf k (rN b 0).1 with plan := (s2 b).1, id := (s3 b).1, se := (s4 b).1, pa := (s5 b).1 }
def zero : Ms := ⟨0, 0, 0, 0, 0, 0, 0, 0, 0, 0, false, Pm.zero, [], [], []⟩
def Good (k : Int) (b : List Int) : Prop := (s5 b).2.2 = 0 ∧ (s5 b).2.1 = (b.length : Int) ∧ (got k b).nums = (rN b 0).1 ∧ (got k b).right = true
noncomputable def of (k : Int) (b : List Int) : Ms × Int := if Pm.ask (Good k b) = true then (got k b, 0) else (zero, 51)
theorem of_ok {k : Int} {b : List Int} (h : Good k b) : of k b = (got k b, 0) := by unfold of; rw [if_pos (Pm.ask_yes h)]
theorem of_no {k : Int} {b : List Int} (h : ¬ Good k b) : of k b = (zero, 51) := by unfold of; rw [if_neg (by rw [Pm.ask_no h]; decide)]

theorem ok_zero : zero.Ok := ⟨⟨by decide, by decide⟩, ⟨by decide, by decide⟩, ⟨by decide, by decide⟩, ⟨by decide, by decide⟩, ⟨by decide, by decide⟩, ⟨by decide, by decide⟩, ⟨by decide, by decide⟩, ⟨by decide, by decide⟩, ⟨by decide, by decide⟩, ⟨by decide, by decide⟩,
  Pm.ok_zero, (fun _ h => absurd h List.not_mem_nil), (fun _ h => absurd h List.not_mem_nil), (fun _ h => absurd h List.not_mem_nil)⟩
theorem zero_no : zero.right = false := Pm.ask_no fun h => absurd h.1 (by decide)

/-- what is written is read as it was -/
theorem nums_of {x : Ms} (h : x.Ok) : ({ msOf x.k x.nums with plan := x.plan, id := x.id, se := x.se, pa := x.pa } : Ms) = x := by
  obtain ⟨k, f, t, e, b, a, n, ti, up, co, has, plan, id, se, pa⟩ := x
  have h1 : Pm.us (Pm.sg up) = up := Pm.us_sg h.up
  simp [msOf, Ms.nums, h1]
  cases has <;> simp [one]

theorem of_body {x : Ms} (hx : x.Ok) (h : x.right = true) : Good x.k x.body ∧ got x.k x.body = x := by
  obtain ⟨-, -, -, -, -, -, -, hpr, hi, hs, hp⟩ := right_iff.1 h
  have hB : x.body = Wm.pintsU x.nums x.nums.length ++ (x.ptx ++ (Wm.pintsU x.id x.id.length ++ (Wm.ptext x.se ++ Wm.ptext x.pa))) := rfl
  have e0 := Wm.rints_back (a := []) (l := x.nums) (r := x.ptx ++ (Wm.pintsU x.id x.id.length ++ (Wm.ptext x.se ++ Wm.ptext x.pa))) (by rw [nums_len]; decide) (Ms.nums_fit hx)
  rw [List.nil_append, List.nil_append, ← hB] at e0
  have eN : rN x.body 0 = (x.nums, ((Wm.pintsU x.nums x.nums.length).length : Int), 0) := by
    have e0' : Wm.rints x.body 0 = (x.nums, ((Wm.pintsU x.nums x.nums.length).length : Int), 0) := e0
    rw [rN_ok (by rw [e0']) (by rw [e0']; rfl), e0']
  have eP : s2 x.body = (x.plan, ((Wm.pintsU x.nums x.nums.length ++ x.ptx).length : Int), 0) := by
    unfold s2
    rw [eN]
    cases hh : x.has with
    | true =>
      have hr : x.plan.right = true := by rw [Ms.pright, hh] at hpr; exact hpr
      have ex : x.ptx = Wm.ptext x.plan.put.1 := by unfold Ms.ptx; rw [hh]; rfl
      rw [if_pos (by show one x.has = 1; rw [hh]; rfl), thenR_ok rfl]
      have e1 := Wm.rtext_back (a := Wm.pintsU x.nums x.nums.length) (s := x.plan.put.1) (r := Wm.pintsU x.id x.id.length ++ (Wm.ptext x.se ++ Wm.ptext x.pa)) (by have := Pm.put_len (x := x.plan); omega)
      rw [← ex, ← hB] at e1
      rw [rP_ok (by rw [e1]) (by rw [e1, Pm.get_put hx.plan hr]), e1, Pm.get_put hx.plan hr]
    | false =>
      have hz : x.plan = Pm.zero := by
        rw [Ms.pright, hh] at hpr
        exact Classical.byContradiction fun g => by rw [if_neg (by decide), Pm.same, Pm.ask_no g] at hpr; cases hpr
      have ex : x.ptx = [] := by unfold Ms.ptx; rw [hh]; rfl
      rw [if_neg (by show ¬ one x.has = 1; rw [hh]; decide), hz, ex, List.append_nil]
  have e3 : s3 x.body = (x.id, ((Wm.pintsU x.nums x.nums.length ++ x.ptx ++ Wm.pintsU x.id x.id.length).length : Int), 0) := by
    unfold s3
    rw [eP, thenR_ok rfl]
    have := Wm.rints_back (a := Wm.pintsU x.nums x.nums.length ++ x.ptx) (l := x.id) (r := Wm.ptext x.se ++ Wm.ptext x.pa) (by omega) hx.id
    rw [← this, hB]
    simp only [List.append_assoc]
  have e4 : s4 x.body = (x.se, ((Wm.pintsU x.nums x.nums.length ++ x.ptx ++ Wm.pintsU x.id x.id.length ++ Wm.ptext x.se).length : Int), 0) := by
    unfold s4
    rw [e3, thenR_ok rfl]
    have := Wm.rtext_back (a := Wm.pintsU x.nums x.nums.length ++ x.ptx ++ Wm.pintsU x.id x.id.length) (s := x.se) (r := Wm.ptext x.pa) (by omega)
    rw [← this, hB]
    simp only [List.append_assoc]
  have e5 : s5 x.body = (x.pa, (x.body.length : Int), 0) := by
    unfold s5
    rw [e4, thenR_ok rfl]
    have := Wm.rtext_back (a := Wm.pintsU x.nums x.nums.length ++ x.ptx ++ Wm.pintsU x.id x.id.length ++ Wm.ptext x.se) (s := x.pa) (r := []) (by omega)
    rw [List.append_nil] at this
    have hB2 : Wm.pintsU x.nums x.nums.length ++ x.ptx ++ Wm.pintsU x.id x.id.length ++ Wm.ptext x.se ++ Wm.ptext x.pa = x.body := by rw [hB]; simp only [List.append_assoc]
    rw [hB2] at this
    exact this
  have eg : got x.k x.body = x := by
    unfold got
    rw [eN, eP, e3, e4, e5]
    exact nums_of hx
  exact ⟨⟨by rw [e5], by rw [e5], by rw [eg, eN], by rw [eg]; exact h⟩, eg⟩

theorem of_put {x : Ms} (hx : x.Ok) (h : x.right = true) : of x.k x.body = (x, 0) := by
  obtain ⟨h1, h2⟩ := of_body hx h
  rw [of_ok h1, h2]

/-- what is read stood there -/
theorem got_kept {k : Int} {b : List Int} (hk : 0 ≤ k ∧ k ≤ 255) (hb : Fm.By b) (h : Good k b) : (got k b).Ok ∧ (got k b).body = b := by
  obtain ⟨h5, hat, hn, hr⟩ := h
  have z4 : (s4 b).2.2 = 0 := thenR_zero h5
  have z3 : (s3 b).2.2 = 0 := thenR_zero z4
  have z2 : (s2 b).2.2 = 0 := thenR_zero z3
  have z1 : (rN b 0).2.2 = 0 := by
    unfold s2 at z2
    split at z2
    · exact thenR_zero z2
    · exact z2
  have zi : (Wm.rints b 0).2.2 = 0 := Classical.byContradiction fun g => by rw [rN_err g] at z1; exact g z1
  have zl : (Wm.rints b 0).1.length = 10 := Classical.byContradiction fun g => by rw [rN_few zi g] at z1; cases z1
  have eN := rN_ok zi zl
  obtain ⟨ns, n1, e1⟩ := Pm.rints_num (n := 0) zi hb
  have e1' : Wm.rints b 0 = (ns, (n1 : Int), 0) := e1
  obtain ⟨l1, f1, -, b1, t1⟩ := Pm.rints_at (n := 0) e1 hb
  rw [List.take_zero, List.nil_append] at t1
  rw [e1'] at eN
  obtain ⟨n2, e2, hn2, t2, hpl⟩ : ∃ n2 : Nat, s2 b = ((got k b).plan, (n2 : Int), 0) ∧ n2 ≤ b.length ∧ b.take n1 ++ (got k b).ptx = b.take n2 ∧ (got k b).plan.Ok := by
    have eh : (got k b).has = decide (ns.getD 9 0 = 1) := by show decide ((rN b 0).1.getD 9 0 = 1) = _; rw [eN]
    have ep : (got k b).plan = (s2 b).1 := rfl
    by_cases h9 : ns.getD 9 0 = 1
    · have es : s2 b = rP b (n1 : Int) := by unfold s2; rw [eN, if_pos h9, thenR_ok rfl]
      rw [es] at z2 ep
      have q1 : (Wm.rtext b (n1 : Int)).2.2 = 0 := Classical.byContradiction fun g => by rw [rP_err g] at z2; exact g z2
      have q2 : (Pm.get (Wm.rtext b (n1 : Int)).1).2 = 0 := Classical.byContradiction fun g => by rw [rP_no q1 g] at z2; exact g z2
      obtain ⟨tx, n2, e2⟩ := rtext_num q1 hb
      obtain ⟨_, by2, _, b2, t2⟩ := rtext_at e2 hb
      rw [rP_ok q1 q2] at es ep
      rw [e2] at es ep q2
      dsimp only at es ep q2
      obtain ⟨ok2, g2⟩ := Pm.get_kept by2
      refine ⟨n2, by rw [es, ep], b2, ?_, by rw [ep]; exact ok2⟩
      rcases g2 with g2 | ⟨_, _, g2⟩
      · rw [g2] at q2; cases q2
      · have : (got k b).ptx = Wm.ptext tx := by unfold Ms.ptx; rw [eh, ep, g2, decide_eq_true h9]; rfl
        rw [this, t2]
    · have es : s2 b = (Pm.zero, (n1 : Int), 0) := by unfold s2; rw [eN, if_neg h9]
      have : (got k b).ptx = [] := by unfold Ms.ptx; rw [eh, decide_eq_false h9]; rfl
      rw [es] at ep
      refine ⟨n1, by rw [es, ep], b1, by rw [this, List.append_nil], by rw [ep]; exact Pm.ok_zero⟩
  have e3 : s3 b = Wm.rints b (n2 : Int) := by unfold s3; rw [e2, thenR_ok rfl]
  rw [e3] at z3
  obtain ⟨id, n3, e3'⟩ := Pm.rints_num z3 hb
  obtain ⟨_, f3, _, b3, t3⟩ := Pm.rints_at e3' hb
  rw [e3'] at e3
  have e4 : s4 b = Wm.rtext b (n3 : Int) := by unfold s4; rw [e3, thenR_ok rfl]
  rw [e4] at z4
  obtain ⟨se, n4, e4'⟩ := rtext_num z4 hb
  obtain ⟨_, f4, _, b4, t4⟩ := rtext_at e4' hb
  rw [e4'] at e4
  have e5 : s5 b = Wm.rtext b (n4 : Int) := by unfold s5; rw [e4, thenR_ok rfl]
  rw [e5] at h5 hat
  obtain ⟨pa, n5, e5'⟩ := rtext_num h5 hb
  obtain ⟨_, f5, _, b5, t5⟩ := rtext_at e5' hb
  rw [e5'] at e5 hat
  have hnl : n5 = b.length := by exact Int.ofNat_inj.1 hat
  have gi : (got k b).id = id := by show (s3 b).1 = id; rw [e3]
  have gs : (got k b).se = se := by show (s4 b).1 = se; rw [e4]
  have gp : (got k b).pa = pa := by show (s5 b).1 = pa; rw [e5]
  have gn : (got k b).nums = ns := by rw [hn, eN]
  have fit : ∀ j, Pm.I (ns.getD j 0) := fun j => Pm.fit_at f1 j
  have ns_at : ∀ j, (rN b 0).1.getD j 0 = ns.getD j 0 := fun j => by rw [eN]
  refine ⟨⟨⟨by show _ ≤ k; omega, by show k ≤ _; omega⟩, ?_, ?_, ?_, ?_, ?_, ?_, ?_, ?_, ?_, hpl, by rw [gi]; exact f3, by rw [gs]; exact f4, by rw [gp]; exact f5⟩, ?_⟩
  · show Pm.I ((rN b 0).1.getD 0 0); rw [ns_at]; exact fit 0
  · show Pm.I ((rN b 0).1.getD 1 0); rw [ns_at]; exact fit 1
  · show Pm.I ((rN b 0).1.getD 2 0); rw [ns_at]; exact fit 2
  · show Pm.I ((rN b 0).1.getD 3 0); rw [ns_at]; exact fit 3
  · show Pm.I ((rN b 0).1.getD 4 0); rw [ns_at]; exact fit 4
  · show Pm.I ((rN b 0).1.getD 5 0); rw [ns_at]; exact fit 5
  · show Pm.I ((rN b 0).1.getD 6 0); rw [ns_at]; exact fit 6
  · show Pm.U (Pm.us ((rN b 0).1.getD 7 0)); rw [ns_at]; exact Pm.us_fit (fit 7)
  · show Pm.I ((rN b 0).1.getD 8 0); rw [ns_at]; exact fit 8
  · unfold Ms.body
    rw [gn, gi, gs, gp, t1, ← List.append_assoc, t2, ← List.append_assoc, t3, ← List.append_assoc, t4, t5, hnl, List.take_length]

theorem of_kept {k : Int} {b : List Int} (hk : 0 ≤ k ∧ k ≤ 255) (hb : Fm.By b) : (of k b).1.Ok ∧ (of k b = (zero, 51) ∨ ((of k b).2 = 0 ∧ (of k b).1.right = true ∧ (of k b).1.k = k ∧ (of k b).1.body = b)) := by
  by_cases h : Good k b
  · obtain ⟨h1, h2⟩ := got_kept hk hb h
    rw [of_ok h]
    exact ⟨h1, .inr ⟨rfl, h.2.2.2, rfl, h2⟩⟩
  · rw [of_no h]
    exact ⟨ok_zero, .inl rfl⟩

/-- the message whose frame it is -/
noncomputable def get (b : List Int) : Ms × Int :=
  if (Fm.get b 0).2.2.2 ≠ 0 then (zero, (Fm.get b 0).2.2.2) else if (Fm.get b 0).2.2.1 ≠ (b.length : Int) then (zero, 51) else of (Fm.get b 0).1 (Fm.get b 0).2.1
theorem get_err {b : List Int} (h : (Fm.get b 0).2.2.2 ≠ 0) : get b = (zero, (Fm.get b 0).2.2.2) := by unfold get; rw [if_pos h]
theorem get_more {b : List Int} (h : (Fm.get b 0).2.2.2 = 0) (h1 : (Fm.get b 0).2.2.1 ≠ (b.length : Int)) : get b = (zero, 51) := by unfold get; rw [if_neg (by simpa using h), if_pos h1]
theorem get_of {b : List Int} (h : (Fm.get b 0).2.2.2 = 0) (h1 : (Fm.get b 0).2.2.1 = (b.length : Int)) : get b = of (Fm.get b 0).1 (Fm.get b 0).2.1 := by unfold get; rw [if_neg (by simpa using h), if_neg (by simpa using h1)]
noncomputable def same (x y : Ms) : Bool := Pm.ask (x = y)
theorem same_yes {x : Ms} : same x x = true := Pm.ask_yes rfl
theorem same_no {x y : Ms} (h : x = y → False) : same x y = false := Pm.ask_no h
theorem psame_yes {x : Pm.Pl} : Pm.same x x = true := Pm.ask_yes rfl
theorem ask_iff {q : Prop} (h : Pm.ask q = true) : q := Classical.byContradiction fun g => by rw [Pm.ask_no g] at h; cases h
theorem same_pa {x y : Ms} (a0 : Pm.same x.plan y.plan = true) (a1 : decide (x.id = y.id) = true) (a2 : (x.k == y.k) = true) (a3 : (x.f == y.f) = true) (a4 : (x.t == y.t) = true) (a5 : (x.e == y.e) = true) (a6 : (x.b == y.b) = true) (a7 : (x.a == y.a) = true)
    (a8 : (x.n == y.n) = true) (a9 : (x.ti == y.ti) = true) (a10 : (x.up == y.up) = true) (a11 : (x.co == y.co) = true) (a12 : (x.has == y.has) = true) (a13 : decide (x.se = y.se) = true) : same x y = decide (x.pa = y.pa) := by
  have b0 := ask_iff a0
  simp only [beq_iff_eq, decide_eq_true_iff] at a1 a2 a3 a4 a5 a6 a7 a8 a9 a10 a11 a12 a13
  by_cases h : x.pa = y.pa
  · rw [decide_eq_true h]
    refine Pm.ask_yes ?_
    cases x; cases y
    simp_all
  · rw [decide_eq_false h]
    exact same_no fun e => h (by rw [e])
theorem same_pa2 {x y : Ms} (a0 : Pm.same x.plan y.plan = true) (a1 : x.id = y.id) (a2 : x.k = y.k) (a3 : x.f = y.f) (a4 : x.t = y.t) (a5 : x.e = y.e) (a6 : x.b = y.b) (a7 : x.a = y.a)
    (a8 : x.n = y.n) (a9 : x.ti = y.ti) (a10 : x.up = y.up) (a11 : x.co = y.co) (a12 : x.has = y.has) (a13 : x.se = y.se) : same x y = decide (x.pa = y.pa) :=
  same_pa a0 (by rw [a1]; simp) (by rw [a2]; simp) (by rw [a3]; simp) (by rw [a4]; simp) (by rw [a5]; simp) (by rw [a6]; simp) (by rw [a7]; simp) (by rw [a8]; simp) (by rw [a9]; simp) (by rw [a10]; simp) (by rw [a11]; simp) (by rw [a12]; simp) (by rw [a13]; simp)
theorem nb {α : Type} [BEq α] [LawfulBEq α] {a b : α} (h : (a == b) = !true) : ¬ a = b := fun e => by rw [e] at h; simp at h
theorem nd {q : Prop} [Decidable q] (h : decide q = !true) : ¬ q := by simpa using h
theorem same_nums {x y : Ms} (hx : x.Ok) (hy : y.Ok) (a2 : x.k = y.k) (an : x.nums = y.nums) (a0 : Pm.same x.plan y.plan = true) (a1 : x.id = y.id) (a13 : x.se = y.se) : same x y = decide (x.pa = y.pa) := by
  unfold Ms.nums at an
  simp only [List.cons.injEq, and_true] at an
  obtain ⟨b1, b2, b3, b4, b5, b6, b7, b8, b9, b10⟩ := an
  have b8' := Pm.sg_inj hx.up hy.up b8
  have b10' : x.has = y.has := by
    cases h1 : x.has <;> cases h2 : y.has <;> rw [h1, h2] at b10 <;> first | rfl | (unfold one at b10; simp at b10)
  exact same_pa2 a0 a1 a2 b1 b2 b3 b4 b5 b6 b7 b8' b9 b10' a13
end Go.Proofs.YtbkdenlhfigjhaaDoor.Mm
