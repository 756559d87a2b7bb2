import Derived.Test.YtponpgcpmlcdpaaGreatDoorAn
namespace Go.Proofs.YtponpgcpmlcdpaaGreatDoor
open Go.RowKit Go.Shelf Km Kx Kc Kt
set_option linter.unusedVariables false
set_option linter.unusedSimpArgs false
theorem zi6 {N : Nat} (hN : N ≤ 16) {e st : Int} (he : 0 ≤ e ∧ e ≤ 9223372036854775807) (hs : 0 ≤ st ∧ st ≤ 1099511627776) : ({ zp N with e := e, st := st } : Pm.Pl).right = true := by
 refine Pm.zbg ⟨fun k hk => ?_, ⟨?_, fun n hn => ?_⟩, ⟨Nat.zero_le _, fun n hn => by cases hn⟩, fun k hk => by have h : k + 1 < 0 := hk; omega⟩
 ·have h : k = 0 ∨ k = 1 ∨ k = 2 ∨ k = 3 ∨ k = 4 ∨ k = 5 ∨ k = 6 ∨ k = 7 ∨ k = 8 ∨ k = 9 := by omega
  rcases h with rfl | rfl | rfl | rfl | rfl | rfl | rfl | rfl | rfl | rfl <;> first | exact he | exact hs | exact (show (-1 : Int) ≤ -1 ∧ (-1 : Int) ≤ 15 from ⟨by decide, by decide⟩) | exact (show (0 : Int) ≤ 0 ∧ (0 : Int) ≤ 100 from ⟨by decide, by decide⟩) | exact (show (0 : Int) ≤ 0 ∧ (0 : Int) ≤ 1099511627776 from ⟨by decide, by decide⟩) | exact (show (0 : Int) ≤ 0 ∧ (0 : Int) ≤ 65535 from ⟨by decide, by decide⟩)
 ·show (List.replicate N (0 : Int)).length ≤ 16
  rw [List.length_replicate]; exact hN
 ·rw [(List.mem_replicate.1 hn).2]; exact ⟨by decide, by decide⟩
def pm (k f t e b : Int) (p : Pm.Pl) : Mm.Ms := ⟨k, f, t, e, b, 0, 0, 0, 0, 0, true, p, [], [], []⟩
theorem zm3 {k f t e b : Int} {p : Pm.Pl} (hk : 1 ≤ k ∧ k ≤ 19) (hf : 0 ≤ f ∧ f ≤ 255) (ht : 0 ≤ t ∧ t ≤ 255) (hp : p.right = true) : (pm k f t e b p).right = true :=
 Mm.zbf.2 ⟨hk.1, hk.2, hf, ht, (by show (0 : Int) ≤ 65535; decide), (by show (0 : Int) ≤ 0; decide), (by show (0 : Int) ≤ 1000; decide), hp, .inl rfl, Nat.zero_le _, Nat.zero_le _⟩
structure Live (s : Jm.St) (n : Nat) : Prop where
 off : s.off = false
 burn : s.burn = -1
 len : Jm.size s ≤ n
theorem live_new : Live Jm.new 0 := ⟨rfl, rfl, Nat.le_refl _⟩
theorem zp8 {s : Jm.St} {n : Nat} (h : Live s n) {x : Mm.Ms} (hx : x.right = true) : (keep s x).2 = true ∧ Live (keep s x).1 (n + 8200) := by
 have hbl := Mm.zee hx
 have e1 : Jm.eff s = (s, 0) := Jm.zf2 h.off (by rw [h.burn]; decide)
 have a1 : Jm.append s x.k x.body = ({ s with rest := s.rest ++ Fm.frm x.k x.body }, 0) := by rw [Jm.zh1 (by omega) (by rw [e1]), e1]
 have e2 : Jm.eff ({ s with rest := s.rest ++ Fm.frm x.k x.body } : Jm.St) = ({ s with rest := s.rest ++ Fm.frm x.k x.body }, 0) := Jm.zf2 h.off (by show s.burn < 0; rw [h.burn]; decide)
 have b1 : Jm.sync ({ s with rest := s.rest ++ Fm.frm x.k x.body } : Jm.St) = ({ s with kept := s.kept ++ (s.rest ++ Fm.frm x.k x.body), rest := [] }, 0) := by rw [Jm.zjb (by rw [e2]), e2]
 have hk : keep s x = ({ s with kept := s.kept ++ (s.rest ++ Fm.frm x.k x.body), rest := [] }, true) := by
  unfold keep
  rw [if_pos hx, a1]
  dsimp only
  rw [if_pos rfl, b1]
  rfl
 rw [hk]
 refine ⟨rfl, h.off, h.burn, ?_⟩
 have := h.len
 unfold Jm.size at this ⊢
 simp only [List.length_append, Fm.zc6, List.length_nil]
 omega
def mid (c : Cf) (node : Int) (b : Int) (p : Pt) : Ac := ⟨c, node, 1, p, b, 0, noPt, 0, 0, false, -1, 0, 0, 0, 0⟩
theorem zk0 {c : Cf} {node : Int} {p : Pt} {f t b : Int} {q : Pm.Pl} {lo : Lo} {now : Int} {s : Jm.St} {n : Nat} (hs : Live s n) (hq : q.right = true) (he : q.e = 0) (hf : 0 ≤ f ∧ f ≤ 255) (ht : 0 ≤ t ∧ t ≤ 255) (hb : 1 ≤ b) (hn : 0 ≤ now ∧ now ≤ 1099511627776) :
  ∃ s1, handle (newA c node p) s (pm 4 f t 1 b q) lo now = (mid c node b (mpt (pm 4 f t 1 b q) lo), s1, some (promised (mid c node b (mpt (pm 4 f t 1 b q) lo)) (pm 4 f t 1 b q), loOf noPt)) ∧ Live s1 (n + 8200) := by
 have hr := zm3 (k := 4) (e := 1) (b := b) (by decide) hf ht hq
 have hx : (rpro (pm 4 f t 1 b q) (mpt (pm 4 f t 1 b q) lo)).right = true := Mm.zbf.2 ⟨by show (1 : Int) ≤ 5; decide, by show (5 : Int) ≤ 19; decide, ⟨by show (0 : Int) ≤ 0; decide, by show (0 : Int) ≤ 255; decide⟩, ⟨by show (0 : Int) ≤ 0; decide, by show (0 : Int) ≤ 255; decide⟩, by show (0 : Int) ≤ 65535; decide, by show (0 : Int) ≤ 0; decide, by show (0 : Int) ≤ 1000; decide, hq, .inl rfl, Nat.zero_le _, Nat.zero_le _⟩
 obtain ⟨k1, k2⟩ := zp8 hs hx
 refine ⟨_, ?_, k2⟩
 have hrep : (newA c node p).replay (rpro (pm 4 f t 1 b q) (mpt (pm 4 f t 1 b q) lo)) (mpt (pm 4 f t 1 b q) lo) = mid c node b (mpt (pm 4 f t 1 b q) lo) := by
  unfold Ac.replay
  rw [if_pos (show (rpro (pm 4 f t 1 b q) (mpt (pm 4 f t 1 b q) lo)).k = 5 from rfl)]
  have h1 : (if (rpro (pm 4 f t 1 b q) (mpt (pm 4 f t 1 b q) lo)).e = (newA c node p).e then newA c node p else (newA c node p).enter (rpro (pm 4 f t 1 b q) (mpt (pm 4 f t 1 b q) lo)).e) = (newA c node p).enter 1 := if_neg (by show ¬ (1 : Int) = 0; decide)
  have h2 : (newA c node p).enter 1 = { newA c node p with e := 1, ac := 0, pl := noPt, lo := 0, hi := 0 } := if_pos (by show (0 : Int) < 1; decide)
  rw [h1, h2]
  rfl
 have hp : promise (newA c node p) s (pm 4 f t 1 b q) (mpt (pm 4 f t 1 b q) lo) = (mid c node b (mpt (pm 4 f t 1 b q) lo), (keep s (rpro (pm 4 f t 1 b q) (mpt (pm 4 f t 1 b q) lo))).1, some (promised (mid c node b (mpt (pm 4 f t 1 b q) lo)) (pm 4 f t 1 b q), loOf noPt)) := by
  unfold promise
  rw [if_pos k1, hrep]
  rfl
 unfold handle
 rw [if_pos ⟨hr, hn.1, hn.2, hs.off⟩, if_pos (show (pm 4 f t 1 b q).k = 4 from rfl), if_pos ⟨by show (1 : Int) ≤ 1; decide, hb, rfl, he⟩]
 unfold prepare
 rw [if_neg (show ¬ (pm 4 f t 1 b q).e < (newA c node p).e from (by decide : ¬ (1 : Int) < 0)), if_pos (show (newA c node p).e < (pm 4 f t 1 b q).e from (by decide : (0 : Int) < 1)), if_neg (fun q => q.1 rfl), hp]
theorem zld {c : Cf} {node : Int} {p : Pt} {f t b : Int} {q : Pm.Pl} {lo : Lo} {now : Int} {s : Jm.St} {n : Nat} (hs : Live s n) (hq : q.right = true) (he : q.e = 0) (hf : 0 ≤ f ∧ f ≤ 255) (ht : 0 ≤ t ∧ t ≤ 255) (hb : 1 ≤ b) (hn : 0 ≤ now ∧ now ≤ 1099511627776) :
  handle (mid c node b p) s (pm 4 f t 1 b q) lo now = (mid c node b p, s, some (zfe (mid c node b p) (pm 4 f t 1 b q), Lo.zero)) := by
 have hr := zm3 (k := 4) (e := 1) (b := b) (by decide) hf ht hq
 unfold handle
 rw [if_pos ⟨hr, hn.1, hn.2, hs.off⟩, if_pos (show (pm 4 f t 1 b q).k = 4 from rfl), if_pos ⟨by show (1 : Int) ≤ 1; decide, hb, rfl, he⟩]
 unfold prepare
 rw [if_neg (show ¬ (pm 4 f t 1 b q).e < (mid c node b p).e from (by decide : ¬ (1 : Int) < 1)), if_neg (show ¬ (mid c node b p).e < (pm 4 f t 1 b q).e from (by decide : ¬ (1 : Int) < 1)), if_pos (show (pm 4 f t 1 b q).b ≤ (mid c node b p).pr from Int.le_refl b)]
end Go.Proofs.YtponpgcpmlcdpaaGreatDoor
