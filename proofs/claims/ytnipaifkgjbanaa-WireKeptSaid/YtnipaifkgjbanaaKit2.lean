import Derived.Test.YtnipaifkgjbanaaW6
import Derived.Test.YtnipaifkgjbanaaWm2
namespace Go.Proofs.Ytnipaifkgjbanaa
open Go.RowKit

theorem Rd.takeU {w : World} {B : Nat} {A : Option Addr} {xs : List Int} (h : Rd w B A (u8s xs)) (n : Nat) : Rd w B A (u8s (xs.take n)) := by
  have := h.take n
  simpa [u8s] using this
theorem Rd.dropU {w : World} {B : Nat} {A : Option Addr} {xs : List Int} (h : Rd w B A (u8s xs)) {k cap : Nat} (hc : xs.length ≤ cap) : Rd w B (Go.Proofs.Ytnipaifkgjbanaa.cutA A k cap) (u8s (xs.drop k)) := by
  have := h.cutA (k := k) (cap := cap) (by simpa using hc)
  simpa [u8s] using this

end Go.Proofs.Ytnipaifkgjbanaa
