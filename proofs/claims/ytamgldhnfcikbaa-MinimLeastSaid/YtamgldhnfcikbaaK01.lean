/- Texts that a proof rests on: Sets of bytes as bit vectors: plain facts, no program. | One set more, up to a byte: plain facts. -/
import GoSem.Claim
import Derived.Below
import Derived.WalkKit
namespace Go.Proofs.Ytamgldhnfcikbaa
open Go.RowKit

def wd (s : BitVec 256) (i : Nat) : Nat := (s.toNat / 2 ^ (64 * i)) % 2 ^ 64
def put (s : BitVec 256) (b : Nat) : BitVec 256 := s ||| BitVec.twoPow 256 b
def upTo (p : Nat → Bool) : Nat → BitVec 256
  | 0 => 0
  | k + 1 => if p k then put (upTo p k) k else upTo p k
def ofP (p : Nat → Bool) : BitVec 256 := upTo p 256
def popT : Nat → Nat → Nat
  | 0, _ => 0
  | n + 1, x => popT n x + (x.testBit n).toNat
def cnt (s : BitVec 256) : Nat → Nat
  | 0 => 0
  | k + 1 => cnt s k + (s.getLsbD k).toNat
end Go.Proofs.Ytamgldhnfcikbaa
namespace Go.Proofs.Ytamgldhnfcikbaa
def orTo (u s : BitVec 256) (k : Nat) : BitVec 256 := ofP (fun x => u.getLsbD x || (decide (x < k) && s.getLsbD x))
end Go.Proofs.Ytamgldhnfcikbaa
