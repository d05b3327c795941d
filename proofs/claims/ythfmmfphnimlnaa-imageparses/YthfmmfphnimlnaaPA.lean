import Derived.Test.YthfmmfphnimlnaaA2
namespace Go.Proofs.Ythfmmfphnimlnaa
structure Cl where
  op : Int
  by_ : Int
  size : Int
  obj : Int
  hi : Nat
  lo : Nat
  given : Bool
  rights : Int
  off : Int
  n : Int
  data : List Nat
  index : Int
  gifts : List Int
def wi (n a b : Int) : Bool := decide (a ≤ n) && decide (n ≤ b)
def sg (n : Int) : Nat := (n % 4294967296).toNat
def g2 (l : List Int) : List Nat := (l.map (fun g => leL g.toNat 2)).flatten
def layP (c : Cl) (p : Nat) : List Nat :=
  if p = 0 then leL (sg c.size) 4 else if p = 1 then leL c.obj.toNat 8 else if p = 2 then leL c.lo 8 ++ leL c.hi 8 else if p = 3 then leL (if c.given then 1 else 0) 1 else if p = 4 then leL c.rights.toNat 1
  else if p = 5 then leL (sg c.off) 4 else if p = 6 then leL (sg c.n) 4 else if p = 7 then c.data else if p = 8 then leL c.index.toNat 2 else if p = 9 then leL c.gifts.length 1 ++ g2 c.gifts else []
def layA (c : Cl) : List Nat → List Nat
  | [] => []
  | p :: ps => layP c p ++ layA c ps
end Go.Proofs.Ythfmmfphnimlnaa
namespace Go.Proofs.Ythfmmfphnimlnaa
end Go.Proofs.Ythfmmfphnimlnaa
