import Derived.Test.YtffmodpgddecnaaGreatDoorZ35
set_option linter.unusedVariables false
set_option linter.unusedSimpArgs false
namespace Go.Proofs.YtffmodpgddecnaaGreatDoor.V
open Go.RowKit
open Go.Proofs.YtffmodpgddecnaaGreatDoor.H (aq Cp)
open Go.Proofs.YtffmodpgddecnaaGreatDoor.M (ba)
section
variable {w w':World}
theorem aK.low {N N':Nat->Prop}{b:Nat}(h:aK w N w' N')(hN:∀k,N k->b<=k)(hb:b<=w.heap.size):∀k,N' k->b<=k:=λk hk=>by
 rcases h.1 k hk with h1|h1
 ·exact hN k h1
 ·omega
end
end Go.Proofs.YtffmodpgddecnaaGreatDoor.V
