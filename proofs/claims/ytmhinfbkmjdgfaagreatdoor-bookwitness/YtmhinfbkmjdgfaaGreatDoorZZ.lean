import Derived.Test.YtmhinfbkmjdgfaaGreatDoorRows
import Derived.WalkKit
namespace Go.Proofs.YtmhinfbkmjdgfaaGreatDoor
abbrev ab (n:Int):Go.Value:=.int .i64 n
abbrev ai (n:Int):Go.Value:=.int .u64 n
abbrev aq (b:Nat):Go.Value:=.pointer (some ⟨b,0,none⟩)
abbrev J_ (w U:Go.World):Prop:=Go.RowKit.Below w.heap.size w U
abbrev Ka:=Go.Calls Tryz.prog
abbrev Ke (U:Go.World)(a k:Nat)(v:Go.Value):Prop:=U.cell? ⟨a,k,none⟩=some v
end Go.Proofs.YtmhinfbkmjdgfaaGreatDoor
