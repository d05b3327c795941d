import Derived.Test.YtfmhdimaijimlaaGreatDoorZ01
import Derived.Test.YtfmhdimaijimlaaGreatDoorZ02
import Derived.Test.YtfmhdimaijimlaaGreatDoorZ03
import Derived.Test.YtfmhdimaijimlaaGreatDoorZ04
import Derived.Test.YtfmhdimaijimlaaGreatDoorZ05
import Derived.Test.YtfmhdimaijimlaaGreatDoorZ06
import Derived.Test.YtfmhdimaijimlaaGreatDoorZ07
import Derived.Test.YtfmhdimaijimlaaGreatDoorZ08
import Derived.Test.YtfmhdimaijimlaaGreatDoorZ09
import Derived.Test.YtfmhdimaijimlaaGreatDoorZ10
import Derived.Test.YtfmhdimaijimlaaGreatDoorZ11
import Derived.Test.YtfmhdimaijimlaaGreatDoorZ12
import Derived.Test.YtfmhdimaijimlaaGreatDoorZ13
import Derived.Test.YtfmhdimaijimlaaGreatDoorZ14
import Derived.Test.YtfmhdimaijimlaaGreatDoorZ15
import Derived.Test.YtfmhdimaijimlaaGreatDoorZ16
import Derived.Test.YtfmhdimaijimlaaGreatDoorZ17
import Derived.Test.YtfmhdimaijimlaaGreatDoorZ18
import Derived.Test.YtfmhdimaijimlaaGreatDoorZ19
import Derived.Test.YtfmhdimaijimlaaGreatDoorZ20
import Derived.Test.YtfmhdimaijimlaaGreatDoorZ21
import Derived.Test.YtfmhdimaijimlaaGreatDoorZ22
import Derived.Test.YtfmhdimaijimlaaGreatDoorZ23
import Derived.Test.YtfmhdimaijimlaaGreatDoorZ24
import Derived.Test.YtfmhdimaijimlaaGreatDoorZ25
import Derived.Test.YtfmhdimaijimlaaGreatDoorZ26
import Derived.Test.YtfmhdimaijimlaaGreatDoorZ27
import Derived.Test.YtfmhdimaijimlaaGreatDoorZ28
set_option linter.all false
set_option maxRecDepth 1000000
set_option maxHeartbeats 8000000
open Go.Proofs.Tryz
variable {w w' w1 w2:Go.World}{n m k i j b g base kn:Nat}{a:Option Go.Addr}
namespace Go.Proofs.YtfmhdimaijimlaaGreatDoor.D
open Go.Proofs.YtfmhdimaijimlaaGreatDoor.H (ak)
open Go.RowKit
theorem splits_any (x:Option Addr)(n cap:Nat)(k:Int)(w:World) :
  Calls prog 82 #[.slice x n cap,.int .i64 k] w λe w'=>e=.returned (.bool (decide (0<=k/\k<=n)))/\w'=w:=by
 by_cases h0:0<=k
 ·by_cases h1:k<=(n:Int)
  ·rw [dT (p:=0<=k/\k<=n) ⟨h0,h1⟩]
   go_enter func82,ntmps82
   go_wp2
   go_ret
   exact⟨rfl,rfl⟩
  ·rw [dF (p:=0<=k/\k<=n) (λh=>h1 h.2)]
   go_enter func82,ntmps82
   go_wp2
   go_ret
   exact⟨rfl,rfl⟩
 ·rw [dF (p:=0<=k/\k<=n) (λh=>h0 h.1)]
  go_enter func82,ntmps82
  go_wp2
  go_ret
  exact⟨rfl,rfl⟩
def newE (n:Nat)(width:Int):Int:=if width<1\/128<width then 18 else if 4096<n then 23 else 0
theorem new_bad (a:Option Addr)(n cap:Nat)(width:Int)(w:World)(he:newE n width≠0) :
  Calls prog 28 #[.slice a n cap,.int .i64 width] w λe w'=>e=.returned (.tuple #[.pointer none,.int .i64 (newE n width)])/\w'=w:=by
 by_cases h1:width<1
 ·have e1:newE n width=18:=by unfold newE;rw [if_pos (.inl h1)]
  rw [e1]
  clear he e1
  go_enter func28,ntmps28
  go_wp2
  exact bodyPost_ret (v:=.tuple #[.pointer none,.int .i64 18]) (by simp [results,results28,go_sem]) rfl ⟨rfl,rfl⟩
 by_cases h2:128<width
 ·have e1:newE n width=18:=by unfold newE;rw [if_pos (.inr h2)]
  rw [e1]
  clear he e1
  go_enter func28,ntmps28
  go_wp2
  exact bodyPost_ret (v:=.tuple #[.pointer none,.int .i64 18]) (by simp [results,results28,go_sem]) rfl ⟨rfl,rfl⟩
 by_cases h3:4096<n
 ·have e1:newE n width=23:=by unfold newE;rw [if_neg (by omega),if_pos h3]
  rw [e1]
  clear he e1
  go_enter func28,ntmps28
  go_wp2
  exact bodyPost_ret (v:=.tuple #[.pointer none,.int .i64 23]) (by simp [results,results28,go_sem]) rfl ⟨rfl,rfl⟩
 ·exact absurd (by unfold newE;rw [if_neg (by omega),if_neg h3]) he
end Go.Proofs.YtfmhdimaijimlaaGreatDoor.D
namespace Go.Proofs.YtfmhdimaijimlaaGreatDoor.V
open Go.RowKit
open Go.Proofs.YtfmhdimaijimlaaGreatDoor.H (ak Cp)
section
variable {w w':World}
theorem new_bad (c:Cf)(hc:c.may=false)(a:Option Addr)(n cap:Nat)(w:World):Calls prog 11 #[c.v,.slice a n cap] w λe w'=>e=.returned (.tuple #[.pointer none,.int .i64 16])/\Below w.heap.size w w':=by
 obtain⟨W,hW⟩:∃W,W=w.alloc (Obj.cells c.L.toArray 23):=⟨_,rfl⟩
 have he:=c.enter w
 rw [<-hW] at he
 have HB:=aa he.1
 have HLd:=aa (Jo he.2)
 have HM:=aa (AW c W)
 rw [hc] at HM
 have HW:=aa hW
 clear he hW hc
 go_enter func11,ntmps11
 go_upto_region 1 with fail
 rw [<-HW.o]
 go_wp2_with (first|((with_reducible refine R.aP HLd.o ?_ ?_);(· rfl))|(go_at_call 27;refine HM.o.mono ?_;rintro e w1 ⟨rfl,hb1⟩;have HB1:=aa hb1;clear hb1))
 exact bodyPost_ret (v:=.tuple #[.pointer none,.int .i64 16]) (by simp [results,results11,go_sem]) rfl ⟨rfl,al HB.o HB1.o⟩
theorem new_many (c:Cf)(hc:c.may=true)(a:Option Addr)(n cap:Nat)(w:World)(hn:4096<n):Calls prog 11 #[c.v,.slice a n cap] w λe w'=>e=.returned (.tuple #[.pointer none,.int .i64 23])/\Below w.heap.size w w':=by
 obtain⟨W,hW⟩:∃W,W=w.alloc (Obj.cells c.L.toArray 23):=⟨_,rfl⟩
 have he:=c.enter w
 rw [<-hW] at he
 have hb:=Cf.vf.1 hc
 have HB:=aa he.1
 have HLd:=aa (Jo he.2)
 have HX:=aa he.2
 have HM:=aa (AW c W)
 rw [hc] at HM
 have hE:D.newE n c.W=23:=by unfold D.newE;rw [if_neg (by omega),if_pos hn]
 have HN:=aa (λU=>D.new_bad a n cap c.W U (by rw [hE];decide))
 rw [hE] at HN
 have HW:=aa hW
 clear he hW hc hb hE hn
 go_enter func11,ntmps11
 go_upto_region 1 with fail
 rw [<-HW.o]
 go_upto_region 3 with (first|((with_reducible refine R.aP HLd.o ?_ ?_);(· rfl))|(go_at_call 27;refine HM.o.mono ?_;rintro e w1 ⟨rfl,hb1⟩;have HB1:=aa hb1;clear hb1))
 have x0:=(R.Bx.later HB1.o HX.o).cell 0 rfl
 go_wp2_with (first|(go_at_call 28;refine (HN.o w1).mono ?_;rintro e w2 ⟨rfl,hw2⟩;obtain rfl:=hw2.symm;clear hw2))
 exact bodyPost_ret (v:=.tuple #[.pointer none,.int .i64 23]) (by simp [results,results11,go_sem]) rfl ⟨rfl,al HB.o HB1.o⟩
end
end Go.Proofs.YtfmhdimaijimlaaGreatDoor.V
