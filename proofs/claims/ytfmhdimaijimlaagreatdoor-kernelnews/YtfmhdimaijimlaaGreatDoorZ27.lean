import Derived.Test.YtfmhdimaijimlaaGreatDoorZ26
set_option linter.all false
set_option maxRecDepth 1000000
set_option maxHeartbeats 8000000
open Go.Proofs.Tryz
variable {w w' w1 w2:Go.World}{n m k i j b g base kn:Nat}{a:Option Go.Addr}
namespace Go.Proofs.YtfmhdimaijimlaaGreatDoor.V
open Go.RowKit
open Go.Proofs.YtfmhdimaijimlaaGreatDoor.H (ak Cp)
section
variable {w w':World}
def Fl (w:World)(a:Option Addr)(L:List Value):Prop:=0<L.length->∃g,a=some ⟨g,0,none⟩/\∀j v,L[j]?=some v->w.cell? ⟨g,j,none⟩=some v
theorem Fl.later {L:List Value}(h:Fl w a L)(hb:Below w.heap.size w w'):Fl w' a L:=λh0=>by
 obtain⟨g,e,hc⟩:=h h0
 exact⟨g,e,λj v hv=>cell_later hb (hc j v hv)⟩
theorem Fl.of {base:Nat}{e:TypeId}{k:Nat}{a:Option Addr}{n cap:Nat}{L:List Value}(h:Ow w base e k a n cap L)(hk:L.length=n*k):Fl w a L:=λh0=>by
 have hn:0<n:=Nat.pos_of_ne_zero (λe=>by rw [e,Nat.zero_mul] at hk;omega)
 obtain⟨b,h1,h2⟩:=Ow.at_ h hn
 exact⟨b,h1,h2⟩
theorem Fl.own {base:Nat}{e:TypeId}{a:Option Addr}{n cap:Nat}{L:List Value}(h:Own w base e a n cap L):Fl w a L:=Fl.of h.row (by rw [h.len,Nat.mul_one])
theorem pO (L:List Nat){b:Option Addr}{ca cb:Nat}(h:Fl w a (S.aM L))(k:Fl w b (S.aM L))(hn:L.length<=140737488355328) :
  Calls prog 19 #[.slice a L.length ca,.slice b L.length cb] w λe w'=>e=.returned (.bool true)/\Below w.heap.size w w':=by
 obtain⟨n,hnn⟩:∃n,n=L.length:=⟨_,rfl⟩
 have HL:=aa hnn
 have H:=aa h
 have HK:=aa k
 rw [<-hnn] at hn ⊢
 clear h k hnn
 go_enter func19,ntmps19
 go_upto_region 4 with fail
 go_loopw [5] (λv U=>∃i:Nat,v=.int .i64 (i:Int)/\i<=n/\Below w.heap.size w U) (λv _=>n - S.ef v)
 case atStart=>exact⟨0,rfl,Nat.zero_le _,Below.refl _ _⟩
 case round =>
  obtain⟨i,rfl,hi,hB⟩:=hrel
  have HIn:=aa hi
  have HB:=aa hB
  clear hi hB
  by_cases hlt:i<n
  ·have hd:decide ((i:Int)<(n:Int))=true:=dT (by omega)
   obtain⟨x,hx⟩:∃x,L[i]?=some x:=⟨_,gE (by have:=HL.o;omega)⟩
   have h0:0<(S.aM L).length:=by rw [S.ax];have:=HL.o;omega
   obtain⟨ga,rfl,hca⟩:=H.o h0
   obtain⟨gb,rfl,hcb⟩:=HK.o h0
   skip
   have HS:Hid (∀U,Below wr.heap.size wr U->U.cell? ⟨ga,i,none⟩=some (.int .u8 (x:Int))/\U.cell? ⟨gb,i,none⟩=some (.int .u8 (x:Int))):=λU hU=>by
    have hU2:=al HB.o hU
    exact⟨cell_later hU2 (hca _ _ (by simp [S.aM,hx])),cell_later hU2 (hcb _ _ (by simp [S.aM,hx]))⟩
   clear hca hcb hx h0
   go_upto_region 6 with fail
   go_region_held3 (λU=>U.cell? ⟨ga,i,none⟩=some (.int .u8 (x:Int))/\U.cell? ⟨gb,i,none⟩=some (.int .u8 (x:Int))) (first|exact HS.o _ (Below.refl _ _).drew|exact HS.o _ (Below.refl _ _)) (first|fail)
   all_goals (try go_wp2)
   all_goals exact⟨⟨i+1,rfl,by omega,(HB.o.drew)⟩,by simp [S.ef];omega⟩
  ·obtain rfl:i=n:=by have:=HIn.o;omega
   have hd:decide ((i:Int)<(i:Int))=false:=by simp
   go_wp2
   go_ret
   exact⟨cW rfl,HB.o⟩
theorem dt:∀(M:List Cp) (j:Nat) (t:Cp),M[j]?=some t->∀k,k<3->(az M)[j*3+k]?=(dq t)[k]?
 | [],j,t,h,k,hk=>by simp at h
 | x::M,0,t,h,k,hk=>by
  simp only [List.getElem?_cons_zero,Option.some.injEq] at h
  subst h
  simp only [az,List.flatMap_cons]
  rw [List.getElem?_append_left (by simp [dq];omega)]
  simp
 | x::M,j+1,t,h,k,hk=>by
  rw [List.getElem?_cons_succ] at h
  have:=dt M j t h k hk
  simp only [az,List.flatMap_cons] at this ⊢
  rw [List.getElem?_append_right (by simp [dq];omega),<-this]
  congr 1
  simp [dq]
  omega
theorem g6 (M:List Cp):(az M).length=M.length*3:=by
 induction M with
 | nil=>rfl
 | cons x M ih=>simp only [az,List.flatMap_cons,List.length_append,List.length_cons] at ih ⊢;rw [ih];simp [dq];omega
theorem rj (L:List Cp){b:Option Addr}{ca cb:Nat}(h:Fl w a (az L))(k:Fl w b (az L))(hn:L.length<=140737488355328) :
  Calls prog 34 #[.slice a L.length ca,.slice b L.length cb] w λe w'=>e=.returned (.bool true)/\Below w.heap.size w w':=by
 obtain⟨n,hnn⟩:∃n,n=L.length:=⟨_,rfl⟩
 have HL:=aa hnn
 have H:=aa h
 have HK:=aa k
 rw [<-hnn] at hn ⊢
 clear h k hnn
 go_enter func34,ntmps34
 go_upto_region 4 with fail
 go_loopw [5] (λv U=>∃i:Nat,v=.int .i64 (i:Int)/\i<=n/\Below w.heap.size w U) (λv _=>n - S.ef v)
 case atStart=>exact⟨0,rfl,Nat.zero_le _,Below.refl _ _⟩
 case round =>
  obtain⟨i,rfl,hi,hB⟩:=hrel
  have HIn:=aa hi
  have HB:=aa hB
  clear hi hB
  by_cases hlt:i<n
  ·have hd:decide ((i:Int)<(n:Int))=true:=dT (by omega)
   obtain⟨x,hx⟩:∃x,L[i]?=some x:=⟨_,gE (by have:=HL.o;omega)⟩
   have h0:0<(az L).length:=by rw [g6];have:=HL.o;omega
   obtain⟨ga,rfl,hca⟩:=H.o h0
   obtain⟨gb,rfl,hcb⟩:=HK.o h0
   obtain⟨xo,xh,xl⟩:=x
   have HS:Hid (∀U,Below wr.heap.size wr U->U.cell? ⟨ga,i*3,none⟩=some (.int .i64 xo)/\U.cell? ⟨ga,i*3+1,none⟩=some (.int .u64 (xh:Int))/\U.cell? ⟨ga,i*3+2,none⟩=some (.int .u64 (xl:Int))/\U.cell? ⟨gb,i*3,none⟩=some (.int .i64 xo)/\U.cell? ⟨gb,i*3+1,none⟩=some (.int .u64 (xh:Int))/\U.cell? ⟨gb,i*3+2,none⟩=some (.int .u64 (xl:Int))):=λU hU=>by
    have hU2:=al HB.o hU
    exact⟨cell_later hU2 (hca _ _ (dt L i _ hx 0 (by omega))),cell_later hU2 (hca _ _ (dt L i _ hx 1 (by omega))),cell_later hU2 (hca _ _ (dt L i _ hx 2 (by omega))),cell_later hU2 (hcb _ _ (dt L i _ hx 0 (by omega))),cell_later hU2 (hcb _ _ (dt L i _ hx 1 (by omega))),cell_later hU2 (hcb _ _ (dt L i _ hx 2 (by omega)))⟩
   clear hca hcb hx h0
   go_upto_region 6 with fail
   go_region_held3 (λU=>U.cell? ⟨ga,i*3,none⟩=some (.int .i64 xo)/\U.cell? ⟨ga,i*3+1,none⟩=some (.int .u64 (xh:Int))/\U.cell? ⟨ga,i*3+2,none⟩=some (.int .u64 (xl:Int))/\U.cell? ⟨gb,i*3,none⟩=some (.int .i64 xo)/\U.cell? ⟨gb,i*3+1,none⟩=some (.int .u64 (xh:Int))/\U.cell? ⟨gb,i*3+2,none⟩=some (.int .u64 (xl:Int))) (first|exact HS.o _ (Below.refl _ _).drew|exact HS.o _ (Below.refl _ _)) (first|fail)
   all_goals (try go_wp2)
   all_goals exact⟨⟨i+1,rfl,by omega,(HB.o.drew)⟩,by simp [S.ef];omega⟩
  ·obtain rfl:i=n:=by have:=HIn.o;omega
   have hd:decide ((i:Int)<(i:Int))=false:=by simp
   go_wp2
   go_ret
   exact⟨cW rfl,HB.o⟩
end
section
variable {w w':World}
theorem dp:∀(M:List Ev) (j:Nat) (t:Ev),M[j]?=some t->∀k,k<2->(sn M)[j*2+k]?=t.c[k]?
 | [],j,t,h,k,hk=>by simp at h
 | x::M,0,t,h,k,hk=>by
  simp only [List.getElem?_cons_zero,Option.some.injEq] at h
  subst h
  simp only [sn,List.flatMap_cons]
  rw [List.getElem?_append_left (by simp [Ev.c];omega)]
  simp
 | x::M,j+1,t,h,k,hk=>by
  rw [List.getElem?_cons_succ] at h
  have:=dp M j t h k hk
  simp only [sn,List.flatMap_cons] at this ⊢
  rw [List.getElem?_append_right (by simp [Ev.c];omega),<-this]
  congr 1
  simp [Ev.c]
  omega
theorem dv (M:List Ev):(sn M).length=M.length*2:=by
 induction M with
 | nil=>rfl
 | cons x M ih=>simp only [sn,List.flatMap_cons,List.length_append,List.length_cons] at ih ⊢;rw [ih];simp [Ev.c];omega
theorem gZ (M:List Tok):(eF M).length=M.length*5:=by
 induction M with
 | nil=>rfl
 | cons x M ih=>simp only [eF,List.flatMap_cons,List.length_append,List.length_cons] at ih ⊢;rw [ih];simp [fe];omega
structure ng (w:World)(p:Ps)(a1:Option Addr)(Q1:List Ev)(a2 a3:Option Addr)(Q3:List Ev):Prop where
 o:Fl w a1 (sn Q1)
 ok:Q1.map Ev.key=p.O.map sk
 oe:∀x∈Q1,Fl w x.a x.vs
 t:Fl w a2 (eF p.T)
 q:Fl w a3 (sn Q3)
 pk:Q3.map Ev.key=p.P.map Df
 pe:∀x∈Q3,Fl w x.a x.vs
theorem ng.later {p:Ps}{a1 a2 a3:Option Addr}{Q1 Q3:List Ev}(h:ng w p a1 Q1 a2 a3 Q3)(hb:Below w.heap.size w w'):ng w' p a1 Q1 a2 a3 Q3:=⟨h.o.later hb,h.ok,λx hx=>(h.oe x hx).later hb,h.t.later hb,h.q.later hb,h.pk,λx hx=>(h.pe x hx).later hb⟩
theorem df.look {p:Ps}{a1 c1 Q1 a2 c2 a3 c3 Q3}(h:df w base p a1 c1 Q1 a2 c2 a3 c3 Q3):ng w p a1 Q1 a2 a3 Q3:=by
 refine⟨Fl.of h.os.row (by rw [dv,h.os.len]),h.ok,λx hx=>?_,Fl.of h.ts (by rw [gZ]),Fl.of h.ps.row (by rw [dv,h.ps.len]),h.pk,λx hx=>?_⟩
 ·refine Fl.of (h.os.each x hx) ?_
  have hm:x.key∈p.O.map sk:=by rw [<-h.ok];exact List.mem_map_of_mem hx
  obtain⟨v,_,hv⟩:=List.mem_map.1 hm
  simp only [sk,Ev.key,Prod.mk.injEq] at hv
  rw [<-hv.2.1,<-hv.2.2,S.ax,Nat.mul_one]
 ·refine Fl.of (h.ps.each x hx) ?_
  have hm:x.key∈p.P.map Df:=by rw [<-h.pk];exact List.mem_map_of_mem hx
  obtain⟨v,_,hv⟩:=List.mem_map.1 hm
  simp only [Df,Ev.key,Prod.mk.injEq] at hv
  rw [<-hv.2.1,<-hv.2.2,g6]
structure Ps.Small (p:Ps):Prop where
 o:p.O.length<=1048576
 t:p.T.length<=1048576
 q:p.P.length<=1048576
 oe:∀v∈p.O,v.2.length<=1048576
 pe:∀v∈p.P,v.2.length<=1048576
theorem jP {α:Type}{K:α->Int×List Value×Nat}{P:List α}{Q:List Ev}(h:Q.map Ev.key=P.map K){v:α}(hv:P[i]?=some v):∃x,Q[i]?=some x/\x∈Q/\x.id=(K v).1/\x.vs=(K v).2.1/\x.len=(K v).2.2:=by
 have h1:(Q.map Ev.key)[i]?=some (K v):=by rw [h,List.getElem?_map,hv];rfl
 rw [List.getElem?_map] at h1
 cases hx:Q[i]? with
 | none=>rw [hx] at h1;cases h1
 | some x =>
  rw [hx] at h1
  simp only [Option.map_some,Option.some.injEq,Ev.key] at h1
  exact⟨x,rfl,List.mem_of_getElem? hx,by rw [<-h1],by rw [<-h1],by rw [<-h1]⟩
theorem kV {α:Type}{K:α->Int×List Value×Nat}{P:List α}{Q:List Ev}(h:Q.map Ev.key=P.map K):Q.length=P.length:=by have:=congrArg List.length h;simpa using this
theorem pC (p:Ps){a1 a2 a3 b1 b2 b3:Option Addr}{c1 c2 c3 d1 d2 d3:Nat}{Q1 Q3 R1 R3:List Ev}(h:ng w p a1 Q1 a2 a3 Q3)(k:ng w p b1 R1 b2 b3 R3)(hs:p.Small) :
  Calls prog 16 #[Eb a1 p.O.length c1 a2 p.T.length c2 a3 p.P.length c3 p.nx p.px p.t,Eb b1 p.O.length d1 b2 p.T.length d2 b3 p.P.length d3 p.nx p.px p.t] w λe w'=>e=.returned (.bool true)/\Below w.heap.size w w':=by
 have HH:=aa h
 have HK:=aa k
 have HSm:=aa hs
 obtain⟨n1,hn1⟩:∃n1,n1=p.O.length:=⟨_,rfl⟩
 obtain⟨n2,hn2⟩:∃n2,n2=p.T.length:=⟨_,rfl⟩
 obtain⟨n3,hn3⟩:∃n3,n3=p.P.length:=⟨_,rfl⟩
 have m1:n1<=1048576:=by rw [hn1];exact hs.o
 have m2:n2<=1048576:=by rw [hn2];exact hs.t
 have m3:n3<=1048576:=by rw [hn3];exact hs.q
 have HN1:=aa hn1
 have HN2:=aa hn2
 have HN3:=aa hn3
 rw [<-hn1,<-hn2,<-hn3]
 generalize p.nx=nx
 generalize p.px=px
 generalize p.t=ta
 obtain⟨W,hW⟩:∃W,W=(w.alloc (Obj.cells [.slice a1 n1 c1,.slice a2 n2 c2,.slice a3 n3 c3,.int .i64 nx,.int .i64 px,.int .i64 ta].toArray 53)).alloc (Obj.cells [.slice b1 n1 d1,.slice b2 n2 d2,.slice b3 n3 d3,.int .i64 nx,.int .i64 px,.int .i64 ta].toArray 53):=⟨_,rfl⟩
 have HB:Hid (Below w.heap.size w W):=by rw [hW];exact aw _ _ _
 have HX1:Hid (R.Bx W w.heap.size [.slice a1 n1 c1,.slice a2 n2 c2,.slice a3 n3 c3,.int .i64 nx,.int .i64 px,.int .i64 ta]):=by rw [hW];exact R.Bx.later (ab _ _) (R.Bx.new w _ _)
 have HX2:Hid (R.Bx W (w.heap.size+1) [.slice b1 n1 d1,.slice b2 n2 d2,.slice b3 n3 d3,.int .i64 nx,.int .i64 px,.int .i64 ta]):=by
  rw [hW]
  have:=R.Bx.new (w.alloc (Obj.cells [.slice a1 n1 c1,.slice a2 n2 c2,.slice a3 n3 c3,.int .i64 nx,.int .i64 px,.int .i64 ta].toArray 53)) [.slice b1 n1 d1,.slice b2 n2 d2,.slice b3 n3 d3,.int .i64 nx,.int .i64 px,.int .i64 ta] 53
  rwa [World.size_alloc] at this
 have HW:=aa hW
 clear h k hs hn1 hn2 hn3 hW
 go_enter func16,ntmps16
 go_upto_region 1 with fail
 have hW:=HW.o
 rw [<-hW]
 clear hW
 have x0:=HX1.o.cell 0 rfl
 have y0:=HX2.o.cell 0 rfl
 have x1:=HX1.o.cell 1 rfl
 have y1:=HX2.o.cell 1 rfl
 have x2:=HX1.o.cell 2 rfl
 have y2:=HX2.o.cell 2 rfl
 have x3:=HX1.o.cell 3 rfl
 have y3:=HX2.o.cell 3 rfl
 have x4:=HX1.o.cell 4 rfl
 have y4:=HX2.o.cell 4 rfl
 have x5:=HX1.o.cell 5 rfl
 have y5:=HX2.o.cell 5 rfl
 go_upto_region 4 with fail
 clear x0 y0 x1 y1 x2 y2 x3 y3 x4 y4 x5 y5
 go_loopw [5] (λv U=>∃i:Nat,v=.int .i64 (i:Int)/\i<=n1/\Below W.heap.size W U) (λv _=>n1 - S.ef v)
 case atStart=>exact⟨0,rfl,Nat.zero_le _,Below.refl _ _⟩
 case round =>
  obtain⟨i,rfl,hi,hB⟩:=hrel
  have HIn:=aa hi
  have HB0r:=aa hB
  clear hi hB
  have x0:=(R.Bx.later HB0r.o HX1.o).cell 0 rfl
  have y0:=(R.Bx.later HB0r.o HX2.o).cell 0 rfl
  by_cases hlt:i<n1
  ·have hd:decide ((i:Int)<(n1:Int))=true:=dT (by omega)
   obtain⟨v,hv⟩:∃v,p.O[i]?=some v:=⟨_,gE (by have:=HN1.o;omega)⟩
   obtain⟨x,hx,hxm,Ef,DS,yk⟩:=jP HH.o.ok hv
   obtain⟨y,hy,hym,ey1,ey2,ey3⟩:=jP HK.o.ok hv
   obtain⟨ga,rfl,hca⟩:=HH.o.o (by rw [dv,kV HH.o.ok];have:=HN1.o;omega)
   obtain⟨gb,rfl,hcb⟩:=HK.o.o (by rw [dv,kV HK.o.ok];have:=HN1.o;omega)
   have hfx:=HH.o.oe x hxm
   have hfy:=HK.o.oe y hym
   have hx0:=hca _ _ (dp _ i x hx 0 (by omega))
   have hx1:=hca _ _ (dp _ i x hx 1 (by omega))
   have hy0:=hcb _ _ (dp _ i y hy 0 (by omega))
   have hy1:=hcb _ _ (dp _ i y hy 1 (by omega))
   have hln:=HSm.o.oe v (List.mem_of_getElem? hv)
   obtain⟨xi,xv,xn,xa,xc⟩:=x
   obtain⟨yi,yv,yn,ya,yc⟩:=y
   simp only [sk,Ev.c,List.getElem?_cons_zero,List.getElem?_cons_succ] at Ef DS yk ey1 ey2 ey3 hx0 hx1 hy0 hy1 hfx hfy
   subst Ef DS yk ey1 ey2 ey3
   obtain⟨z,hz⟩:∃z,z=v.1:=⟨_,rfl⟩
   obtain⟨zl,hzl⟩:∃zl,zl=v.2.length:=⟨_,rfl⟩
   rw [<-hz] at hx0 hy0
   rw [<-hzl] at hx1 hy1
   have HSb:Hid (∀U,Below w.heap.size w U->Calls prog 19 #[.slice xa zl xc,.slice ya zl yc] U λe w'=>e=.returned (.bool true)/\Below U.heap.size U w'):=λU hU=>by rw [hzl];exact pO v.2 (hfx.later hU) (hfy.later hU) (by omega)
   have HS:Hid (∀U,Below wr.heap.size wr U->U.cell? ⟨w.heap.size,0,none⟩=some (.slice (some ⟨ga,0,none⟩) n1 c1)/\U.cell? ⟨w.heap.size+1,0,none⟩=some (.slice (some ⟨gb,0,none⟩) n1 d1)/\U.cell? ⟨ga,i*2,none⟩=some (.int .i64 z)/\U.cell? ⟨ga,i*2+1,none⟩=some (.slice xa zl xc)/\U.cell? ⟨gb,i*2,none⟩=some (.int .i64 z)/\U.cell? ⟨gb,i*2+1,none⟩=some (.slice ya zl yc)):=λU hU=>by
    have hU3:=al HB0r.o hU
    have hU2:=al HB.o hU3
    exact⟨(R.Bx.later hU3 HX1.o).cell 0 rfl,(R.Bx.later hU3 HX2.o).cell 0 rfl,cell_later hU2 hx0,cell_later hU2 hx1,cell_later hU2 hy0,cell_later hU2 hy1⟩
   have HBw:Hid (Below w.heap.size w wr):=al HB.o HB0r.o
   clear hca hcb hx hy hv hxm hym hfx hfy hx0 hx1 hy0 hy1 hln hz hzl
   go_upto_region 6 with fail
   clear x0 y0
   go_region_held3 (λU=>U.cell? ⟨w.heap.size,0,none⟩=some (.slice (some ⟨ga,0,none⟩) n1 c1)/\U.cell? ⟨w.heap.size+1,0,none⟩=some (.slice (some ⟨gb,0,none⟩) n1 d1)/\U.cell? ⟨ga,i*2,none⟩=some (.int .i64 z)/\U.cell? ⟨ga,i*2+1,none⟩=some (.slice xa zl xc)/\U.cell? ⟨gb,i*2,none⟩=some (.int .i64 z)/\U.cell? ⟨gb,i*2+1,none⟩=some (.slice ya zl yc)) (first|exact HS.o _ (Below.refl _ _).drew|exact HS.o _ HU6.o) (first|(go_at_call 19;refine (HSb.o _ HBw.o.drew).mono ?_;rintro e u6 ⟨rfl,hb6⟩;have HU6:Hid (Below wr.heap.size wr u6):=al (Below.refl _ _).drew hb6;clear hb6))
   all_goals (try go_wp2)
   all_goals exact⟨⟨i+1,rfl,by omega,al HB0r.o HU6.o⟩,by simp [S.ef];omega⟩
  ·obtain rfl:n1=i:=by have:=HIn.o;omega
   have hd:decide ((n1:Int)<(n1:Int))=false:=by simp
   have HBr1:=aa HB0r.o
   go_upto_region 9 with fail
   clear x0 y0
   go_loopw [6] (λv U=>∃i:Nat,v=.int .i64 (i:Int)/\i<=n2/\Below W.heap.size W U) (λv _=>n2 - S.ef v)
   case atStart=>exact⟨0,rfl,Nat.zero_le _,HBr1.o⟩
   case round =>
    obtain⟨i,rfl,hi,hB⟩:=hrel
    have HIn:=aa hi
    have HB1r:=aa hB
    clear hi hB
    have x0:=(R.Bx.later HB1r.o HX1.o).cell 1 rfl
    have y0:=(R.Bx.later HB1r.o HX2.o).cell 1 rfl
    by_cases hlt:i<n2
    ·have hd:decide ((i:Int)<(n2:Int))=true:=dT (by omega)
     obtain⟨v,hv⟩:∃v,p.T[i]?=some v:=⟨_,gE (by have:=HN2.o;omega)⟩
     obtain⟨ga,rfl,hca⟩:=HH.o.t (by rw [gZ];have:=HN2.o;omega)
     obtain⟨gb,rfl,hcb⟩:=HK.o.t (by rw [gZ];have:=HN2.o;omega)
     obtain⟨⟨tb,th,tl⟩,tr,tq⟩:=v
     have hat:=pA p.T i _ hv
     have HS:Hid (∀U,Below wr.heap.size wr U->U.cell? ⟨w.heap.size,1,none⟩=some (.slice (some ⟨ga,0,none⟩) n2 c2)/\U.cell? ⟨w.heap.size+1,1,none⟩=some (.slice (some ⟨gb,0,none⟩) n2 d2)/\U.cell? ⟨ga,i*5,none⟩=some (.int .i64 tb)/\U.cell? ⟨ga,i*5+1,none⟩=some (.int .u64 (th:Int))/\U.cell? ⟨ga,i*5+2,none⟩=some (.int .u64 (tl:Int))/\U.cell? ⟨ga,i*5+3,none⟩=some (.int .i64 tr)/\U.cell? ⟨ga,i*5+4,none⟩=some (.int .i64 tq)/\U.cell? ⟨gb,i*5,none⟩=some (.int .i64 tb)/\U.cell? ⟨gb,i*5+1,none⟩=some (.int .u64 (th:Int))/\U.cell? ⟨gb,i*5+2,none⟩=some (.int .u64 (tl:Int))/\U.cell? ⟨gb,i*5+3,none⟩=some (.int .i64 tr)/\U.cell? ⟨gb,i*5+4,none⟩=some (.int .i64 tq)):=λU hU=>by
      have hU3:=al HB1r.o hU
      have hU2:=al HB.o hU3
      exact⟨(R.Bx.later hU3 HX1.o).cell 1 rfl,(R.Bx.later hU3 HX2.o).cell 1 rfl,cell_later hU2 (hca _ _ (hat 0 (by omega))),cell_later hU2 (hca _ _ (hat 1 (by omega))),cell_later hU2 (hca _ _ (hat 2 (by omega))),cell_later hU2 (hca _ _ (hat 3 (by omega))),cell_later hU2 (hca _ _ (hat 4 (by omega))),cell_later hU2 (hcb _ _ (hat 0 (by omega))),cell_later hU2 (hcb _ _ (hat 1 (by omega))),cell_later hU2 (hcb _ _ (hat 2 (by omega))),cell_later hU2 (hcb _ _ (hat 3 (by omega))),cell_later hU2 (hcb _ _ (hat 4 (by omega)))⟩
     clear hca hcb hv hat
     go_upto_region 11 with fail
     clear x0 y0
     go_region_held3 (λU=>U.cell? ⟨w.heap.size,1,none⟩=some (.slice (some ⟨ga,0,none⟩) n2 c2)/\U.cell? ⟨w.heap.size+1,1,none⟩=some (.slice (some ⟨gb,0,none⟩) n2 d2)/\U.cell? ⟨ga,i*5,none⟩=some (.int .i64 tb)/\U.cell? ⟨ga,i*5+1,none⟩=some (.int .u64 (th:Int))/\U.cell? ⟨ga,i*5+2,none⟩=some (.int .u64 (tl:Int))/\U.cell? ⟨ga,i*5+3,none⟩=some (.int .i64 tr)/\U.cell? ⟨ga,i*5+4,none⟩=some (.int .i64 tq)/\U.cell? ⟨gb,i*5,none⟩=some (.int .i64 tb)/\U.cell? ⟨gb,i*5+1,none⟩=some (.int .u64 (th:Int))/\U.cell? ⟨gb,i*5+2,none⟩=some (.int .u64 (tl:Int))/\U.cell? ⟨gb,i*5+3,none⟩=some (.int .i64 tr)/\U.cell? ⟨gb,i*5+4,none⟩=some (.int .i64 tq)) (first|exact HS.o _ (Below.refl _ _).drew|exact HS.o _ (Below.refl _ _)) (first|fail)
     all_goals (try go_wp2)
     all_goals exact⟨⟨i+1,rfl,by omega,HB1r.o.drew⟩,by simp [S.ef];omega⟩
    ·obtain rfl:n2=i:=by have:=HIn.o;omega
     have hd:decide ((n2:Int)<(n2:Int))=false:=by simp
     have HBr2:=aa HB1r.o
     go_upto_region 14 with fail
     clear x0 y0
     go_loopw [7] (λv U=>∃i:Nat,v=.int .i64 (i:Int)/\i<=n3/\Below W.heap.size W U) (λv _=>n3 - S.ef v)
     case atStart=>exact⟨0,rfl,Nat.zero_le _,HBr2.o⟩
     case round =>
      obtain⟨i,rfl,hi,hB⟩:=hrel
      have HIn:=aa hi
      have HB2r:=aa hB
      clear hi hB
      have x0:=(R.Bx.later HB2r.o HX1.o).cell 2 rfl
      have y0:=(R.Bx.later HB2r.o HX2.o).cell 2 rfl
      by_cases hlt:i<n3
      ·have hd:decide ((i:Int)<(n3:Int))=true:=dT (by omega)
       obtain⟨v,hv⟩:∃v,p.P[i]?=some v:=⟨_,gE (by have:=HN3.o;omega)⟩
       obtain⟨x,hx,hxm,Ef,DS,yk⟩:=jP HH.o.pk hv
       obtain⟨y,hy,hym,ey1,ey2,ey3⟩:=jP HK.o.pk hv
       obtain⟨ga,rfl,hca⟩:=HH.o.q (by rw [dv,kV HH.o.pk];have:=HN3.o;omega)
       obtain⟨gb,rfl,hcb⟩:=HK.o.q (by rw [dv,kV HK.o.pk];have:=HN3.o;omega)
       have hfx:=HH.o.pe x hxm
       have hfy:=HK.o.pe y hym
       have hx0:=hca _ _ (dp _ i x hx 0 (by omega))
       have hx1:=hca _ _ (dp _ i x hx 1 (by omega))
       have hy0:=hcb _ _ (dp _ i y hy 0 (by omega))
       have hy1:=hcb _ _ (dp _ i y hy 1 (by omega))
       have hln:=HSm.o.pe v (List.mem_of_getElem? hv)
       obtain⟨xi,xv,xn,xa,xc⟩:=x
       obtain⟨yi,yv,yn,ya,yc⟩:=y
       simp only [Df,Ev.c,List.getElem?_cons_zero,List.getElem?_cons_succ] at Ef DS yk ey1 ey2 ey3 hx0 hx1 hy0 hy1 hfx hfy
       subst Ef DS yk ey1 ey2 ey3
       obtain⟨z,hz⟩:∃z,z=v.1:=⟨_,rfl⟩
       obtain⟨zl,hzl⟩:∃zl,zl=v.2.length:=⟨_,rfl⟩
       rw [<-hz] at hx0 hy0
       rw [<-hzl] at hx1 hy1
       have HSb:Hid (∀U,Below w.heap.size w U->Calls prog 34 #[.slice xa zl xc,.slice ya zl yc] U λe w'=>e=.returned (.bool true)/\Below U.heap.size U w'):=λU hU=>by rw [hzl];exact rj v.2 (hfx.later hU) (hfy.later hU) (by omega)
       have HS:Hid (∀U,Below wr.heap.size wr U->U.cell? ⟨w.heap.size,2,none⟩=some (.slice (some ⟨ga,0,none⟩) n3 c3)/\U.cell? ⟨w.heap.size+1,2,none⟩=some (.slice (some ⟨gb,0,none⟩) n3 d3)/\U.cell? ⟨ga,i*2,none⟩=some (.int .i64 z)/\U.cell? ⟨ga,i*2+1,none⟩=some (.slice xa zl xc)/\U.cell? ⟨gb,i*2,none⟩=some (.int .i64 z)/\U.cell? ⟨gb,i*2+1,none⟩=some (.slice ya zl yc)):=λU hU=>by
        have hU3:=al HB2r.o hU
        have hU2:=al HB.o hU3
        exact⟨(R.Bx.later hU3 HX1.o).cell 2 rfl,(R.Bx.later hU3 HX2.o).cell 2 rfl,cell_later hU2 hx0,cell_later hU2 hx1,cell_later hU2 hy0,cell_later hU2 hy1⟩
       have HBw:Hid (Below w.heap.size w wr):=al HB.o HB2r.o
       clear hca hcb hx hy hv hxm hym hfx hfy hx0 hx1 hy0 hy1 hln hz hzl
       go_upto_region 16 with fail
       clear x0 y0
       go_region_held3 (λU=>U.cell? ⟨w.heap.size,2,none⟩=some (.slice (some ⟨ga,0,none⟩) n3 c3)/\U.cell? ⟨w.heap.size+1,2,none⟩=some (.slice (some ⟨gb,0,none⟩) n3 d3)/\U.cell? ⟨ga,i*2,none⟩=some (.int .i64 z)/\U.cell? ⟨ga,i*2+1,none⟩=some (.slice xa zl xc)/\U.cell? ⟨gb,i*2,none⟩=some (.int .i64 z)/\U.cell? ⟨gb,i*2+1,none⟩=some (.slice ya zl yc)) (first|exact HS.o _ (Below.refl _ _).drew|exact HS.o _ HU6.o) (first|(go_at_call 34;refine (HSb.o _ HBw.o.drew).mono ?_;rintro e u6 ⟨rfl,hb6⟩;have HU6:Hid (Below wr.heap.size wr u6):=al (Below.refl _ _).drew hb6;clear hb6))
       all_goals (try go_wp2)
       all_goals exact⟨⟨i+1,rfl,by omega,al HB2r.o HU6.o⟩,by simp [S.ef];omega⟩
      ·obtain rfl:n3=i:=by have:=HIn.o;omega
       have hd:decide ((n3:Int)<(n3:Int))=false:=by simp
       have HBr3:=aa HB2r.o
       go_wp2
       go_ret
       exact⟨cW rfl,al HB.o HBr3.o⟩
end
section
variable {w w':World}{H:Hd}{s s':aI}{d d':Nat->List K.Pu}{N N':Nat->Prop}
theorem Kn.small (h:Kn w H s N):(eE H.mo s).Small:=by
 obtain⟨d,hd,ht,hf,hW⟩:=h
 obtain⟨v1,v2,v3⟩:=Jk hd
 have hm:=hd.mX
 refine⟨by show s.V.length<=_;omega,?_,?_,λv hv=>?_,λv hv=>?_⟩
 ·have h1:=vO (m:=H.mo) hf.fit.inv (s.V.map Prod.fst)
  rw [List.length_map] at h1
  have h2:s.V.length*H.mo<=64*256:=Nat.mul_le_mul v1 hm.2
  show (lP H.mo s.X s.l (s.V.map Prod.fst)).length<=_
  omega
 ·show (s.P.map _).length<=_
  rw [List.length_map]
  have:=hf.iv.dQ
  omega
 ·have:=Hy hd (v2 v hv).2.2.2
  omega
 ·obtain⟨i,hi,rfl⟩:=List.mem_map.1 hv
  have:=hf.dQ hi
  show (s.D i).length<=_
  omega
structure Cz (w:World)(a:Option Addr)(n:Nat)(C:List R.Cl)(D G:Nat->R.Sl):Prop where
 len:C.length=n
 at_:0<n->∃b o,a=some ⟨b,o,none⟩/\∀i c,C[i]?=some c->w.rangeAt b (o+i*13) (R.cC c (D i) (G i))
 is:∀i c,C[i]?=some c->R.Is w c (D i) (G i)/\(D i).n<=140737488355328/\(G i).n*8<=140737488355328
theorem zM {o:Nat}{c:R.Cl}{dd gg:R.Sl}(h:w.rangeAt b o (R.cC c dd gg)):(Instr.loadAt 45 (.pointer (some ⟨b,o,none⟩))).run prog w=.ok (.agg (R.cC c dd gg).toArray) w:=by
 have:=R.Ey h (by rfl)
 simp [Instr.loadAt,Instr.sureAddr,this]
end
open Go.Proofs.YtfmhdimaijimlaaGreatDoor.M (bh)
section
variable {w w':World}
theorem zA (n k:Int)(hk:0<k):(n.tmod k<0/\n.tmod k+k=n%k/\-k<n.tmod k)\/(0<=n.tmod k/\n.tmod k=n%k/\n.tmod k<k):=by
 have h1:=Int.emod_nonneg n (show k≠0 by omega)
 have h2:=Int.emod_lt_of_pos n hk
 have h3:=@Int.tmod_eq_emod n k
 by_cases h:0<=n\/k ∣ n
 ·rw [if_pos h] at h3
  exact .inr (by omega)
 ·rw [if_neg h] at h3
  by_cases h0:n%k=0
  ·exact absurd (.inr (Int.dvd_of_emod_eq_zero h0)) h
  ·exact .inl (by omega)
theorem vZ (n k:Int)(hk:0<k)(hk2:k<=4200)(w:World):Calls prog 10 #[.int .i64 n,.int .i64 k] w λe w'=>e=.returned (.int .i64 (n%k))/\w'=w:=by
 have hz:k≠0:=by omega
 obtain⟨m,hm⟩:∃m,m=n.tmod k:=⟨_,rfl⟩
 have hc:=zA n k hk
 rw [<-hm] at hc
 have HM:=aa hm
 generalize n%k=r at *
 rcases hc with ⟨h1,h2,h3⟩|⟨h1,h2,h3⟩
 ·have hd:decide (m<0)=true:=dT h1
  subst h2
  clear hm
  go_enter func10,ntmps10
  go_upto_region 2 with fail
  rw [<-HM.o]
  go_wp2
  go_ret
  exact⟨rfl,rfl⟩
 ·have hd:decide (m<0)=false:=dF (by omega)
  subst h2
  clear hm
  go_enter func10,ntmps10
  go_upto_region 2 with fail
  rw [<-HM.o]
  go_wp2
  go_ret
  exact⟨rfl,rfl⟩
theorem Bi (n k:Int)(hk:0<k)(hk2:k<=4200)(w:World):Calls prog 10 #[.int .i64 n,.int .i64 k] w λe w'=>∃r,e=.returned (.int .i64 r)/\(0<=r/\r<k)/\w'=w:=by
 refine (vZ n k hk hk2 w).mono ?_
 rintro e w' ⟨rfl,hw⟩
 exact⟨_,rfl,⟨Int.emod_nonneg n (by omega),Int.emod_lt_of_pos n hk⟩,hw⟩
theorem Bx.JO {L:List Value}(h:R.Bx w b L)(hl:L.length=10)(c:Cf):(Instr.storeAt 23 (.pointer (some ⟨b,0,none⟩)) c.v).run prog w=.ok () (w.setCells b 0 c.L):=by
 have h10:c.L.length=10:=rfl
 have:=R.AH (L:=c.L) (show w.there b 0 10 by rw [<-hl];exact h.there) h10 (by simp [Cf.L,Value.oneCell'])
 simp [Instr.storeAt,storeVar,Instr.sureAddr,Value.cells,h10,this,Result.andThen]
theorem Bx.JP {L:List Value}(h:R.Bx w b L)(hl:L.length=10)(c:Cf):(loadVar 23 ⟨b,0,none⟩).run prog (w.setCells b 0 c.L)=.ok c.v (w.setCells b 0 c.L) :=
 run_loadVar_mid (P:=prog) _ b 0 23 c.L _ (World.rangeAt_setCells_same _ _ _ _ (show w.there b 0 10 by rw [<-hl];exact h.there)) underlying23 rfl (by rw [show (prog.info? 23).map (·.size)=some 10 by kernel_rfl];rfl)
theorem tv (c:Cf)(w:World):Calls prog 9 #[c.v] w λe w'=>∃c':Cf,e=.returned c'.v/\c'.may=true/\Below w.heap.size w w':=by
 obtain⟨W,hW⟩:∃W,W=(w.alloc (Obj.cells c.L.toArray 23)).alloc (Obj.cells [.int .i64 0,.int .i64 0,.int .i64 0,.int .i64 0,.int .i64 0,.int .i64 0,.int .i64 0,.int .i64 0,.int .i64 0,.int .i64 0].toArray 23):=⟨_,rfl⟩
 have HB:Hid (Below w.heap.size w W):=by rw [hW];exact aw _ _ _
 have hX:R.Bx W w.heap.size c.L:=by rw [hW];exact R.Bx.later (ab _ _) (R.Bx.new w _ _)
 have HZ:Hid (R.Bx W (w.heap.size+1) [.int .i64 0,.int .i64 0,.int .i64 0,.int .i64 0,.int .i64 0,.int .i64 0,.int .i64 0,.int .i64 0,.int .i64 0,.int .i64 0]):=by
  rw [hW]
  have:=R.Bx.new (w.alloc (Obj.cells c.L.toArray 23)) [.int .i64 0,.int .i64 0,.int .i64 0,.int .i64 0,.int .i64 0,.int .i64 0,.int .i64 0,.int .i64 0,.int .i64 0,.int .i64 0] 23
  rwa [World.size_alloc] at this
 have HS:Hid (∀U,ae (λk=>k=w.heap.size+1) W U->(U.cell? ⟨w.heap.size,0,none⟩=some (.int .i64 c.W)/\U.cell? ⟨w.heap.size,1,none⟩=some (.int .i64 c.o)/\U.cell? ⟨w.heap.size,2,none⟩=some (.int .i64 c.p)/\U.cell? ⟨w.heap.size,3,none⟩=some (.int .i64 c.m)/\U.cell? ⟨w.heap.size,4,none⟩=some (.int .i64 c.q)/\U.cell? ⟨w.heap.size,5,none⟩=some (.int .i64 c.r)/\U.cell? ⟨w.heap.size,6,none⟩=some (.int .i64 c.l)/\U.cell? ⟨w.heap.size,7,none⟩=some (.int .i64 c.s)/\U.cell? ⟨w.heap.size,8,none⟩=some (.int .i64 c.y)/\U.cell? ⟨w.heap.size,9,none⟩=some (.int .i64 c.k))):=λU hU=>by
  have:=R.Bx.but hU hX (λe=>by omega)
  exact⟨this.cell 0 rfl,this.cell 1 rfl,this.cell 2 rfl,this.cell 3 rfl,this.cell 4 rfl,this.cell 5 rfl,this.cell 6 rfl,this.cell 7 rfl,this.cell 8 rfl,this.cell 9 rfl⟩
 have HBl:=aa (λn k hk hk2=>Bi n k hk hk2 W.drew)
 have HW:=aa hW
 clear hX hW
 go_enter func9,ntmps9
 go_upto_region 1 with fail
 have hW:=HW.o
 rw [<-hW]
 clear hW
 refine wp_region_held_drew (S:=(λU:World=>(U.cell? ⟨w.heap.size,0,none⟩=some (.int .i64 c.W)/\U.cell? ⟨w.heap.size,1,none⟩=some (.int .i64 c.o)/\U.cell? ⟨w.heap.size,2,none⟩=some (.int .i64 c.p)/\U.cell? ⟨w.heap.size,3,none⟩=some (.int .i64 c.m)/\U.cell? ⟨w.heap.size,4,none⟩=some (.int .i64 c.q)/\U.cell? ⟨w.heap.size,5,none⟩=some (.int .i64 c.r)/\U.cell? ⟨w.heap.size,6,none⟩=some (.int .i64 c.l)/\U.cell? ⟨w.heap.size,7,none⟩=some (.int .i64 c.s)/\U.cell? ⟨w.heap.size,8,none⟩=some (.int .i64 c.y)/\U.cell? ⟨w.heap.size,9,none⟩=some (.int .i64 c.k)))) (by kernel_rfl) (HS.o _ (ae.of (Below.refl _ _).drew)) (λhHeld=>?_)
 refine nH (bm 48 0) 48 ?_
 refine tH 0 (v:=?_) rfl (λ_ _ _ h=>h) ?_ ?_;rotate_left
 ·(intro w hSw;(try dsimp only at hSw);go_simp;try with_reducible rfl)
 try simp only [gz,Act.put]
 refine nH (bm 48 1) 47 ?_
 refine tH 1 (v:=?_) rfl (λ_ _ _ h=>h) ?_ ?_;rotate_left
 ·(intro w hSw;(try dsimp only at hSw);go_simp;try with_reducible rfl)
 try simp only [gz,Act.put]
 refine nH (bm 48 3) 46 ?_
 refine tH 2 (v:=?_) rfl (λ_ _ _ h=>h) ?_ ?_;rotate_left
 ·(intro w hSw;(try dsimp only at hSw);go_simp;try with_reducible rfl)
 try simp only [gz,Act.put]
 refine nH (bm 48 7) 45 ?_
 refine tH 5 (v:=?_) rfl (λ_ _ _ h=>h) ?_ ?_;rotate_left
 ·(intro w hSw;(try dsimp only at hSw);go_simp;try with_reducible rfl)
 try simp only [gz,Act.put]
 refine nH (bm 48 39) 44 ?_
 refine tH 6 (v:=?_) rfl (λ_ _ _ h=>h) ?_ ?_;rotate_left
 ·(intro w hSw;(try dsimp only at hSw);go_simp;try with_reducible rfl)
 try simp only [gz,Act.put]
 refine nH (bm 48 103) 43 ?_
 refine tH 7 (v:=?_) rfl (λ_ _ _ h=>h) ?_ ?_;rotate_left
 ·(intro w hSw;(try dsimp only at hSw);go_simp;try with_reducible rfl)
 try simp only [gz,Act.put]
 refine nH (bm 48 231) 42 ?_
 refine tH 10 (v:=?_) rfl (λ_ _ _ h=>h) ?_ ?_;rotate_left
 ·(intro w hSw;(try dsimp only at hSw);go_simp;try with_reducible rfl)
 try simp only [gz,Act.put]
 refine nH (bm 48 1255) 41 ?_
 refine tH 11 (v:=?_) rfl (λ_ _ _ h=>h) ?_ ?_;rotate_left
 ·(intro w hSw;(try dsimp only at hSw);go_simp;try with_reducible rfl)
 try simp only [gz,Act.put]
 refine nH (bm 48 3303) 40 ?_
 refine tH 12 (v:=?_) rfl (λ_ _ _ h=>h) ?_ ?_;rotate_left
 ·(intro w hSw;(try dsimp only at hSw);go_simp;try with_reducible rfl)
 try simp only [gz,Act.put]
 refine nH (bm 48 7399) 39 ?_
 refine tH 15 (v:=?_) rfl (λ_ _ _ h=>h) ?_ ?_;rotate_left
 ·(intro w hSw;(try dsimp only at hSw);go_simp;try with_reducible rfl)
 try simp only [gz,Act.put]
 refine nH (bm 48 40167) 38 ?_
 refine tH 16 (v:=?_) rfl (λ_ _ _ h=>h) ?_ ?_;rotate_left
 ·(intro w hSw;(try dsimp only at hSw);go_simp;try with_reducible rfl)
 try simp only [gz,Act.put]
 refine nH (bm 48 105703) 37 ?_
 refine tH 17 (v:=?_) rfl (λ_ _ _ h=>h) ?_ ?_;rotate_left
 ·(intro w hSw;(try dsimp only at hSw);go_simp;try with_reducible rfl)
 try simp only [gz,Act.put]
 refine nH (bm 48 236775) 36 ?_
 refine tH 20 (v:=?_) rfl (λ_ _ _ h=>h) ?_ ?_;rotate_left
 ·(intro w hSw;(try dsimp only at hSw);go_simp;try with_reducible rfl)
 try simp only [gz,Act.put]
 refine nH (bm 48 1285351) 35 ?_
 refine tH 21 (v:=?_) rfl (λ_ _ _ h=>h) ?_ ?_;rotate_left
 ·(intro w hSw;(try dsimp only at hSw);go_simp;try with_reducible rfl)
 try simp only [gz,Act.put]
 refine nH (bm 48 3382503) 34 ?_
 refine tH 22 (v:=?_) rfl (λ_ _ _ h=>h) ?_ ?_;rotate_left
 ·(intro w hSw;(try dsimp only at hSw);go_simp;try with_reducible rfl)
 try simp only [gz,Act.put]
 refine nH (bm 48 7576807) 33 ?_
 refine tH 25 (v:=?_) rfl (λ_ _ _ h=>h) ?_ ?_;rotate_left
 ·(intro w hSw;(try dsimp only at hSw);go_simp;try with_reducible rfl)
 try simp only [gz,Act.put]
 refine nH (bm 48 41131239) 32 ?_
 refine tH 26 (v:=?_) rfl (λ_ _ _ h=>h) ?_ ?_;rotate_left
 ·(intro w hSw;(try dsimp only at hSw);go_simp;try with_reducible rfl)
 try simp only [gz,Act.put]
 refine nH (bm 48 108240103) 31 ?_
 refine tH 27 (v:=?_) rfl (λ_ _ _ h=>h) ?_ ?_;rotate_left
 ·(intro w hSw;(try dsimp only at hSw);go_simp;try with_reducible rfl)
 try simp only [gz,Act.put]
 refine nH (bm 48 242457831) 30 ?_
 refine tH 30 (v:=?_) rfl (λ_ _ _ h=>h) ?_ ?_;rotate_left
 ·(intro w hSw;(try dsimp only at hSw);go_simp;try with_reducible rfl)
 try simp only [gz,Act.put]
 refine nH (bm 48 1316199655) 29 ?_
 refine tH 31 (v:=?_) rfl (λ_ _ _ h=>h) ?_ ?_;rotate_left
 ·(intro w hSw;(try dsimp only at hSw);go_simp;try with_reducible rfl)
 try simp only [gz,Act.put]
 refine nH (bm 48 3463683303) 28 ?_
 refine tH 32 (v:=?_) rfl (λ_ _ _ h=>h) ?_ ?_;rotate_left
 ·(intro w hSw;(try dsimp only at hSw);go_simp;try with_reducible rfl)
 try simp only [gz,Act.put]
 refine nH (bm 48 7758650599) 27 ?_
 refine tH 35 (v:=?_) rfl (λ_ _ _ h=>h) ?_ ?_;rotate_left
 ·(intro w hSw;(try dsimp only at hSw);go_simp;try with_reducible rfl)
 try simp only [gz,Act.put]
 refine nH (bm 48 42118388967) 26 ?_
 refine tH 36 (v:=?_) rfl (λ_ _ _ h=>h) ?_ ?_;rotate_left
 ·(intro w hSw;(try dsimp only at hSw);go_simp;try with_reducible rfl)
 try simp only [gz,Act.put]
 refine nH (bm 48 110837865703) 25 ?_
 refine tH 38 (v:=?_) rfl (λ_ _ _ h=>h) ?_ ?_;rotate_left
 ·(intro w hSw;(try dsimp only at hSw);go_simp;try with_reducible rfl)
 try simp only [gz,Act.put]
 refine nH (bm 48 385715772647) 24 ?_
 refine tH 39 (v:=?_) rfl (λ_ _ _ h=>h) ?_ ?_;rotate_left
 ·(intro w hSw;(try dsimp only at hSw);go_simp;try with_reducible rfl)
 try simp only [gz,Act.put]
 refine nH (bm 48 935471586535) 23 ?_
 refine tH 40 (v:=?_) rfl (λ_ _ _ h=>h) ?_ ?_;rotate_left
 ·(intro w hSw;(try dsimp only at hSw);go_simp;try with_reducible rfl)
 try simp only [gz,Act.put]
 refine nH (bm 48 2034983214311) 22 ?_
 refine tH 43 (v:=?_) rfl (λ_ _ _ h=>h) ?_ ?_;rotate_left
 ·(intro w hSw;(try dsimp only at hSw);go_simp;try with_reducible rfl)
 try simp only [gz,Act.put]
 refine nH (bm 48 10831076236519) 21 ?_
 refine tH 44 (v:=?_) rfl (λ_ _ _ h=>h) ?_ ?_;rotate_left
 ·(intro w hSw;(try dsimp only at hSw);go_simp;try with_reducible rfl)
 try simp only [gz,Act.put]
 refine nH (bm 48 28423262280935) 20 ?_
 refine yH [3] ?_
 refine cH rfl λK hK=>?_
 go_simp
 go_wp2_with (first|(go_at_call 10;refine (HBl.o _ 128 (by decide) (by decide)).mono ?_;rintro e w_ ⟨r0,rfl,⟨hl0,hh0⟩,hw_⟩;obtain rfl:=hw_.symm;clear hw_))
 refine hK.out _ _ (HS.o _ (ae.of (Below.refl _ _).drew)) (λhHeld=>?_)
 clear hK K
 try simp only [gz,Act.put]
 refine nH (bm 48 28423262280943) 19 ?_
 refine tH 4 (v:=?_) rfl (λ_ _ _ h=>h) ?_ ?_;rotate_left
 ·(intro w hSw;(try dsimp only at hSw);go_simp;try with_reducible rfl)
 try simp only [gz,Act.put]
 refine nH (bm 48 28423262280959) 18 ?_
 refine yH [8] ?_
 refine cH rfl λK hK=>?_
 go_simp
 go_wp2_with (first|(go_at_call 10;refine (HBl.o _ 64 (by decide) (by decide)).mono ?_;rintro e w_ ⟨r1,rfl,⟨hl1,hh1⟩,hw_⟩;obtain rfl:=hw_.symm;clear hw_))
 refine hK.out _ _ (HS.o _ (ae.of (Below.refl _ _).drew)) (λhHeld=>?_)
 clear hK K
 try simp only [gz,Act.put]
 refine nH (bm 48 28423262281215) 17 ?_
 refine tH 9 (v:=?_) rfl (λ_ _ _ h=>h) ?_ ?_;rotate_left
 ·(intro w hSw;(try dsimp only at hSw);go_simp;try with_reducible rfl)
 try simp only [gz,Act.put]
 refine nH (bm 48 28423262281727) 16 ?_
 refine yH [13] ?_
 refine cH rfl λK hK=>?_
 go_simp
 go_wp2_with (first|(go_at_call 10;refine (HBl.o _ 256 (by decide) (by decide)).mono ?_;rintro e w_ ⟨r2,rfl,⟨hl2,hh2⟩,hw_⟩;obtain rfl:=hw_.symm;clear hw_))
 refine hK.out _ _ (HS.o _ (ae.of (Below.refl _ _).drew)) (λhHeld=>?_)
 clear hK K
 try simp only [gz,Act.put]
 refine nH (bm 48 28423262289919) 15 ?_
 refine tH 14 (v:=?_) rfl (λ_ _ _ h=>h) ?_ ?_;rotate_left
 ·(intro w hSw;(try dsimp only at hSw);go_simp;try with_reducible rfl)
 try simp only [gz,Act.put]
 refine nH (bm 48 28423262306303) 14 ?_
 refine yH [18] ?_
 refine cH rfl λK hK=>?_
 go_simp
 go_wp2_with (first|(go_at_call 10;refine (HBl.o _ 256 (by decide) (by decide)).mono ?_;rintro e w_ ⟨r3,rfl,⟨hl3,hh3⟩,hw_⟩;obtain rfl:=hw_.symm;clear hw_))
 refine hK.out _ _ (HS.o _ (ae.of (Below.refl _ _).drew)) (λhHeld=>?_)
 clear hK K
 try simp only [gz,Act.put]
 refine nH (bm 48 28423262568447) 13 ?_
 refine tH 19 (v:=?_) rfl (λ_ _ _ h=>h) ?_ ?_;rotate_left
 ·(intro w hSw;(try dsimp only at hSw);go_simp;try with_reducible rfl)
 try simp only [gz,Act.put]
 refine nH (bm 48 28423263092735) 12 ?_
 refine yH [23] ?_
 refine cH rfl λK hK=>?_
 go_simp
 go_wp2_with (first|(go_at_call 10;refine (HBl.o _ 256 (by decide) (by decide)).mono ?_;rintro e w_ ⟨r4,rfl,⟨hl4,hh4⟩,hw_⟩;obtain rfl:=hw_.symm;clear hw_))
 refine hK.out _ _ (HS.o _ (ae.of (Below.refl _ _).drew)) (λhHeld=>?_)
 clear hK K
 try simp only [gz,Act.put]
 refine nH (bm 48 28423271481343) 11 ?_
 refine tH 24 (v:=?_) rfl (λ_ _ _ h=>h) ?_ ?_;rotate_left
 ·(intro w hSw;(try dsimp only at hSw);go_simp;try with_reducible rfl)
 try simp only [gz,Act.put]
 refine nH (bm 48 28423288258559) 10 ?_
 refine yH [28] ?_
 refine cH rfl λK hK=>?_
 go_simp
 go_wp2_with (first|(go_at_call 10;refine (HBl.o _ 32 (by decide) (by decide)).mono ?_;rintro e w_ ⟨r5,rfl,⟨hl5,hh5⟩,hw_⟩;obtain rfl:=hw_.symm;clear hw_))
 refine hK.out _ _ (HS.o _ (ae.of (Below.refl _ _).drew)) (λhHeld=>?_)
 clear hK K
 try simp only [gz,Act.put]
 refine nH (bm 48 28423556694015) 9 ?_
 refine tH 29 (v:=?_) rfl (λ_ _ _ h=>h) ?_ ?_;rotate_left
 ·(intro w hSw;(try dsimp only at hSw);go_simp;try with_reducible rfl)
 try simp only [gz,Act.put]
 refine nH (bm 48 28424093564927) 8 ?_
 refine yH [33] ?_
 refine cH rfl λK hK=>?_
 go_simp
 go_wp2_with (first|(go_at_call 10;refine (HBl.o _ 32 (by decide) (by decide)).mono ?_;rintro e w_ ⟨r6,rfl,⟨hl6,hh6⟩,hw_⟩;obtain rfl:=hw_.symm;clear hw_))
 refine hK.out _ _ (HS.o _ (ae.of (Below.refl _ _).drew)) (λhHeld=>?_)
 clear hK K
 try simp only [gz,Act.put]
 refine nH (bm 48 28432683499519) 7 ?_
 refine tH 34 (v:=?_) rfl (λ_ _ _ h=>h) ?_ ?_;rotate_left
 ·(intro w hSw;(try dsimp only at hSw);go_simp;try with_reducible rfl)
 try simp only [gz,Act.put]
 refine nH (bm 48 28449863368703) 6 ?_
 refine yH [37] ?_
 refine cH rfl λK hK=>?_
 go_simp
 go_wp2_with (first|(go_at_call 10;refine (HBl.o _ 17 (by decide) (by decide)).mono ?_;rintro e w_ ⟨r7,rfl,⟨hl7,hh7⟩,hw_⟩;obtain rfl:=hw_.symm;clear hw_))
 refine hK.out _ _ (HS.o _ (ae.of (Below.refl _ _).drew)) (λhHeld=>?_)
 clear hK K
 try simp only [gz,Act.put]
 refine nH (bm 48 28587302322175) 5 ?_
 refine yH [41] ?_
 refine cH rfl λK hK=>?_
 go_simp
 go_wp2_with (first|(go_at_call 10;refine (HBl.o _ 4 (by decide) (by decide)).mono ?_;rintro e w_ ⟨r8,rfl,⟨hl8,hh8⟩,hw_⟩;obtain rfl:=hw_.symm;clear hw_))
 refine hK.out _ _ (HS.o _ (ae.of (Below.refl _ _).drew)) (λhHeld=>?_)
 clear hK K
 try simp only [gz,Act.put]
 refine nH (bm 48 30786325577727) 4 ?_
 refine tH 42 (v:=?_) rfl (λ_ _ _ h=>h) ?_ ?_;rotate_left
 ·(intro w hSw;(try dsimp only at hSw);go_simp;try with_reducible rfl)
 try simp only [gz,Act.put]
 refine nH (bm 48 35184372088831) 3 ?_
 refine yH [45] ?_
 refine cH rfl λK hK=>?_
 go_simp
 go_wp2_with (first|(go_at_call 10;refine (HBl.o _ 65 (by decide) (by decide)).mono ?_;rintro e w_ ⟨r9,rfl,⟨hl9,hh9⟩,hw_⟩;obtain rfl:=hw_.symm;clear hw_))
 refine hK.out _ _ (HS.o _ (ae.of (Below.refl _ _).drew)) (λhHeld=>?_)
 clear hK K
 try simp only [gz,Act.put]
 refine nH (bm 48 70368744177663) 2 ?_
 refine tH 46 (v:=?_) rfl (λ_ _ _ h=>h) ?_ ?_;rotate_left
 ·(intro w hSw;(try dsimp only at hSw);go_simp;try with_reducible rfl)
 try simp only [gz,Act.put]
 refine nH (bm 48 140737488355327) 1 ?_
 refine yH [47] ?_
 refine cH rfl λK hK=>?_
 have HZ9:=aa (R.Bx.later (Below.refl _ _).drew HZ.o)
 have HS9:=aa (Bx.JO HZ9.o rfl (Cf.mk (IntKind.i64.wrap (1+r0)) (IntKind.i64.wrap (1+r1)) (IntKind.i64.wrap (1+r2)) (IntKind.i64.wrap (1+r3)) (IntKind.i64.wrap (1+r4)) (IntKind.i64.wrap (1+r5)) (IntKind.i64.wrap (1+r6)) (r7) (IntKind.i64.wrap (1+r8)) (r9)))
 have HL9:=aa (Bx.JP HZ9.o rfl (Cf.mk (IntKind.i64.wrap (1+r0)) (IntKind.i64.wrap (1+r1)) (IntKind.i64.wrap (1+r2)) (IntKind.i64.wrap (1+r3)) (IntKind.i64.wrap (1+r4)) (IntKind.i64.wrap (1+r5)) (IntKind.i64.wrap (1+r6)) (r7) (IntKind.i64.wrap (1+r8)) (r9)))
 have HB9:Hid (ae (λk=>k=w.heap.size+1) W.drew (W.drew.setCells (w.heap.size+1) 0 (Cf.mk (IntKind.i64.wrap (1+r0)) (IntKind.i64.wrap (1+r1)) (IntKind.i64.wrap (1+r2)) (IntKind.i64.wrap (1+r3)) (IntKind.i64.wrap (1+r4)) (IntKind.i64.wrap (1+r5)) (IntKind.i64.wrap (1+r6)) (r7) (IntKind.i64.wrap (1+r8)) (r9)).L)):=R.iK (S:=(λk=>k=w.heap.size+1)) rfl _ 0 (ae.refl _ _)
 refine bS 23 (.tmp 2) (.tmp 49) rfl _ _ rfl rfl _ HS9.o ?_
 refine hK.out _ _ (HS.o _ ((ae.of (Below.refl _ _).drew).trans HB9.o)) (λhHeld=>?_)
 clear hK K
 try simp only [gz,Act.put]
 refine nH (bm 48 281474976710655) 0 ?_
 refine wpAnyH_done (by kernel_rfl) ?_ _
 go_wp2
 refine bodyPost_ret (v:=(Cf.mk (IntKind.i64.wrap (1+r0)) (IntKind.i64.wrap (1+r1)) (IntKind.i64.wrap (1+r2)) (IntKind.i64.wrap (1+r3)) (IntKind.i64.wrap (1+r4)) (IntKind.i64.wrap (1+r5)) (IntKind.i64.wrap (1+r6)) (r7) (IntKind.i64.wrap (1+r8)) (r9)).v) (by simp [results,results9,asAddr,HL9.o]) rfl ⟨(Cf.mk (IntKind.i64.wrap (1+r0)) (IntKind.i64.wrap (1+r1)) (IntKind.i64.wrap (1+r2)) (IntKind.i64.wrap (1+r3)) (IntKind.i64.wrap (1+r4)) (IntKind.i64.wrap (1+r5)) (IntKind.i64.wrap (1+r6)) (r7) (IntKind.i64.wrap (1+r8)) (r9)),rfl,Cf.vf.2 (by simp only [IntKind.wrap_i64];omega),ae.below (HB.o.drew) HB9.o (λk e=>by omega)⟩
end
end Go.Proofs.YtfmhdimaijimlaaGreatDoor.V
