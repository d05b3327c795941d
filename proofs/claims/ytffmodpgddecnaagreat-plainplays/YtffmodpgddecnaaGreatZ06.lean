import Derived.Test.YtffmodpgddecnaaGreatZ05
set_option linter.unusedVariables false
set_option linter.unusedSimpArgs false
namespace Go.Proofs.YtffmodpgddecnaaGreat.V
open Go.RowKit
open Go.Proofs.YtffmodpgddecnaaGreat.H (B64 Cp)
section
variable {w w':World}
theorem evs_at:∀(M:List Ev) (j:Nat) (t:Ev),M[j]?=some t→∀k,k<2→(evs M)[j*2+k]?=t.c[k]?
 | [],j,t,h,k,hk=>by simp at h
 | x::M,0,t,h,k,hk=>by
  simp only [List.getElem?_cons_zero,Option.some.injEq] at h
  subst h
  simp only [evs,List.flatMap_cons]
  rw [List.getElem?_append_left (by simp [Ev.c];omega)]
  simp
 | x::M,j+1,t,h,k,hk=>by
  rw [List.getElem?_cons_succ] at h
  have:=evs_at M j t h k hk
  simp only [evs,List.flatMap_cons] at this ⊢
  rw [List.getElem?_append_right (by simp [Ev.c];omega),←this]
  congr 1
  simp [Ev.c]
  omega
theorem evs_len (M:List Ev):(evs M).length=M.length*2:=by
 induction M with
 | nil=>rfl
 | cons x M ih=>simp only [evs,List.flatMap_cons,List.length_append,List.length_cons] at ih ⊢;rw [ih];simp [Ev.c];omega
theorem toks_len5 (M:List Tok):(toks M).length=M.length*5:=by
 induction M with
 | nil=>rfl
 | cons x M ih=>simp only [toks,List.flatMap_cons,List.length_append,List.length_cons] at ih ⊢;rw [ih];simp [encT];omega
structure Look (w:World)(p:Ps)(a1:Option Addr)(Q1:List Ev)(a2 a3:Option Addr)(Q3:List Ev):Prop where
 o:Fl w a1 (evs Q1)
 ok:Q1.map Ev.key=p.O.map obK
 oe:∀x∈Q1,Fl w x.a x.vs
 t:Fl w a2 (toks p.T)
 q:Fl w a3 (evs Q3)
 pk:Q3.map Ev.key=p.P.map plK
 pe:∀x∈Q3,Fl w x.a x.vs
theorem Look.later {p:Ps}{a1 a2 a3:Option Addr}{Q1 Q3:List Ev}(h:Look w p a1 Q1 a2 a3 Q3)(hb:Below w.heap.size w w'):Look w' p a1 Q1 a2 a3 Q3:=⟨h.o.later hb,h.ok,fun x hx=>(h.oe x hx).later hb,h.t.later hb,h.q.later hb,h.pk,fun x hx=>(h.pe x hx).later hb⟩
theorem Tells.look {base:Nat}{p:Ps}{a1 c1 Q1 a2 c2 a3 c3 Q3}(h:Tells w base p a1 c1 Q1 a2 c2 a3 c3 Q3):Look w p a1 Q1 a2 a3 Q3:=by
 refine⟨Fl.of h.os.row (by rw [evs_len,h.os.len]),h.ok,fun x hx=>?_,Fl.of h.ts (by rw [toks_len5]),Fl.of h.ps.row (by rw [evs_len,h.ps.len]),h.pk,fun x hx=>?_⟩
 ·refine Fl.of (h.os.each x hx) ?_
  have hm:x.key∈p.O.map obK:=by rw [←h.ok];exact List.mem_map_of_mem hx
  obtain⟨v,_,hv⟩:=List.mem_map.1 hm
  simp only [obK,Ev.key,Prod.mk.injEq] at hv
  rw [←hv.2.1,←hv.2.2,S.u8s_length,Nat.mul_one]
 ·refine Fl.of (h.ps.each x hx) ?_
  have hm:x.key∈p.P.map plK:=by rw [←h.pk];exact List.mem_map_of_mem hx
  obtain⟨v,_,hv⟩:=List.mem_map.1 hm
  simp only [plK,Ev.key,Prod.mk.injEq] at hv
  rw [←hv.2.1,←hv.2.2,caps_len3]
structure Ps.Small (p:Ps):Prop where
 o:p.O.length≤1048576
 t:p.T.length≤1048576
 q:p.P.length≤1048576
 oe:∀v∈p.O,v.2.length≤1048576
 pe:∀v∈p.P,v.2.length≤1048576
theorem key_at {α:Type}{K:α→Int×List Value×Nat}{P:List α}{Q:List Ev}(h:Q.map Ev.key=P.map K){i:Nat}{v:α}(hv:P[i]?=some v):∃x,Q[i]?=some x∧x∈Q∧x.id=(K v).1∧x.vs=(K v).2.1∧x.len=(K v).2.2:=by
 have h1:(Q.map Ev.key)[i]?=some (K v):=by rw [h,List.getElem?_map,hv];rfl
 rw [List.getElem?_map] at h1
 cases hx:Q[i]? with
 | none=>rw [hx] at h1;cases h1
 | some x =>
  rw [hx] at h1
  simp only [Option.map_some,Option.some.injEq,Ev.key] at h1
  exact⟨x,rfl,List.mem_of_getElem? hx,by rw [←h1],by rw [←h1],by rw [←h1]⟩
theorem key_len {α:Type}{K:α→Int×List Value×Nat}{P:List α}{Q:List Ev}(h:Q.map Ev.key=P.map K):Q.length=P.length:=by have:=congrArg List.length h;simpa using this
set_option maxRecDepth 100000 in
set_option maxHeartbeats 8000000 in
theorem sameState_eq (p:Ps){a1 a2 a3 b1 b2 b3:Option Addr}{c1 c2 c3 d1 d2 d3:Nat}{Q1 Q3 R1 R3:List Ev}(h:Look w p a1 Q1 a2 a3 Q3)(k:Look w p b1 R1 b2 b3 R3)(hs:p.Small) :
  Calls Tryz.prog 12 #[stV a1 p.O.length c1 a2 p.T.length c2 a3 p.P.length c3 p.nx p.px p.t,stV b1 p.O.length d1 b2 p.T.length d2 b3 p.P.length d3 p.nx p.px p.t] w fun e w'=>e=.returned (.bool true)∧Below w.heap.size w w':=by
 have HH:=hid h
 have HK:=hid k
 have HSm:=hid hs
 obtain⟨n1,hn1⟩:∃n1,n1=p.O.length:=⟨_,rfl⟩
 obtain⟨n2,hn2⟩:∃n2,n2=p.T.length:=⟨_,rfl⟩
 obtain⟨n3,hn3⟩:∃n3,n3=p.P.length:=⟨_,rfl⟩
 have m1:n1≤1048576:=by rw [hn1];exact hs.o
 have m2:n2≤1048576:=by rw [hn2];exact hs.t
 have m3:n3≤1048576:=by rw [hn3];exact hs.q
 have HN1:=hid hn1
 have HN2:=hid hn2
 have HN3:=hid hn3
 rw [←hn1,←hn2,←hn3]
 generalize p.nx=nx
 generalize p.px=px
 generalize p.t=ta
 obtain⟨W,hW⟩:∃W,W=(w.alloc (Obj.cells [.slice a1 n1 c1,.slice a2 n2 c2,.slice a3 n3 c3,.int .i64 nx,.int .i64 px,.int .i64 ta].toArray 53)).alloc (Obj.cells [.slice b1 n1 d1,.slice b2 n2 d2,.slice b3 n3 d3,.int .i64 nx,.int .i64 px,.int .i64 ta].toArray 53):=⟨_,rfl⟩
 have HB:Hid (Below w.heap.size w W):=by rw [hW];exact below2 _ _ _
 have HX1:Hid (R.Bx W w.heap.size [.slice a1 n1 c1,.slice a2 n2 c2,.slice a3 n3 c3,.int .i64 nx,.int .i64 px,.int .i64 ta]):=by rw [hW];exact R.Bx.later (below1 _ _) (R.Bx.new w _ _)
 have HX2:Hid (R.Bx W (w.heap.size+1) [.slice b1 n1 d1,.slice b2 n2 d2,.slice b3 n3 d3,.int .i64 nx,.int .i64 px,.int .i64 ta]):=by
  rw [hW]
  have:=R.Bx.new (w.alloc (Obj.cells [.slice a1 n1 c1,.slice a2 n2 c2,.slice a3 n3 c3,.int .i64 nx,.int .i64 px,.int .i64 ta].toArray 53)) [.slice b1 n1 d1,.slice b2 n2 d2,.slice b3 n3 d3,.int .i64 nx,.int .i64 px,.int .i64 ta] 53
  rwa [World.size_alloc] at this
 have HW:=hid hW
 clear h k hs hn1 hn2 hn3 hW
 go_enter Tryz.func12,Tryz.ntmps12
 go_upto_region 1 with fail
 have hW:=HW.out
 rw [←hW]
 clear hW
 have x0:=HX1.out.cell 0 rfl
 have y0:=HX2.out.cell 0 rfl
 have x1:=HX1.out.cell 1 rfl
 have y1:=HX2.out.cell 1 rfl
 have x2:=HX1.out.cell 2 rfl
 have y2:=HX2.out.cell 2 rfl
 have x3:=HX1.out.cell 3 rfl
 have y3:=HX2.out.cell 3 rfl
 have x4:=HX1.out.cell 4 rfl
 have y4:=HX2.out.cell 4 rfl
 have x5:=HX1.out.cell 5 rfl
 have y5:=HX2.out.cell 5 rfl
 go_upto_region 4 with fail
 clear x0 y0 x1 y1 x2 y2 x3 y3 x4 y4 x5 y5
 go_loopw [5] (fun v U=>∃i:Nat,v=.int .i64 (i:Int)∧i≤n1∧Below W.heap.size W U) (fun v _=>n1 - S.ivN v)
 case atStart=>exact⟨0,rfl,Nat.zero_le _,Below.refl _ _⟩
 case round =>
  obtain⟨i,rfl,hi,hB⟩:=hrel
  have HIn:=hid hi
  have HB0r:=hid hB
  clear hi hB
  have x0:=(R.Bx.later HB0r.out HX1.out).cell 0 rfl
  have y0:=(R.Bx.later HB0r.out HX2.out).cell 0 rfl
  by_cases hlt:i<n1
  ·have hd:decide ((i:Int)<(n1:Int))=true:=decide_eq_true (by omega)
   obtain⟨v,hv⟩:∃v,p.O[i]?=some v:=⟨_,List.getElem?_eq_getElem (by have:=HN1.out;omega)⟩
   obtain⟨x,hx,hxm,ex1,ex2,ex3⟩:=key_at HH.out.ok hv
   obtain⟨y,hy,hym,ey1,ey2,ey3⟩:=key_at HK.out.ok hv
   obtain⟨ga,rfl,hca⟩:=HH.out.o (by rw [evs_len,key_len HH.out.ok];have:=HN1.out;omega)
   obtain⟨gb,rfl,hcb⟩:=HK.out.o (by rw [evs_len,key_len HK.out.ok];have:=HN1.out;omega)
   have hfx:=HH.out.oe x hxm
   have hfy:=HK.out.oe y hym
   have hx0:=hca _ _ (evs_at _ i x hx 0 (by omega))
   have hx1:=hca _ _ (evs_at _ i x hx 1 (by omega))
   have hy0:=hcb _ _ (evs_at _ i y hy 0 (by omega))
   have hy1:=hcb _ _ (evs_at _ i y hy 1 (by omega))
   have hln:=HSm.out.oe v (List.mem_of_getElem? hv)
   obtain⟨xi,xv,xn,xa,xc⟩:=x
   obtain⟨yi,yv,yn,ya,yc⟩:=y
   simp only [obK,Ev.c,List.getElem?_cons_zero,List.getElem?_cons_succ] at ex1 ex2 ex3 ey1 ey2 ey3 hx0 hx1 hy0 hy1 hfx hfy
   subst ex1 ex2 ex3 ey1 ey2 ey3
   obtain⟨z,hz⟩:∃z,z=v.1:=⟨_,rfl⟩
   obtain⟨zl,hzl⟩:∃zl,zl=v.2.length:=⟨_,rfl⟩
   rw [←hz] at hx0 hy0
   rw [←hzl] at hx1 hy1
   have HSb:Hid (∀U,Below w.heap.size w U→Calls Tryz.prog 26 #[.slice xa zl xc,.slice ya zl yc] U fun e w'=>e=.returned (.bool true)∧Below U.heap.size U w'):=fun U hU=>by rw [hzl];exact sameBytes_eq v.2 (hfx.later hU) (hfy.later hU) (by omega)
   have HS:Hid (∀U,Below wr.heap.size wr U→U.cell? ⟨w.heap.size,0,none⟩=some (.slice (some ⟨ga,0,none⟩) n1 c1)∧U.cell? ⟨w.heap.size+1,0,none⟩=some (.slice (some ⟨gb,0,none⟩) n1 d1)∧U.cell? ⟨ga,i*2,none⟩=some (.int .i64 z)∧U.cell? ⟨ga,i*2+1,none⟩=some (.slice xa zl xc)∧U.cell? ⟨gb,i*2,none⟩=some (.int .i64 z)∧U.cell? ⟨gb,i*2+1,none⟩=some (.slice ya zl yc)):=fun U hU=>by
    have hU3:=below_call HB0r.out hU
    have hU2:=below_call HB.out hU3
    exact⟨(R.Bx.later hU3 HX1.out).cell 0 rfl,(R.Bx.later hU3 HX2.out).cell 0 rfl,cell_later hU2 hx0,cell_later hU2 hx1,cell_later hU2 hy0,cell_later hU2 hy1⟩
   have HBw:Hid (Below w.heap.size w wr):=below_call HB.out HB0r.out
   clear hca hcb hx hy hv hxm hym hfx hfy hx0 hx1 hy0 hy1 hln hz hzl
   go_upto_region 6 with fail
   clear x0 y0
   go_region_held3 (fun U=>U.cell? ⟨w.heap.size,0,none⟩=some (.slice (some ⟨ga,0,none⟩) n1 c1)∧U.cell? ⟨w.heap.size+1,0,none⟩=some (.slice (some ⟨gb,0,none⟩) n1 d1)∧U.cell? ⟨ga,i*2,none⟩=some (.int .i64 z)∧U.cell? ⟨ga,i*2+1,none⟩=some (.slice xa zl xc)∧U.cell? ⟨gb,i*2,none⟩=some (.int .i64 z)∧U.cell? ⟨gb,i*2+1,none⟩=some (.slice ya zl yc)) (first|exact HS.out _ (Below.refl _ _).drew|exact HS.out _ HU6.out) (first|(go_at_call 26;refine (HSb.out _ HBw.out.drew).mono ?_;rintro e u6 ⟨rfl,hb6⟩;have HU6:Hid (Below wr.heap.size wr u6):=below_call (Below.refl _ _).drew hb6;clear hb6))
   all_goals (try go_wp2)
   all_goals exact⟨⟨i+1,rfl,by omega,below_call HB0r.out HU6.out⟩,by simp [S.ivN];omega⟩
  ·obtain rfl:n1=i:=by have:=HIn.out;omega
   have hd:decide ((n1:Int)<(n1:Int))=false:=by simp
   have HBr1:=hid HB0r.out
   go_upto_region 9 with fail
   clear x0 y0
   go_loopw [6] (fun v U=>∃i:Nat,v=.int .i64 (i:Int)∧i≤n2∧Below W.heap.size W U) (fun v _=>n2 - S.ivN v)
   case atStart=>exact⟨0,rfl,Nat.zero_le _,HBr1.out⟩
   case round =>
    obtain⟨i,rfl,hi,hB⟩:=hrel
    have HIn:=hid hi
    have HB1r:=hid hB
    clear hi hB
    have x0:=(R.Bx.later HB1r.out HX1.out).cell 1 rfl
    have y0:=(R.Bx.later HB1r.out HX2.out).cell 1 rfl
    by_cases hlt:i<n2
    ·have hd:decide ((i:Int)<(n2:Int))=true:=decide_eq_true (by omega)
     obtain⟨v,hv⟩:∃v,p.T[i]?=some v:=⟨_,List.getElem?_eq_getElem (by have:=HN2.out;omega)⟩
     obtain⟨ga,rfl,hca⟩:=HH.out.t (by rw [toks_len5];have:=HN2.out;omega)
     obtain⟨gb,rfl,hcb⟩:=HK.out.t (by rw [toks_len5];have:=HN2.out;omega)
     obtain⟨⟨tb,th,tl⟩,tr,tq⟩:=v
     have hat:=toks_at p.T i _ hv
     have HS:Hid (∀U,Below wr.heap.size wr U→U.cell? ⟨w.heap.size,1,none⟩=some (.slice (some ⟨ga,0,none⟩) n2 c2)∧U.cell? ⟨w.heap.size+1,1,none⟩=some (.slice (some ⟨gb,0,none⟩) n2 d2)∧U.cell? ⟨ga,i*5,none⟩=some (.int .i64 tb)∧U.cell? ⟨ga,i*5+1,none⟩=some (.int .u64 (th:Int))∧U.cell? ⟨ga,i*5+2,none⟩=some (.int .u64 (tl:Int))∧U.cell? ⟨ga,i*5+3,none⟩=some (.int .i64 tr)∧U.cell? ⟨ga,i*5+4,none⟩=some (.int .i64 tq)∧U.cell? ⟨gb,i*5,none⟩=some (.int .i64 tb)∧U.cell? ⟨gb,i*5+1,none⟩=some (.int .u64 (th:Int))∧U.cell? ⟨gb,i*5+2,none⟩=some (.int .u64 (tl:Int))∧U.cell? ⟨gb,i*5+3,none⟩=some (.int .i64 tr)∧U.cell? ⟨gb,i*5+4,none⟩=some (.int .i64 tq)):=fun U hU=>by
      have hU3:=below_call HB1r.out hU
      have hU2:=below_call HB.out hU3
      exact⟨(R.Bx.later hU3 HX1.out).cell 1 rfl,(R.Bx.later hU3 HX2.out).cell 1 rfl,cell_later hU2 (hca _ _ (hat 0 (by omega))),cell_later hU2 (hca _ _ (hat 1 (by omega))),cell_later hU2 (hca _ _ (hat 2 (by omega))),cell_later hU2 (hca _ _ (hat 3 (by omega))),cell_later hU2 (hca _ _ (hat 4 (by omega))),cell_later hU2 (hcb _ _ (hat 0 (by omega))),cell_later hU2 (hcb _ _ (hat 1 (by omega))),cell_later hU2 (hcb _ _ (hat 2 (by omega))),cell_later hU2 (hcb _ _ (hat 3 (by omega))),cell_later hU2 (hcb _ _ (hat 4 (by omega)))⟩
     clear hca hcb hv hat
     go_upto_region 11 with fail
     clear x0 y0
     go_region_held3 (fun U=>U.cell? ⟨w.heap.size,1,none⟩=some (.slice (some ⟨ga,0,none⟩) n2 c2)∧U.cell? ⟨w.heap.size+1,1,none⟩=some (.slice (some ⟨gb,0,none⟩) n2 d2)∧U.cell? ⟨ga,i*5,none⟩=some (.int .i64 tb)∧U.cell? ⟨ga,i*5+1,none⟩=some (.int .u64 (th:Int))∧U.cell? ⟨ga,i*5+2,none⟩=some (.int .u64 (tl:Int))∧U.cell? ⟨ga,i*5+3,none⟩=some (.int .i64 tr)∧U.cell? ⟨ga,i*5+4,none⟩=some (.int .i64 tq)∧U.cell? ⟨gb,i*5,none⟩=some (.int .i64 tb)∧U.cell? ⟨gb,i*5+1,none⟩=some (.int .u64 (th:Int))∧U.cell? ⟨gb,i*5+2,none⟩=some (.int .u64 (tl:Int))∧U.cell? ⟨gb,i*5+3,none⟩=some (.int .i64 tr)∧U.cell? ⟨gb,i*5+4,none⟩=some (.int .i64 tq)) (first|exact HS.out _ (Below.refl _ _).drew|exact HS.out _ (Below.refl _ _)) (first|fail)
     all_goals (try go_wp2)
     all_goals exact⟨⟨i+1,rfl,by omega,HB1r.out.drew⟩,by simp [S.ivN];omega⟩
    ·obtain rfl:n2=i:=by have:=HIn.out;omega
     have hd:decide ((n2:Int)<(n2:Int))=false:=by simp
     have HBr2:=hid HB1r.out
     go_upto_region 14 with fail
     clear x0 y0
     go_loopw [7] (fun v U=>∃i:Nat,v=.int .i64 (i:Int)∧i≤n3∧Below W.heap.size W U) (fun v _=>n3 - S.ivN v)
     case atStart=>exact⟨0,rfl,Nat.zero_le _,HBr2.out⟩
     case round =>
      obtain⟨i,rfl,hi,hB⟩:=hrel
      have HIn:=hid hi
      have HB2r:=hid hB
      clear hi hB
      have x0:=(R.Bx.later HB2r.out HX1.out).cell 2 rfl
      have y0:=(R.Bx.later HB2r.out HX2.out).cell 2 rfl
      by_cases hlt:i<n3
      ·have hd:decide ((i:Int)<(n3:Int))=true:=decide_eq_true (by omega)
       obtain⟨v,hv⟩:∃v,p.P[i]?=some v:=⟨_,List.getElem?_eq_getElem (by have:=HN3.out;omega)⟩
       obtain⟨x,hx,hxm,ex1,ex2,ex3⟩:=key_at HH.out.pk hv
       obtain⟨y,hy,hym,ey1,ey2,ey3⟩:=key_at HK.out.pk hv
       obtain⟨ga,rfl,hca⟩:=HH.out.q (by rw [evs_len,key_len HH.out.pk];have:=HN3.out;omega)
       obtain⟨gb,rfl,hcb⟩:=HK.out.q (by rw [evs_len,key_len HK.out.pk];have:=HN3.out;omega)
       have hfx:=HH.out.pe x hxm
       have hfy:=HK.out.pe y hym
       have hx0:=hca _ _ (evs_at _ i x hx 0 (by omega))
       have hx1:=hca _ _ (evs_at _ i x hx 1 (by omega))
       have hy0:=hcb _ _ (evs_at _ i y hy 0 (by omega))
       have hy1:=hcb _ _ (evs_at _ i y hy 1 (by omega))
       have hln:=HSm.out.pe v (List.mem_of_getElem? hv)
       obtain⟨xi,xv,xn,xa,xc⟩:=x
       obtain⟨yi,yv,yn,ya,yc⟩:=y
       simp only [plK,Ev.c,List.getElem?_cons_zero,List.getElem?_cons_succ] at ex1 ex2 ex3 ey1 ey2 ey3 hx0 hx1 hy0 hy1 hfx hfy
       subst ex1 ex2 ex3 ey1 ey2 ey3
       obtain⟨z,hz⟩:∃z,z=v.1:=⟨_,rfl⟩
       obtain⟨zl,hzl⟩:∃zl,zl=v.2.length:=⟨_,rfl⟩
       rw [←hz] at hx0 hy0
       rw [←hzl] at hx1 hy1
       have HSb:Hid (∀U,Below w.heap.size w U→Calls Tryz.prog 31 #[.slice xa zl xc,.slice ya zl yc] U fun e w'=>e=.returned (.bool true)∧Below U.heap.size U w'):=fun U hU=>by rw [hzl];exact sameCaps_eq v.2 (hfx.later hU) (hfy.later hU) (by omega)
       have HS:Hid (∀U,Below wr.heap.size wr U→U.cell? ⟨w.heap.size,2,none⟩=some (.slice (some ⟨ga,0,none⟩) n3 c3)∧U.cell? ⟨w.heap.size+1,2,none⟩=some (.slice (some ⟨gb,0,none⟩) n3 d3)∧U.cell? ⟨ga,i*2,none⟩=some (.int .i64 z)∧U.cell? ⟨ga,i*2+1,none⟩=some (.slice xa zl xc)∧U.cell? ⟨gb,i*2,none⟩=some (.int .i64 z)∧U.cell? ⟨gb,i*2+1,none⟩=some (.slice ya zl yc)):=fun U hU=>by
        have hU3:=below_call HB2r.out hU
        have hU2:=below_call HB.out hU3
        exact⟨(R.Bx.later hU3 HX1.out).cell 2 rfl,(R.Bx.later hU3 HX2.out).cell 2 rfl,cell_later hU2 hx0,cell_later hU2 hx1,cell_later hU2 hy0,cell_later hU2 hy1⟩
       have HBw:Hid (Below w.heap.size w wr):=below_call HB.out HB2r.out
       clear hca hcb hx hy hv hxm hym hfx hfy hx0 hx1 hy0 hy1 hln hz hzl
       go_upto_region 16 with fail
       clear x0 y0
       go_region_held3 (fun U=>U.cell? ⟨w.heap.size,2,none⟩=some (.slice (some ⟨ga,0,none⟩) n3 c3)∧U.cell? ⟨w.heap.size+1,2,none⟩=some (.slice (some ⟨gb,0,none⟩) n3 d3)∧U.cell? ⟨ga,i*2,none⟩=some (.int .i64 z)∧U.cell? ⟨ga,i*2+1,none⟩=some (.slice xa zl xc)∧U.cell? ⟨gb,i*2,none⟩=some (.int .i64 z)∧U.cell? ⟨gb,i*2+1,none⟩=some (.slice ya zl yc)) (first|exact HS.out _ (Below.refl _ _).drew|exact HS.out _ HU6.out) (first|(go_at_call 31;refine (HSb.out _ HBw.out.drew).mono ?_;rintro e u6 ⟨rfl,hb6⟩;have HU6:Hid (Below wr.heap.size wr u6):=below_call (Below.refl _ _).drew hb6;clear hb6))
       all_goals (try go_wp2)
       all_goals exact⟨⟨i+1,rfl,by omega,below_call HB2r.out HU6.out⟩,by simp [S.ivN];omega⟩
      ·obtain rfl:n3=i:=by have:=HIn.out;omega
       have hd:decide ((n3:Int)<(n3:Int))=false:=by simp
       have HBr3:=hid HB2r.out
       go_wp2
       go_ret
       exact⟨ret_bool rfl,below_call HB.out HBr3.out⟩
end
end Go.Proofs.YtffmodpgddecnaaGreat.V
namespace Go.Proofs.YtffmodpgddecnaaGreat.V
open Go.RowKit
open Go.Proofs.YtffmodpgddecnaaGreat.H (B64 Cp)
section
variable {w w':World}{c:R.Cl}{dd gg:R.Sl}
theorem Bx.put {b:Nat}{L:List Value}(h:R.Bx w b L)(j:Nat)(hj:j<L.length)(v:Value):R.Bx (w.setCell ⟨b,j,none⟩ v) b (L.set j v):=by
 have hl:Lies w ⟨b,j,none⟩ L[j]:=⟨h.cell j (List.getElem?_eq_getElem hj),by have:=(h.there j hj).2;rwa [Nat.zero_add] at this⟩
 have hc:∀i u,(L.set j v)[i]?=some u→(w.setCell ⟨b,j,none⟩ v).cell? ⟨b,i,none⟩=some u:=fun i u hu=>by
  by_cases e:i=j
  ·subst e
   rw [List.getElem?_set_self hj] at hu
   cases hu
   exact hl.put.1
  ·rw [List.getElem?_set_ne (by omega)] at hu
   exact D.cell_set_ne (h.cell i hu) (by omega)
 refine⟨fun i u hu=>by rw [Nat.zero_add];exact hc i u hu,fun i hi=>?_⟩
 rw [List.length_set] at hi
 refine⟨by rw [Nat.zero_add,hc i _ (List.getElem?_eq_getElem (by rw [List.length_set];exact hi))];rfl,?_⟩
 have:=R.frozen_setCells b ⟨b,0+i,none⟩ [v] j w
 exact this.trans (h.there i hi).2
theorem own_empty (w:World)(e:TypeId):Own (w.alloc (Obj.cells #[] e)) w.heap.size e (some ⟨w.heap.size,0,none⟩) 0 0 [] :=
 ⟨World.ownsRow_made (base:=w.heap.size) (size:=1) (e:=e) w #[] 0 (by simp) (by unfold maxLen;omega) (by simp),fun _ h=>(by cases h)⟩
abbrev z13:List Value:=[.int .i64 0,.int .i64 0,.int .i64 0,.int .i64 0,.int .u64 0,.int .u64 0,.bool false,.int .i64 0,.int .i64 0,.int .i64 0,.slice none 0 0,.int .i64 0,.slice none 0 0]
theorem Bx.st45 {b:Nat}{L:List Value}(h:R.Bx w b L)(hl:L.length=13)(c:R.Cl)(dd gg:R.Sl):(Instr.storeAt 45 (.pointer (some ⟨b,0,none⟩)) (.agg (R.cC c dd gg).toArray)).run Tryz.prog w=.ok () (w.setCells b 0 (R.cC c dd gg)):=by
 have h10:(R.cC c dd gg).length=13:=rfl
 have:=R.stc (L:=R.cC c dd gg) (show w.there b 0 13 by rw [←hl];exact h.there) h10 (by simp [R.cC,Value.oneCell'])
 simp [Instr.storeAt,storeVar,Instr.sureAddr,Value.cells,h10,this,Result.andThen]
theorem R_row (h:Row w dd.a dd.n dd.c (S.u8s c.data))(hs:∀x∈c.data,x<256):R.Row w dd.a dd.n dd.c c.data:=⟨by have:=h.len;rwa [S.u8s_length] at this,h.cap_,h.none_,h.cells,hs⟩
structure Mine (w:World)(base:Nat)(c:R.Cl)(dd gg:R.Sl):Prop where
 is:R.Is w c dd gg
 d:∀j,Blk dd.a j→base≤j∧j<w.heap.size
 g:∀j,Blk gg.a j→base≤j∧j<w.heap.size
set_option maxRecDepth 100000 in
set_option maxHeartbeats 2000000 in
theorem copied_any (h:R.Is w c dd gg)(hb1:dd.n≤140737488355328)(hb2:gg.n*8≤140737488355328) :
  Calls Tryz.prog 9 #[.agg (R.cC c dd gg).toArray] w fun e w'=>∃d' g',e=.returned (.agg (R.cC c d' g').toArray)∧Mine w' w.heap.size c d' g'∧Below w.heap.size w w':=by
 obtain⟨W,hW⟩:∃W,W=(w.alloc (Obj.cells (R.cC c dd gg).toArray 45)).alloc (Obj.cells z13.toArray 45):=⟨_,rfl⟩
 have HB:Hid (Below w.heap.size w W):=by rw [hW];exact below2 _ _ _
 have HWs:Hid (W.heap.size=w.heap.size+2):=by unfold Hid;rw [hW];simp
 have hX:R.Bx W w.heap.size (R.cC c dd gg):=by rw [hW];exact R.Bx.later (below1 _ _) (R.Bx.new w _ _)
 have hZ:R.Bx W (w.heap.size+1) z13:=by
  rw [hW]
  have:=R.Bx.new (w.alloc (Obj.cells (R.cC c dd gg).toArray 45)) z13 45
  rwa [World.size_alloc] at this
 have h2:=h.later HB.out
 have hr1:Row W dd.a dd.n dd.c (S.u8s c.data):=⟨by rw [S.u8s_length];exact h2.data.len,h2.data.cap_,h2.data.none_,h2.data.cells,S.u8s_one _⟩
 have hr2:Row W gg.a gg.n gg.c (ints c.gifts):=⟨by unfold ints;rw [List.length_map];exact h2.gifts.len,h2.gifts.cap_,h2.gifts.none_,h2.gifts.cells,by unfold ints;intro u hu;obtain⟨x,_,rfl⟩:=List.mem_map.1 hu;rfl⟩
 have hB1:=below1 W (Obj.cells #[] 5)
 have hO1:=own_empty W 5
 obtain⟨a1,c1,W2,hrun1,hO2,hG1⟩:=S.append_bytes hO1 (hr1.later hB1) hB1.size (by omega)
 rw [Nat.zero_add] at hrun1 hO2
 rw [List.nil_append] at hO2
 have hB2:Below W.heap.size W W2:=But.below hB1 hG1.but (fun k hk=>hO1.blk k hk)
 have hX2:=R.Bx.later hB2 hX
 have xD:W2.cell? ⟨w.heap.size,10,none⟩=some dd.v:=hX2.cell 10 rfl
 have xF:W2.frozen? ⟨w.heap.size,10,none⟩=false:=(hX2.there 10 (by simp [R.cC])).2
 have x10:(W.alloc (Obj.cells #[] 5)).cell? ⟨w.heap.size,10,none⟩=some dd.v:=(R.Bx.later hB1 hX).cell 10 rfl
 obtain⟨W3,hW3⟩:∃W3,W3=W2.setCell ⟨w.heap.size,10,none⟩ (.slice a1 dd.n c1):=⟨_,rfl⟩
 have hX3:R.Bx W3 w.heap.size (R.cC c ⟨a1,dd.n,c1⟩ gg):=by rw [hW3];exact Bx.put hX2 10 (by simp [R.cC]) (.slice a1 dd.n c1)
 have hB3:Below w.heap.size w W3:=by rw [hW3];exact But.below (below_call HB.out hB2) (But.own (g:=w.heap.size) (But.refl _ _) 10 _) (fun k e=>by omega)
 have hS3:W3.heap.size=W2.heap.size:=by rw [hW3];simp
 have hW2s:=hB2.size
 have hO3:Own W3 W.heap.size 5 a1 dd.n c1 (S.u8s c.data):=by rw [hW3];exact Own.but (S:=(·=w.heap.size)) (But.own (But.refl _ _) 10 _) hO2 (fun k hk e=>by have:=hO2.blk k hk;have:=HWs.out;omega)
 have hB4:=below1 W3 (Obj.cells #[] 3)
 have hO4:=own_empty W3 3
 have hr3:Row w gg.a gg.n gg.c (ints c.gifts):=⟨by unfold ints;rw [List.length_map];exact h.gifts.len,h.gifts.cap_,h.gifts.none_,h.gifts.cells,by unfold ints;intro u hu;obtain⟨x,_,rfl⟩:=List.mem_map.1 hu;rfl⟩
 obtain⟨a2,c2,W5,hrun2,hO5,hG2⟩:=append_ints hO4 ((hr3.later hB3).later hB4) hB4.size (by omega)
 rw [Nat.zero_add] at hrun2 hO5
 rw [List.nil_append] at hO5
 have hB5:Below W3.heap.size W3 W5:=But.below hB4 hG2.but (fun k hk=>hO4.blk k hk)
 have hX5:=R.Bx.later hB5 hX3
 have yD:W5.cell? ⟨w.heap.size,12,none⟩=some gg.v:=hX5.cell 12 rfl
 have yF:W5.frozen? ⟨w.heap.size,12,none⟩=false:=(hX5.there 12 (by simp [R.cC])).2
 have y12:(W3.alloc (Obj.cells #[] 3)).cell? ⟨w.heap.size,12,none⟩=some gg.v:=(R.Bx.later hB4 hX3).cell 12 rfl
 obtain⟨W6,hW6⟩:∃W6,W6=W5.setCell ⟨w.heap.size,12,none⟩ (.slice a2 gg.n c2):=⟨_,rfl⟩
 have hX6:R.Bx W6 w.heap.size (R.cC c ⟨a1,dd.n,c1⟩ ⟨a2,gg.n,c2⟩):=by rw [hW6];exact Bx.put hX5 12 (by simp [R.cC]) (.slice a2 gg.n c2)
 have b6:But (·=w.heap.size) W5 W6:=by rw [hW6];exact But.own (But.refl _ _) 12 _
 have b3:But (·=w.heap.size) W2 W3:=by rw [hW3];exact But.own (But.refl _ _) 10 _
 have hZ6:R.Bx W6 (w.heap.size+1) z13:=R.Bx.but b6 (R.Bx.later hB5 (R.Bx.but b3 (R.Bx.later hB2 hZ) (by omega))) (by omega)
 have HLd:=hid (ldC hX6)
 have HS9:=hid (Bx.st45 hZ6 rfl c ⟨a1,dd.n,c1⟩ ⟨a2,gg.n,c2⟩)
 obtain⟨W7,hW7⟩:∃W7,W7=W6.setCells (w.heap.size+1) 0 (R.cC c ⟨a1,dd.n,c1⟩ ⟨a2,gg.n,c2⟩):=⟨_,rfl⟩
 have b7:But (·=w.heap.size+1) W6 W7:=by rw [hW7];exact R.setCells_but (S:=(·=w.heap.size+1)) rfl _ 0 (But.refl _ _)
 have hX7:R.Bx W7 (w.heap.size+1) (R.cC c ⟨a1,dd.n,c1⟩ ⟨a2,gg.n,c2⟩):=by rw [hW7];exact R.Bx.set hZ6 rfl
 have HL9:Hid ((loadVar 45 ⟨w.heap.size+1,0,none⟩).run Tryz.prog W7=.ok (.agg (R.cC c ⟨a1,dd.n,c1⟩ ⟨a2,gg.n,c2⟩).toArray) W7):=R.lv41 hX7.range (by rfl)
 rw [←hW7] at HS9
 have s5:=hB5.size
 have hO7:Own W7 W.heap.size 5 a1 dd.n c1 (S.u8s c.data):=Own.but b7 (Own.but b6 (hO3.later hB5) (fun k hk e=>by have:=hO2.blk k hk;have:=HWs.out;omega)) (fun k hk e=>by have:=hO2.blk k hk;have:=HWs.out;omega)
 have hP7:Own W7 W3.heap.size 3 a2 gg.n c2 (ints c.gifts):=Own.but b7 (Own.but b6 hO5 (fun k hk e=>by have:=hO5.blk k hk;have:=HWs.out;omega)) (fun k hk e=>by have:=hO5.blk k hk;have:=HWs.out;omega)
 have HMn:Hid (Mine W7 w.heap.size c ⟨a1,dd.n,c1⟩ ⟨a2,gg.n,c2⟩):=by
  refine⟨⟨R_row (dd:=⟨a1,dd.n,c1⟩) hO7.read h.data.small,?_,h.hi,h.lo⟩,fun j hj=>⟨by have:=hO7.blk j hj;have:=HWs.out;omega,hO7.lt j hj⟩,fun j hj=>⟨by have:=hP7.blk j hj;have:=HWs.out;omega,hP7.lt j hj⟩⟩
  have hr:=hP7.read
  exact⟨by have:=hr.len;unfold ints at this;rwa [List.length_map] at this,hr.cap_,hr.none_,hr.cells⟩
 have HB7:Hid (Below w.heap.size w W7):=But.below (But.below (below_call hB3 hB5) b6 (fun k e=>by omega)) b7 (fun k e=>by omega)
 have HW:=hid hW
 have HW3:=hid hW3
 have HW6:=hid hW6
 have HR1:=hid hrun1
 have HR2:=hid hrun2
 clear h h2 hr1 hr2 hr3 hX hZ hB1 hO1 hO2 hG1 hB2 hX2 hX3 hB3 hS3 hW2s hO3 hB4 hO4 hO5 hG2 hB5 hX5 hX6 b6 b3 hZ6 hW7 b7 hX7 s5 hO7 hP7 hW hW3 hW6 hrun1 hrun2 hb1 hb2
 go_enter Tryz.func9,Tryz.ntmps9
 go_upto_region 1 with fail
 have hW:=HW.out
 rw [←hW]
 clear hW
 go_upto_region 2 with (first|(at_builtin;refine wpList_append_known rfl _ _ 39 rfl _ _ rfl rfl _ W2 HR1.out ?_))
 rw [←HW3.out]
 clear x10 xD xF
 go_upto_region 3 with (first|(at_builtin;refine wpList_append_known rfl _ _ 43 rfl _ _ rfl rfl _ W5 HR2.out ?_))
 rw [←HW6.out]
 clear y12 yD yF
 go_wp2_with (first|((with_reducible refine R.ld_arm HLd.out ?_ ?_);(· rfl))|((with_reducible refine st_arm HS9.out ?_ ?_ ?_);(· rfl);(· rfl)))
 exact bodyPost_ret (v:=.agg (R.cC c ⟨a1,dd.n,c1⟩ ⟨a2,gg.n,c2⟩).toArray) (by simp [results,Tryz.results9,asAddr,Act.put,HL9.out]) rfl ⟨⟨a1,dd.n,c1⟩,⟨a2,gg.n,c2⟩,rfl,HMn.out,HB7.out⟩
end
end Go.Proofs.YtffmodpgddecnaaGreat.V
namespace Go.Proofs.YtffmodpgddecnaaGreat.V
open Go.RowKit
open Go.Proofs.YtffmodpgddecnaaGreat.H (B64 Cp)
section
variable {w w':World}
structure Cf where
 W:Int
 o:Int
 p:Int
 m:Int
 q:Int
 r:Int
 l:Int
 s:Int
 y:Int
 k:Int
def Cf.L (c:Cf):List Value:=[.int .i64 c.W,.int .i64 c.o,.int .i64 c.p,.int .i64 c.m,.int .i64 c.q,.int .i64 c.r,.int .i64 c.l,.int .i64 c.s,.int .i64 c.y,.int .i64 c.k]
abbrev Cf.v (c:Cf):Value:=.agg c.L.toArray
def inW (n a b:Int):Bool:=decide (a≤n)&&decide (n≤b)
theorem inW_iff {n a b:Int}:inW n a b=true↔a≤n∧n≤b:=by unfold inW;simp
def Cf.may (c:Cf):Bool:=inW c.W 1 128&&inW c.o 1 64&&inW c.p 1 256&&inW c.m 1 256&&inW c.q 1 256&&inW c.r 1 32&&inW c.l 1 32&&inW c.s 0 16&&inW c.y 1 4&&inW c.k 0 64
theorem Cf.may_iff {c:Cf}:c.may=true↔(1≤c.W∧c.W≤128)∧(1≤c.o∧c.o≤64)∧(1≤c.p∧c.p≤256)∧(1≤c.m∧c.m≤256)∧(1≤c.q∧c.q≤256)∧(1≤c.r∧c.r≤32)∧(1≤c.l∧c.l≤32)∧(0≤c.s∧c.s≤16)∧(1≤c.y∧c.y≤4)∧(0≤c.k∧c.k≤64):=by
 unfold Cf.may
 simp only [Bool.and_eq_true,inW_iff]
 omega
end
end Go.Proofs.YtffmodpgddecnaaGreat.V
namespace Go.Proofs.YtffmodpgddecnaaGreat.V
open Go.RowKit
open Go.Proofs.YtffmodpgddecnaaGreat.H (B64 Cp)
section
variable {w w':World}
def Cf.pm (c:Cf)(n:Nat)(f:Nat→Nat):Pm:=⟨c.m.toNat,c.q,n,f,c.o.toNat,c.p.toNat,c.r,c.l,c.W⟩
end
end Go.Proofs.YtffmodpgddecnaaGreat.V
namespace Go.Proofs.YtffmodpgddecnaaGreat.V
open Go.RowKit
open Go.Proofs.YtffmodpgddecnaaGreat.H (B64 Cp)
section
variable {w w':World}
theorem info31:(Tryz.prog.info? 36).map (fun i=>(i.zero,i.size,i.bytes))=some (some (.agg #[.int .u64 0,.int .u64 0]),2,16):=by kernel_rfl
theorem ow_empty (w:World)(e:TypeId)(k:Nat):Ow (w.alloc (Obj.cells #[] e)) w.heap.size e k (some ⟨w.heap.size,0,none⟩) 0 0 [] :=
 World.ownsRow_made (base:=w.heap.size) (size:=k) (e:=e) w #[] 0 (by simp) (by unfold maxLen;omega) (by simp)
theorem Ws.cr {a:Option Addr}{n cap:Nat}{f:Nat→Nat}(h:D.Ws w a n cap f):Cr w 2 a n cap (D.wvs f n) :=
 ⟨D.wvs_length f n,h.none_,h.cells,fun u hu=>by
  unfold D.wvs at hu
  obtain⟨i,_,hi⟩:=List.mem_flatMap.1 hu
  simp only [D.wcs,List.mem_cons,List.not_mem_nil,or_false] at hi
  rcases hi with rfl|rfl<;>rfl⟩
end
end Go.Proofs.YtffmodpgddecnaaGreat.V
namespace Go.Proofs.YtffmodpgddecnaaGreat.V
open Go.RowKit
open Go.Proofs.YtffmodpgddecnaaGreat.H (B64 Cp)
def hlC (h:Hl):List Value:=[.int .i64 h.no,.int .i64 h.up,.int .i64 h.c.1,.int .u64 (h.c.2.1:Int),.int .u64 (h.c.2.2:Int),.int .i64 h.r]
def hls (T:List Hl):List Value:=T.flatMap hlC
structure Mh where
 b:Nat
 C:Cf
 da:Option Addr
 dn:Nat
 dc:Nat
 f:Nat→Nat
def moL (M:Mh)(r:Rm)(a1:Option Addr)(c1:Nat)(a2:Option Addr)(c2:Nat)(a3:Option Addr)(c3:Nat):List Value :=
 M.C.L++[.slice M.da M.dn M.dc,.int .i64 (r.t:Int),.slice a1 r.V.length c1,.slice a2 r.T.length c2,.slice a3 r.P.length c3,.int .i64 r.nx,.int .i64 r.px,.int .i64 r.nn]
structure Mr (w:World)(M:Mh)(r:Rm)(a1:Option Addr)(c1:Nat)(Q1:List Ev)(a2:Option Addr)(c2:Nat)(a3:Option Addr)(c3:Nat)(Q3:List Ev):Prop where
 box:R.Bx w M.b (moL M r a1 c1 a2 c2 a3 c3)
 o:Fl w a1 (evs Q1)
 ok:Q1.map Ev.key=r.V.map obK
 t:Fl w a2 (hls r.T)
 q:Fl w a3 (evs Q3)
 pk:Q3.map Ev.key=r.P.map plK
 sm:r.V.length≤1048576∧r.T.length≤1048576∧r.P.length≤1048576
section
variable {w w':World}{M:Mh}{r:Rm}{a1:Option Addr}{c1:Nat}{Q1:List Ev}{a2:Option Addr}{c2:Nat}{a3:Option Addr}{c3:Nat}{Q3:List Ev}
theorem Mr.later (h:Mr w M r a1 c1 Q1 a2 c2 a3 c3 Q3)(hb:Below w.heap.size w w'):Mr w' M r a1 c1 Q1 a2 c2 a3 c3 Q3:=⟨R.Bx.later hb h.box,h.o.later hb,h.ok,h.t.later hb,h.q.later hb,h.pk,h.sm⟩
theorem hls_len (T:List Hl):(hls T).length=T.length*6:=by
 induction T with
 | nil=>rfl
 | cons x T ih=>simp only [hls,List.flatMap_cons,List.length_append,List.length_cons] at ih ⊢;rw [ih];simp [hlC];omega
theorem hls_at:∀(T:List Hl) (i:Nat) (h:Hl),T[i]?=some h→∀j,j<6→(hls T)[i*6+j]?=(hlC h)[j]?
 | [],i,h,hi,j,hj=>by simp at hi
 | x::T,0,h,hi,j,hj=>by
  simp only [List.getElem?_cons_zero,Option.some.injEq] at hi
  subst hi
  simp only [hls,List.flatMap_cons,Nat.zero_mul,Nat.zero_add]
  rw [List.getElem?_append_left (by simp [hlC];omega)]
 | x::T,i+1,h,hi,j,hj=>by
  have ih:=hls_at T i h (by simpa using hi) j hj
  simp only [hls,List.flatMap_cons] at ih ⊢
  rw [List.getElem?_append_right (by simp [hlC];omega),←ih]
  congr 1
  simp [hlC]
  omega
def ixF {α:Type}(P:α→Bool)(L:List α):Int:=match L.findIdx? P with
 | some i=>(i:Int)
 | none=>-1
theorem ixF_some {α:Type}{P:α→Bool}{L:List α}{i:Nat}{x:α}(hi:L[i]?=some x)(hx:P x=true)(hn:∀j,j<i→∀y,L[j]?=some y→P y=false):ixF P L=(i:Int):=by
 obtain⟨hl,e⟩:=List.getElem?_eq_some_iff.1 hi
 have:L.findIdx? P=some i:=by
  rw [List.findIdx?_eq_some_iff_getElem]
  refine⟨hl,by rw [e];exact hx,fun j hj=>?_⟩
  have:=hn j hj _ (List.getElem?_eq_getElem (by omega))
  rw [this]
  decide
 unfold ixF
 rw [this]
theorem ixF_none {α:Type}{P:α→Bool}{L:List α}(hn:∀j,j<L.length→∀y,L[j]?=some y→P y=false):ixF P L=-1:=by
 have:L.findIdx? P=none:=by
  rw [List.findIdx?_eq_none_iff]
  intro x hx
  obtain⟨j,hj⟩:=List.getElem?_of_mem hx
  exact hn j (List.getElem?_eq_some_iff.1 hj).1 x hj
 unfold ixF
 rw [this]
def IxR {α:Type}(w:World)(P:α→Bool)(L:List α)(v:Value)(U:World):Prop:=∃i:Nat,v=.int .i64 (i:Int)∧i≤L.length∧Hid (∀j,j<i→∀y,L[j]?=some y→P y=false)∧Hid (Below w.heap.size w U)
theorem ix_next {α:Type}{P:α→Bool}{L:List α}{i:Nat}{x:α}(hi:L[i]?=some x)(hx:P x=false)(hn:∀j,j<i→∀y,L[j]?=some y→P y=false):∀j,j<i+1→∀y,L[j]?=some y→P y=false:=fun j hj y hy=>by
 by_cases e:j=i
 ·subst e
  rw [hi] at hy
  cases hy
  exact hx
 ·exact hn j (by omega) y hy
def isP (n:Int)(q:Int×List Cp):Bool:=decide (q.1=n)
def isO (n:Int)(q:Int×List Nat):Bool:=decide (q.1=n)
def isT (c:Cp)(h:Hl):Bool:=decide (h.c=c)
set_option maxRecDepth 100000 in
set_option maxHeartbeats 1000000 in
theorem rproc_any (h:Mr w M r a1 c1 Q1 a2 c2 a3 c3 Q3)(n:Int):Calls Tryz.prog 19 #[.pointer (some ⟨M.b,0,none⟩),.int .i64 n] w fun e w'=>e=.returned (.int .i64 (ixF (isP n) r.P))∧Below w.heap.size w w':=by
 have HM:=hid h
 have hpl:=h.sm.2.2
 clear h
 go_enter Tryz.func19,Tryz.ntmps19
 go_upto_region 2 with fail
 go_loopw [5] (IxR w (isP n) r.P) (fun v _=>r.P.length - S.ivN v)
 case atStart=>exact⟨0,rfl,Nat.zero_le _,hid (fun j hj=>by omega),hid (Below.refl _ _)⟩
 case round =>
  obtain⟨i,rfl,hi,HN,HB⟩:=hrel
  have g:=HM.out.later HB.out
  have m5:=g.box.cell 14 rfl
  by_cases hlt:i<r.P.length
  ·have hd:decide ((i:Int)<(r.P.length:Int))=true:=decide_eq_true (by omega)
   obtain⟨q,hq⟩:∃q,r.P[i]?=some q:=⟨_,List.getElem?_eq_getElem hlt⟩
   obtain⟨ev,hev,hem,hid0,hvs,hln⟩:=key_at g.pk hq
   have hlen0:0<(evs Q3).length:=by rw [evs_len];have:=(List.getElem?_eq_some_iff.1 hev).1;omega
   obtain⟨gq,rfl,hqc⟩:=g.q hlen0
   have q0:wr.cell? ⟨gq,i*2,none⟩=some (.int .i64 ev.id):=hqc _ _ (evs_at Q3 i ev hev 0 (by omega))
   rw [hid0] at q0
   simp only [plK] at q0
   have HQ:=hid hq
   clear hev hem hid0 hvs hln hlen0 hqc g hq
   obtain⟨qn,qk⟩:=q
   simp only at q0
   by_cases he:qn=n
   ·have heb:(qn==n)=true:=by simpa using he
    have HX:Hid (ixF (isP n) r.P=(i:Int)):=ixF_some HQ.out (by simp [isP,he]) HN.out
    clear he
    go_wp2
    go_ret
    exact⟨by rw [HX.out];exact ret_int rfl,HB.out⟩
   ·have heb:(qn==n)=false:=by simpa using he
    have HX:Hid (∀j,j<i+1→∀y,r.P[j]?=some y→isP n y=false):=ix_next HQ.out (by simp [isP,he]) HN.out
    clear he
    go_wp2
    exact⟨⟨i+1,rfl,by omega,HX,HB⟩,by simp [S.ivN];omega⟩
  ·have hjj:i=r.P.length:=by omega
   have hd:decide ((i:Int)<(r.P.length:Int))=false:=decide_eq_false (by omega)
   have HX:Hid (ixF (isP n) r.P=-1):=ixF_none (by rw [←hjj];exact HN.out)
   clear hjj hi g
   go_wp2
   go_ret
   exact⟨by rw [HX.out];exact ret_int rfl,HB.out⟩
end
end Go.Proofs.YtffmodpgddecnaaGreat.V
namespace Go.Proofs.YtffmodpgddecnaaGreat.V
open Go.RowKit
open Go.Proofs.YtffmodpgddecnaaGreat.H (B64 Cp)
section
variable {w w':World}{M:Mh}{r:Rm}{a1:Option Addr}{c1:Nat}{Q1:List Ev}{a2:Option Addr}{c2:Nat}{a3:Option Addr}{c3:Nat}{Q3:List Ev}
set_option maxRecDepth 100000 in
set_option maxHeartbeats 1000000 in
theorem robject_any (h:Mr w M r a1 c1 Q1 a2 c2 a3 c3 Q3)(n:Int):Calls Tryz.prog 44 #[.pointer (some ⟨M.b,0,none⟩),.int .i64 n] w fun e w'=>e=.returned (.int .i64 (ixF (isO n) r.V))∧Below w.heap.size w w':=by
 have HM:=hid h
 have hpl:=h.sm.1
 clear h
 go_enter Tryz.func44,Tryz.ntmps44
 go_upto_region 2 with fail
 go_loopw [5] (IxR w (isO n) r.V) (fun v _=>r.V.length - S.ivN v)
 case atStart=>exact⟨0,rfl,Nat.zero_le _,hid (fun j hj=>by omega),hid (Below.refl _ _)⟩
 case round =>
  obtain⟨i,rfl,hi,HN,HB⟩:=hrel
  have g:=HM.out.later HB.out
  have m5:=g.box.cell 12 rfl
  by_cases hlt:i<r.V.length
  ·have hd:decide ((i:Int)<(r.V.length:Int))=true:=decide_eq_true (by omega)
   obtain⟨q,hq⟩:∃q,r.V[i]?=some q:=⟨_,List.getElem?_eq_getElem hlt⟩
   obtain⟨ev,hev,hem,hid0,hvs,hln⟩:=key_at g.ok hq
   have hlen0:0<(evs Q1).length:=by rw [evs_len];have:=(List.getElem?_eq_some_iff.1 hev).1;omega
   obtain⟨gq,rfl,hqc⟩:=g.o hlen0
   have q0:wr.cell? ⟨gq,i*2,none⟩=some (.int .i64 ev.id):=hqc _ _ (evs_at Q1 i ev hev 0 (by omega))
   rw [hid0] at q0
   simp only [obK] at q0
   have HQ:=hid hq
   clear hev hem hid0 hvs hln hlen0 hqc g hq
   obtain⟨qn,qk⟩:=q
   simp only at q0
   by_cases he:qn=n
   ·have heb:(qn==n)=true:=by simpa using he
    have HX:Hid (ixF (isO n) r.V=(i:Int)):=ixF_some HQ.out (by simp [isO,he]) HN.out
    clear he
    go_wp2
    go_ret
    exact⟨by rw [HX.out];exact ret_int rfl,HB.out⟩
   ·have heb:(qn==n)=false:=by simpa using he
    have HX:Hid (∀j,j<i+1→∀y,r.V[j]?=some y→isO n y=false):=ix_next HQ.out (by simp [isO,he]) HN.out
    clear he
    go_wp2
    exact⟨⟨i+1,rfl,by omega,HX,HB⟩,by simp [S.ivN];omega⟩
  ·have hjj:i=r.V.length:=by omega
   have hd:decide ((i:Int)<(r.V.length:Int))=false:=decide_eq_false (by omega)
   have HX:Hid (ixF (isO n) r.V=-1):=ixF_none (by rw [←hjj];exact HN.out)
   clear hjj hi g
   go_wp2
   go_ret
   exact⟨by rw [HX.out];exact ret_int rfl,HB.out⟩
theorem hl_cells {a:Option Addr}{T:List Hl}(h:Fl w a (hls T)){j:Nat}{t:Hl}(ht:T[j]?=some t):∃g,a=some ⟨g,0,none⟩∧∀k v,(hlC t)[k]?=some v→w.cell? ⟨g,j*6+k,none⟩=some v:=by
 have hj:=(List.getElem?_eq_some_iff.1 ht).1
 obtain⟨g,rfl,hr⟩:=h (by rw [hls_len];omega)
 refine⟨g,rfl,fun k v hv=>hr _ _ ?_⟩
 have hk:=(List.getElem?_eq_some_iff.1 hv).1
 rw [hls_at T j t ht k (by simpa [hlC] using hk)]
 exact hv
set_option maxRecDepth 100000 in
set_option maxHeartbeats 1000000 in
theorem rlive_any (h:Mr w M r a1 c1 Q1 a2 c2 a3 c3 Q3)(c:Cp):Calls Tryz.prog 40 #[.pointer (some ⟨M.b,0,none⟩),.agg #[.int .i64 c.1,.int .u64 (c.2.1:Int),.int .u64 (c.2.2:Int)]] w fun e w'=>e=.returned (.int .i64 (ixF (isT c) r.T))∧Below w.heap.size w w':=by
 obtain⟨W,hW⟩:∃W,W=w.alloc (Obj.cells #[.int .i64 c.1,.int .u64 (c.2.1:Int),.int .u64 (c.2.2:Int)] 38):=⟨_,rfl⟩
 have HB0:Hid (Below w.heap.size w W):=by rw [hW];exact below1 _ _
 have HX:Hid (R.Bx W w.heap.size [.int .i64 c.1,.int .u64 (c.2.1:Int),.int .u64 (c.2.2:Int)]):=by rw [hW];exact R.Bx.new w _ _
 have HM:=hid (h.later HB0.out)
 have hpl:=h.sm.2.1
 have HW:=hid hW
 clear h hW
 go_enter Tryz.func40,Tryz.ntmps40
 go_upto_region 1 with fail
 have hW:=HW.out
 rw [←hW]
 clear hW HW
 go_upto_region 2 with fail
 go_loopw [5] (IxR W (isT c) r.T) (fun v _=>r.T.length - S.ivN v)
 case atStart=>exact⟨0,rfl,Nat.zero_le _,hid (fun j hj=>by omega),hid (Below.refl _ _)⟩
 case round =>
  obtain⟨i,rfl,hi,HN,HB⟩:=hrel
  have g:=HM.out.later HB.out
  have m4:=g.box.cell 13 rfl
  by_cases hlt:i<r.T.length
  ·have hd:decide ((i:Int)<(r.T.length:Int))=true:=decide_eq_true (by omega)
   obtain⟨q,hq⟩:∃q,r.T[i]?=some q:=⟨_,List.getElem?_eq_getElem hlt⟩
   obtain⟨gt,rfl,hqc⟩:=hl_cells g.t hq
   have q2:=hqc 2 _ rfl
   have q3:=hqc 3 _ rfl
   have q4:=hqc 4 _ rfl
   have hx:=R.Bx.later HB.out HX.out
   have b0:=hx.cell 0 rfl
   have b1:=hx.cell 1 rfl
   have b2:=hx.cell 2 rfl
   have HQ:=hid hq
   obtain⟨e,he⟩:∃e,e=decide (q.c=c):=⟨_,rfl⟩
   have heq:∀U:World,(binOp .eql 38 (.agg #[.int .i64 q.c.1,.int .u64 (q.c.2.1:Int),.int .u64 (q.c.2.2:Int)]) (.agg #[.int .i64 c.1,.int .u64 (c.2.1:Int),.int .u64 (c.2.2:Int)])).run Tryz.prog U=.ok (.bool e) U:=fun U=>by rw [he];exact K.eqlCp q.c c U
   have HE:Hid (isT c q=e):=by rw [he];rfl
   clear hqc g hq hx he
   go_upto_region 4 with fail
   go_quiet (fail)
   cases e with
   | true =>
    have HX2:Hid (ixF (isT c) r.T=(i:Int)):=ixF_some HQ.out HE.out HN.out
    go_wp2
    go_ret
    exact⟨by rw [HX2.out];exact ret_int rfl,below_call HB0.out (below_drewN HB.out _)⟩
   | false =>
    have HX2:Hid (∀j,j<i+1→∀y,r.T[j]?=some y→isT c y=false):=ix_next HQ.out HE.out HN.out
    go_wp2
    exact⟨⟨i+1,rfl,by omega,HX2,hid (below_drewN HB.out _)⟩,by simp [S.ivN];omega⟩
  ·have hjj:i=r.T.length:=by omega
   have hd:decide ((i:Int)<(r.T.length:Int))=false:=decide_eq_false (by omega)
   have HX2:Hid (ixF (isT c) r.T=-1):=ixF_none (by rw [←hjj];exact HN.out)
   clear hjj hi g
   go_wp2
   go_ret
   exact⟨by rw [HX2.out];exact ret_int rfl,below_call HB0.out HB.out⟩
end
end Go.Proofs.YtffmodpgddecnaaGreat.V
namespace Go.Proofs.YtffmodpgddecnaaGreat.V
open Go.RowKit
open Go.Proofs.YtffmodpgddecnaaGreat.H (B64 Cp)
section
variable {w w':World}{M:Mh}{r:Rm}{a1:Option Addr}{c1:Nat}{Q1:List Ev}{a2:Option Addr}{c2:Nat}{a3:Option Addr}{c3:Nat}{Q3:List Ev}
theorem used_succ {V:List (Int×List Nat)}{i:Nat}{q:Int×List Nat}(h:V[i]?=some q):S.usedV (V.take (i+1))=S.usedV (V.take i)+S.needN q.2.length:=by
 obtain⟨hj,e⟩:=List.getElem?_eq_some_iff.1 h
 unfold S.usedV
 rw [List.take_succ_eq_append_getElem hj,e]
 simp
theorem used_take:∀(V:List (Int×List Nat)) (i:Nat),S.usedV (V.take i)≤S.usedV V
 | [],i=>by simp
 | v::V,0=>by simp [S.usedV]
 | v::V,i+1=>by
  have:=used_take V i
  simp only [S.usedV,List.take_succ_cons,List.map_cons,List.sum_cons] at this ⊢
  omega
def PgR (w:World)(V:List (Int×List Nat))(v3 v4:Value)(U:World):Prop:=∃i z:Nat,v3=.int .i64 (z:Int)∧v4=.int .i64 (i:Int)∧i≤V.length∧Hid (z=S.usedV (V.take i))∧Hid (Below w.heap.size w U)
set_option maxRecDepth 100000 in
set_option maxHeartbeats 1000000 in
theorem rpages_any (h:Mr w M r a1 c1 Q1 a2 c2 a3 c3 Q3)(hu:S.usedV r.V≤1048576)(hl:∀v∈r.V,v.2.length≤1048576):Calls Tryz.prog 39 #[.pointer (some ⟨M.b,0,none⟩)] w fun e w'=>e=.returned (.int .i64 (S.usedV r.V:Int))∧Below w.heap.size w w':=by
 have HM:=hid h
 have hpl:=h.sm.1
 have HU:=hid hu
 have HL:=hid hl
 clear h hu hl
 go_enter Tryz.func39,Tryz.ntmps39
 go_upto_region 3 with fail
 go_loopw [3,4] (PgR w r.V) (fun _ v _=>r.V.length - S.ivN v)
 case atStart=>exact⟨0,0,rfl,rfl,Nat.zero_le _,hid rfl,hid (Below.refl _ _)⟩
 case round =>
  obtain⟨i,z,rfl,rfl,hi,HZ,HB⟩:=hrel
  have g:=HM.out.later HB.out
  have m3:=g.box.cell 12 rfl
  have hz:z≤1048576:=by rw [HZ.out];exact Nat.le_trans (used_take _ _) HU.out
  by_cases hlt:i<r.V.length
  ·have hd:decide ((i:Int)<(r.V.length:Int))=true:=decide_eq_true (by omega)
   obtain⟨q,hq⟩:∃q,r.V[i]?=some q:=⟨_,List.getElem?_eq_getElem hlt⟩
   obtain⟨ev,hev,hem,hid0,hvs,hln⟩:=key_at g.ok hq
   have hlen0:0<(evs Q1).length:=by rw [evs_len];have:=(List.getElem?_eq_some_iff.1 hev).1;omega
   obtain⟨gq,rfl,hqc⟩:=g.o hlen0
   have q1:wr.cell? ⟨gq,i*2+1,none⟩=some (.slice ev.a ev.len ev.cap):=hqc _ _ (evs_at Q1 i ev hev 1 (by omega))
   have hql:=HL.out q (List.mem_of_getElem? hq)
   have HN:=hid (used_succ hq)
   rw [←HZ.out] at HN
   rw [hln] at q1
   simp only [obK] at q1
   obtain⟨n,hn⟩:∃n,n=q.2.length:=⟨_,rfl⟩
   rw [←hn] at q1 hql HN
   clear hev hem hid0 hvs hln hlen0 hqc g hq hn
   go_wp2
   refine⟨⟨i+1,_,?_,rfl,by omega,hid HN.out.symm,HB⟩,by simp [S.ivN];omega⟩
   (try congr 1)<;>(try unfold S.needN)<;>(try simp only [IntKind.wrap_i64])<;>(try omega)
  ·have hjj:i=r.V.length:=by omega
   have hd:decide ((i:Int)<(r.V.length:Int))=false:=decide_eq_false (by omega)
   have HX:Hid (z=S.usedV r.V):=by have h9:=HZ.out;unfold Hid;rw [hjj,List.take_length] at h9;exact h9
   clear hjj hi g
   go_wp2
   go_ret
   exact⟨by rw [←HX.out];exact ret_int rfl,HB.out⟩
theorem rrefused_any (c:Int)(w:World):Calls Tryz.prog 18 #[.int .i64 c] w fun e w'=>e=.returned (rpV (rep c) none 0 0)∧Below w.heap.size w w':=by
 have hst:=(Zr.new w).st (rep c) none 0 0
 have hlv:=(Zr.new w).lv (rep c) none 0 0
 have HB:Hid (Below w.heap.size w ((w.alloc z6).setCells w.heap.size 0 (rpL (rep c) none 0 0))):=But.below (below1 _ _) (R.setCells_but (S:=(·=w.heap.size)) rfl _ 0 (But.refl _ _)) (fun k e=>by omega)
 have HS:=hid hst
 have HL:=hid hlv
 clear hst hlv
 go_enter Tryz.func18,Tryz.ntmps18
 go_wp2_with (first|((with_reducible refine st_arm HS.out ?_ ?_ ?_);(· rfl);(· rfl)))
 exact bodyPost_ret (v:=rpV (rep c) none 0 0) (by simp [results,Tryz.results18,asAddr,HL.out]) rfl ⟨rfl,HB.out⟩
end
end Go.Proofs.YtffmodpgddecnaaGreat.V
namespace Go.Proofs.YtffmodpgddecnaaGreat.V
open Go.RowKit
open Go.Proofs.YtffmodpgddecnaaGreat.H (B64 Cp)
open Go.Proofs.YtffmodpgddecnaaGreat.D (IsV IsW cutN hiI loI)
section
variable {w w':World}
set_option maxRecDepth 100000 in
set_option maxHeartbeats 1000000 in
theorem rcut_any (a b N:Nat)(width:Int)(h:IsW a b N)(h0:1≤width∧width≤128)(w:World) :
  Calls Tryz.prog 24 #[.agg #[.int .u64 (a:Int),.int .u64 (b:Int)],.int .i64 width] w fun e w'=>∃c d:Int,e=.returned (.agg #[.int .u64 c,.int .u64 d])∧IsV c d (cutN N width)∧Below w.heap.size w w':=by
 by_cases h2:128≤width
 ·have hz:=IsV.of (D.cut_all h h2)
  have hd:decide (width≥128)=true:=decide_eq_true h2
  clear h
  go_enter Tryz.func24,Tryz.ntmps24
  go_wp2
  exact bodyPost_ret (v:=.agg #[.int .u64 a,.int .u64 b]) (by simp [results,Tryz.results24,go_sem]) rfl ⟨a,b,rfl,hz,below2 _ _ _⟩
 ·by_cases h3:64≤width
  ·have hz:=IsV.of (D.cut_hi h h3 (by omega))
   have hh:=h.ha
   by_cases h4:width=64
   ·subst h4
    clear h
    go_enter Tryz.func24,Tryz.ntmps24
    go_wp2
    refine bodyPost_ret (v:=.agg #[.int .u64 0,.int .u64 b]) (by simp [results,Tryz.results24,go_sem]) rfl ⟨0,b,rfl,?_,below2 _ _ _⟩
    simpa [Nat.mod_one] using hz
   ·have hw:IntKind.i64.wrap (width - 64)=width - 64:=by rw [IntKind.wrap_i64];omega
    obtain⟨m,hm⟩:∃m:Nat,width=(m:Int)+64:=⟨(width - 64).toNat,by omega⟩
    subst hm
    have hm1:1≤m∧m≤63:=by omega
    have hl:=D.u64_low a m hh hm1.2
    have e:((m:Int)+64 - 64).toNat=m:=by omega
    rw [e] at hz
    clear h e
    go_enter Tryz.func24,Tryz.ntmps24
    go_wp2
    exact bodyPost_ret (v:=.agg #[.int .u64 ((a%2 ^ m:Nat):Int),.int .u64 b]) (by simp [results,Tryz.results24,go_sem]) rfl ⟨_,b,rfl,hz,below2 _ _ _⟩
  ·have hz:=IsV.of (D.cut_lo (width:=width) h (by omega) (by omega))
   have hh:=h.hb
   obtain⟨m,hm⟩:∃m:Nat,width=(m:Int):=⟨width.toNat,by omega⟩
   subst hm
   have hm1:1≤m∧m≤63:=by omega
   have hl:=D.u64_low b m hh hm1.2
   have hne:((m:Int)==64)=false:=by simp;omega
   rw [Int.toNat_natCast] at hz
   clear h
   go_enter Tryz.func24,Tryz.ntmps24
   go_wp2
   exact bodyPost_ret (v:=.agg #[.int .u64 0,.int .u64 ((b%2 ^ m:Nat):Int)]) (by simp [results,Tryz.results24,go_sem]) rfl ⟨0,_,rfl,hz,below2 _ _ _⟩
end
end Go.Proofs.YtffmodpgddecnaaGreat.V
namespace Go.Proofs.YtffmodpgddecnaaGreat.V
open Go.RowKit
open Go.Proofs.YtffmodpgddecnaaGreat.H (B64 Cp)
section
variable {w w':World}{M:Mh}{r:Rm}{a1:Option Addr}{c1:Nat}{Q1:List Ev}{a2:Option Addr}{c2:Nat}{a3:Option Addr}{c3:Nat}{Q3:List Ev}
theorem inR_any (n a b:Int)(w:World):Calls Tryz.prog 16 #[.int .i64 n,.int .i64 a,.int .i64 b] w fun e w'=>e=.returned (.bool (inW n a b))∧w'=w:=by
 by_cases h:a≤n
 ·have hd:decide (a≤n)=true:=decide_eq_true h
  have hd2:decide (n≥a)=true:=decide_eq_true h
  obtain⟨q,hq⟩:∃q,q=decide (n≤b):=⟨_,rfl⟩
  have e:inW n a b=q:=by unfold inW;rw [hd,hq];simp
  have HQ:=hid hq
  rw [e]
  clear e hq h
  go_enter Tryz.func16,Tryz.ntmps16
  go_wp2
  rw [←HQ.out]
  go_ret
  exact⟨ret_bool (by simp),rfl⟩
 ·have hd:decide (a≤n)=false:=decide_eq_false h
  have hd2:decide (n≥a)=false:=decide_eq_false h
  have e:inW n a b=false:=by unfold inW;rw [hd];rfl
  rw [e]
  clear e h
  go_enter Tryz.func16,Tryz.ntmps16
  go_wp2
  go_ret
  exact⟨ret_bool (by simp),rfl⟩
def AmR (w:World)(l:List Int)(n:Int)(v:Value)(U:World):Prop:=∃i:Nat,v=.int .i64 (i:Int)∧i≤l.length∧Hid (n∉l.take i)∧Hid (w=U)
set_option maxRecDepth 100000 in
set_option maxHeartbeats 1000000 in
theorem ramong_any {a:Option Addr}{cap:Nat}{l:List Int}(h:Fl w a (ints l))(hl:l.length≤1048576)(n:Int):Calls Tryz.prog 42 #[.slice a l.length cap,.int .i64 n] w fun e w'=>e=.returned (.bool (decide (n∈l)))∧w'=w:=by
 have HM:=hid h
 clear h
 go_enter Tryz.func42,Tryz.ntmps42
 go_upto_region 2 with fail
 go_loopw [5] (AmR w l n) (fun v _=>l.length - S.ivN v)
 case atStart=>exact⟨0,rfl,Nat.zero_le _,hid (by simp),hid rfl⟩
 case round =>
  obtain⟨i,rfl,hi,HN,HB⟩:=hrel
  have hU:=HB.out
  subst hU
  by_cases hlt:i<l.length
  ·have hd:decide ((i:Int)<(l.length:Int))=true:=decide_eq_true (by omega)
   obtain⟨q,hq⟩:∃q,l[i]?=some q:=⟨_,List.getElem?_eq_getElem hlt⟩
   obtain⟨g,rfl,hc⟩:=HM.out (by unfold ints;rw [List.length_map];omega)
   have q0:=hc i (.int .i64 q) (by unfold ints;rw [List.getElem?_map,hq];rfl)
   have HQ:=hid hq
   clear hc hq
   by_cases he:q=n
   ·have heb:(q==n)=true:=by simpa using he
    have HX:Hid (decide (n∈l)=true):=decide_eq_true (he ▸ List.mem_of_getElem? HQ.out)
    clear he
    go_wp2
    go_ret
    exact⟨by rw [HX.out];exact ret_bool rfl,rfl⟩
   ·have heb:(q==n)=false:=by simpa using he
    have HX:Hid (n∉l.take (i+1)):=by
     unfold Hid
     rw [List.take_succ_eq_append_getElem hlt,(List.getElem?_eq_some_iff.1 HQ.out).2]
     intro h9
     rcases List.mem_append.1 h9 with h9|h9
     ·exact HN.out h9
     ·exact he (List.mem_singleton.1 h9).symm
    clear he
    go_wp2
    exact⟨⟨i+1,rfl,by omega,HX,hid rfl⟩,by simp [S.ivN];omega⟩
  ·have hjj:i=l.length:=by omega
   have hd:decide ((i:Int)<(l.length:Int))=false:=decide_eq_false (by omega)
   have HX:Hid (decide (n∈l)=false):=decide_eq_false (by have h9:=HN.out;rw [hjj,List.take_length] at h9;exact h9)
   clear hjj hi
   go_wp2
   go_ret
   exact⟨by rw [HX.out];exact ret_bool rfl,rfl⟩
theorem rsmall_any (n:Int)(w:World):Calls Tryz.prog 37 #[.int .i64 n] w fun e w'=>e=.returned (.bool (R.sgB n))∧w'=w:=by
 unfold R.sgB R.wi
 by_cases h:-2147483648≤n
 ·have hd:decide (-2147483648≤n)=true:=decide_eq_true h
  have hd2:decide (n≥-2147483648)=true:=decide_eq_true h
  obtain⟨q,hq⟩:∃q,q=decide (n≤2147483647):=⟨_,rfl⟩
  have HQ:=hid hq
  rw [hd,←hq]
  clear hq h
  go_enter Tryz.func37,Tryz.ntmps37
  go_wp2
  rw [←HQ.out]
  go_ret
  exact⟨ret_bool (by simp),rfl⟩
 ·have hd:decide (-2147483648≤n)=false:=decide_eq_false h
  have hd2:decide (n≥-2147483648)=false:=decide_eq_false h
  rw [hd]
  clear h
  go_enter Tryz.func37,Tryz.ntmps37
  go_wp2
  go_ret
  exact⟨ret_bool (by simp),rfl⟩
end
end Go.Proofs.YtffmodpgddecnaaGreat.V
