import Derived.Test.YtffmodpgddecnaaGreatZ26
set_option linter.unusedVariables false
set_option linter.unusedSimpArgs false
namespace Go.Proofs.YtffmodpgddecnaaGreat.V.E
open Go.RowKit Go.Maps
open Go.Proofs.YtffmodpgddecnaaGreat.H (B64 Cp)
section
variable {w w':World}{base E ty k:Nat}{a:Option Addr}{n cap:Nat}{Q:List Ev}
theorem Two.snoc3 (t:TypeId)(z:Value)(by_:Nat)(ht:Tryz.prog.underlying t=some (.slice E))(hinf:(Tryz.prog.info? E).map (fun i=>(i.zero,i.size,i.bytes))=some (some z,2,by_))(hzs:z.cells.size=2)(hby:0<by_)(hby2:by_≤1024)
  {U:World} (h:Two U base E ty k a n cap Q) (hb:base≤U.heap.size) (o:Ev) (ho:Ow U base ty k o.a o.len o.cap o.vs) (hna:∀j,Blk o.a j→¬Two.B a Q j) (hn:n≤2048) :
  ∃a' c' w3,(Builtin.append_ #[t,t] t #[.slice a n cap,.slice (some ⟨U.heap.size,0,none⟩) 1 1]).run Tryz.prog (U.alloc (Obj.cells o.c.toArray E))=.ok (.slice a' (n+1) c') w3∧Two w3 base E ty k a' (n+1) c' (Q++[o])∧But (Blk a) U w3∧(∀j,Blk a' j→Blk a j∨U.heap.size≤j):=by
 have hcr:=Cr.lit U E o.c (fun u hu=>by simp only [Ev.c,List.mem_cons,List.not_mem_nil,or_false] at hu;rcases hu with rfl|rfl<;>rfl)
 obtain⟨a',c',w3,hrun,hO3,hG0⟩:=append_k t E z 2 by_ ht hinf hzs (by omega) hby (h.row.later (below1 U (Obj.cells o.c.toArray E))) hcr (by simp;omega) (by
  have:(n+1)*by_≤2049*1024:=Nat.mul_le_mul (by omega) hby2
  omega)
 have hG:=hG0.pre (below1 U (Obj.cells o.c.toArray E))
 have hob:=fun j hj=>ho.blk j hj
 refine⟨a',c',w3,hrun,⟨?_,by simp [h.len],?_,?_,?_⟩,hG.but,fun j hj=>hG.on j hj⟩
 ·have e:evs (Q++[o])=evs Q++o.c:=by simp [evs]
  rw [e]
  exact hO3
 ·intro p hp
  rcases List.mem_append.1 hp with hp|hp
  ·exact (h.each p hp).but hG.but (fun j hj hj2=>h.top p hp j hj hj2)
  ·rw [List.mem_singleton.1 hp]
   exact ho.but hG.but (fun j hj hj2=>hna j hj (.inl hj2))
 ·rw [List.pairwise_append]
  refine⟨h.ap,List.pairwise_singleton _ _,fun p hp q hq j h1 h2=>?_⟩
  rw [List.mem_singleton.1 hq] at h2
  exact hna j h2 (.inr ⟨p,hp,h1⟩)
 ·intro p hp j h1 h2
  rcases hG.on j h2 with h3|h3
  ·rcases List.mem_append.1 hp with hp|hp
   ·exact h.top p hp j h1 h3
   ·rw [List.mem_singleton.1 hp] at h1
    exact hna j h1 (.inl h3)
  ·rcases List.mem_append.1 hp with hp|hp
   ·have:=((h.each p hp).blk j h1).2
    omega
   ·rw [List.mem_singleton.1 hp] at h1
    have:=(hob j h1).2
    omega
end
section
variable {w w' V X:World}{base:Nat}{M:Mh}{r:Rm}{a1:Option Addr}{c1:Nat}{Q1:List Ev}{a2:Option Addr}{c2:Nat}{a3:Option Addr}{c3:Nat}{Q3:List Ev}
theorem _root_.Go.Proofs.YtffmodpgddecnaaGreat.V.Mx.prow (h:Mx w base M r a1 c1 Q1 a2 c2 a3 c3 Q3){P:List (Int×List Cp)}{b:Option Addr}{d:Nat}{Q:List Ev}(hV:But (Two.B a3 Q3) w V)(hX:But (fun j=>j=M.b) V X)(hbox:R.Bx X M.b (moL M { r with P:=P } a1 c1 a2 c2 b d))(ht:Two V base 65 38 3 b P.length d Q)(hk:Q.map Ev.key=P.map plK)
  (hb:∀j,Two.B b Q j→Two.B a3 Q3 j∨(¬MxN M a1 Q1 a2 a3 Q3 j∧¬Blk M.da j)) (hP:P.length≤2048) :
  Mx X base M { r with P:=P } a1 c1 Q1 a2 c2 b d Q∧But (fun j=>j=M.b∨Two.B a3 Q3 j) w X:=by
 have hMb:=h.lt
 have hall:But (fun j=>j=M.b∨Two.B a3 Q3 j) w X:=(hV.mono (fun j hj=>.inr hj)).trans (hX.mono (fun j hj=>.inl hj))
 refine⟨⟨hbox,ws_but h.dr hall (fun j hj e=>?_),?_,h.ok,?_,?_,hk,h.s12,?_,?_,?_,?_,?_,h.lo,⟨h.sm.1,h.sm.2.1,hP⟩⟩,hall⟩
 ·rcases e with e|e
  ·exact h.nd j hj (.inl e)
  ·exact h.nd j hj (.inr (.inr (.inr e)))
 ·refine h.os.but hall (fun j hj e=>?_)
  rcases e with e|e
  ·exact h.nb j (.inl hj) e
  ·exact h.s13 j hj e
 ·refine h.ts.but hall (fun j hj e=>?_)
  rcases e with e|e
  ·exact h.nb j (.inr (.inl hj)) e
  ·exact h.s23 j hj e
 ·refine ht.but hX (fun j hj e=>?_)
  rcases hb j hj with h1|h1
  ·exact h.nb j (.inr (.inr h1)) e
  ·exact h1.1 (.inl e)
 ·intro j h1 h2
  rcases hb j h2 with h3|h3
  ·exact h.s13 j h1 h3
  ·exact h3.1 (.inr (.inl h1))
 ·intro j h1 h2
  rcases hb j h2 with h3|h3
  ·exact h.s23 j h1 h3
  ·exact h3.1 (.inr (.inr (.inl h1)))
 ·intro j hj e
  rcases hj with h1|h1|h1
  ·exact h.nb j (.inl h1) e
  ·exact h.nb j (.inr (.inl h1)) e
  ·rcases hb j h1 with h3|h3
   ·exact h.nb j (.inr (.inr h3)) e
   ·exact h3.1 (.inl e)
 ·intro j hj hm
  rcases hm with e|h1|h1|h1
  ·exact h.nd j hj (.inl e)
  ·exact h.nd j hj (.inr (.inl h1))
  ·exact h.nd j hj (.inr (.inr (.inl h1)))
  ·rcases hb j h1 with h3|h3
   ·exact h.nd j hj (.inr (.inr (.inr h3)))
   ·exact h3.2 hj
 ·exact fun j hj=>Nat.lt_of_lt_of_le (h.dl j hj) hall.size
theorem Mx.new (h:Mx w base M r a1 c1 Q1 a2 c2 a3 c3 Q3){j:Nat}(hj:w.heap.size≤j):¬MxN M a1 Q1 a2 a3 Q3 j∧¬Blk M.da j:=⟨fun e=>by have:=(h.rng j e).2;omega,fun e=>by have:=h.dl j e;omega⟩
theorem Mx.prc2 (h:Mx w base M r a1 c1 Q1 a2 c2 a3 c3 Q3)(hbs:base≤w.heap.size)(v:Int×List Cp){ao:Option Addr}{co:Nat}(ho:Ow w base 38 3 ao v.2.length co (caps v.2))(hap:∀j,Blk ao j→¬MxN M a1 Q1 a2 a3 Q3 j∧¬Blk M.da j)(hP:r.P.length<2048):∃b d w3,(Builtin.append_ #[51,51] 51 #[.slice a3 r.P.length c3,.slice (some ⟨w.heap.size,0,none⟩) 1 1]).run Tryz.prog (w.alloc (Obj.cells #[.int .i64 v.1,.slice ao v.2.length co] 65))=.ok (.slice b (r.P.length+1) d) w3 ∧
  Mx (w3.setCell ⟨M.b,14,none⟩ (.slice b (r.P.length+1) d)) base M { r with P:=r.P++[v] } a1 c1 Q1 a2 c2 b d (Q3++[⟨v.1,caps v.2,v.2.length,ao,co⟩])∧But (fun j=>j=M.b∨Two.B a3 Q3 j) w (w3.setCell ⟨M.b,14,none⟩ (.slice b (r.P.length+1) d))∧But (Blk a3) w w3∧(∀j,MxN M a1 Q1 a2 b (Q3++[⟨v.1,caps v.2,v.2.length,ao,co⟩]) j→MxN M a1 Q1 a2 a3 Q3 j∨Blk ao j∨w.heap.size≤j):=by
 obtain⟨b,d,w3,h1,h2,h3,h4⟩:=Two.snoc3 51 _ 32 Tryz.underlying51 info59 rfl (by decide) (by decide) h.ps hbs ⟨v.1,caps v.2,v.2.length,ao,co⟩ ho (fun j hj e=>(hap j hj).1 (.inr (.inr (.inr e)))) (by omega)
 have hl:r.P.length+1=(r.P++[v]).length:=by simp
 have hb1:But (fun j=>j=M.b) w3 (w3.setCell ⟨M.b,14,none⟩ (.slice b (r.P.length+1) d)):=But.setCell (S:=fun j=>j=M.b) (But.refl _ _) (p:=⟨M.b,14,none⟩) rfl _
 have hma:¬Blk a3 M.b:=fun e=>h.nb M.b (.inr (.inr (.inl e))) rfl
 have hN:∀j,Two.B b (Q3++[⟨v.1,caps v.2,v.2.length,ao,co⟩]) j→Two.B a3 Q3 j∨Blk ao j∨w.heap.size≤j:=fun j hj=>by
  rcases hj with hj|⟨o,hO,hj⟩
  ·rcases h4 j hj with e|e
   ·exact .inl (.inl e)
   ·exact .inr (.inr e)
  ·rcases List.mem_append.1 hO with hO|hO
   ·exact .inl (.inr ⟨o,hO,hj⟩)
   ·rw [List.mem_singleton.1 hO] at hj
    exact .inr (.inl hj)
 obtain⟨h5,h6⟩:=h.prow (P:=r.P++[v]) (h3.mono (fun j hj=>.inl hj)) hb1 (by
  have:=Bx.put (R.Bx.but h3 h.box hma) 14 (by simp [moL,Cf.L]) (.slice b (r.P.length+1) d)
  rw [hl] at this ⊢
  exact this) (by rw [←hl];exact h2) (by rw [List.map_append,List.map_append,h.pk];rfl) (fun j hj=>by
  rcases hN j hj with e|e|e
  ·exact .inl e
  ·exact .inr (hap j e)
  ·exact .inr (Mx.new h e)) (by simp;omega)
 refine⟨b,d,w3,h1,h5,h6,h3,fun j hj=>?_⟩
 rcases hj with e|hj|hj|hj
 ·exact .inl (.inl e)
 ·exact .inl (.inr (.inl hj))
 ·exact .inl (.inr (.inr (.inl hj)))
 ·rcases hN j hj with e|e
  ·exact .inl (.inr (.inr (.inr e)))
  ·exact .inr e
theorem Pg.go2 {U:World}{b:Nat}{N S:Nat→Prop}{r':Rm}{b1:Option Addr}{d1:Nat}{R1:List Ev}{b2:Option Addr}{d2:Nat}{b3:Option Addr}{d3:Nat}{R3:List Ev}(h:Pg w U base b M N r a1 c1 Q1 a2 c2 a3 c3 Q3)(x':Mx V base M r' b1 d1 R1 b2 d2 b3 d3 R3)(hb:But S U V)(hS:∀j,S j→MxN M a1 Q1 a2 a3 Q3 j)(hN:∀j,MxN M b1 R1 b2 b3 R3 j→MxN M a1 Q1 a2 a3 Q3 j∨b<j):Pg w V base b M N r' b1 d1 R1 b2 d2 b3 d3 R3:=by
 have hlt:=h.z.lt
 have hwb:=h.wb
 refine⟨x',h.bt.comp hb (fun j hj=>?_),fun j hj=>?_,h.z.but hb (fun hj=>?_),hwb,h.nw⟩
 ·rcases h.n j (hS j hj) with h1|h1
  ·exact .inl h1
  ·exact .inr (by omega)
 ·rcases hN j hj with h1|h1
  ·exact h.n j h1
  ·exact .inr h1
 ·rcases h.n b (hS b hj) with h1|h1
  ·have:=h.nw b h1;omega
  ·omega
end
end Go.Proofs.YtffmodpgddecnaaGreat.V.E
namespace Go.Proofs.YtffmodpgddecnaaGreat.V.E
open Go.RowKit Go.Maps
open Go.Proofs.YtffmodpgddecnaaGreat.H (B64 Cp)
open Go.Proofs.YtffmodpgddecnaaGreat.M (okI atC pickE pickL)
section
variable {w w':World}{base:Nat}{M:Mh}{r:Rm}{a1:Option Addr}{c1:Nat}{Q1:List Ev}{a2:Option Addr}{c2:Nat}{a3:Option Addr}{c3:Nat}{Q3:List Ev}
def spK (p:Pm)(r:Rm)(K:List Cp)(G:List Int):Rep×Rm :=
 if pickE p.lm K G≠0 then (rep (pickE p.lm K G),r) else
 if p.pm≤(r.P.length:Int)∨65535<r.px then (rep 13,r) else (⟨0,(0,0,0),[],r.px⟩,{ r with px:=r.px+1,P:=r.P++[(r.px,pickL p.lm K G)] })
set_option maxRecDepth 100000 in
set_option maxHeartbeats 4000000 in
theorem rspawn_any (h:Mx w base M r a1 c1 Q1 a2 c2 a3 c3 Q3)(hbs:base≤w.heap.size)(hf:RF M.p r)(hcf:M.C.may=true){la:Option Addr}{n lc:Nat}{K:List Cp}(hK:Ow w base 38 3 la n lc (caps K))(hn:K.length=n)(hKl:n≤32){ga:Option Addr}{gn gc:Nat}{G:List Int}(hG:R.RI w ga gn gc G)(hgl:gn≤255)(hp:∀g∈G,0≤g):Calls Tryz.prog 25 #[.pointer (some ⟨M.b,0,none⟩),.slice ga gn gc,.slice la n lc] w (RmP w base M (MxN M a1 Q1 a2 a3 Q3) (spK M.p r K G)):=by
 obtain⟨W,hW⟩:∃W,W=w.alloc z6:=⟨_,rfl⟩
 have hB:Below w.heap.size w W:=by rw [hW];exact below1 _ _
 have hZ:Zr W w.heap.size:=by rw [hW];exact Zr.new w
 have HSz:Hid (W.heap.size=w.heap.size+1):=by rw [hW];simp [Hid]
 have HP0:=hid (Pg.start h hB hZ (Nat.le_refl _))
 have HN:Hid (∀j,MxN M a1 Q1 a2 a3 Q3 j→j<w.heap.size):=fun j hj=>(h.rng j hj).2
 have HD:=hid h.dl
 have HW:=hid hW
 have HB:=hid hB
 have HX:=hid h
 have HBs:=hid hbs
 have HK:=hid (hK.later hB)
 have HG:=hid (hG.later hB)
 have HNk:=hid hn
 have HGL:Hid (G.length=gn):=hG.len
 have HP:=hid hp
 have hcm:=Cf.may_iff.1 hcf
 have hrP:=hf.P
 have hrx:=hf.px
 obtain⟨nP,hnP⟩:∃n,n=r.P.length:=⟨_,rfl⟩
 obtain⟨cl,hcl⟩:∃n:Nat,M.C.l=(n:Int):=⟨M.C.l.toNat,by omega⟩
 obtain⟨cr,hcr⟩:∃n:Nat,M.C.r=(n:Int):=⟨M.C.r.toNat,by omega⟩
 rw [hcl,hcr] at hcm
 have HC:Hid (∀U:World,Below W.heap.size W U→U.cell? ⟨M.b,14,none⟩=some (.slice a3 nP c3)∧U.cell? ⟨M.b,5,none⟩=some (.int .i64 (cr:Int))∧U.cell? ⟨M.b,6,none⟩=some (.int .i64 (cl:Int))∧U.cell? ⟨M.b,16,none⟩=some (.int .i64 r.px)):=fun U hU=>by
  have hx:=R.Bx.later (below_call hB hU) h.box
  exact⟨by rw [hnP];exact hx.cell 14 rfl,by rw [←hcr];exact hx.cell 5 rfl,by rw [←hcl];exact hx.cell 6 rfl,hx.cell 16 rfl⟩
 have HRt:Hid (spK M.p r K G=if G.all (okI K)=true then (if (cl:Int)<(gn:Int) then (rep 14,r) else if (cr:Int)≤(nP:Int)∨65535<r.px then (rep 13,r) else (⟨0,(0,0,0),[],r.px⟩,{ r with px:=r.px+1,P:=r.P++[(r.px,G.map (atC K))] })) else (rep 15,r)):=by
  have e1:M.p.lm=M.C.l:=rfl
  have e2:M.p.pm=M.C.r:=rfl
  unfold Hid spK pickL pickE
  rw [e1,e2,hcl,hcr,←hnP,HGL.out]
  by_cases h1:G.all (okI K)=true
  ·simp only [if_pos h1]
   by_cases h2:(cl:Int)<(gn:Int)
   ·simp only [if_pos h2];rfl
   ·simp only [if_neg h2];rfl
  ·simp only [if_neg h1];rfl
 obtain⟨Rr,hR⟩:∃Rr,Rr=spK M.p r K G:=⟨_,rfl⟩
 rw [←hR] at HRt ⊢
 have HnP:=hid hnP
 rw [←hnP] at hrP
 clear h hbs hf hcf hK hn hG hp hR hW hB hZ hnP hcl hcr
 go_enter Tryz.func25,Tryz.ntmps25
 go_upto_region 1 with fail
 rw [←HW.out]
 go_upto_region 3 with fail
 go_loopw [7,8] (PkRel W K G) (fun _ v _=>gn - (intOf v).toNat)
 case atStart=>exact⟨0,none,0,rfl,rfl,by omega,fun j hj=>by omega,by simp [caps];exact Ow.nil _ _ _ _,Below.refl _ _⟩
 case round =>
  obtain⟨i,p,c,rfl,rfl,hi,hok,hO,hbel⟩:=hrel
  rename World=>U
  have HO:=hid hO
  have HBU:=hid hbel
  have HOk:=hid hok
  have hgl2:=HGL.out
  clear hO hbel hok
  by_cases hx:i<gn
  ·have hd:decide ((i:Int)<(gn:Int))=true:=decide_eq_true (by omega)
   obtain⟨g,o,hga,hgc⟩:=(HG.out.later HBU.out).plain (by omega)
   obtain⟨x,hxx⟩:∃x,G[i]?=some x:=⟨G[i]'(by omega),List.getElem?_eq_getElem (by omega)⟩
   have g0:=hgc i (by omega)
   rw [show G[i]'(by omega)=x by have:=List.getElem?_eq_getElem (l:=G) (i:=i) (by omega);rw [hxx] at this;exact (Option.some.inj this).symm] at g0
   have hx0:0≤x:=HP.out x (List.mem_of_getElem? hxx)
   have hii:(i:Int)<(gn:Int):=by omega
   have h0i:(0:Int)≤(i:Int):=by omega
   by_cases ho:okI K x=true
   ·obtain⟨kx,rfl,hkl,hkx⟩:=atC_is ho
    obtain⟨z,hz⟩:∃z,z=atC K (kx:Int):=⟨_,rfl⟩
    rw [←hz] at hkx
    have hkn:kx<n:=by rw [←HNk.out];exact hkl
    have hge:¬n≤kx:=by omega
    have hd2:decide ((kx:Int)≥(n:Int))=false:=decide_eq_false (by omega)
    have hd2n:decide (n≤kx)=false:=decide_eq_false hge
    have hkii:(kx:Int)<(n:Int):=by omega
    have h0k:(0:Int)≤(kx:Int):=by omega
    obtain⟨b,ha,hcc⟩:=ow_cap (Ow.later HK.out HBU.out) (by omega)
    obtain⟨z0,z1,z2⟩:=hcc kx z hkx
    obtain⟨a7,c7,w7,hr7,hO7,hG7⟩:=append_k 63 38 _ 3 24 Tryz.underlying63 infoEC rfl (by omega) (by omega) (Ow.later HO.out (below1 U (.cells #[.int .i64 z.1,.int .u64 (z.2.1:Int),.int .u64 (z.2.2:Int)] 38))) (Cr.lit U 38 (encC z) (by simp [encC,Value.oneCell'])) (by have:=HBU.out.size;simp;omega) (by omega)
    have hbb:Below U.heap.size U (U.alloc (.cells #[.int .i64 z.1,.int .u64 (z.2.1:Int),.int .u64 (z.2.2:Int)] 38)):=below1 _ _
    have HNx:Hid (PkRel W K G (.slice a7 (i+1) c7) (.int .i64 ((i:Int)+1)) w7):=by
     refine⟨i+1,a7,c7,rfl,by simp,by omega,fun j hj x' hx'=>?_,?_,But.below (below_call HBU.out hbb) hG7.but (fun k hk=>(Ow.blk HO.out k hk).1)⟩
     ·by_cases hji:j=i
      ·subst hji
       rw [hxx] at hx'
       cases hx'
       exact ho
      ·exact HOk.out j (by omega) x' hx'
     ·rw [List.take_add_one,hxx,List.map_append,capA]
      simp only [Option.toList_some,List.map_cons,List.map_nil,←hz]
      have:caps [z]=encC z:=by simp [caps]
      rw [this]
      exact hO7
    have HA7:=hid hr7
    clear hr7 hO7 hG7 hbb hgc hcc hxx ho hkl hkx hz hx0 hgl2
    subst hga ha
    go_wp2_with (first|(at_builtin;refine wpList_append_known rfl _ _ 63 rfl _ _ rfl rfl _ _ HA7.out ?_))
    refine⟨?_,by simp [intOf];omega⟩
    exact HNx.out
   ·have hof:okI K x=false:=by simpa using ho
    have hnx:(n:Int)≤x:=by
     have:¬(0≤x∧x<(K.length:Int)):=fun e=>ho (okI_iff.2 e)
     have:=HNk.out
     omega
    obtain rfl:Rr=(rep 15,r):=by rw [HRt.out,if_neg (by rw [okI_no hxx hof];decide)]
    have hd2:decide (x≥(n:Int))=true:=decide_eq_true hnx
    have hd3:decide ((n:Int)≤x)=true:=decide_eq_true hnx
    have HEv:=hid (HP0.out.later HBU.out).e
    clear hgc hxx ho hof hx0
    subst hga
    have HR_:=hid (rrefused_any 15 U)
    go_wp2_with (first|(go_at_call 18;refine HR_.out.mono ?_;rintro e w9 ⟨rfl,hb9⟩;have HE9:=hid (HEv.out.later hb9);have HZ9:=hid HE9.out.z;have HS9:=hid (HZ9.out.st (rep 15) none 0 0);have HL9:=hid (HZ9.out.lv (rep 15) none 0 0);clear hb9)|((with_reducible refine st_arm HS9.out ?_ ?_ ?_);(· rfl);(· rfl)))
    exact bodyPost_ret (v:=rpV (rep 15) none 0 0) (by simp [results,Tryz.results25,asAddr,HL9.out]) rfl (HE9.out.fin (Nat.le_refl _) HN.out HD.out (rep 15) rfl)
  ·have hd:decide ((i:Int)<(gn:Int))=false:=decide_eq_false (by omega)
   obtain rfl:i=gn:=by omega
   have hat:=okI_all (K:=K) (P:=G) (fun j hj x hx=>HOk.out j (by omega) x hx)
   have ht:G.take i=G:=List.take_of_length_le (by omega)
   rw [ht] at HO
   have HRt:=hid (HRt.out.trans (if_pos hat))
   clear hat ht
   obtain⟨m14,m5,m6,m16⟩:=HC.out U HBU.out
   by_cases h2:(cl:Int)<(i:Int)
   ·obtain rfl:Rr=(rep 14,r):=by rw [HRt.out,if_pos h2]
    have hd2:decide ((i:Int)>(cl:Int))=true:=decide_eq_true h2
    have hd2n:decide (cl<i)=true:=decide_eq_true (by omega)
    have HEv:=hid (HP0.out.later HBU.out).e
    clear h2
    have HR_:=hid (rrefused_any 14 U)
    go_wp2_with (first|(go_at_call 18;refine HR_.out.mono ?_;rintro e w9 ⟨rfl,hb9⟩;have HE9:=hid (HEv.out.later hb9);have HZ9:=hid HE9.out.z;have HS9:=hid (HZ9.out.st (rep 14) none 0 0);have HL9:=hid (HZ9.out.lv (rep 14) none 0 0);clear hb9)|((with_reducible refine st_arm HS9.out ?_ ?_ ?_);(· rfl);(· rfl)))
    exact bodyPost_ret (v:=rpV (rep 14) none 0 0) (by simp [results,Tryz.results25,asAddr,HL9.out]) rfl (HE9.out.fin (Nat.le_refl _) HN.out HD.out (rep 14) rfl)
   have HRt:=hid (HRt.out.trans (if_neg h2))
   have hd2:decide ((i:Int)>(cl:Int))=false:=decide_eq_false h2
   have hd2n:decide (cl<i)=false:=decide_eq_false (by omega)
   go_upto_region 10 with fail
   clear hd hd2 hd2n h2
   by_cases h3:(cr:Int)≤(nP:Int)∨65535<r.px
   ·obtain rfl:Rr=(rep 13,r):=by rw [HRt.out,if_pos h3]
    go_cut [60] (fun v_ V=>v_=.bool true∧Hid (Below U.heap.size U V))
    case first =>
     by_cases h4:cr≤nP
     ·have hd4:decide ((nP:Int)≥(cr:Int))=true:=decide_eq_true (by omega)
      have hd4n:decide (cr≤nP)=true:=decide_eq_true h4
      clear h3 h4
      go_quiet (fail)
      (try go_wp2)
      go_meet
      exact⟨rfl,below_drewN (Below.refl _ _) _⟩
     ·have hd4:decide ((nP:Int)≥(cr:Int))=false:=decide_eq_false (by omega)
      have hd4n:decide (cr≤nP)=false:=decide_eq_false h4
      have hd5:decide (r.px>65535)=true:=decide_eq_true (by omega)
      clear h3 h4
      go_quiet (fail)
      (try go_wp2)
      go_meet
      exact⟨rfl,below_drewN (Below.refl _ _) _⟩
    case rest =>
    rename World=>v
    obtain⟨rfl,HBv⟩:=hcut
    have HEv:=hid ((HP0.out.later HBU.out).later HBv.out).e
    have HR_:=hid (rrefused_any 13 v)
    go_wp2_with (first|(go_at_call 18;refine HR_.out.mono ?_;rintro e w9 ⟨rfl,hb9⟩;have HE9:=hid (HEv.out.later hb9);have HZ9:=hid HE9.out.z;have HS9:=hid (HZ9.out.st (rep 13) none 0 0);have HL9:=hid (HZ9.out.lv (rep 13) none 0 0);clear hb9)|((with_reducible refine st_arm HS9.out ?_ ?_ ?_);(· rfl);(· rfl)))
    exact bodyPost_ret (v:=rpV (rep 13) none 0 0) (by simp [results,Tryz.results25,asAddr,HL9.out]) rfl (HE9.out.fin (Nat.le_refl _) HN.out HD.out (rep 13) rfl)
   have HRt:=hid (HRt.out.trans (if_neg h3))
   have hd4:decide ((nP:Int)≥(cr:Int))=false:=decide_eq_false (by omega)
   have hd4n:decide (cr≤nP)=false:=decide_eq_false (by omega)
   have hd5:decide (r.px>65535)=false:=decide_eq_false (by omega)
   clear h3
   go_cut [60] (fun v_ V=>v_=.bool false∧Hid (Below U.heap.size U V))
   case first =>
    go_quiet (fail)
    (try go_wp2)
    go_meet
    exact⟨rfl,below_drewN (Below.refl _ _) _⟩
   case rest =>
   rename World=>v
   obtain⟨rfl,HBv⟩:=hcut
   have hsz:=HSz.out
   have P1:=(HP0.out.later HBU.out).later HBv.out
   have hWv:=below_call HBU.out HBv.out
   obtain⟨y14,-,-,y16⟩:=HC.out v hWv
   have f16:=P1.x.fz 16 (by omega)
   have HWp:Hid (wrap64 (r.px+1)=r.px+1):=by unfold Hid wrap64;omega
   obtain⟨V1,hV1⟩:∃V1,V1=v.setCell ⟨M.b,16,none⟩ (.int .i64 (r.px+1)):=⟨_,rfl⟩
   have P2:=P1.cell 16 _ (P1.x.setP (r.px+1))
   rw [←hV1] at P2
   have hMb:=HX.out.lt
   have hpW:∀j,Blk p j→W.heap.size≤j:=fun j hj=>(Ow.blk HO.out j hj).1
   have hO2:Ow V1 base 38 3 p i c (caps (G.map (atC K))):=by
    have h9:=(HO.out.later HBv.out).but (S:=fun j=>j=M.b) (w':=V1) (by rw [hV1];exact But.setCell (S:=fun j=>j=M.b) (But.refl _ _) (p:=⟨M.b,16,none⟩) rfl _) (fun j hj e=>by have:=hpW j hj;omega)
    exact h9.mono (by have:=HBs.out;omega)
   have hml:(G.map (atC K)).length=i:=by rw [List.length_map];omega
   rw [←hml] at hO2
   obtain⟨b3,d3,w3,hr3,X3,hb3,hb33,hn3⟩:=Mx.prc2 P2.x (Nat.le_trans HBs.out P2.bt.size) (r.px,G.map (atC K)) hO2 (fun j hj=>Mx.new HX.out (by have:=hpW j hj;omega)) (by show r.P.length<2048;have:=HnP.out;omega)
   have P3:=Pg.go2 P2 X3 hb3 (fun j hj=>hj.elim (fun e=>.inl e) (fun e=>.inr (.inr (.inr e)))) (fun j hj=>by
    have hlt:=P2.z.lt
    rcases hn3 j hj with e|e|e
    ·exact .inl e
    ·exact .inr (by have:=hpW j e;omega)
    ·exact .inr (by omega))
   simp only [hml] at hr3 P3
   rw [←HnP.out] at hr3 P3
   have hma3:¬Blk a3 M.b:=fun e=>HX.out.nb M.b (.inr (.inr (.inl e))) rfl
   have x14:=P2.x.box.cell 14 rfl
   simp only at x14
   rw [←HnP.out] at x14
   have z14:=cell_but hb33 x14 hma3
   have g14:w3.frozen? ⟨M.b,14,none⟩=false:=by
    rw [World.frozen?_of_block (hb33.block M.b P2.x.lt hma3)]
    exact P2.x.fz 14 (by omega)
   have HP3:=hid P3
   have HV1:=hid hV1
   have HA3:=hid hr3
   have HS9:=hid (HP3.out.z.st ⟨0,(0,0,0),[],r.px⟩ none 0 0)
   have HL9:=hid (HP3.out.z.lv ⟨0,(0,0,0),[],r.px⟩ none 0 0)
   clear P1 P2 P3 hV1 hr3 X3 hb3 hb33 hn3 hO2 hml hpW hWv m14 m5 m6 m16 hd4 hd4n hd5 y14
   go_upto_region 14 with fail
   first|rw [←HV1.out]|rw [HWp.out,←HV1.out]
   clear y16 f16
   go_wp2_with (first|(at_builtin;refine wpList_append_known rfl _ _ 51 rfl _ _ rfl rfl _ _ HA3.out ?_)|((with_reducible refine st_arm HS9.out ?_ ?_ ?_);(· rfl);(· rfl)))
   have hfin:=HP3.out.e.fin (Nat.le_refl _) HN.out HD.out ⟨0,(0,0,0),[],r.px⟩ rfl
   obtain rfl:Rr=_:=HRt.out
   exact bodyPost_ret (v:=rpV ⟨0,(0,0,0),[],r.px⟩ none 0 0) (by simp [results,Tryz.results25,asAddr,HL9.out]) rfl hfin
end
end Go.Proofs.YtffmodpgddecnaaGreat.V.E
namespace Go.Proofs.YtffmodpgddecnaaGreat.V.E
open Go.RowKit Go.Maps
open Go.Proofs.YtffmodpgddecnaaGreat.H (B64 Cp)
open Go.Proofs.YtffmodpgddecnaaGreat.M (okI atC pickE pickL)
section
variable {w w':World}{base:Nat}{M:Mh}{r:Rm}{a1:Option Addr}{c1:Nat}{Q1:List Ev}{a2:Option Addr}{c2:Nat}{a3:Option Addr}{c3:Nat}{Q3:List Ev}
theorem infoI1:(Tryz.prog.info? 3).map (fun i=>(i.zero,i.size,i.bytes))=some (some (.int .i64 0),1,8):=by kernel_rfl
def GoR (W:World)(T:List Hl)(g0:List Int)(v7 v8:Value)(U:World):Prop:=∃(i:Nat) (g:List Int) (a:Option Addr) (c:Nat),v7=.slice a g.length c∧v8=.int .i64 (i:Int)∧i≤T.length∧g.length≤i+1∧Hid (gon T g0=gon (T.drop i) g)∧Hid (Ow U W.heap.size 3 1 a g.length c (ints g))∧Hid (Below W.heap.size W U)
def fG (g:List Int)(T:List Hl):List Hl:=T.filter (fun x=>decide (x.no∉g))
def WgR (W:World)(g:List Int)(T:List Hl)(v9 v10:Value)(U:World):Prop:=∃(i:Nat) (a:Option Addr) (n c:Nat),v9=.slice a n c∧v10=.int .i64 (i:Int)∧i≤T.length∧n≤i∧Hid (n=(fG g (T.take i)).length)∧Hid (Ow U W.heap.size 91 6 a n c (hls (fG g (T.take i))))∧Hid (Below W.heap.size W U)
theorem ints_app (g:List Int)(n:Int):ints (g++[n])=ints g++[.int .i64 n]:=by simp [ints]
theorem ints_len (g:List Int):(ints g).length=g.length:=by simp [ints]
set_option maxRecDepth 100000 in
set_option maxHeartbeats 4000000 in
theorem raway_any (h:Mx w base M r a1 c1 Q1 a2 c2 a3 c3 Q3)(hbs:base≤w.heap.size)(hf:RF M.p r){cl:R.Cl}{dd gg:R.Sl}(hop:cl.op=2∨cl.op=4):Calls Tryz.prog 21 #[.pointer (some ⟨M.b,0,none⟩),.agg (R.cC cl dd gg).toArray] w (RmP w base M (MxN M a1 Q1 a2 a3 Q3) (rAway (decide (cl.op=2)) r (cpO cl))):=by
 obtain⟨W,hW⟩:∃W,W=(w.alloc (Obj.cells (R.cC cl dd gg).toArray 45)).alloc z6:=⟨_,rfl⟩
 have hB:Below w.heap.size w W:=by rw [hW];exact below2 _ _ _
 have hXc:R.Bx W w.heap.size (R.cC cl dd gg):=by rw [hW];exact R.Bx.later (below1 _ _) (R.Bx.new w (R.cC cl dd gg) 45)
 have hZ:Zr W (w.heap.size+1):=by rw [hW];have:=Zr.new (w.alloc (Obj.cells (R.cC cl dd gg).toArray 45));simpa using this
 have HP0:=hid (Pg.start h hB hZ (Nat.le_succ _))
 have HN:Hid (∀j,MxN M a1 Q1 a2 a3 Q3 j→j<w.heap.size):=fun j hj=>(h.rng j hj).2
 have HD:=hid h.dl
 have HW:=hid hW
 have HB:=hid hB
 have HX:=hid h
 have HBs:=hid hbs
 have HRt:=hid hf.rt
 have hsT:=hf.T
 have HC:Hid (∀U:World,Below W.heap.size W U→U.cell? ⟨w.heap.size,0,none⟩=some (.int .i64 cl.op)∧U.cell? ⟨w.heap.size,3,none⟩=some (.int .i64 (cpO cl).1)):=fun U hU=>⟨(R.Bx.later hU hXc).cell 0 rfl,(R.Bx.later hU hXc).cell 3 rfl⟩
 have k3:=hXc.cell 3 rfl
 have k4:=hXc.cell 4 rfl
 have k5:=hXc.cell 5 rfl
 have HLv:=hid (rlive_any (h.mr.later hB) (cpO cl))
 have HT:Hid (∀U:World,Below W.heap.size W U→Mr U M r a1 c1 Q1 a2 c2 a3 c3 Q3):=fun U hU=>h.mr.later (below_call hB hU)
 obtain⟨Rr,hR⟩:∃Rr,Rr=rAway (decide (cl.op=2)) r (cpO cl):=⟨_,rfl⟩
 rw [←hR]
 have HR:=hid hR
 obtain⟨nT,hnT⟩:∃n,n=r.T.length:=⟨_,rfl⟩
 have HnT:=hid hnT
 rw [←hnT] at hsT
 clear h hbs hf hW hB hZ hXc hR hnT
 rcases liv_ix r.T (cpO cl) with ⟨h1,h2⟩|⟨i,x,h1,h2,h3⟩
 ·obtain rfl:Rr=(rep 3,r):=by rw [HR.out];unfold rAway;rw [h2]
  rw [h1] at HLv
  clear h1 h2
  go_enter Tryz.func21,Tryz.ntmps21
  go_upto_region 1 with fail
  rw [←HW.out]
  go_upto_region 2 with (first|(go_at_call 40;refine HLv.out.mono ?_;rintro e w1 ⟨rfl,hb1⟩;have HB1:=hid hb1;clear hb1))
  have HEv:=hid (HP0.out.later HB1.out).e
  clear k3 k4 k5
  have HR_:=hid (rrefused_any 3 w1)
  go_wp2_with (first|(go_at_call 18;refine HR_.out.mono ?_;rintro e w9 ⟨rfl,hb9⟩;have HE9:=hid (HEv.out.later hb9);have HZ9:=hid HE9.out.z;have HS9:=hid (HZ9.out.st (rep 3) none 0 0);have HL9:=hid (HZ9.out.lv (rep 3) none 0 0);clear hb9)|((with_reducible refine st_arm HS9.out ?_ ?_ ?_);(· rfl);(· rfl)))
  exact bodyPost_ret (v:=rpV (rep 3) none 0 0) (by simp [results,Tryz.results21,asAddr,HL9.out]) rfl (HE9.out.fin (Nat.le_succ _) HN.out HD.out (rep 3) rfl)
 rw [h1] at HLv
 have hi:=(List.getElem?_eq_some_iff.1 h2).1
 have hi2:i<nT:=by have:=HnT.out;omega
 have hii:(i:Int)<(nT:Int):=by omega
 have h0i:(0:Int)≤(i:Int):=by omega
 have hd0:decide ((i:Int)<0)=false:=decide_eq_false (by omega)
 have hrx:=HRt.out x (List.mem_of_getElem? h2)
 have HI:=hid h2
 have HCx:Hid (∀U:World,Below W.heap.size W U→∃gt,a2=some ⟨gt,0,none⟩∧U.cell? ⟨M.b,13,none⟩=some (.slice a2 nT c2)∧U.cell? ⟨gt,i*6,none⟩=some (.int .i64 x.no)∧U.cell? ⟨gt,i*6+1,none⟩=some (.int .i64 x.up)∧U.cell? ⟨gt,i*6+5,none⟩=some (.int .i64 x.r)):=fun U hU=>by
  obtain⟨gt,hga,hqc⟩:=hl_cells (HT.out U hU).t h2
  exact⟨gt,hga,by rw [HnT.out];exact (HT.out U hU).box.cell 13 rfl,hqc 0 _ rfl,hqc 1 _ rfl,hqc 5 _ rfl⟩
 obtain⟨pb,hpb⟩:∃pb,pb=partB (needB (decide (cl.op=2))) x.r:=⟨_,rfl⟩
 have HA:Hid (Rr=if pb=false then (rep 4,r) else if decide (cl.op=2)=true∨x.up=0 then (rep 0,{ r with V:=noV r.V (cpO cl).1,T:=r.T.filter (fun y=>decide (y.c.1≠(cpO cl).1)) }) else (rep 0,{ r with T:=r.T.filter (fun y=>decide (y.no∉gon r.T [x.no])) })):=by
  unfold Hid
  rw [HR.out,hpb]
  unfold rAway
  rw [h3]
 clear h1 h2 h3 hi HR
 go_enter Tryz.func21,Tryz.ntmps21
 go_upto_region 1 with fail
 rw [←HW.out]
 go_upto_region 4 with (first|(go_at_call 40;refine HLv.out.mono ?_;rintro e w1 ⟨rfl,hb1⟩;have HBv:=hid hb1;clear hb1))
 clear hd0 k3 k4 k5
 obtain⟨gt,hga,m13,t0,t1,t5⟩:=HCx.out w1 HBv.out
 rw [hga] at m13
 have HP1:=hid (HP0.out.later HBv.out)
 obtain⟨z0,-⟩:=HC.out w1 HBv.out
 by_cases ho:cl.op=2
 ·have hz0:(cl.op==2)=true:=by simp [ho]
  have HA:=HA.out
  rw [decide_eq_true ho] at HA hpb
  have hbz:=bit_zero (q:=x.r) (need:=16) hrx (by simp)
  have e16:needB true=16:=rfl
  rw [e16] at hpb
  rw [←hpb] at hbz
  cases pb with
  | false =>
   obtain rfl:Rr=(rep 4,r):=by rw [HA,if_pos rfl]
   simp only [Bool.not_false] at hbz
   have HEv:=hid HP1.out.e
   clear HA ho hpb
   have HR_:=hid (rrefused_any 4 w1)
   go_wp2_with (first|(go_at_call 18;refine HR_.out.mono ?_;rintro e w9 ⟨rfl,hb9⟩;have HE9:=hid (HEv.out.later hb9);have HZ9:=hid HE9.out.z;have HS9:=hid (HZ9.out.st (rep 4) none 0 0);have HL9:=hid (HZ9.out.lv (rep 4) none 0 0);clear hb9)|((with_reducible refine st_arm HS9.out ?_ ?_ ?_);(· rfl);(· rfl)))
   exact bodyPost_ret (v:=rpV (rep 4) none 0 0) (by simp [results,Tryz.results21,asAddr,HL9.out]) rfl (HE9.out.fin (Nat.le_succ _) HN.out HD.out (rep 4) rfl)
  | true =>
   obtain rfl:Rr=_:=by rw [HA,if_neg (by decide),if_pos (.inl rfl)]
   simp only [Bool.not_true] at hbz
   clear HA ho hpb
   go_upto_region 10 with fail
   have HWo:=hid (rwithout_any HP1.out.x (Nat.le_trans HBs.out HP1.out.bt.size) (cpO cl).1)
   obtain⟨u0,u3⟩:=HC.out w1 HBv.out
   go_wp2_with (first|(go_at_call 41;refine HWo.out.mono ?_;rintro e w5 ⟨xa,xc,xb,xd,rfl,hx5,hb5,hn5⟩;have HP5:=hid (HP1.out.go hx5 hb5 (fun j hj=>.inl hj) hn5);have HZ9:=hid HP5.out.z;have HS9:=hid (HZ9.out.st (rep 0) none 0 0);have HL9:=hid (HZ9.out.lv (rep 0) none 0 0);clear hx5 hb5 hn5)|((with_reducible refine st_arm HS9.out ?_ ?_ ?_);(· rfl);(· rfl)))
   exact bodyPost_ret (v:=rpV (rep 0) none 0 0) (by simp [results,Tryz.results21,asAddr,HL9.out]) rfl (HP5.out.e.fin (Nat.le_succ _) HN.out HD.out (rep 0) rfl)
 have ho4:cl.op=4:=hop.elim (fun e=>absurd e ho) id
 have hz0:(cl.op==2)=false:=by simp [ho]
 have HA:=HA.out
 rw [decide_eq_false ho] at HA hpb
 have hbz:=bit_zero (q:=x.r) (need:=8) hrx (by simp)
 have e8:needB false=8:=rfl
 rw [e8] at hpb
 rw [←hpb] at hbz
 cases pb with
 | false =>
  obtain rfl:Rr=(rep 4,r):=by rw [HA,if_pos rfl]
  simp only [Bool.not_false] at hbz
  have HEv:=hid HP1.out.e
  clear HA ho ho4 hpb hop
  have HR_:=hid (rrefused_any 4 w1)
  go_wp2_with (first|(go_at_call 18;refine HR_.out.mono ?_;rintro e w9 ⟨rfl,hb9⟩;have HE9:=hid (HEv.out.later hb9);have HZ9:=hid HE9.out.z;have HS9:=hid (HZ9.out.st (rep 4) none 0 0);have HL9:=hid (HZ9.out.lv (rep 4) none 0 0);clear hb9)|((with_reducible refine st_arm HS9.out ?_ ?_ ?_);(· rfl);(· rfl)))
  exact bodyPost_ret (v:=rpV (rep 4) none 0 0) (by simp [results,Tryz.results21,asAddr,HL9.out]) rfl (HE9.out.fin (Nat.le_succ _) HN.out HD.out (rep 4) rfl)
 | true =>
  simp only [Bool.not_true] at hbz
  rw [if_neg (by decide)] at HA
  clear ho ho4 hpb hop
  by_cases hu:x.up=0
  ·have hub:(x.up==0)=true:=by simp [hu]
   obtain rfl:Rr=_:=by rw [HA,if_pos (.inr hu)]
   clear HA hu
   go_upto_region 10 with fail
   have HWo:=hid (rwithout_any HP1.out.x (Nat.le_trans HBs.out HP1.out.bt.size) (cpO cl).1)
   obtain⟨u0,u3⟩:=HC.out w1 HBv.out
   go_wp2_with (first|(go_at_call 41;refine HWo.out.mono ?_;rintro e w5 ⟨xa,xc,xb,xd,rfl,hx5,hb5,hn5⟩;have HP5:=hid (HP1.out.go hx5 hb5 (fun j hj=>.inl hj) hn5);have HZ9:=hid HP5.out.z;have HS9:=hid (HZ9.out.st (rep 0) none 0 0);have HL9:=hid (HZ9.out.lv (rep 0) none 0 0);clear hx5 hb5 hn5)|((with_reducible refine st_arm HS9.out ?_ ?_ ?_);(· rfl);(· rfl)))
   exact bodyPost_ret (v:=rpV (rep 0) none 0 0) (by simp [results,Tryz.results21,asAddr,HL9.out]) rfl (HP5.out.e.fin (Nat.le_succ _) HN.out HD.out (rep 0) rfl)
  have hub:(x.up==0)=false:=by simp [hu]
  have HA:=hid (HA.trans (if_neg (by simp [hu])))
  clear hu
  go_upto_region 13 with fail
  clear z0 hz0 hbz hub t0 t1 t5 m13
  have HO0:Hid (Ow (w1.alloc (Obj.cells #[.int .i64 x.no] 3)) w1.heap.size 3 1 (some ⟨w1.heap.size,0,none⟩) 1 1 (ints [x.no])):=Ow.lit w1 3 [.int .i64 x.no] 1 1 rfl (by omega)
  obtain⟨w2,hw2⟩:∃w2,w2=w1.alloc (Obj.cells #[.int .i64 x.no] 3):=⟨_,rfl⟩
  have HB2:Hid (Below W.heap.size W w2):=by rw [hw2];exact below_call HBv.out (below1 _ _)
  rw [←hw2] at HO0 ⊢
  have HO1:=hid (HO0.out.mono HBv.out.size)
  clear hw2 HO0 HBv HP1 hga
  go_upto_region 14 with fail
  go_loopw [7,8] (GoR W r.T [x.no]) (fun _ v _=>r.T.length - S.ivN v)
  case atStart=>exact⟨0,[x.no],_,1,rfl,rfl,Nat.zero_le _,Nat.le_refl _,hid rfl,HO1,HB2⟩
  case round =>
   clear HO1 HB2
   obtain⟨j,g,a,c,rfl,rfl,hj,hgl,HG,HO,HB2⟩:=hrel
   have hT2:=HnT.out
   have m13:=(HT.out wr HB2.out).box.cell 13 rfl
   rw [←HnT.out] at m13
   by_cases hlt:j<r.T.length
   ·have hd:decide ((j:Int)<(nT:Int))=true:=decide_eq_true (by omega)
    have hlt2:(j:Int)<(nT:Int):=by omega
    have h0j:(0:Int)≤(j:Int):=by omega
    obtain⟨q,hq⟩:∃q,r.T[j]?=some q:=⟨_,List.getElem?_eq_getElem hlt⟩
    obtain⟨gt,hga,hqc⟩:=hl_cells (HT.out wr HB2.out).t hq
    rw [hga] at m13
    have q0:wr.cell? ⟨gt,j*6,none⟩=some (.int .i64 q.no):=hqc 0 _ rfl
    have q1:=hqc 1 _ rfl
    have hstep:gon (r.T.drop j) g=gon (r.T.drop (j+1)) (if q.up∈g then g++[q.no] else g):=by
     obtain⟨h5,h6⟩:=List.getElem?_eq_some_iff.1 hq
     rw [List.drop_eq_getElem_cons h5,h6,gon]
    have HSt:=hid (HG.out.trans hstep)
    have HAm:=hid (fun U=>fun (e:Fl U a (ints g))=>ramong_any (cap:=c) e (by omega) q.up)
    have HFl:=hid (Fl.of HO.out (by rw [ints_len];omega))
    clear hqc hq hstep hga HG hT2
    by_cases he:q.up∈g
    ·have HSt:=HSt
     rw [if_pos he] at HSt
     rw [decide_eq_true he] at HAm
     obtain⟨a',c',w7,hrun,hO7,hB7⟩:=row_app 43 3 _ 1 8 Tryz.underlying43 infoI1 rfl (by decide) (by decide) (by decide) HO.out HB2.out.size (by omega) [.int .i64 q.no] rfl (fun u hu=>by rw [List.mem_singleton.1 hu];rfl)
     have HRUN:=hid hrun
     rw [←ints_app] at hO7
     have HO7:=hid hO7
     have HB7:Hid (Below W.heap.size W w7):=But.below HB2.out hB7 (fun j hj=>(HO.out.blk j hj).1)
     clear hrun hO7 hB7 he
     go_wp2_with (first|(go_at_call 42;refine (HAm.out _ HFl.out).mono ?_;rintro e w4 ⟨rfl,hw4⟩;obtain rfl:=hw4.symm;clear hw4)|(at_builtin;refine wpList_append_known rfl _ _ 43 rfl _ _ rfl rfl _ w7 HRUN.out ?_))
     refine⟨⟨j+1,g++[q.no],a',c',by simp,rfl,by omega,by simp;omega,HSt,by rw [List.length_append];exact HO7,HB7⟩,by simp [S.ivN];omega⟩
    ·have HSt:=HSt
     rw [if_neg he] at HSt
     rw [decide_eq_false he] at HAm
     clear he
     go_wp2_with (first|(go_at_call 42;refine (HAm.out _ HFl.out).mono ?_;rintro e w4 ⟨rfl,hw4⟩;obtain rfl:=hw4.symm;clear hw4))
     refine⟨⟨j+1,g,a,c,rfl,rfl,by omega,by omega,HSt,HO,HB2⟩,by simp [S.ivN];omega⟩
   ·have hd:decide ((j:Int)<(nT:Int))=false:=decide_eq_false (by omega)
    have hdn:decide (j<nT)=false:=decide_eq_false (by omega)
    have HGe:Hid (gon r.T [x.no]=g):=by
     have h9:=HG.out
     rw [List.drop_eq_nil_of_le (by omega)] at h9
     exact h9
    have HA:Hid (Rr=(rep 0,{ r with T:=fG g r.T })):=by unfold Hid fG;rw [HA.out,HGe.out]
    have HFl:=hid (fun U=>fun (e:Below wr.heap.size wr U)=>Fl.later (Fl.of HO.out (by rw [ints_len];omega)) e)
    have hgl9:g.length≤1048576:=by omega
    clear hj HG hT2
    go_upto_region 20 with fail
    clear m13 hd hdn hlt
    go_loopw [9,10] (WgR wr g r.T) (fun _ v _=>r.T.length - S.ivN v)
    case atStart=>exact⟨0,none,0,0,rfl,rfl,Nat.zero_le _,Nat.le_refl _,hid rfl,hid (Ow.nil _ _ _ _),hid (Below.refl _ _)⟩
    case round =>
     obtain⟨k,b,m,d,rfl,rfl,hk,hmk,HNt,HOt,HB3⟩:=hrel
     rename World=>wq
     have hT2:=HnT.out
     have hWq:=hid (below_call HB2.out HB3.out)
     have m13:=(HT.out wq hWq.out).box.cell 13 rfl
     rw [←HnT.out] at m13
     by_cases hlt:k<r.T.length
     ·have hd:decide ((k:Int)<(nT:Int))=true:=decide_eq_true (by omega)
      have hlt2:(k:Int)<(nT:Int):=by omega
      have h0j:(0:Int)≤(k:Int):=by omega
      obtain⟨q,hq⟩:∃q,r.T[k]?=some q:=⟨_,List.getElem?_eq_getElem hlt⟩
      obtain⟨gt,hga,hqc⟩:=hl_cells (HT.out wq hWq.out).t hq
      rw [hga] at m13
      have q0:wq.cell? ⟨gt,k*6,none⟩=some (.int .i64 q.no):=hqc 0 _ rfl
      have q1:=hqc 1 _ rfl
      have q2:=hqc 2 _ rfl
      have q3:=hqc 3 _ rfl
      have q4:=hqc 4 _ rfl
      have q5:=hqc 5 _ rfl
      have HQ:=hid hq
      have HAm:=hid (fun U=>fun (e:Fl U a (ints g))=>ramong_any (cap:=c) e (by omega) q.no)
      have HF2:=hid (HFl.out wq HB3.out)
      clear hqc hq hga hT2
      by_cases he:q.no∈g
      ·have HX2:Hid (fG g (r.T.take (k+1))=fG g (r.T.take k)):=fil_drop HQ.out (by simp [he])
       rw [decide_eq_true he] at HAm
       clear he
       go_wp2_with (first|(go_at_call 42;refine (HAm.out _ HF2.out).mono ?_;rintro e w4 ⟨rfl,hw4⟩;obtain rfl:=hw4.symm;clear hw4))
       exact⟨⟨k+1,b,m,d,rfl,rfl,by omega,by omega,by rw [HX2.out];exact HNt,by rw [HX2.out];exact HOt,HB3⟩,by simp [S.ivN];omega⟩
      ·have HX2:Hid (fG g (r.T.take (k+1))=fG g (r.T.take k)++[q]):=fil_keep HQ.out (by simp [he])
       rw [decide_eq_false he] at HAm
       obtain⟨b',d',w7,hrun,hO7,hB7⟩:=row_app 66 91 _ 6 48 Tryz.underlying66 infoH rfl (by decide) (by decide) (by decide) HOt.out HB3.out.size (by omega) (hlC q) rfl (fun u hu=>by simp only [hlC,List.mem_cons,List.not_mem_nil,or_false] at hu;rcases hu with rfl|rfl|rfl|rfl|rfl|rfl<;>rfl)
       simp only [hlC] at hrun
       have HRUN:=hid hrun
       have HO7:=hid hO7
       have HB7:=hid (But.below HB3.out hB7 (fun j hj=>(HOt.out.blk j hj).1))
       clear hrun hO7 hB7 he
       go_wp2_with (first|(go_at_call 42;refine (HAm.out _ HF2.out).mono ?_;rintro e w4 ⟨rfl,hw4⟩;obtain rfl:=hw4.symm;clear hw4)|(at_builtin;refine wpList_append_known rfl _ _ 66 rfl _ _ rfl rfl _ w7 HRUN.out ?_))
       refine⟨⟨k+1,b',m+1,d',rfl,rfl,by omega,by omega,?_,?_,HB7⟩,by simp [S.ivN];omega⟩
       ·unfold Hid
        rw [HX2.out,List.length_append,←HNt.out]
        rfl
       ·unfold Hid
        rw [HX2.out,hls_app]
        exact HO7.out
     ·have hd:decide ((k:Int)<(nT:Int))=false:=decide_eq_false (by omega)
      have hdn:decide (k<nT)=false:=decide_eq_false (by omega)
      have hkk:k=r.T.length:=by omega
      have HN2:Hid (m=(fG g r.T).length):=by have h9:=HNt.out;rw [hkk,List.take_length] at h9;exact h9
      have hO2:=HOt.out
      rw [hkk,List.take_length,HN2.out] at hO2
      have hbW:base≤wr.heap.size:=Nat.le_trans HBs.out (Nat.le_trans HB.out.size HB2.out.size)
      have Pr:=HP0.out.later HB2.out
      obtain⟨hx9,hb9⟩:=Pr.x.toks (V:=wq) (But.of HB3.out) (hO2.mono hbW) (fun j hj=>.inr (hO2.blk j hj).1) (Nat.le_trans (List.length_filter_le _ _) HX.out.sm.2.1)
      have P9:=Pr.go hx9 hb9 (fun j hj=>hj.elim (fun e=>.inl e) (fun e=>.inr (.inr (.inl e)))) (fun j hj=>by
       rcases hj with e|e|e|e
       ·exact .inl (.inl e)
       ·exact .inl (.inr (.inl e))
       ·exact .inr (hO2.blk j e).1
       ·exact .inl (.inr (.inr (.inr e))))
      rw [←HN2.out] at P9
      have HP9:=hid P9
      have HS9:=hid (HP9.out.z.st (rep 0) none 0 0)
      have HL9:=hid (HP9.out.z.lv (rep 0) none 0 0)
      have f13:=(Pr.later HB3.out).x.fz 13 (by omega)
      clear Pr hx9 hb9 P9 hO2 hkk HNt HOt hk hT2 hbW
      go_wp2_with (first|((with_reducible refine st_arm HS9.out ?_ ?_ ?_);(· rfl);(· rfl)))
      obtain rfl:Rr=_:=HA.out
      exact bodyPost_ret (v:=rpV (rep 0) none 0 0) (by simp [results,Tryz.results21,asAddr,HL9.out]) rfl (HP9.out.e.fin (Nat.le_succ _) HN.out HD.out (rep 0) rfl)
end
end Go.Proofs.YtffmodpgddecnaaGreat.V.E
