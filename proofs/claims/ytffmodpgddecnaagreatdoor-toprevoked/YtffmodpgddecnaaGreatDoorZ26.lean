import Derived.Test.YtffmodpgddecnaaGreatDoorZ25
import Derived.Test.YtffmodpgddecnaaGreatDoorZ19
set_option linter.unusedVariables false
set_option linter.unusedSimpArgs false
set_option maxRecDepth 100000
set_option maxHeartbeats 2000000
namespace Go.Proofs.YtffmodpgddecnaaGreatDoor.V
open Go.RowKit
open Go.Proofs.YtffmodpgddecnaaGreatDoor.H (aq Cp)
def xx (G:Int->Nat)(i:Int):Lit×DataW Value:=(.int .i64 i,.held (.pointer (some ⟨G i,0,none⟩)))
theorem jA (L:List Int)(G:Int->Nat):ic L G=.map (L.map (xx G)):=rfl
theorem jZ (G:Int->Nat)(i id:Int):(xx G i).1.sameKey (.int .i64 id)=decide (i=id):=by simp [xx,Lit.sameKey]
theorem lG (L:List Int)(G:Int->Nat)(id:Int)(hm:id∈L)(z:DataW Value):(ic L G).atKey (.int .i64 id) z=.held (.pointer (some ⟨G id,0,none⟩)):=by
 rw [jA];unfold DataW.atKey;simp only [List.find?_map];have e:((λp:Lit×DataW Value=>p.1.sameKey (.int .i64 id)) ∘ xx G)=λo=>decide (o=id):=by funext o;exact jZ G o id
 rw [e];cases hf:L.find? (λo=>decide (o=id)) with
 | none=>have:=List.find?_eq_none.1 hf id hm;simp at this
 | some o =>
  have:o=id:=by simpa using List.find?_some hf
  subst this;rfl
theorem BQ (L:List Int)(G:Int->Nat)(i:Int)(g:Nat)(h:∀p∈L,p<i):(ic L G).put (.int .i64 i) (.held (.pointer (some ⟨g,0,none⟩)))=ic (L++[i]) (λj=>if j=i then g else G j):=by
 have e:ic L G=ic L (λj=>if j=i then g else G j):=by
  unfold ic;congr 1
  refine List.map_congr_left (λp hp=>?_)
  have:=h p hp
  simp only [if_neg (show ¬p=i by omega)]
 rw [e,jA];unfold DataW.put;simp only
 rw [List.filter_eq_self.2 (λp hp=>?_),S.gh,jA,List.map_append]
 ·simp [xx]
 ·intro p hp
  obtain⟨q,hq,rfl⟩:=List.mem_map.1 hp
  have:=h q hq
  simp [xx,Lit.before];omega
 ·obtain⟨q,hq,rfl⟩:=List.mem_map.1 hp
  have:=h q hq
  rw [jZ];simp
  omega
theorem Ao (L:List Int)(G:Int->Nat)(id:Int):(ic L G).del (.int .i64 id)=ic (P.out L id) G:=by
 rw [jA,jA];unfold DataW.del P.out;simp only [List.filter_map];congr 2
 refine List.filter_congr λo _=>?_
 simp only [Function.comp,jZ];by_cases e:o=id<;>simp [e]
theorem wY (L:List Int)(G:Int->Nat):Maps.size (ic L G)=L.length:=by simp [ic,Maps.size]
theorem zf {w:World}{k:TypeId}{b n:Nat}{L:List Int}{G:Int->Nat}(h:w.ownsMap Tryz.prog k S.hr b n (ic L G)):w.ownsMap Tryz.prog k S.hr b L.length (ic L G):=by
 obtain⟨es,clock,hb,F,hs,hD⟩:=h
 refine⟨es,clock,hb,F,?_,hD⟩
 have:=congrArg Maps.size hD
 rw [wY] at this;rw [this];simp [Maps.size,length_sorted]
theorem Ey:(Tryz.prog.info? 177).map (λi=>(i.zero,i.size,i.bytes))=some (some (.pointer none),1,8):=by kernel_rfl
section
variable {w w':World}{H:Hd}{s s':aP}{d d':Nat->List K.Pu}{O:Nat->Nat->Prop}{N:Nat->Prop}{Pr:List Int}{D:Int->List Cp}{G:Int->Nat}{pa:Int->Option Addr}{cap:Int->Nat}{df:Nat->Int}
theorem aI.li (h:aI w H s d N):∃G pa cap df,Li w H s.ks s.D G pa cap df/\∀k,Cd s.ks G pa H.lg k->N k:=by
 obtain⟨M,h⟩:=h
 obtain⟨G,pa,cap,df,h1,h2⟩:=h.part 5
 exact⟨G,pa,cap,df,h1,λk hk=>h.sub 5 k (h2 k hk)⟩
theorem yH {ks:List Int}{D:Int->List Cp}:∀j,j≠5->∀u m,Part u H s d m j->Part u H { s with ks:=ks,D:=D } d m j:=λj hj u m hp=>by
 rcases j with _|_|_|_|_|_|_|_|j
 ·exact hp
 ·exact hp
 ·exact hp
 ·exact hp
 ·exact hp
 ·exact absurd rfl hj
 all_goals exact hp
theorem EZ {px:Int}{Pr:List Int}:∀j,j≠4->∀u m,Part u H s d m j->Part u H { s with px:=px,P:=Pr } d m j:=λj hj u m hp=>by
 rcases j with _|_|_|_|_|_|_|_|j
 ·exact hp
 ·exact hp
 ·exact hp
 ·exact hp
 ·exact absurd rfl hj
 all_goals exact hp
theorem Iy:∀j,j≠6->∀u m,Part u H s d m j->Part u H s d' m j:=λj hj u m hp=>by
 rcases j with _|_|_|_|_|_|_|_|j
 ·exact hp
 ·exact hp
 ·exact hp
 ·exact hp
 ·exact hp
 ·exact hp
 ·exact absurd rfl hj
 all_goals exact hp
theorem Lay.list (h:Lay w H s d O N)(hl:Li w H s.ks s.D G pa cap df)(hm:∀k,Cd s.ks G pa H.lg k->O 5 k){i:Int}(hi:i∈s.ks){pb:Option Addr}{cb:Nat}{K:List Cp}
  (hd:M.Dm w' H.base (G i) H.lm pb cb K) (hw:M.Wr w w' (G i) (pa i) pb):∃N',aI w' H { s with D:=fW s.D i K } d N'/\aK w N w' N':=by
 have hlt:∀j∈s.ks,∀k,k=G j\/aJ (pa j) k->k<w.heap.size:=λj hj k hk=>by
  rcases hk with rfl|hk
  ·exact (hl.each j hj).lt
  ·exact ((hl.each j hj).own.bT k hk).2
 have hlg:=hl.map.lt
 refine h.step (i:=5) (m':=Cd s.ks G (λj=>if j=i then pb else pa j) H.lg) (hw.but.mono (λk hk=>hm k (.inr ⟨i,hi,hk⟩))) ⟨G,λj=>if j=i then pb else pa j,λj=>if j=i then cb else cap j,λk=>if w.heap.size<=k then i else df k,⟨?_,λj hj=>?_,λj hj k hk=>?_⟩,λk hk=>hk⟩ (λk hk=>?_) yH
 ·exact S.bC hw.but hl.map (λe=>(hl.df i hi H.lg e).2 rfl)
 ·by_cases e:j=i
  ·subst e
   simp only [fW,if_pos rfl];exact hd
  ·simp only [fW,if_neg e]
   exact (hl.each j hj).but hw.but (λhk=>e (by rw [<-(hl.df j hj _ (.inl rfl)).1,<-(hl.df i hi _ hk).1])) (λk hk hk2=>e (by rw [<-(hl.df j hj _ (.inr hk)).1,<-(hl.df i hi _ hk2).1]))
 ·by_cases e:j=i
  ·subst e
   simp only [if_pos rfl] at hk;by_cases hk2:w.heap.size<=k
   ·rw [if_pos hk2];exact⟨rfl,by omega⟩
   ·rw [if_neg hk2]
    rcases hk with rfl|hk
    ·exact hl.df j hj _ (.inl rfl)
    ·rcases hw.on k hk with h1|h1
     ·exact hl.df j hj _ (.inr h1)
     ·exact absurd h1 hk2
  ·simp only [if_neg e] at hk
   have:=hlt j hj k hk
   rw [if_neg (by omega)];exact hl.df j hj k hk
 ·rcases hk with rfl|⟨j,hj,hk⟩
  ·exact .inl (hm _ (.inl rfl))
  ·by_cases e:j=i
   ·subst e
    simp only [if_pos rfl] at hk;rcases hk with rfl|hk
    ·exact .inl (hm _ (.inr ⟨j,hj,.inl rfl⟩))
    ·rcases hw.on k hk with h1|h1
     ·exact .inl (hm _ (.inr ⟨j,hj,.inr h1⟩))
     ·exact .inr ⟨h1,(hd.own.bT k hk).2⟩
   ·simp only [if_neg e] at hk
    exact .inl (hm _ (.inr ⟨j,hj,hk⟩))
theorem Lay.arm (h:Lay w H s d O N)(hl:Li w H s.ks s.D G pa cap df)(hm:∀k,Cd s.ks G pa H.lg k->O 5 k){i:Int}(hi:∀j∈s.ks,j<i){g:Nat}{pb:Option Addr}{cb:Nat}{K:List Cp}
  (hd:M.Dm w' H.base g H.lm pb cb K) (hg:w.heap.size<=g/\∀k,aJ pb k->w.heap.size<=k) (hb:ah (·=H.lg) w w') (hmap:w'.ownsMap Tryz.prog 3 S.hr H.lg (s.ks.length+1) (ic (s.ks++[i]) (λj=>if j=i then g else G j))) :
  ∃N',aI w' H { s with ks:=s.ks++[i],D:=fW s.D i K } d N'/\aK w N w' N':=by
 have hlt:∀j∈s.ks,∀k,k=G j\/aJ (pa j) k->k<w.heap.size:=λj hj k hk=>by
  rcases hk with rfl|hk
  ·exact (hl.each j hj).lt
  ·exact ((hl.each j hj).own.bT k hk).2
 have hlg:=hl.map.lt
 have hne:∀j∈s.ks,j≠i:=λj hj e=>by have:=hi j hj;omega
 have hold:∀k,H.lg=k->O 5 k:=λk e=>e ▸ hm _ (.inl rfl)
 refine h.step (i:=5) (m':=Cd (s.ks++[i]) (λj=>if j=i then g else G j) (λj=>if j=i then pb else pa j) H.lg) (hb.mono (λk e=>hold k e.symm)) ⟨λj=>if j=i then g else G j,λj=>if j=i then pb else pa j,λj=>if j=i then cb else cap j,λk=>if w.heap.size<=k then i else df k,⟨zf hmap,λj hj=>?_,λj hj k hk=>?_⟩,λk hk=>hk⟩ (λk hk=>?_) yH
 ·rcases List.mem_append.1 hj with hj|hj
  ·have e:=hne j hj
   simp only [fW,if_neg e];exact (hl.each j hj).but hb (λhk=>(hl.df j hj _ (.inl rfl)).2 hk) (λk hk hk2=>(hl.df j hj k (.inr hk)).2 hk2)
  ·obtain rfl:j=i:=by simpa using hj
   simp only [fW,if_pos rfl];exact hd
 ·rcases List.mem_append.1 hj with hj|hj
  ·have e:=hne j hj
   simp only [if_neg e] at hk;have:=hlt j hj k hk
   rw [if_neg (by omega)];exact hl.df j hj k hk
  ·obtain rfl:j=i:=by simpa using hj
   simp only [if_pos rfl] at hk;have hk2:w.heap.size<=k:=by
    rcases hk with rfl|hk
    ·exact hg.1
    ·exact hg.2 k hk
   rw [if_pos hk2];exact⟨rfl,by omega⟩
 ·rcases hk with rfl|⟨j,hj,hk⟩
  ·exact .inl (hm _ (.inl rfl))
  ·rcases List.mem_append.1 hj with hj|hj
   ·have e:=hne j hj
    simp only [if_neg e] at hk;exact .inl (hm _ (.inr ⟨j,hj,hk⟩))
   ·obtain rfl:j=i:=by simpa using hj
    simp only [if_pos rfl] at hk;rcases hk with rfl|hk
    ·exact .inr ⟨hg.1,hd.lt⟩
    ·exact .inr ⟨hg.2 k hk,(hd.own.bT k hk).2⟩
theorem Lay.gone (h:Lay w H s d O N)(hl:Li w H s.ks s.D G pa cap df)(hm:∀k,Cd s.ks G pa H.lg k->O 5 k)(i:Int){n:Nat}
  (hb:ah (·=H.lg) w w') (hmap:w'.ownsMap Tryz.prog 3 S.hr H.lg n (ic (P.out s.ks i) G)):aI w' H { s with ks:=P.out s.ks i } d N/\ah N w w':=by
 have hold:∀k,H.lg=k->O 5 k:=λk e=>e ▸ hm _ (.inl rfl)
 have hsub:∀j,j∈P.out s.ks i->j∈s.ks:=λj hj=>(P.js.1 hj).1
 refine h.stay (i:=5) (hb.mono (λk e=>hold k e.symm)) ⟨G,pa,cap,df,⟨zf hmap,λj hj=>?_,λj hj=>hl.df j (hsub j hj)⟩,λk hk=>?_⟩ yH
 ·exact (hl.each j (hsub j hj)).but hb (λhk=>(hl.df j (hsub j hj) _ (.inl rfl)).2 hk) (λk hk hk2=>(hl.df j (hsub j hj) k (.inr hk)).2 hk2)
 ·rcases hk with rfl|⟨j,hj,hk⟩
  ·exact hm _ (.inl rfl)
  ·exact hm _ (.inr ⟨j,hsub j hj,hk⟩)
theorem FX (h:aI w H s d N)(size:Int):Calls Tryz.prog 179 #[.pointer (some ⟨H.z.s,0,none⟩),.int .i64 size] w λe w'=>e=.returned (.int .i64 (S.fv H.z.room H.z.n s.nx s.V size))/\Below w.heap.size w w':=by
 obtain⟨Os,hs,hv⟩:=h.st
 rw [<-hv,S.yB hs];exact S.Hb H.z s.nx Os size w hs
theorem yE (h:aI w H s d N):Calls Tryz.prog 53 #[.pointer (some ⟨H.z.s,0,none⟩)] w λe w'=>e=.returned (.int .i64 s.nx)/\w'=w:=by
 obtain⟨Os,hs,hv⟩:=h.st
 exact S.Cy H.z s.nx Os w hs
theorem Cs (h:aI w H s d N)(size:Int)(hE:S.fv H.z.room H.z.n s.nx s.V size=0):Calls Tryz.prog 181 #[.pointer (some ⟨H.z.s,0,none⟩),.int .i64 size] w λe w'=>e=.returned (.tuple #[.int .i64 s.nx,.int .i64 0])/\∃N',aI w' H { s with nx:=s.nx+1,V:=s.V++[(s.nx,List.replicate size.toNat 0)] } d N'/\aK w N w' N':=by
 obtain⟨O,h⟩:=h
 obtain⟨Os,hs,hv,hm⟩:=h.part 2
 have h0:0<=size:=by
  unfold S.fv at hE;by_cases h1:size<0\/4096<size
  ·rw [if_pos h1] at hE;exact absurd hE (by decide)
  ·omega
 obtain⟨k,rfl⟩:=Int.eq_ofNat_of_zero_le h0
 rw [<-hv,S.yB hs] at hE;refine (S.oL H.z s.nx Os k w hs hE).mono ?_
 rintro e w' ⟨P,a,rfl,ha,hs',hb⟩
 refine⟨rfl,h.step (i:=2) (m':=λj=>O 2 j\/aJ a j) (hb.mono (λj hj=>hm j (.inl hj))) ⟨_,hs',by rw [S.wW,hv];simp,λj hj=>?_⟩ (λj hj=>?_) zm⟩
 ·rcases hj with h1|h1
  ·exact .inl (hm j (.inl h1))
  ·rcases S.xM h1 with h2|h2
   ·exact .inl (hm j (.inr h2))
   ·exact .inr h2
 ·rcases hj with h1|h1
  ·exact .inl h1
  ·exact .inr (ha j h1)
theorem Ez (h:aI w H s d N)(id off k:Int)(hi:S.bp id):Calls Tryz.prog 187 #[.pointer (some ⟨H.z.s,0,none⟩),.int .i64 id,.int .i64 off,.int .i64 k] w λe w'=>∃a cap,e=.returned (.tuple #[.slice a (S.A4 s.V id off k).length cap,.int .i64 (S.wP s.V id off k)])/\Own w' w.heap.size 5 a (S.A4 s.V id off k).length cap (S.bG (S.A4 s.V id off k))/\Below w.heap.size w w':=by
 obtain⟨Os,hs,hv⟩:=h.st
 rw [<-hv,S.tu,S.Ff];exact S.DY H.z s.nx Os id off k w hs hi
theorem Hf (h:aI w H s d N)(id off:Int)(da:Option Addr)(k cd:Nat)(L:List Nat)(hi:S.bp id)(hR:Row w da k cd (S.bG L))(hD:∀x∈L,x<256)(hap:0<k->∀j,aJ da j->¬N j) :
  Calls Tryz.prog 188 #[.pointer (some ⟨H.z.s,0,none⟩),.int .i64 id,.int .i64 off,.slice da k cd] w λe w'=>e=.returned (.int .i64 (S.wP s.V id off (k:Int)))/\aI w' H { s with V:=S.B6 s.V id off L } d N/\ah N w w':=by
 obtain⟨O,h⟩:=h
 obtain⟨Os,hs,hv,hm⟩:=h.part 2
 refine (S.zW H.z s.nx Os id off da k cd L w hs hi hR hD (λh0 j hj e=>hap h0 j hj (h.sub 2 j (hm j (.inl e))))).mono ?_
 rintro e w' ⟨rfl,hs',hb⟩
 rw [<-S.tu,hv];refine⟨rfl,h.stay (i:=2) (hb.mono (λj hj=>hm j (.inl hj))) ⟨_,hs',by rw [S.FM,hv],λj hj=>?_⟩ zm⟩
 rcases hj with h1|h1
 ·exact hm j (.inl h1)
 ·exact hm j (.inr (S.G8 h1))
theorem EM (h:aI w H s d N)(hi:P.Iv H.pm s.px s.P)(n:Int):Calls Tryz.prog 48 #[.pointer (some ⟨H.pg,0,none⟩),.int .i64 n] w λe w'=>e=.returned (.bool (s.P.contains n))/\∃q,w'=w.drewN q:=by
 obtain⟨pa,cap,h1⟩:=h.pr
 exact P.BN h1 hi n
theorem BO (h:aI w H s d N)(hi:P.Iv H.pm s.px s.P):Calls Tryz.prog 192 #[.pointer (some ⟨H.pg,0,none⟩)] w λe w'=>e=.returned (.tuple #[.int .i64 (P.Gs H.pm s.px s.P),.int .i64 (P.E7 H.pm s.px s.P)])/\∃N',aI w' H { s with px:=P.zl H.pm s.px s.P,P:=P.yY H.pm s.px s.P } d N'/\aK w N w' N':=by
 obtain⟨O,h⟩:=h
 obtain⟨pa,cap,h1,hm⟩:=h.part 4
 refine (P.vS h1 hi).mono ?_
 rintro e w' ⟨pb,cb,rfl,h2,hr⟩
 refine⟨rfl,h.step (i:=4) (m':=λk=>k=H.pg\/aJ pb k) (hr.but.mono (λk hk=>hm k hk)) ⟨pb,cb,h2,λk hk=>hk⟩ (λk hk=>?_) EZ⟩
 rcases hk with rfl|hk
 ·exact .inl (hm _ (.inl rfl))
 ·rcases hr.on k hk with h3|h3
  ·exact .inl (hm k (.inr h3))
  ·exact .inr ⟨h3,h2.own.lt k hk⟩
theorem Jj (h:aI w H s d N)(hi:P.Iv H.pm s.px s.P)(n:Int):Calls Tryz.prog 204 #[.pointer (some ⟨H.pg,0,none⟩),.int .i64 n] w λe w'=>e=.returned (.int .i64 (P.Kg s.P n))/\aI w' H { s with P:=P.out s.P n } d N/\ah N w w':=by
 obtain⟨O,h⟩:=h
 obtain⟨pa,cap,h1,hm⟩:=h.part 4
 refine (P.lz h1 hi n).mono ?_
 rintro e w' ⟨cb,rfl,h2,hr⟩
 exact⟨rfl,h.stay (i:=4) (hr.but.mono (λk hk=>hm k hk)) ⟨pa,cb,h2,hm⟩ EZ⟩
end
def Hd.dh (H:Hd):D.Hd:={ mo:=H.mo,e:=H.e,a:=(H.mo:Int),n:=H.n,c:=H.c,g:=H.g,gb:=H.gb,A:=H.A,kn:=H.kn,qg:=H.qg,qb:=H.qb }
section
variable {w w':World}{H:Hd}{s s':aP}{d d':Nat->List K.Pu}{O:Nat->Nat->Prop}{N:Nat->Prop}
theorem Lay.KB (h:Lay w H s d O N):D.eM w H.dh s.d:=by
 obtain⟨hc,m0⟩:=h.part 0
 obtain⟨hq,m1⟩:=h.part 1
 obtain⟨hd,m3⟩:=h.part 3
 have e01:∀k,O 0 k->O 1 k->False:=λk a b=>absurd (h.ap 0 1 k a b) (by decide)
 have e03:∀k,O 0 k->O 3 k->False:=λk a b=>absurd (h.ap 0 3 k a b) (by decide)
 have e13:∀k,O 1 k->O 3 k->False:=λk a b=>absurd (h.ap 1 3 k a b) (by decide)
 refine⟨hd,hc,hq,h.laid,⟨λk hk e=>e03 k (m0 k hk) (m3 k (.inl e)),λk hk e=>e01 k (m0 k hk) (m1 k (.inr e)),λh0=>⟨λe=>e13 _ (m1 _ (.inr e)) (m3 _ (.inr ⟨h0,rfl⟩)),λe=>e03 _ (m0 _ (D.dm e)) (m3 _ (.inr ⟨h0,rfl⟩))⟩,λe=>e13 _ (m1 _ (.inr e)) (m3 _ (.inl rfl)),⟨λe=>e13 _ (m1 _ (.inl rfl)) (m3 _ (.inl e)),λe=>e01 _ (m0 _ (D.dm e)) (m1 _ (.inl rfl))⟩,λk hk e=>?_⟩⟩
 subst e;refine h.n0 ?_
 rcases hk with e|e|e
 ·exact h.sub 3 _ (m3 _ (.inl e))
 ·exact h.sub 1 _ (m1 _ (.inr e))
 ·exact h.sub 0 _ (m0 _ (D.dm e))
theorem Lay.ES (h:Lay w H s d O N){a:D.aP}(ht:D.eM w' H.dh a)(hb:ah H.dh.Wr w w'):aI w' H (iP s a) d N/\ah N w w':=by
 obtain⟨hc,m0⟩:=h.part 0
 obtain⟨hq,m1⟩:=h.part 1
 obtain⟨hd,m3⟩:=h.part 3
 refine h.stays (C:=λi=>i=0\/i=1\/i=3) (hb.mono (λk hk=>?_)) (λi hi=>?_) (λj hj u m hp=>?_)
 ·rcases hk with e|e|e
  ·exact⟨3,.inr (.inr rfl),m3 k (.inl e)⟩
  ·exact⟨1,.inr (.inl rfl),m1 k (.inr e)⟩
  ·exact⟨0,.inl rfl,m0 k (D.dm e)⟩
 ·rcases hi with rfl|rfl|rfl
  ·exact⟨ht.cat,m0⟩
  ·exact⟨ht.qu,m1⟩
  ·exact⟨ht.d,m3⟩
 ·rcases j with _|_|_|_|_|_|_|_|j
  ·exact absurd (.inl rfl) hj
  ·exact absurd (.inr (.inl rfl)) hj
  ·exact hp
  ·exact absurd (.inr (.inr rfl)) hj
  all_goals exact hp
theorem KF.H8 {p:Pm}(h:KF p s):D.Fit p.d s.d:=⟨h.fit.inv,h.fit.mO,h.fit.len,Int.le_refl _,h.le,h.cs⟩
theorem Ex (h:aI w H s d N)(hf:KF H.p s)(o:Int)(ho:(Lit.int .i64 o).wf=true) :
  Calls Tryz.prog 180 #[.pointer (some ⟨H.g,0,none⟩),.pointer (some ⟨H.A.g,0,none⟩),.pointer (some ⟨H.qg,0,none⟩),.int .i64 o] w λe w'=>e=.returned (.tuple #[iu (D.bD H.p.d s.d o).c,.int .i64 (D.bD H.p.d s.d o).code])/\aI w' H (iP s (D.bD H.p.d s.d o).s) d N/\ah N w w':=by
 obtain⟨O,h⟩:=h
 refine (D.gG (H:=H.dh) h.KB hf.H8 o ho).mono ?_
 rintro e w' ⟨rfl,ht,hb⟩
 exact⟨rfl,h.ES ht hb⟩
theorem FZ (h:aI w H s d N)(hf:KF H.p s)(c:Cp)(r:Int)(ho:(Lit.int .i64 c.1).wf=true)(hw:c.2.1<aq/\c.2.2<aq) :
  Calls Tryz.prog 184 #[.pointer (some ⟨H.g,0,none⟩),.pointer (some ⟨H.A.g,0,none⟩),.pointer (some ⟨H.qg,0,none⟩),iu c,.int .i64 r] w λe w'=>e=.returned (.tuple #[iu (D.bs H.p.d s.d c r).c,.int .i64 (D.bs H.p.d s.d c r).code])/\aI w' H (iP s (D.bs H.p.d s.d c r).s) d N/\ah N w w':=by
 obtain⟨O,h⟩:=h
 refine (D.sr (H:=H.dh) h.KB hf.H8 c r ho hw).mono ?_
 rintro e w' ⟨rfl,ht,hb⟩
 exact⟨rfl,h.ES ht hb⟩
def Hd.lh (H:Hd)(z:Nat):L.Hv:=⟨H.A,H.kn,H.mo,H.cg,H.cs,H.cw,H.kn,H.v,z,z+1,z+1⟩
theorem Lay.vd (h:Lay w H s d O N):L.Vd w (H.lh w.heap.size) s.X s.l d:=by
 obtain⟨hc,m0⟩:=h.part 0
 obtain⟨hk,hv,m6,m6v,hne⟩:=h.part 6
 have e06:∀k,O 0 k->O 6 k->False:=λk a b=>absurd (h.ap 0 6 k a b) (by decide)
 have lt:∀i k,O i k->k<w.heap.size:=λi k hk=>(h.pd k (h.sub i k hk)).2
 have l1:=lt 6 _ m6
 have l2:=lt 6 _ m6v
 refine⟨hc,hk,hv,⟨λe=>e06 _ (m0 _ e) m6,λe=>e06 _ (m0 _ e) m6v,hne,λe=>?_,?_,λe=>?_,?_,?_,?_,λe=>?_,?_,?_,?_⟩⟩
 ·have:=lt 0 _ (m0 _ e);exact absurd this (Nat.lt_irrefl _)
 ·show w.heap.size≠H.cg;omega
 ·have:=lt 0 _ (m0 _ e);exact absurd this (show ¬w.heap.size+1<w.heap.size by omega)
 ·show w.heap.size+1≠H.cg;omega
 ·show w.heap.size+1≠H.v;omega
 ·show w.heap.size+1≠w.heap.size;omega
 ·have:=lt 0 _ (m0 _ e);exact absurd this (show ¬w.heap.size+1<w.heap.size by omega)
 ·show w.heap.size+1≠H.cg;omega
 ·show w.heap.size+1≠H.v;omega
 ·show w.heap.size+1≠w.heap.size;omega
theorem Lay.FU (h:Lay w H s d O N){z:Nat}{T:Nat->List K.Pu}(hv:L.Vd w' (H.lh z) s.X s.l T)(hb:ah (λk=>k=H.cg) w w'):aI w' H s T N/\ah N w w':=by
 obtain⟨_,_,m6,m6v,hne⟩:=h.part 6
 exact h.stay (i:=6) (hb.mono (λk e=>e ▸ m6)) ⟨hv.ch,hv.va,m6,m6v,hne⟩ Iy
theorem aI.KK (h:aI w H s d N):H.kb≠H.cg/\H.lg≠H.cg/\N H.cg:=by
 obtain⟨O,h⟩:=h
 obtain⟨_,_,m6,_,_⟩:=h.part 6
 obtain⟨_,_,_,_,_,m5⟩:=h.part 5
 exact⟨λe=>absurd (h.ap 7 6 _ (h.part 7).2 (e ▸ m6)) (by decide),λe=>absurd (h.ap 5 6 _ (m5 _ (.inl rfl)) (e ▸ m6)) (by decide),h.sub 6 _ m6⟩
theorem F_ (h:aI w H s d N)(ht:L.Tr s.X s.l d)(c:Cp)(need:Int)(hw:c.2.1<aq/\c.2.2<aq) :
  Calls Tryz.prog 264 #[.pointer (some ⟨H.v,0,none⟩),iu c,.int .i64 need] w λe w'=>e=.returned (.int .i64 (L.cQ s.X s.l need c))/\∃T,aI w' H s T N/\L.Tr s.X s.l T/\ah N w w'/\ah (λk=>k=H.cg) w w':=by
 obtain⟨O,h⟩:=h
 refine (L.nv (H:=H.lh w.heap.size) ⟨d,h.vd,ht⟩ c need hw).mono ?_
 rintro e w' ⟨rfl,⟨T,hv,hT⟩,hb⟩
 obtain⟨h1,h2⟩:=h.FU hv hb
 exact⟨rfl,T,h1,hT,h2,hb⟩
theorem G_ (h:aI w H s d N)(ht:L.Tr s.X s.l d)(o need:Int){a:Option Addr}{n:Nat}{Q:List Cp}(cap:Nat)(hr:Rd w a n Q)(hn:n<=9223372036854775807)(hk:∀c∈Q,c.2.1<aq/\c.2.2<aq)(ha:0<n->∀k,aJ a k->¬N k) :
  Calls Tryz.prog 265 #[.pointer (some ⟨H.v,0,none⟩),.int .i64 o,.int .i64 need,.slice a n cap] w λe w'=>e=.returned (.tuple #[iu (L.dg (L.cQ s.X s.l need) o Q 3).1,.int .i64 (L.dg (L.cQ s.X s.l need) o Q 3).2])/\∃T,aI w' H s T N/\L.Tr s.X s.l T/\ah N w w'/\ah (λk=>k=H.cg) w w':=by
 obtain⟨O,h⟩:=h
 obtain⟨_,_,m6,_,_⟩:=h.part 6
 refine (L.vX (H:=H.lh w.heap.size) ⟨d,h.vd,ht⟩ o need cap hr hn hk (λh0 k hk e=>ha h0 k hk (h.sub 6 k (by rw [e];exact m6)))).mono ?_
 rintro e w' ⟨rfl,⟨T,hv,hT⟩,hb⟩
 obtain⟨h1,h2⟩:=h.FU hv hb
 exact⟨rfl,T,h1,hT,h2,hb⟩
theorem Je (h:aI w H s d N):Calls Tryz.prog 262 #[.pointer (some ⟨H.v,0,none⟩)] w λe w'=>e=.returned (.tuple #[])/\∃T,aI w' H s T N/\L.Tr s.X s.l T/\ah N w w'/\ah (λk=>k=H.cg) w w':=by
 obtain⟨O,h⟩:=h
 refine (L.Al (H:=H.lh w.heap.size) ⟨d,h.vd⟩).mono ?_
 rintro e w' ⟨rfl,⟨T,hv,hT⟩,hb⟩
 obtain⟨h1,h2⟩:=h.FU hv hb
 exact⟨rfl,T,h1,hT,h2,hb⟩
end
abbrev dw (r:dk)(a:Option Addr)(n c:Nat):Value:=.agg #[.int .i64 r.code,.int .i64 r.cap.1,.int .u64 (r.cap.2.1:Int),.int .u64 (r.cap.2.2:Int),.slice a n c,.int .i64 r.num]
def fM (r:dk)(a:Option Addr)(n c:Nat):List Value:=[.int .i64 r.code,.int .i64 r.cap.1,.int .u64 (r.cap.2.1:Int),.int .u64 (r.cap.2.2:Int),.slice a n c,.int .i64 r.num]
abbrev z6:Obj:=.cells #[.int .i64 0,.int .i64 0,.int .u64 0,.int .u64 0,.slice none 0 0,.int .i64 0] 40
theorem bm {P:Program}{w w':World}{ops:Array Oper}{rest:List Oper}{a:Act}{Q:Exit->Act->World->Prop}{tt:TypeId}{ps:String}{af}{ty:TypeId}{x y:Operand}{p v:Value}
  (hr:(Instr.storeAt ty p v).run P w=.ok () w') (hx:a.eval x=p) (hy:a.eval y=v) (h:wpList P ops Q rest a w') :
  wpList P ops Q ({ dst:=none,op:=.store ty x y,type:=tt,pos:=ps,after:=af,guard:=none }::rest) a w:=by
 refine wpList_plain rfl λK hK=>?_
 unfold Oper.wp execOp;simp only [hx,hy,hr,Sem.run_bind,Sem.run_pure,Result.andThen_ok];exact hK _ _ h
theorem IK:(Tryz.prog.info? 40).map (·.size)=some 6:=by kernel_rfl
section
variable {w w':World}{H:Hd}{s s':aP}{d d':Nat->List K.Pu}{O:Nat->Nat->Prop}{N:Nat->Prop}
def Zr (w:World)(b:Nat):Prop:=w.there b 0 6
theorem Zr.new (w:World):Zr (w.alloc z6) w.heap.size:=(R.Bx.new w [.int .i64 0,.int .i64 0,.int .u64 0,.int .u64 0,.slice none 0 0,.int .i64 0] 40).there
theorem Zr.but {B:Nat->Prop}{b:Nat}(h:Zr w b)(hb:ah B w w')(hn:¬B b):Zr w' b:=λj hj=>by
 obtain⟨h1,h2⟩:=h j hj
 obtain⟨v,hv⟩:=Option.isSome_iff_exists.1 h1
 have hk:=hb.block b (World.block_lt_of_cell? _ _ hv) hn
 exact⟨by rw [World.cell?_of_block hk];exact h1,by rw [World.frozen?_of_block hk];exact h2⟩
theorem Zr.later {b:Nat}(h:Zr w b)(hb:Below w.heap.size w w'):Zr w' b:=h.but (B:=λ_=>False) (ah.of hb) (λh=>h)
theorem Zr.lt {b:Nat}(h:Zr w b):b<w.heap.size:=by
 obtain⟨h1,_⟩:=h 0 (by decide)
 obtain⟨v,hv⟩:=Option.isSome_iff_exists.1 h1
 exact World.block_lt_of_cell? _ _ hv
theorem Ci (r:dk)(a:Option Addr)(n c:Nat):∀v∈fM r a n c,v.oneCell'=true:=by simp [fM,Value.oneCell']
theorem Zr.KV {b:Nat}{M:List Value}(h:Zr w b)(hl:M.length=6)(h1:∀v∈M,v.oneCell'=true):(Instr.storeAt 40 (.pointer (some ⟨b,0,none⟩)) (.agg M.toArray)).run Tryz.prog w=.ok () (w.setCells b 0 M):=by
 have:=R.xP h hl h1
 simp [Instr.storeAt,storeVar,Instr.sureAddr,Value.cells,hl,this,Result.andThen]
theorem Zr.st {b:Nat}(h:Zr w b)(r:dk)(a:Option Addr)(n c:Nat):(Instr.storeAt 40 (.pointer (some ⟨b,0,none⟩)) (dw r a n c)).run Tryz.prog w=.ok () (w.setCells b 0 (fM r a n c)):=h.KV (M:=fM r a n c) rfl (Ci r a n c)
theorem Zr.lv {b:Nat}(h:Zr w b)(r:dk)(a:Option Addr)(n c:Nat):(loadVar 40 ⟨b,0,none⟩).run Tryz.prog (w.setCells b 0 (fM r a n c))=.ok (dw r a n c) (w.setCells b 0 (fM r a n c)) :=
 run_loadVar_mid (P:=Tryz.prog) _ b 0 40 (fM r a n c) _ (World.rangeAt_setCells_same _ _ _ _ h) Tryz.underlying40 rfl (by rw [IK];rfl)
theorem bE (c:Int)(w:World):Calls Tryz.prog 47 #[.int .i64 c] w λe w'=>e=.returned (dw (rep c) none 0 0)/\Below w.heap.size w w':=by
 have hst:=(Zr.new w).st (rep c) none 0 0
 have hlv:=(Zr.new w).lv (rep c) none 0 0
 have HB:Hid (Below w.heap.size w ((w.alloc z6).setCells w.heap.size 0 (fM (rep c) none 0 0))):=ah.below (ae _ _) (R.ay (S:=(·=w.heap.size)) rfl _ 0 (ah.refl _ _)) (λk e=>by omega)
 have HS:=ab hst
 have HL:=ab hlv
 clear hst hlv;go_enter Tryz.func47,Tryz.ntmps47
 go_wp2_with (first|((with_reducible refine bm HS.out ?_ ?_ ?_);(· rfl);(· rfl)))
 exact bodyPost_ret (v:=dw (rep c) none 0 0) (by simp [results,Tryz.results47,asAddr,HL.out]) rfl ⟨rfl,HB.out⟩
theorem rF (h:aI w H s d N)(c:Int)(hc:¬c=0):Calls Tryz.prog 183 #[.pointer (some ⟨H.kb,0,none⟩),.int .i64 c] w λe w'=>e=.returned (dw (rep c) none 0 0)/\Below w.heap.size w w':=by
 have HS:=ab ((Zr.new w).st (rep c) none 0 0)
 have HL:=ab ((Zr.new w).lv (rep c) none 0 0)
 have HB:Hid (Below w.heap.size w ((w.alloc z6).setCells w.heap.size 0 (fM (rep c) none 0 0))):=ah.below (ae _ _) (R.ay (S:=(·=w.heap.size)) rfl _ 0 (ah.refl _ _)) (λk e=>by omega)
 have hq:(c==0)=false:=by simpa using hc
 clear h hc;go_enter Tryz.func183,Tryz.ntmps183
 go_wp2_with (first|((with_reducible refine bm HS.out ?_ ?_ ?_);(· rfl);(· rfl)))
 exact bodyPost_ret (v:=dw (rep c) none 0 0) (by simp [results,Tryz.results183,asAddr,HL.out]) rfl ⟨rfl,HB.out⟩
theorem aI.new (h:aI w H s d N){k:Nat}(hk:w.heap.size<=k):¬N k:=λe=>by have:=(h.pd k e).2;omega
theorem sc (h:aI w H s d N):Calls Tryz.prog 183 #[.pointer (some ⟨H.kb,0,none⟩),.int .i64 0] w λe w'=>e=.returned (dw (rep 0) none 0 0)/\∃T,aI w' H s T N/\L.Tr s.X s.l T/\ah N w w':=by
 have hB:=ae w z6
 have k16:=cell_later hB (h.kb 16 _ rfl)
 have HG:=ab (Je (h.later hB))
 have HZ:=ab (Zr.new w)
 have HB:=ab hB
 have HN:=ab (h.new (Nat.le_refl _))
 have HP:Hid (0<w.heap.size):=by have:=h.b0;unfold Hid;omega
 clear h hB;go_enter Tryz.func183,Tryz.ntmps183
 go_upto_region 3 with (first|(go_at_call 262;refine HG.out.mono ?_;rintro e w2 ⟨rfl,T,hd2,ht2,hb2,-⟩;have Qn:=ab hd2;have PQ:=ab ht2;have PB:=ab hb2;clear hd2 ht2 hb2))
 have SQ:=ab (HZ.out.but PB.out HN.out)
 have HS:=ab (SQ.out.st (rep 0) none 0 0)
 have HL:=ab (SQ.out.lv (rep 0) none 0 0)
 have PE:Hid (ah (·=w.heap.size) w2 (w2.setCells w.heap.size 0 (fM (rep 0) none 0 0))):=R.ay (S:=(·=w.heap.size)) rfl _ 0 (ah.refl _ _)
 go_wp2_with (first|((with_reducible refine bm HS.out ?_ ?_ ?_);(· rfl);(· rfl)))
 refine bodyPost_ret (v:=dw (rep 0) none 0 0) (by simp [results,Tryz.results183,asAddr,HL.out]) rfl ⟨rfl,T,Qn.out.but PE.out (λk hk e=>HN.out (e ▸ hk)) (λe=>?_),PQ.out,?_⟩
 ·have:0=w.heap.size:=e;have:=HP.out;omega
 ·exact ((ah.of HB.out).trans PB.out).comp PE.out (λi e=>.inr (by omega))
end
structure Cb (w:World)(b:Nat)(c:R.Cl)(dd gg:R.Sl):Prop where
 c0:w.cell? ⟨b,0,none⟩=some (.int .i64 c.op)
 c1:w.cell? ⟨b,1,none⟩=some (.int .i64 c.aB)
 c2:w.cell? ⟨b,2,none⟩=some (.int .i64 c.size)
 c3:w.cell? ⟨b,3,none⟩=some (.int .i64 c.obj)
 c4:w.cell? ⟨b,4,none⟩=some (.int .u64 (c.hi:Int))
 c5:w.cell? ⟨b,5,none⟩=some (.int .u64 (c.lo:Int))
 c6:w.cell? ⟨b,6,none⟩=some (.bool c.given)
 c7:w.cell? ⟨b,7,none⟩=some (.int .i64 c.aA)
 c8:w.cell? ⟨b,8,none⟩=some (.int .i64 c.off)
 c9:w.cell? ⟨b,9,none⟩=some (.int .i64 c.n)
 GR:w.cell? ⟨b,10,none⟩=some dd.v
 GO:w.cell? ⟨b,11,none⟩=some (.int .i64 c.index)
 Jy:w.cell? ⟨b,12,none⟩=some gg.v
section
variable {w w':World}{H:Hd}{s s':aP}{d d':Nat->List K.Pu}{O:Nat->Nat->Prop}{N:Nat->Prop}{c:R.Cl}{dd gg:R.Sl}{b:Nat}
theorem Cb.of (h:R.Bx w b (R.cC c dd gg)):Cb w b c dd gg:=⟨h.cell 0 rfl,h.cell 1 rfl,h.cell 2 rfl,h.cell 3 rfl,h.cell 4 rfl,h.cell 5 rfl,h.cell 6 rfl,h.cell 7 rfl,h.cell 8 rfl,h.cell 9 rfl,h.cell 10 rfl,h.cell 11 rfl,h.cell 12 rfl⟩
theorem Cb.but {B:Nat->Prop}(h:Cb w b c dd gg)(hb:ah B w w')(hn:¬B b):Cb w' b c dd gg :=
 ⟨ag hb h.c0 hn,ag hb h.c1 hn,ag hb h.c2 hn,ag hb h.c3 hn,ag hb h.c4 hn,ag hb h.c5 hn,ag hb h.c6 hn,ag hb h.c7 hn,ag hb h.c8 hn,ag hb h.c9 hn,ag hb h.GR hn,ag hb h.GO hn,ag hb h.Jy hn⟩
theorem pS (h:aI w H s d N)(ht:L.Tr s.X s.l d)(need:Int)(hg:c.given=true)(hw:c.hi<aq/\c.lo<aq) :
  Calls Tryz.prog 186 #[.pointer (some ⟨H.kb,0,none⟩),.agg (R.cC c dd gg).toArray,.int .i64 need] w λe w'=>e=.returned (.int .i64 (L.cQ s.X s.l need (bZ c)))/\∃T,aI w' H s T N/\L.Tr s.X s.l T/\ah N w w':=by
 have hB:=ae w (Obj.cells (R.cC c dd gg).toArray 44)
 obtain⟨W,hW⟩:∃W,W=w.alloc (Obj.cells (R.cC c dd gg).toArray 44):=⟨_,rfl⟩
 have hX:=Cb.of (R.Bx.new w (R.cC c dd gg) 44)
 rw [<-hW] at hB hX;have h2:=h.later hB
 have hk:=h2.kb 16 _ rfl
 have x3:=hX.c3
 have x4:=hX.c4
 have x5:=hX.c5
 have x6:=hX.c6
 rw [hg] at x6;have HC:=ab (λ(U:World) (hU:Below W.heap.size W U)=>F_ (h2.later hU) ht (bZ c) need hw)
 unfold bZ at HC ⊢
 have HB:=ab hB
 have HX:=ab hX
 have HS:Hid (∀U,Below W.heap.size W U->U.cell? ⟨H.kb,16,none⟩=some (.pointer (some ⟨H.v,0,none⟩))/\U.cell? ⟨w.heap.size,3,none⟩=some (.int .i64 c.obj)/\U.cell? ⟨w.heap.size,4,none⟩=some (.int .u64 (c.hi:Int))/\U.cell? ⟨w.heap.size,5,none⟩=some (.int .u64 (c.lo:Int))):=λU hU=>⟨cell_later hU hk,cell_later hU x3,cell_later hU x4,cell_later hU x5⟩
 have HW:=ab hW
 have HN:=ab (h.new (Nat.le_refl _))
 clear h h2 hB hX hW ht;go_enter Tryz.func186,Tryz.ntmps186
 go_upto_region 1 with fail
 rw [<-HW.out];go_upto_region 2 with fail
 go_region_held3 (λU=>U.cell? ⟨H.kb,16,none⟩=some (.pointer (some ⟨H.v,0,none⟩))/\U.cell? ⟨w.heap.size,3,none⟩=some (.int .i64 c.obj)/\U.cell? ⟨w.heap.size,4,none⟩=some (.int .u64 (c.hi:Int))/\U.cell? ⟨w.heap.size,5,none⟩=some (.int .u64 (c.lo:Int))) (first|exact HS.out _ (Below.refl _ _).drew|exact HE.out) (first|(go_at_call 264;refine (HC.out _ (Below.refl _ _).drew).mono ?_;rintro e w2 ⟨rfl,T,hd2,ht2,hb2,-⟩;have Qn:=ab hd2;have PQ:=ab ht2;have PB:Hid (ah N W w2):=(ah.of (Below.refl _ _).drew).trans hb2;have HE:=ab (And.intro (hd2.kb 16 _ rfl) (And.intro (HX.out.but PB.out HN.out).c3 (And.intro (HX.out.but PB.out HN.out).c4 (HX.out.but PB.out HN.out).c5)));clear hd2 ht2 hb2))
 go_wp2;go_ret;exact⟨rfl,T,Qn.out,PQ.out,(ah.of HB.out).trans PB.out⟩
end
section
variable {w w':World}{H:Hd}{s s':aP}{d d':Nat->List K.Pu}{O:Nat->Nat->Prop}{N:Nat->Prop}{c:R.Cl}{dd gg:R.Sl}{b:Nat}
theorem Hg {x:Int}(h:S.bp x):(Lit.int .i64 x).wf=true:=WalkArith.wf_i64 (by unfold S.bp at h;omega)
structure Zb (w:World)(b:Nat):Prop where
 c0:az w ⟨b,0,none⟩ (.int .i64 0)
 c1:az w ⟨b,1,none⟩ (.int .u64 0)
 c2:az w ⟨b,2,none⟩ (.int .u64 0)
theorem Zb.FJ (w:World):Zb (w.alloc (Obj.cells #[.int .i64 0,.int .u64 0,.int .u64 0] 37)).drew w.heap.size:=⟨⟨by simp [go_sem],by simp [go_sem]⟩,⟨by simp [go_sem],by simp [go_sem]⟩,⟨by simp [go_sem],by simp [go_sem]⟩⟩
theorem Zb.but {B:Nat->Prop}(h:Zb w b)(hb:ah B w w')(hn:¬B b):Zb w' b:=⟨h.c0.but hb hn,h.c1.but hb hn,h.c2.but hb hn⟩
structure Bc (u U:World)(b:Nat)(c:Cp):Prop where
 but:ah (λk=>k=b) u U
 c0:U.cell? ⟨b,0,none⟩=some (.int .i64 c.1)
 c1:U.cell? ⟨b,1,none⟩=some (.int .u64 (c.2.1:Int))
 c2:U.cell? ⟨b,2,none⟩=some (.int .u64 (c.2.2:Int))
theorem Bc.first {u:World}(h:Zb u b)(c:Cp):Bc u (((u.setCell ⟨b,0,none⟩ (.int .i64 c.1)).setCell ⟨b,1,none⟩ (.int .u64 (c.2.1:Int))).setCell ⟨b,2,none⟩ (.int .u64 (c.2.2:Int))) b c:=by
 have hc:=wL.set (w:=u) (b:=b) ⟨h.c0,h.c1,h.c2⟩ c
 exact⟨L.cA (S:=λk=>k=b) (b:=b) (ah.refl _ u) rfl c,hc.c0,hc.c1,hc.c2⟩
theorem Bc.oc (u:World)(c:Cp):Bc u (u.alloc (Obj.cells #[.int .i64 c.1,.int .u64 (c.2.1:Int),.int .u64 (c.2.2:Int)] 37)) u.heap.size c:=⟨ah.of (ae _ _),by simp [go_sem],by simp [go_sem],by simp [go_sem]⟩
theorem sD (h:aI w H s d N)(hf:KF H.p s)(ho:S.bp c.obj)(hw:c.hi<aq/\c.lo<aq) :
  Calls Tryz.prog 103 #[.pointer (some ⟨H.kb,0,none⟩),.agg (R.cC c dd gg).toArray] w λe w'=>e=.returned (dw (rN H.p s (bZ c) c.aA).1 none 0 0)/\aI w' H (rN H.p s (bZ c) c.aA).2 d N/\ah N w w':=by
 obtain⟨W,hW⟩:∃W,W=(w.alloc (Obj.cells (R.cC c dd gg).toArray 44)).alloc z6:=⟨_,rfl⟩
 have hB:Below w.heap.size w W:=by rw [hW];exact aC _ _ _
 have hX:R.Bx W w.heap.size (R.cC c dd gg):=by rw [hW];exact R.Bx.later (ae _ _) (R.Bx.new w (R.cC c dd gg) 44)
 have hZ:Zr W (w.heap.size+1):=by rw [hW];have:=Zr.new (w.alloc (Obj.cells (R.cC c dd gg).toArray 44));simpa using this
 have h2:=h.later hB
 have HC:=ab (λ(U:World) (hU:Below W.heap.size W U)=>FZ (h2.later hU) hf (bZ c) c.aA (Hg ho) hw)
 unfold rN;generalize D.bs H.p.d s.d (bZ c) c.aA=A at *
 unfold bZ at HC;have HS:Hid (∀U {s d},aI U H s d N->ah N W U->U.cell? ⟨H.kb,10,none⟩=some (.pointer (some ⟨H.g,0,none⟩))/\U.cell? ⟨H.kb,12,none⟩=some (.pointer (some ⟨H.A.g,0,none⟩))/\U.cell? ⟨H.kb,13,none⟩=some (.pointer (some ⟨H.qg,0,none⟩))/\U.cell? ⟨w.heap.size,3,none⟩=some (.int .i64 c.obj)/\U.cell? ⟨w.heap.size,4,none⟩=some (.int .u64 (c.hi:Int))/\U.cell? ⟨w.heap.size,5,none⟩=some (.int .u64 (c.lo:Int))/\U.cell? ⟨w.heap.size,7,none⟩=some (.int .i64 c.aA)):=λU s d hd hb=>by
  have:=Cb.of (R.Bx.but hb hX (h.new (Nat.le_refl _)))
  exact⟨hd.kb 10 _ rfl,hd.kb 12 _ rfl,hd.kb 13 _ rfl,this.c3,this.c4,this.c5,this.c7⟩
 have H0:=ab (λU (hU:ah (λ_=>False) W U)=>HS.out U (h2.but hU (λ_ _ h=>h) (λh=>h)) (hU.mono (λ_ h=>h.elim)))
 have HW:=ab hW
 have HB:=ab hB
 have HX:=ab hX
 have HZ:=ab hZ
 have HD:=ab h2
 have HP:Hid (0<w.heap.size):=by have:=h.b0;unfold Hid;omega
 have HN:=ab (λk hk=>h.new (k:=k) hk)
 clear h h2 hB hX hZ hW;go_enter Tryz.func103,Tryz.ntmps103
 go_upto_region 1 with fail
 rw [<-HW.out];go_cut [5,6] (λs5 s6 U=>∃b,s5=.pointer (some ⟨b,0,none⟩)/\s6=.int .i64 A.code/\Hid (W.heap.size<=b/\∃u,(aI u H (iP s A.s) d N/\ah N W u)/\Bc u U b A.c))
 case first =>
  go_region_held3 (λU=>U.cell? ⟨H.kb,10,none⟩=some (.pointer (some ⟨H.g,0,none⟩))/\U.cell? ⟨H.kb,12,none⟩=some (.pointer (some ⟨H.A.g,0,none⟩))/\U.cell? ⟨H.kb,13,none⟩=some (.pointer (some ⟨H.qg,0,none⟩))/\U.cell? ⟨w.heap.size,3,none⟩=some (.int .i64 c.obj)/\U.cell? ⟨w.heap.size,4,none⟩=some (.int .u64 (c.hi:Int))/\U.cell? ⟨w.heap.size,5,none⟩=some (.int .u64 (c.lo:Int))/\U.cell? ⟨w.heap.size,7,none⟩=some (.int .i64 c.aA)) (first|exact H0.out _ (ah.of (Below.refl _ _).drew)|exact H0.out _ (ah.of (ae _ _).drew)|exact H0.out _ (ah.of (ae _ _))|exact HE.out _ (ah.refl _ _)|exact HE.out _ (ah.of (ae _ _))|exact HE.out _ (L.cA (S:=λk=>k=W.heap.size) (b:=W.heap.size) (ah.refl _ u_) rfl _)) (first
   | (go_at_call 184;refine (HC.out _ (ae _ _).drew).mono ?_;rintro e u_ ⟨rfl,hd_,hb_⟩;have PH:Hid (ah N W u_):=(ah.of (S:=N) (ae W (Obj.cells #[.int .i64 0,.int .u64 0,.int .u64 0] 37)).drew).trans hb_;have Qa:=ab (And.intro hd_ PH.out);have hzc:=(Zb.FJ W).but (show ah N (W.alloc (Obj.cells #[.int .i64 0,.int .u64 0,.int .u64 0] 37)).drew u_ from hb_) (HN.out _ HB.out.size);have TC:=ab hzc;have HE:=ab (λU (hU:ah (λk=>k=W.heap.size) u_ U)=>HS.out U (hd_.but hU (λk hk e=>HN.out k (by have h9:W.heap.size<=_:=(Nat.le_refl _);have:=HB.out.size;omega) hk) (λe=>by have h9:W.heap.size<=_:=(Nat.le_refl _);have:=HB.out.size;have:=HP.out;omega)) (PH.out.comp hU (λi e=>.inr (by have h9:W.heap.size<=_:=(Nat.le_refl _);omega))));obtain⟨⟨z0,f0⟩,⟨z1,f1⟩,⟨z2,f2⟩⟩:=hzc;clear hb_)
   | (go_at_call 184;refine (HC.out _ (Below.refl _ _).drew).mono ?_;rintro e u_ ⟨rfl,hd_,hb_⟩;have PH:Hid (ah N W u_):=(ah.of (S:=N) (Below.refl W.heap.size W).drew).trans hb_;have Qa:=ab (And.intro hd_ PH.out);have HE:=ab (λU (hU:ah (λk=>k=u_.heap.size) u_ U)=>HS.out U (hd_.but hU (λk hk e=>HN.out k (by have h9:W.heap.size<=_:=PH.out.size;have:=HB.out.size;omega) hk) (λe=>by have h9:W.heap.size<=_:=PH.out.size;have:=HB.out.size;have:=HP.out;omega)) (PH.out.comp hU (λi e=>.inr (by have h9:W.heap.size<=_:=PH.out.size;omega))));clear hb_))
  all_goals (try go_wp2)
  all_goals go_meet
  all_goals (first|exact⟨_,rfl,rfl,Nat.le_refl _,u_,Qa.out,Bc.first TC.out _⟩|exact⟨_,rfl,rfl,PH.out.size,u_,Qa.out,Bc.oc u_ _⟩)
 case rest =>
 rename World=>v
 obtain⟨b,rfl,rfl,HR⟩:=hcut
 obtain⟨hlo,u,⟨hd3,hb3⟩,hbc⟩:=HR.out
 obtain⟨hv,v0,v1,v2⟩:=hbc
 have hsz:=HB.out.size
 have Rx:=ab (hd3.but hv (λk hk e=>HN.out k (by omega) hk) (λe=>by have:=HP.out;omega))
 have Qc:Hid (ah N W v):=hb3.comp hv (λi e=>.inr (by omega))
 have Rz:=ab (HZ.out.but Qc.out (HN.out _ (by omega)))
 clear hlo hd3 hb3 hv hsz HR;have PO:=ab (Rz.out)
 have PT:=ab (PO.out.st ⟨A.code,A.c,[],0⟩ none 0 0)
 have PU:=ab (PO.out.lv ⟨A.code,A.c,[],0⟩ none 0 0)
 have PK:Hid (ah (·=w.heap.size+1) (v) ((v).setCells (w.heap.size+1) 0 (fM ⟨A.code,A.c,[],0⟩ none 0 0))):=R.ay (S:=(·=w.heap.size+1)) rfl _ 0 (ah.refl _ _)
 go_wp2_with (first|((with_reducible refine bm PT.out ?_ ?_ ?_);(· rfl);(· rfl)))
 exact bodyPost_ret (v:=dw ⟨A.code,A.c,[],0⟩ none 0 0) (by simp [results,Tryz.results103,asAddr,PU.out]) rfl ⟨rfl,Rx.out.but PK.out (λk hk e=>HN.out k (by omega) hk) (λe=>by have:0=w.heap.size+1:=e;omega),((ah.of HB.out).trans Qc.out).comp PK.out (λi e=>.inr (by omega))⟩
end
section
variable {w w':World}{H:Hd}{s s':aP}{d d':Nat->List K.Pu}{O:Nat->Nat->Prop}{N:Nat->Prop}{c:R.Cl}{dd gg:R.Sl}{b:Nat}
theorem Zb.KT (w:World):Zb (w.alloc (Obj.cells #[.int .i64 0,.int .u64 0,.int .u64 0] 37)) w.heap.size:=⟨⟨by simp [go_sem],by simp [go_sem]⟩,⟨by simp [go_sem],by simp [go_sem]⟩,⟨by simp [go_sem],by simp [go_sem]⟩⟩
theorem Zb.later (h:Zb w b)(hb:Below w.heap.size w w'):Zb w' b:=h.but (B:=λ_=>False) (ah.of hb) (λh=>h)
theorem KF.pA (hf:KF H.p s){i:Int}(hi:i∈s.P):-9223372036854775808<=i/\i<9223372036854775808:=by
 have h1:=hf.iv.lo i hi
 have h2:=hf.iv.hi i hi
 have h3:=hf.iv.x2
 omega
theorem KF.dK (hf:KF H.p s){i:Int}(hi:i∈s.P):(s.D i).length<=32:=by
 have h1:=hf.ln i hi
 have h2:=hf.lm.2
 omega
theorem rA (h:aI w H s d N)(ht:L.Tr s.X s.l d)(hf:KF H.p s)(need:Int)(hg:c.given=false)(hby:c.aB∈s.P) :
  Calls Tryz.prog 186 #[.pointer (some ⟨H.kb,0,none⟩),.agg (R.cC c dd gg).toArray,.int .i64 need] w λe w'=>e=.returned (.int .i64 (L.dg (L.cQ s.X s.l need) c.obj (s.D c.aB) 3).2)/\∃T,aI w' H s T N/\L.Tr s.X s.l T/\ah N w w':=by
 obtain⟨W,hW⟩:∃W,W=w.alloc (Obj.cells (R.cC c dd gg).toArray 44):=⟨_,rfl⟩
 have hB:Below w.heap.size w W:=by rw [hW];exact ae _ _
 have hX:R.Bx W w.heap.size (R.cC c dd gg):=by rw [hW];exact R.Bx.new w (R.cC c dd gg) 44
 have h2:=h.later hB
 obtain⟨G,pa,cap,df,hli,-⟩:=h2.li
 have hks:c.aB∈s.ks:=by rw [hf.ks];exact hby
 have hncg:=h2.KK
 have x6:=(Cb.of hX).c6
 rw [hg] at x6;have HS:Hid (∀U,ah (λk=>k=H.cg) W U->U.cell? ⟨H.kb,15,none⟩=some (.map (some H.lg))/\U.cell? ⟨H.kb,16,none⟩=some (.pointer (some ⟨H.v,0,none⟩))/\U.cell? ⟨w.heap.size,1,none⟩=some (.int .i64 c.aB)/\U.cell? ⟨w.heap.size,3,none⟩=some (.int .i64 c.obj)/\(Instr.lookup 97 (.map (some H.lg)) (.int .i64 c.aB) false).run Tryz.prog U=.ok (.pointer (some ⟨G c.aB,0,none⟩)) U):=λU hb=>by
  have hx:=Cb.of (R.Bx.but hb hX (λe=>h.new (Nat.le_refl _) (by rw [e];exact hncg.2.2)))
  refine⟨ag hb (h2.kb 15 _ rfl) hncg.1,ag hb (h2.kb 16 _ rfl) hncg.1,hx.c1,hx.c3,?_⟩
  have hm:=S.bC hb hli.map hncg.2.1
  obtain⟨v,ps,hrun,hv⟩:=hm.lookup S.sC Tryz.underlying97 (S.aO Ey U) (zd:=.held (.pointer none)) (zp:=[]) rfl (S.tJ (hf.pA hby))
  rw [lG _ _ _ hks] at hv;simp only [S.hr,Option.some.injEq,Prod.mk.injEq,DataW.held.injEq] at hv;rw [hrun,hv.1]
 have H0:=ab (λU (hU:ah (λ_=>False) W U)=>HS.out U (hU.mono (λ_ h=>h.elim)))
 have Qg:=ab (λ(U:World) (hU:Below W.heap.size W U)=>M.gW ((hli.each _ hks).later hU) (hf.dK hby))
 have Ud:=ab (λ(u1 U:World) (p:Option Addr) (cq:Nat) (hu:Below W.heap.size W u1) (hO:Ow u1 W.heap.size 37 3 p (s.D c.aB).length cq (aF (s.D c.aB))) (hU:Below u1.heap.size u1 U)=>G_ ((h2.later hu).later hU) ht c.obj need cq ((Ow.rd hO rfl).later hU) (by have:=hf.dK hby;omega) (hf.wd _ hby) (λ_ k hk e=>by have h1:=(h2.pd k e).2;have h2:=(hO.bT k hk).1;omega))
 have HB:=ab hB
 have HW:=ab hW
 have HN:=ab (λk hk=>h.new (k:=k) hk)
 have SE:Hid (H.cg<w.heap.size):=(h.pd _ hncg.2.2).2
 obtain⟨Kq,hKq⟩:∃Kq,Kq=L.dg (L.cQ s.X s.l need) c.obj (s.D c.aB) 3:=⟨_,rfl⟩
 rw [<-hKq] at Ud ⊢
 obtain⟨kn,hkn⟩:∃kn,kn=(s.D c.aB).length:=⟨_,rfl⟩
 obtain⟨Kl,hKl⟩:∃Kl,Kl=aF (s.D c.aB):=⟨_,rfl⟩
 rw [<-hkn,<-hKl] at Qg Ud;clear h h2 hB hW ht hX hli hncg hf hby hks hKq hkn hKl;go_enter Tryz.func186,Tryz.ntmps186
 go_upto_region 1 with fail
 rw [<-HW.out];go_upto_region 3 with fail
 go_cut [7,8] (λ_ s8 U=>s8=.int .i64 Kq.2/\Hid (∃u b,(∃T,aI u H s T N/\L.Tr s.X s.l T/\ah N W u)/\W.heap.size<=b/\ah (λk=>k=b) u U))
 case first =>
  go_region_held3 (λU=>U.cell? ⟨H.kb,15,none⟩=some (.map (some H.lg))/\U.cell? ⟨H.kb,16,none⟩=some (.pointer (some ⟨H.v,0,none⟩))/\U.cell? ⟨w.heap.size,1,none⟩=some (.int .i64 c.aB)/\U.cell? ⟨w.heap.size,3,none⟩=some (.int .i64 c.obj)/\(Instr.lookup 97 (.map (some H.lg)) (.int .i64 c.aB) false).run Tryz.prog U=.ok (.pointer (some ⟨G c.aB,0,none⟩)) U) (first|exact H0.out _ (ah.of (Below.refl _ _).drew)|exact H0.out _ (ah.of (ae _ _).drew)|exact H0.out _ (ah.of (ae _ _))|exact Sx.out _ (Below.refl _ _)|exact Sx.out _ (ae _ _)|exact HE.out _ (ah.refl _ _)|exact HE.out _ (ah.of (ae _ _))|exact HE.out _ (L.cA (S:=λk=>k=W.heap.size) (b:=W.heap.size) (ah.refl _ u_) rfl _)|exact HE.out _ (L.cA (S:=λk=>k=u1.heap.size) (b:=u1.heap.size) (ah.refl _ u_) rfl _)) (first
   | (go_at_call 115;(with_reducible refine (Qg.out (W.alloc (Obj.cells #[.int .i64 0,.int .u64 0,.int .u64 0] 37)).drew (ae _ _).drew).mono ?_);rintro e u1 ⟨p1,cq,rfl,hO1,hb1⟩;have PC:Hid (Below W.heap.size W u1):=aa (ae _ _).drew hb1;have Qo:=ab ((Zb.FJ W).later hb1);have Sx:=ab (λU (hU:Below u1.heap.size u1 U)=>H0.out U (ah.of (aa PC.out hU)));have Uf:=ab (λU (hU:Below u1.heap.size u1 U)=>Ud.out u1 U p1 cq PC.out (hO1.mono (ae W (Obj.cells #[.int .i64 0,.int .u64 0,.int .u64 0] 37)).size) hU);clear hO1 hb1)
   | (go_at_call 115;(with_reducible refine (Qg.out W.drew (Below.refl _ _).drew).mono ?_);rintro e u1 ⟨p1,cq,rfl,hO1,hb1⟩;have PC:Hid (Below W.heap.size W u1):=aa (Below.refl _ _).drew hb1;have Sx:=ab (λU (hU:Below u1.heap.size u1 U)=>H0.out U (ah.of (aa PC.out hU)));have Uf:=ab (λU (hU:Below u1.heap.size u1 U)=>Ud.out u1 U p1 cq PC.out hO1 hU);clear hO1 hb1)
   | (go_at_call 265;(with_reducible refine (Uf.out (u1.alloc (Obj.cells #[.int .i64 0,.int .u64 0,.int .u64 0] 37)) (ae _ _)).mono ?_);rintro e u_ ⟨rfl,T,hd_,ht_,hb_,hb9⟩;have Qa:Hid (∃T,aI u_ H s T N/\L.Tr s.X s.l T/\ah N W u_):=⟨T,hd_,ht_,(ah.of (aa PC.out (ae _ _))).trans hb_⟩;have hzc:=(Zb.KT u1).but hb9 (λe=>by have:=PC.out.size;have:=HB.out.size;have:=SE.out;omega);have HE:=ab (λU (hU:ah (λk=>k=u1.heap.size) u_ U)=>HS.out U (((ah.of (aa PC.out (ae _ _))).trans hb9).comp hU (λi e=>.inr (by have:=PC.out.size;omega))));obtain⟨⟨z0,f0⟩,⟨z1,f1⟩,⟨z2,f2⟩⟩:=hzc;clear hd_ ht_ hb_ hb9)
   | (go_at_call 265;have SQ:=Qo;(with_reducible refine (Uf.out u1 (Below.refl _ _)).mono ?_);rintro e u_ ⟨rfl,T,hd_,ht_,hb_,hb9⟩;have Qa:Hid (∃T,aI u_ H s T N/\L.Tr s.X s.l T/\ah N W u_):=⟨T,hd_,ht_,(ah.of PC.out).trans hb_⟩;have hzc:=SQ.out.but hb9 (λe=>by have:=HB.out.size;have:=SE.out;omega);have HE:=ab (λU (hU:ah (λk=>k=W.heap.size) u_ U)=>HS.out U (((ah.of PC.out).trans hb9).comp hU (λi e=>.inr (by omega))));obtain⟨⟨z0,f0⟩,⟨z1,f1⟩,⟨z2,f2⟩⟩:=hzc;clear hd_ ht_ hb_ hb9)
   | (go_at_call 265;(with_reducible refine (Uf.out u1 (Below.refl _ _)).mono ?_);rintro e u_ ⟨rfl,T,hd_,ht_,hb_,hb9⟩;have Qa:Hid (∃T,aI u_ H s T N/\L.Tr s.X s.l T/\ah N W u_):=⟨T,hd_,ht_,(ah.of PC.out).trans hb_⟩;have PH:Hid (ah (λk=>k=H.cg) W u_):=(ah.of PC.out).trans hb9;have HE:=ab (λU (hU:ah (λk=>k=u_.heap.size) u_ U)=>HS.out U (PH.out.comp hU (λi e=>.inr (by have:=PH.out.size;omega))));clear hd_ ht_ hb_ hb9))
  all_goals (try go_wp2)
  all_goals go_meet
  all_goals (first|exact⟨rfl,u_,W.heap.size,Qa.out,Nat.le_refl _,L.cA (S:=λk=>k=W.heap.size) (b:=W.heap.size) (ah.refl _ u_) rfl Kq.1⟩|exact⟨rfl,u_,u1.heap.size,Qa.out,PC.out.size,L.cA (S:=λk=>k=u1.heap.size) (b:=u1.heap.size) (ah.refl _ u_) rfl Kq.1⟩|exact⟨rfl,u_,u_.heap.size,Qa.out,PH.out.size,ah.of (ae _ _)⟩)
 case rest =>
 rename World=>v
 obtain⟨rfl,HR⟩:=hcut
 obtain⟨u,b,⟨T,hd3,ht3,hb3⟩,hlo,hv⟩:=HR.out
 have hsz:=HB.out.size
 have Rx:=ab (hd3.but hv (λk hk e=>HN.out k (by omega) hk) (λe=>by have:=SE.out;omega))
 have Qc:Hid (ah N W v):=hb3.comp hv (λi e=>.inr (by omega))
 have Sn:=ab ht3
 clear hlo hd3 hb3 hv hsz HR ht3;go_wp2;go_ret;exact⟨rfl,T,Rx.out,Sn.out,(ah.of HB.out).trans Qc.out⟩
end
end Go.Proofs.YtffmodpgddecnaaGreatDoor.V
