import Derived.Test.YtffmodpgddecnaaGreatZ09
set_option linter.unusedVariables false
set_option linter.unusedSimpArgs false
namespace Go.Proofs.YtffmodpgddecnaaGreat.V.E
open Go.RowKit
open Go.Proofs.YtffmodpgddecnaaGreat.H (B64 Cp)
structure Tn where
 hi:Nat
 lo:Nat
 r:Int
 uh:Nat
 ul:Nat
structure Ob where
 b:List Nat
 T:List Tn
structure Pl where
 t:Nat
 O:List (Int×Ob)
 X:List (Int×List Cp)
 nx:Int
 px:Int
def Tn.c (t:Tn):List Value:=[.int .u64 (t.hi:Int),.int .u64 (t.lo:Int),.int .i64 t.r,.int .u64 (t.uh:Int),.int .u64 (t.ul:Int)]
def tns (T:List Tn):List Value:=T.flatMap Tn.c
def obO (O:List (Int×Ob))(o:Int):Option Ob:=(O.find? (fun q=>decide (q.1=o))).map Prod.snd
def tkO (O:List (Int×Ob))(o:Int):List Tn:=((obO O o).map Ob.T).getD []
def byO (O:List (Int×Ob))(o:Int):List Nat:=((obO O o).map Ob.b).getD []
def fnd (T:List Tn)(hi lo:Nat):Option Tn:=T.find? (fun t=>decide (t.hi=hi∧t.lo=lo))
def vO (O:List (Int×Ob)):List (Int×List Nat):=O.map (fun e=>(e.1,e.2.b))
def lvN (O:List (Int×Ob)):Nat:=(O.map fun e=>e.2.T.length).sum
def giv (O:List (Int×Ob))(need:Int)(c:Cp):Int:=match fnd (tkO O c.1) c.2.1 c.2.2 with
 | none=>3
 | some t=>if partB need t.r=false then 4 else 0
def valP (q:Pl)(given:Bool)(K:List Cp)(need:Int)(c:Cp):Int:=if given then giv q.O need c else (L.namG (giv q.O need) c.1 K 3).2
def lsX (X:List (Int×List Cp))(b:Int):List Cp:=((X.find? (fun q=>decide (q.1=b))).map Prod.snd).getD []
def stX (X:List (Int×List Cp))(b:Int)(K:List Cp):List (Int×List Cp):=X.map (fun q=>if q.1=b then (q.1,K) else q)
def haX (X:List (Int×List Cp))(b:Int):Bool:=X.any (fun q=>decide (q.1=b))
def stO (O:List (Int×Ob))(o:Int)(f:Ob→Ob):List (Int×Ob):=O.map (fun e=>if e.1=o then (e.1,f e.2) else e)
def noO (O:List (Int×Ob))(o:Int):List (Int×Ob):=O.filter (fun e=>decide (e.1≠o))
def rmE (p:Pm)(q:Pl)(size:Int):Int :=
 if S.mayV p.room p.pgs q.nx (vO q.O) size≠0 then S.mayV p.room p.pgs q.nx (vO q.O) size else if p.mo≤lvN q.O then 10 else 0
def pCre (p:Pm)(q:Pl)(size:Int):Rep×Pl :=
 if rmE p q size≠0 then (rep (rmE p q size),q) else if p.n≤q.t then (rep 11,q) else
 (⟨0,D.cap q.nx (p.c q.t),[],0⟩,{ q with t:=q.t+1,O:=q.O++[(q.nx,⟨List.replicate size.toNat 0,[⟨(p.c q.t) / B64,(p.c q.t)%B64,31,0,0⟩]⟩)],nx:=q.nx+1 })
def pDrw (p:Pm)(q:Pl)(o:Int):Nat×Int×Nat:=D.drawR (fun N=>(fnd (tkO q.O o) (N / B64) (N%B64)).isSome) p.c p.n 9 q.t
def srE (p:Pm)(q:Pl)(c:Cp)(rt:Int):Int:=match fnd (tkO q.O c.1) c.2.1 c.2.2 with
 | none=>3
 | some h=>if partB 4 h.r=false then 4 else if partB rt h.r=false then 4 else if p.e≤((tkO q.O c.1).length:Int) then 9 else if p.mo≤lvN q.O then 10 else 0
def pDer (p:Pm)(q:Pl)(c:Cp)(rt:Int):Rep×Pl :=
 if srE p q c rt≠0 then (rep (srE p q c rt),q) else
 if (pDrw p q c.1).2.1≠0 then (rep (pDrw p q c.1).2.1,{ q with t:=(pDrw p q c.1).2.2 }) else
 (⟨0,D.cap c.1 (pDrw p q c.1).1,[],0⟩,{ q with t:=(pDrw p q c.1).2.2,O:=stO q.O c.1 (fun o=>{ o with T:=o.T++[⟨(pDrw p q c.1).1 / B64,(pDrw p q c.1).1%B64,rt,c.2.1,c.2.2⟩] }) })
def pDes (q:Pl)(c:Cp):Rep×Pl:=if giv q.O 16 c≠0 then (rep (giv q.O 16 c),q) else (rep 0,{ q with O:=noO q.O c.1 })
def wsS (top:Nat×Nat)(s:List Tn×List (Nat×Nat))(t:Tn):List Tn×List (Nat×Nat) :=
 if (t.hi,t.lo)=top∨(t.uh,t.ul)∈s.2 then (s.1,s.2++[(t.hi,t.lo)]) else (s.1++[t],s.2)
def wsT (T:List Tn)(top:Nat×Nat):List Tn:=((T.drop 1).foldl (wsS top) (T.take 1,[top])).1
def pRev (q:Pl)(c:Cp):Rep×Pl:=if giv q.O 8 c≠0 then (rep (giv q.O 8 c),q) else
 match (tkO q.O c.1).head? with
 | none=>(rep 0,q)
 | some h=>if (h.hi,h.lo)=c.2 then (rep 0,{ q with O:=noO q.O c.1 }) else (rep 0,{ q with O:=stO q.O c.1 (fun o=>{ o with T:=wsT o.T c.2 }) })
def pRead (q:Pl)(given:Bool)(by_:Int)(c:Cp)(off n:Int):Rep×Pl :=
 if valP q given (lsX q.X by_) 1 c≠0 then (rep (valP q given (lsX q.X by_) 1 c),q) else
 if 0≤off∧0≤n∧n≤1024∧off+n≤((byO q.O c.1).length:Int) then (⟨0,(0,0,0),((byO q.O c.1).drop off.toNat).take n.toNat,0⟩,q) else (rep 5,q)
def pWrite (q:Pl)(given:Bool)(by_:Int)(c:Cp)(off:Int)(D:List Nat):Rep×Pl :=
 if valP q given (lsX q.X by_) 2 c≠0 then (rep (valP q given (lsX q.X by_) 2 c),q) else
 if 0≤off∧D.length≤1024∧off+(D.length:Int)≤((byO q.O c.1).length:Int) then (rep 0,{ q with O:=stO q.O c.1 (fun o=>{ o with b:=o.b.take off.toNat++D++o.b.drop (off.toNat+D.length) }) }) else (rep 5,q)
def pAdd (p:Pm)(q:Pl)(by_:Int)(c:Cp):Rep×Pl :=
 if fitB p.W c=false then (rep 18,q) else if p.lm≤((lsX q.X by_).length:Int) then (rep 14,q) else (rep 0,{ q with X:=stX q.X by_ (lsX q.X by_++[c]) })
def pRem (q:Pl)(by_:Int)(i:Int):Rep×Pl :=
 if ((lsX q.X by_).length:Int)≤i then (rep 15,q) else (rep 0,{ q with X:=stX q.X by_ ((lsX q.X by_).take i.toNat++(lsX q.X by_).drop (i.toNat+1)) })
def pSpa (p:Pm)(q:Pl)(by_:Int)(G:List Int):Rep×Pl :=
 if M.pickE p.lm (lsX q.X by_) G≠0 then (rep (M.pickE p.lm (lsX q.X by_) G),q) else
 if p.pm≤(q.X.length:Int)∨65535<q.px then (rep 13,q) else (⟨0,(0,0,0),[],q.px⟩,{ q with px:=q.px+1,X:=q.X++[(q.px,M.pickL p.lm (lsX q.X by_) G)] })
def pExi (q:Pl)(by_:Int):Rep×Pl:=(rep 0,{ q with X:=q.X.filter (fun e=>decide (e.1≠by_)) })
def pDeed (p:Pm)(q:Pl)(c:R.Cl):Rep×Pl :=
 if c.op=1 then pCre p q c.size else if c.op=2 then pDes q (cpO c) else if c.op=3 then pDer p q (cpO c) c.rights else if c.op=4 then pRev q (cpO c)
 else if c.op=5 then pRead q c.given c.by_ (cpO c) c.off c.n else if c.op=6 then pWrite q c.given c.by_ (cpO c) c.off c.data else if c.op=7 then pAdd p q c.by_ (cpO c)
 else if c.op=8 then pRem q c.by_ c.index else if c.op=9 then pSpa p q c.by_ c.gifts else pExi q c.by_
def pDo (p:Pm)(q:Pl)(c:R.Cl):Rep×Pl :=
 if R.fm c=false then (rep 1,q) else if haX q.X c.by_=false then (rep 2,q) else pDeed p q c
structure Fit (p:Pm)(q:Pl):Prop where
 le:q.t≤p.n
 n:p.n≤4096
 cs:∀i,i<p.n→p.c i<B64*B64
 ro:q.O.Pairwise (fun a b=>a.1<b.1)
 no:∀e∈q.O,1≤e.1∧e.1<q.nx
 nx:1≤q.nx∧q.nx≤4611686018427387905
 rx:q.X.Pairwise (fun a b=>a.1<b.1)
 mx:∀e∈q.X,0≤e.1∧e.1<q.px
 px:1≤q.px∧q.px≤65536
 ob:∀e∈q.O,e.2.T≠[]∧e.2.b.length≤4096∧∀x∈e.2.b,x<256
 wd:∀e∈q.O,∀t∈e.2.T,t.hi<B64∧t.lo<B64∧t.uh<B64∧t.ul<B64∧S.i64ok t.r
 lm:1≤p.lm∧p.lm≤32
 ln:∀e∈q.X,(e.2.length:Int)≤p.lm∧∀c∈e.2,S.i64ok c.1∧c.2.1<B64∧c.2.2<B64
 mo:p.mo≤256∧lvN q.O≤p.mo
 rm:p.room≤1024∧q.O.length≤p.room
 pg:p.pgs≤65536∧S.usedV (vO q.O)≤p.pgs
 pm:1≤p.pm∧p.pm≤32∧(q.X.length:Int)≤p.pm
end Go.Proofs.YtffmodpgddecnaaGreat.V.E
namespace Go.Proofs.YtffmodpgddecnaaGreat.V.E
open Go.RowKit Go.Maps
open Go.Proofs.YtffmodpgddecnaaGreat.H (B64 Cp)
open Go.Proofs.YtffmodpgddecnaaGreat.S (hr)
def entV (e:Int×Value):Lit×DataW Value:=(.int .i64 e.1,.held e.2)
def mapV (L:List (Int×Value)):DataW Value:=.map (L.map entV)
abbrev Mo (w:World)(b:Nat)(L:List (Int×Value)):Prop:=w.ownsMap Tryz.prog 3 hr b L.length (mapV L)
def Ris (L:List (Int×Value)):Prop:=L.Pairwise (fun a b=>a.1<b.1)
def lkV (L:List (Int×Value))(x:Int):Option Value:=(L.find? (fun e=>decide (e.1=x))).map Prod.snd
def insV (e:Int×Value):List (Int×Value)→List (Int×Value)
 | []=>[e]
 | y::r=>if e.1<y.1 then e::y::r else y::insV e r
theorem owns_but {S:Nat→Prop}{w w':World}{k:TypeId}{R:Value→Option (DataW Value×List MemPlace)}{b n:Nat}{D:DataW Value}(hb:But S w w')(h:w.ownsMap Tryz.prog k R b n D)(hn:¬S b):w'.ownsMap Tryz.prog k R b n D:=by
 have hl:=h.lt
 obtain⟨es,clock,hh,r⟩:=h
 exact⟨es,clock,by rw [hb.block b hl hn];exact hh,r⟩
theorem turned_but {w w':World}{b:Nat}(h:w.mapTurned w' b):But (·=b) w w':=by
 have hg:=h.grown
 exact⟨hg.os,hg.tape,hg.output,hg.size,fun k hk hn=>hg.block k hk (fun e=>hn (by cases e;rfl))⟩
theorem ikey:Keyed Tryz.prog 3:=int_keyed Tryz.underlying3
theorem entV_same (e:Int×Value)(x:Int):(entV e).1.sameKey (.int .i64 x)=decide (e.1=x):=by simp [entV,Lit.sameKey]
theorem has_mapV (L:List (Int×Value))(x:Int):has (mapV L) (.int .i64 x)=(lkV L x).isSome:=by
 rw [mapV,has_eq,List.any_map,lkV,Option.isSome_map]
 have e:((fun p:Lit×DataW Value=>p.1.sameKey (.int .i64 x)) ∘ entV)=fun e=>decide (e.1=x):=by funext e;exact entV_same e x
 rw [e]
 induction L with
 | nil=>rfl
 | cons y r ih =>
  rw [List.any_cons,List.find?_cons]
  cases decide (y.1=x)<;>simp [ih]
theorem atKey_mapV (L:List (Int×Value))(x:Int)(z:DataW Value):(mapV L).atKey (.int .i64 x) z=match lkV L x with|some v=>.held v|none=>z:=by
 unfold mapV DataW.atKey lkV
 simp only [List.find?_map]
 have e:((fun p:Lit×DataW Value=>p.1.sameKey (.int .i64 x)) ∘ entV)=fun e=>decide (e.1=x):=by funext e;exact entV_same e x
 rw [e]
 cases L.find? (fun e=>decide (e.1=x))<;>rfl
theorem insert_map (e:Int×Value):∀L:List (Int×Value),DataW.insert (entV e) (L.map entV)=(insV e L).map entV
 | []=>rfl
 | y::r=>by
  rw [List.map_cons,DataW.insert,insV]
  have hb:(entV e).1.before (entV y).1=decide (e.1<y.1):=by simp [entV,Lit.before]
  by_cases h:e.1<y.1
  ·rw [if_pos (by rw [hb];exact decide_eq_true h),if_pos h];rfl
  ·rw [if_neg (by rw [hb,decide_eq_false h];simp),if_neg h,List.map_cons,insert_map e r]
theorem put_mapV (L:List (Int×Value))(x:Int)(v:Value):(mapV L).put (.int .i64 x) (.held v)=mapV (insV (x,v) (L.filter (fun e=>decide (e.1≠x)))):=by
 unfold mapV DataW.put
 simp only [List.filter_map]
 rw [←insert_map]
 congr 3
 refine List.filter_congr fun e _=>?_
 simp only [Function.comp,entV_same]
 simp
theorem del_mapV (L:List (Int×Value))(x:Int):(mapV L).del (.int .i64 x)=mapV (L.filter (fun e=>decide (e.1≠x))):=by
 unfold mapV DataW.del
 simp only [List.filter_map]
 congr 2
 refine List.filter_congr fun e _=>?_
 simp only [Function.comp,entV_same]
 simp
theorem size_mapV (L:List (Int×Value)):Maps.size (mapV L)=L.length:=by simp [mapV,Maps.size]
theorem keys_mapV (L:List (Int×Value)):intKeys (mapV L)=L.map Prod.fst:=by
 simp [mapV,intKeys,entV,Function.comp_def,Go.intOf]
theorem insV_last (e:Int×Value):∀L:List (Int×Value),(∀y∈L,y.1<e.1)→insV e L=L++[e]
 | [],_=>rfl
 | y::r,h=>by
  have:=h y (by simp)
  rw [insV,if_neg (by omega),insV_last e r (fun z hz=>h z (by simp [hz]))];rfl
theorem insV_first (e:Int×Value):∀L:List (Int×Value),(∀y∈L,e.1<y.1)→insV e L=e::L
 | [],_=>rfl
 | y::r,h=>by rw [insV,if_pos (h y (by simp))]
theorem insV_some {x:Int}{v:Value}(p:Int→Bool):∀{L:List (Int×Value)},Ris L→(x,v)∈L→p x=false→insV (x,v) (L.filter (fun e=>p e.1))=L.filter (fun e=>p e.1||decide (e.1=x))
 | [],_,h,_=>by cases h
 | y::r,hr,h,hp=>by
  have h1:=(List.pairwise_cons.1 hr).1
  have h2:=(List.pairwise_cons.1 hr).2
  rcases List.mem_cons.1 h with e|h
  ·subst e
   rw [List.filter_cons_of_neg (by simp [hp]),List.filter_cons_of_pos (by simp),insV_first _ _ (fun y hy=>h1 y (List.mem_filter.1 hy).1)]
   congr 1
   refine List.filter_congr fun e he=>?_
   have:e.1≠x:=fun e'=>by have:=h1 e he;simp only at this;omega
   simp [this]
  ·have hx:=h1 _ h
   simp only at hx
   have hne:y.1≠x:=by omega
   have ih:=insV_some p h2 h hp
   cases hy:p y.1 with
   | true =>
    rw [List.filter_cons_of_pos (by simp [hy]),List.filter_cons_of_pos (by simp [hy]),insV,if_neg (by simp only;omega),ih]
   | false =>
    rw [List.filter_cons_of_neg (by simp [hy]),List.filter_cons_of_neg (by simp [hy,hne]),ih]
theorem insV_swap {x:Int}{v:Value}:∀{L:List (Int×Value)},Ris L→(∃u,(x,u)∈L)→insV (x,v) (L.filter (fun e=>decide (e.1≠x)))=L.map (fun e=>if e.1=x then (e.1,v) else e)
 | [],_,h=>by obtain⟨u,h⟩:=h;cases h
 | y::r,hr,h=>by
  have h1:=(List.pairwise_cons.1 hr).1
  have h2:=(List.pairwise_cons.1 hr).2
  by_cases hy:y.1=x
  ·have hne:∀e∈r,e.1≠x:=fun e he=>by have:=h1 e he;omega
   rw [List.filter_cons_of_neg (by simp [hy]),List.filter_eq_self.2 (fun e he=>by simp [hne e he]),insV_first _ _ (fun e he=>by have:=h1 e he;simp only;omega),List.map_cons,if_pos hy,hy]
   congr 1
   exact (List.map_id _).symm.trans (List.map_congr_left (fun e he=>by rw [if_neg (hne e he)];rfl))
  ·obtain⟨u,h⟩:=h
   rcases List.mem_cons.1 h with e|h
   ·rw [←e] at hy;exact absurd rfl hy
   ·have hx:=h1 _ h
    simp only at hx
    rw [List.filter_cons_of_pos (by simp [hy]),insV,if_neg (by simp only;omega),List.map_cons,if_neg hy,insV_swap h2 ⟨u,h⟩]
theorem insV_new {x:Int}{v:Value}{L:List (Int×Value)}(h:∀e∈L,e.1<x):insV (x,v) (L.filter (fun e=>decide (e.1≠x)))=L++[(x,v)]:=by
 rw [List.filter_eq_self.2 (fun e he=>by have:=h e he;simp;omega),insV_last _ _ h]
theorem lkV_mem {L:List (Int×Value)}{x:Int}{v:Value}(h:lkV L x=some v):(x,v)∈L:=by
 unfold lkV at h
 cases hf:L.find? (fun e=>decide (e.1=x)) with
 | none=>rw [hf] at h;cases h
 | some e =>
  rw [hf] at h
  have h1:=List.mem_of_find?_eq_some hf
  have h20:=List.find?_some hf
  have h2:e.1=x:=of_decide_eq_true h20
  obtain⟨a,b⟩:=e
  simp at h h2
  subst h;subst h2
  exact h1
theorem lkV_none {L:List (Int×Value)}{x:Int}(h:lkV L x=none):∀e∈L,e.1≠x:=by
 unfold lkV at h
 simp only [Option.map_eq_none_iff,List.find?_eq_none,decide_eq_true_eq] at h
 exact h
theorem tight {w:World}{b n:Nat}{L:List (Int×Value)}(h:w.ownsMap Tryz.prog 3 hr b n (mapV L)):Mo w b L:=by
 obtain⟨es,clock,hb,F,hs,hD⟩:=h
 refine⟨es,clock,hb,F,?_,hD⟩
 have:=congrArg Maps.size hD
 rw [size_mapV] at this
 rw [this]
 simp [Maps.size,length_sorted]
section
variable {w w':World}{b:Nat}{L:List (Int×Value)}{t e:TypeId}
theorem Mo.but {B:Nat→Prop}(h:Mo w b L)(hb:But B w w')(hn:¬B b):Mo w' b L:=owns_but hb h hn
theorem Mo.later (h:Mo w b L)(hb:Below w.heap.size w w'):Mo w' b L:=h.but (B:=fun _=>False) (But.of hb) (fun h=>h)
theorem Mo.lt (h:Mo w b L):b<w.heap.size:=World.ownsMap.lt h
theorem Mo.ne (h:Mo w b L){p:Addr}{v:Value}(hv:w.cell? p=some v):p.block≠b:=fun e=>by
 obtain⟨es,clock,hb,_⟩:=h
 subst e
 unfold World.cell? at hv
 rw [hb] at hv
 cases hv
theorem kof {x:Int}(hx:S.i64ok x):keyOf Tryz.prog 3 (.int .i64 x)=some (.int .i64 x):=keyOf_int_mk Tryz.underlying3 (WalkArith.wf_i64 (by unfold S.i64ok at hx;omega))
theorem Mo.look (h:Mo w b L)(ht:Tryz.prog.underlying t=some (.map 3 e)){z:Value}(hz:(zeroValue e).run Tryz.prog w=.ok z w){x:Int}(hx:S.i64ok x):(Instr.lookup t (.map (some b)) (.int .i64 x) false).run Tryz.prog w=.ok ((lkV L x).getD z) w:=by
 obtain⟨v,ps,hr,hv⟩:=World.ownsMap.lookup h ikey ht hz (zd:=.held z) (zp:=[]) rfl (kof hx)
 rw [hr]
 rw [atKey_mapV] at hv
 unfold S.hr at hv
 cases hl:lkV L x with
 | none=>rw [hl] at hv;simp at hv;rw [hv.1];rfl
 | some u=>rw [hl] at hv;simp at hv;rw [hv.1];rfl
theorem Mo.lookok (h:Mo w b L)(ht:Tryz.prog.underlying t=some (.map 3 e)){z:Value}(hz:(zeroValue e).run Tryz.prog w=.ok z w){x:Int}(hx:S.i64ok x):(Instr.lookup t (.map (some b)) (.int .i64 x) true).run Tryz.prog w=.ok (.tuple #[(lkV L x).getD z,.bool (lkV L x).isSome]) w:=by
 obtain⟨v,ps,hr,hv⟩:=World.ownsMap.look_ok h ikey ht hz (zd:=.held z) (zp:=[]) rfl (kof hx)
 rw [hr,has_mapV]
 rw [atKey_mapV] at hv
 unfold S.hr at hv
 cases hl:lkV L x with
 | none=>rw [hl] at hv;simp at hv;rw [hv.1];rfl
 | some u=>rw [hl] at hv;simp at hv;rw [hv.1];rfl
theorem Mo.store (h:Mo w b L)(ht:Tryz.prog.underlying t=some (.map 3 e))(hn:L.length≤1048576){x:Int}(hx:S.i64ok x)(v:Value) :
  ∃w',(Instr.mapUpdate t (.map (some b)) (.int .i64 x) v).run Tryz.prog w=.ok () w'∧Mo w' b (insV (x,v) (L.filter (fun e=>decide (e.1≠x))))∧But (·=b) w w'∧w'.heap.size=w.heap.size:=by
 obtain⟨w',hr,ho,ht⟩:=World.ownsMap.store h ikey ht (by unfold maxLen;omega) (val:=v) (d:=.held v) (ps:=[]) (kof hx) rfl
 rw [put_mapV] at ho
 refine⟨w',hr,tight ho,turned_but ht,?_⟩
 obtain⟨_,_,_,_,_,rfl⟩:=ht
 simp [ChangeMaps.setBlock]
theorem Mo.drop (h:Mo w b L)(ht:Tryz.prog.underlying t=some (.map 3 e)){x:Int}(hx:S.i64ok x)(ty:TypeId) :
  ∃w',(Builtin.delete_ #[t,3] ty #[.map (some b),.int .i64 x]).run Tryz.prog w=.ok (.tuple #[]) w'∧Mo w' b (L.filter (fun e=>decide (e.1≠x)))∧But (·=b) w w':=by
 obtain⟨w',hr,ho,ht⟩:=World.ownsMap.drop h ikey ht (kof hx) ty
 rw [del_mapV] at ho
 exact⟨w',hr,tight ho,turned_but ht⟩
theorem Mo.len (h:Mo w b L)(ht:Tryz.prog.underlying t=some (.map 3 e))(ty:TypeId):(Builtin.len_ #[t] ty #[.map (some b)]).run Tryz.prog w=.ok (.int .i64 (L.length:Int)) w:=by
 rw [World.ownsMap.len h ht ty,size_mapV]
theorem Mo.new (w:World):Mo (w.alloc (.map #[] 0)) w.heap.size []:=World.ownsMap_made w _ _ _
abbrev Rg (w:World)(b r:Nat)(L:List (Int×Value))(left:Lit→Bool)(cnt:Nat):Prop:=w.ranges Tryz.prog 3 hr b r L.length (mapV L) left cnt
def goneP (left:Lit→Bool)(x:Int):Bool:=!left (.int .i64 x)
theorem goneP_step (left:Lit→Bool)(x y:Int):goneP (fun z=>left z&&!z.sameKey (.int .i64 x)) y=(goneP left y||decide (y=x)):=by
 unfold goneP
 simp [Lit.sameKey]
theorem goneP_start (L:List (Int×Value)):L.filter (fun e=>goneP (has (mapV L)) e.1)=[]:=by
 rw [List.filter_eq_nil_iff]
 intro e he
 unfold goneP
 rw [has_mapV]
 cases h:lkV L e.1 with
 | none=>exact absurd rfl (lkV_none h e he)
 | some v=>simp
theorem goneP_end (L:List (Int×Value)){left:Lit→Bool}(h:∀kl,left kl=false):L.filter (fun e=>goneP left e.1)=L:=by
 rw [List.filter_eq_self]
 intro e _
 unfold goneP
 rw [h];rfl
theorem ranges_but {B:Nat→Prop}{r cnt:Nat}{left:Lit→Bool}(h:Rg w b r L left cnt)(hb:But B w w')(h1:¬B b)(h2:¬B r):Rg w' b r L left cnt:=by
 have l1:=h.owns.lt
 have l2:=h.lt
 obtain⟨es,clock,since,seen,c0,hh,F,hs,hD,hr,rest⟩:=h
 exact⟨es,clock,since,seen,c0,(hb.block b l1 h1).trans hh,F,hs,hD,(hb.block r l2 h2).trans hr,rest⟩
end
theorem i64_of_wf {x:Int}(h:(Lit.int .i64 x).wf=true):S.i64ok x:=by
 unfold Lit.wf at h
 unfold S.i64ok
 have e1:IntKind.i64.min=-9223372036854775808:=by decide
 have e2:IntKind.i64.max=9223372036854775807:=by decide
 simp only [e1,e2,Bool.and_eq_true,decide_eq_true_eq] at h
 omega
theorem wpList_next_held {w:World}{ops:Array Oper}{rest:List Oper}{o:Oper}{a:Act}{Q:Exit→Act→World→Prop}(hg:o.guard=none)(it:Operand)(hop:o.op=Op.next it false)(b r:Nat)(L:List (Int×Value))(left:Lit→Bool)(cnt:Nat)
  (hit:a.eval it=.pointer (some ⟨r,0,none⟩)) (h:Rg w b r L left cnt)
  (hDone:(∀kl,left kl=false)→wpList Tryz.prog ops Q rest (a.put o.dst (.tuple #[.bool false])) w)
  (hMore:∀(x:Int) (v:Value) (w':World) (cnt':Nat),S.i64ok x→goneP left x=false→lkV L x=some v→Rg w' b r L (fun z=>left z&&!z.sameKey (.int .i64 x)) cnt'→cnt'<cnt→But (·=r) w w'→w'.heap.size=w.heap.size →
   (Instr.entry (.pointer (some ⟨r,0,none⟩))).run Tryz.prog w'=.ok (.tuple #[.int .i64 x,v]) w'→wpList Tryz.prog ops Q rest (a.put o.dst (.tuple #[.bool true,.int .i64 x,v])) w') :
  wpList Tryz.prog ops Q (o::rest) a w :=
 wpList_next_ranges w hg it hop 3 ikey hr (Value.int .i64) (fun v:Value=>v) (fun key kl hkey=>by obtain⟨x,rfl,_⟩:=Maps.keyOf_int_inv Tryz.underlying3 hkey;exact⟨x,rfl⟩) (fun v y _=>⟨v,rfl⟩)
  b r L.length (mapV L) left cnt hit h (fun _ hl=>hDone hl) (fun x v kl y w' cnt' hkey hlk hv hat hrg hlt hgr hsz hen=>by
   obtain⟨x',ex,rfl,hwx⟩:=Maps.keyOf_int_inv Tryz.underlying3 hkey
   cases ex
   refine hMore x v w' cnt' ?_ ?_ ?_ hrg hlt ⟨hgr.os,hgr.tape,hgr.output,hgr.size,fun k hk hn=>hgr.block k hk (fun e=>hn (by cases e;rfl))⟩ hsz hen
   ·have:=i64_of_wf hwx
    exact this
   ·unfold goneP;rw [hlk];rfl
   ·have h1:=hat (.held undef)
    have h2:=hat .nil
    rw [atKey_mapV] at h1 h2
    cases hl:lkV L x with
    | none=>rw [hl] at h1 h2;simp at h1 h2;rw [←h2] at h1;cases h1
    | some u =>
     rw [hl] at h1
     unfold S.hr at hv
     simp at hv
     rw [←hv] at h1
     simp at h1
     rw [h1])
theorem look_arm {P:Program}{w:World}{ops:Array Oper}{rest:List Oper}{a:Act}{Q:Exit→Act→World→Prop}{tt:TypeId}{ps:String}{af}{d:Nat}{t:TypeId}{x y:Operand}{p k v:Value}{c:Bool}
  (hr:(Instr.lookup t p k c).run P w=.ok v w) (hx:a.eval x=p) (hy:a.eval y=k) (h:wpList P ops Q rest (a.put (some d) v) w) :
  wpList P ops Q ({ dst:=some d,op:=.lookup t x y c,type:=tt,pos:=ps,after:=af,guard:=none }::rest) a w:=by
 refine wpList_plain rfl fun K hK=>?_
 unfold Oper.wp
 simp [execOp,hx,hy,hr,Result.andThen]
 exact hK _ _ h
theorem upd_arm {P:Program}{w w':World}{ops:Array Oper}{rest:List Oper}{a:Act}{Q:Exit→Act→World→Prop}{tt:TypeId}{ps:String}{af}{t:TypeId}{x y z:Operand}{p k v:Value}
  (hr:(Instr.mapUpdate t p k v).run P w=.ok () w') (hx:a.eval x=p) (hy:a.eval y=k) (hz:a.eval z=v) (h:wpList P ops Q rest a w') :
  wpList P ops Q ({ dst:=none,op:=.mapUpdate t x y z,type:=tt,pos:=ps,after:=af,guard:=none }::rest) a w:=by
 refine wpList_plain rfl fun K hK=>?_
 unfold Oper.wp
 simp [execOp,hx,hy,hz,hr,Result.andThen]
 exact hK _ _ h
end Go.Proofs.YtffmodpgddecnaaGreat.V.E
namespace Go.Proofs.YtffmodpgddecnaaGreat.V.E
open Go.RowKit Go.Maps
open Go.Proofs.YtffmodpgddecnaaGreat.H (B64 Cp)
open Go.Proofs.YtffmodpgddecnaaGreat.R (wi sgB gfB inB wmB)
set_option maxRecDepth 100000 in
set_option maxHeartbeats 4000000 in
theorem within_any (n a b:Int)(w:World):Calls Tryz.prog 36 #[.int .i64 n,.int .i64 a,.int .i64 b] w fun e w'=>e=.returned (.bool (wi n a b))∧w'=w:=by
 by_cases h:a≤n
 ·have hd:decide (a≤n)=true:=decide_eq_true h
  obtain⟨q,hq⟩:∃q,q=decide (n≤b):=⟨_,rfl⟩
  have e:wi n a b=q:=by unfold wi;rw [hd,hq];simp
  have HQ:=hid hq
  rw [e]
  clear e hq h
  go_enter Tryz.func36,Tryz.ntmps36
  go_wp2
  rw [←HQ.out]
  go_ret
  exact⟨ret_bool (by simp),rfl⟩
 ·have hd:decide (a≤n)=false:=decide_eq_false h
  have e:wi n a b=false:=by unfold wi;rw [hd];rfl
  rw [e]
  clear e h
  go_enter Tryz.func36,Tryz.ntmps36
  go_wp2
  go_ret
  exact⟨ret_bool (by simp),rfl⟩
set_option maxRecDepth 100000 in
set_option maxHeartbeats 4000000 in
theorem is32_any (n:Int)(w:World):Calls Tryz.prog 64 #[.int .i64 n] w fun e w'=>e=.returned (.bool (sgB n))∧w'=w:=by
 obtain⟨q,hq⟩:∃q,q=sgB n:=⟨_,rfl⟩
 have HQ:Hid (∀W,Calls Tryz.prog 36 #[.int .i64 n,.int .i64 (-2147483648),.int .i64 2147483647] W fun e w'=>e=.returned (.bool q)∧w'=W):=fun W=>by rw [hq];exact within_any n (-2147483648) 2147483647 W
 rw [←hq]
 clear hq
 go_enter Tryz.func64,Tryz.ntmps64
 go_wp2_with (first|(go_at_call 36;refine (HQ.out _).mono ?_;rintro e w1 ⟨rfl,rfl⟩))
 go_ret
 exact⟨rfl,rfl⟩
def mvB (op:Int):Bool:=decide (op=5)||decide (op=6)
def ucB (op:Int):Bool:=decide (op=2)||decide (op=3)||decide (op=4)||decide (op=7)||mvB op
set_option maxRecDepth 100000 in
set_option maxHeartbeats 4000000 in
theorem isMove_any (op:Int)(w:World):Calls Tryz.prog 67 #[.int .i64 op] w fun e w'=>e=.returned (.bool (mvB op))∧w'=w:=by
 by_cases h:op=5
 ·subst h
  go_enter Tryz.func67,Tryz.ntmps67
  go_wp2
  go_ret
  exact⟨ret_bool (by decide),rfl⟩
 ·have hd:(op==5)=false:=by simp [h]
  obtain⟨q,hq⟩:∃q,q=(op==6):=⟨_,rfl⟩
  have e:mvB op=q:=by unfold mvB;rw [decide_eq_false h,hq,Bool.false_or];exact Bool.eq_iff_iff.2 (by simp)
  have HQ:=hid hq
  rw [e]
  clear e hq h
  go_enter Tryz.func67,Tryz.ntmps67
  go_wp2
  rw [←HQ.out]
  go_ret
  exact⟨ret_bool (by simp),rfl⟩
set_option maxRecDepth 100000 in
set_option maxHeartbeats 4000000 in
theorem usesCap_any (op:Int)(w:World):Calls Tryz.prog 66 #[.int .i64 op] w fun e w'=>e=.returned (.bool (ucB op))∧w'=w:=by
 have HM:=hid (isMove_any op)
 by_cases h2:op=2
 ·subst h2
  go_enter Tryz.func66,Tryz.ntmps66
  go_wp2
  go_ret
  exact⟨ret_bool (by decide),rfl⟩
 by_cases h3:op=3
 ·subst h3
  go_enter Tryz.func66,Tryz.ntmps66
  go_wp2
  go_ret
  exact⟨ret_bool (by decide),rfl⟩
 by_cases h4:op=4
 ·subst h4
  go_enter Tryz.func66,Tryz.ntmps66
  go_wp2
  go_ret
  exact⟨ret_bool (by decide),rfl⟩
 by_cases h7:op=7
 ·subst h7
  go_enter Tryz.func66,Tryz.ntmps66
  go_wp2
  go_ret
  exact⟨ret_bool (by decide),rfl⟩
 have e:ucB op=mvB op:=by unfold ucB;simp [h2,h3,h4,h7]
 rw [e]
 have d2:(op==2)=false:=by simp [h2]
 have d3:(op==3)=false:=by simp [h3]
 have d4:(op==4)=false:=by simp [h4]
 have d7:(op==7)=false:=by simp [h7]
 generalize mvB op=q at *
 clear e h2 h3 h4 h7
 go_enter Tryz.func66,Tryz.ntmps66
 go_wp2_with (first|(go_at_call 67;refine (HM.out _).mono ?_;rintro e w1 ⟨rfl,rfl⟩))
 go_ret
 exact⟨rfl,rfl⟩
set_option maxRecDepth 100000 in
set_option maxHeartbeats 4000000 in
theorem pagesOf_any (n:Nat)(hn:n≤4096)(w:World):Calls Tryz.prog 86 #[.int .i64 (n:Int)] w fun e w'=>e=.returned (.int .i64 ((S.needN n:Nat):Int))∧w'=w:=by
 have e1:wrap64 ((n:Int)+64)=(n:Int)+64:=by unfold wrap64;omega
 have e2:wrap64 ((n:Int)+64 - 1)=(n:Int)+63:=by unfold wrap64;omega
 have e3:((n:Int)+63).tdiv 64=((S.needN n:Nat):Int):=by unfold S.needN;rw [Int.tdiv_eq_ediv_of_nonneg (by omega)];omega
 have e4:wrap64 ((S.needN n:Nat):Int)=((S.needN n:Nat):Int):=by unfold wrap64 S.needN;omega
 go_enter Tryz.func86,Tryz.ntmps86
 go_wp2
 go_ret
 refine⟨ret_int ?_,rfl⟩
 first|rfl|(unfold S.needN;omega)|(unfold S.needN wrap64;rw [Int.tdiv_eq_ediv_of_nonneg (by omega)];omega)
def rgB (size off n:Int):Bool:=wi n 0 1024&&wi off 0 size&&decide (n≤size - off)
set_option maxRecDepth 100000 in
set_option maxHeartbeats 4000000 in
theorem inRange_any (size off n:Int)(hs:0≤size∧size≤4096)(w:World):Calls Tryz.prog 76 #[.int .i64 size,.int .i64 off,.int .i64 n] w fun e w'=>e=.returned (.bool (rgB size off n))∧w'=w:=by
 have H1:=hid (within_any n 0 1024)
 have H2:=hid (within_any off 0 size)
 cases h1:wi n 0 1024 with
 | false =>
  have e:rgB size off n=false:=by unfold rgB;rw [h1];rfl
  rw [e]
  rw [h1] at H1
  clear h1 e
  go_enter Tryz.func76,Tryz.ntmps76
  go_wp2_with (first|(go_at_call 36;refine (H1.out _).mono ?_;rintro e w1 ⟨rfl,rfl⟩))
  go_ret
  exact⟨rfl,rfl⟩
 | true =>
  cases h2:wi off 0 size with
  | false =>
   have e:rgB size off n=false:=by unfold rgB;rw [h1,h2];rfl
   rw [e]
   clear e H1 H2
   go_enter Tryz.func76,Tryz.ntmps76
   go_wp2_with (first|(go_at_call 36;refine (within_any _ _ _ _).mono ?_;rintro e w1 ⟨rfl,rfl⟩;simp only [h1,h2]))
   go_ret
   exact⟨rfl,rfl⟩
  | true =>
   obtain⟨q,hq⟩:∃q,q=decide (n≤size - off):=⟨_,rfl⟩
   have e:rgB size off n=q:=by unfold rgB;rw [h1,h2,hq];rfl
   have hb:0≤off∧off≤size:=by unfold wi at h2;simpa using h2
   have hw:wrap64 (size - off)=size - off:=by unfold wrap64;omega
   have HQ:=hid hq
   rw [e]
   clear e H1 H2 hq
   go_enter Tryz.func76,Tryz.ntmps76
   go_wp2_with (first|(go_at_call 36;refine (within_any _ _ _ _).mono ?_;rintro e w1 ⟨rfl,rfl⟩;simp only [h1,h2]))
   first|rw [←HQ.out]|(rw [hw,←HQ.out])|skip
   go_ret
   exact⟨by first|rfl|exact ret_bool (by rw [HQ.out])|exact ret_bool (by simp),rfl⟩
end Go.Proofs.YtffmodpgddecnaaGreat.V.E
namespace Go.Proofs.YtffmodpgddecnaaGreat.V.E
open Go.RowKit Go.Maps
open Go.Proofs.YtffmodpgddecnaaGreat.H (B64 Cp)
structure En where
 id:Int
 b:List Nat
 ba:Option Addr
 bc:Nat
 T:List Tn
 ta:Option Addr
 tc:Nat
structure Ln where
 id:Int
 K:List Cp
 a:Option Addr
 c:Nat
def En.o (e:En):Int×Ob:=(e.id,⟨e.b,e.T⟩)
def En.val (e:En):Value:=.agg #[.slice e.ba e.b.length e.bc,.slice e.ta e.T.length e.tc]
def En.v (e:En):Int×Value:=(e.id,e.val)
def Ln.l (e:Ln):Int×List Cp:=(e.id,e.K)
def Ln.val (e:Ln):Value:=.slice e.a e.K.length e.c
def Ln.v (e:Ln):Int×Value:=(e.id,e.val)
structure Hm where
 g:Nat
 bo:Nat
 bl:Nat
 cf:Cf
 aw:Option Addr
 n:Nat
 cw:Nat
 f:Nat→Nat
def Hm.L (h:Hm)(q:Pl):List Value:=h.cf.L++[.slice h.aw h.n h.cw,.int .i64 (q.t:Int),.map (some h.bo),.map (some h.bl),.int .i64 q.nx,.int .i64 q.px]
def Hm.p (h:Hm):Pm:=h.cf.pm h.n (fun j=>D.cutN (h.f j) h.cf.W)
structure Er (w:World)(N:Nat→Prop)(e:En):Prop where
 b:Ow w 0 5 1 e.ba e.b.length e.bc (S.u8s e.b)
 t:Ow w 0 88 5 e.ta e.T.length e.tc (tns e.T)
 nb:∀k,Blk e.ba k→N k
 nt:∀k,Blk e.ta k→N k
structure Lr (w:World)(N:Nat→Prop)(e:Ln):Prop where
 l:Ow w 0 38 3 e.a e.K.length e.c (caps e.K)
 n:∀k,Blk e.a k→N k
structure Md (w:World)(h:Hm)(q:Pl)(N:Nat→Prop)(Es:List En)(Ls:List Ln):Prop where
 bx:R.Bx w h.g (h.L q)
 ws:D.Ws w h.aw h.n h.cw h.f
 mo:Mo w h.bo (Es.map En.v)
 ml:Mo w h.bl (Ls.map Ln.v)
 oe:Es.map En.o=q.O
 le:Ls.map Ln.l=q.X
 er:∀e∈Es,Er w N e
 lr:∀e∈Ls,Lr w N e
 na:∀k,Blk h.aw k→N k
 ng:¬N h.g
 no:¬N h.bo
 nl:¬N h.bl
 ol:h.bo≠h.bl
 lt:∀k,N k→k<w.heap.size
section
variable {w w':World}{h:Hm}{q:Pl}{N N':Nat→Prop}{Es Es':List En}{Ls Ls':List Ln}
theorem Er.but {B:Nat→Prop}{e:En}(k:Er w N e)(hb:But B w w')(hn:∀j,N j→¬B j):Er w' N e :=
 ⟨k.b.but hb (fun j hj=>hn j (k.nb j hj)),k.t.but hb (fun j hj=>hn j (k.nt j hj)),k.nb,k.nt⟩
theorem Lr.but {B:Nat→Prop}{e:Ln}(k:Lr w N e)(hb:But B w w')(hn:∀j,N j→¬B j):Lr w' N e:=⟨k.l.but hb (fun j hj=>hn j (k.n j hj)),k.n⟩
theorem Er.mono {e:En}(k:Er w N e)(hn:∀j,N j→N' j):Er w N' e:=⟨k.b,k.t,fun j hj=>hn j (k.nb j hj),fun j hj=>hn j (k.nt j hj)⟩
theorem Lr.mono {e:Ln}(k:Lr w N e)(hn:∀j,N j→N' j):Lr w N' e:=⟨k.l,fun j hj=>hn j (k.n j hj)⟩
theorem Ws.butB {B:Nat→Prop}{a:Option Addr}{n c:Nat}{f:Nat→Nat}(hb:But B w w')(k:D.Ws w a n c f)(hn:∀j,Blk a j→¬B j):D.Ws w' a n c f :=
 ⟨k.cap_,k.none_,fun x hx j u hu=>cell_but hb (k.cells x hx j u hu) (by rw [add_block];exact hn _ ⟨x,hx,rfl⟩),k.small⟩
theorem Md.but {B:Nat→Prop}(k:Md w h q N Es Ls)(hb:But B w w')(hn:∀j,N j→¬B j)(h1:¬B h.g)(h2:¬B h.bo)(h3:¬B h.bl):Md w' h q N Es Ls :=
 ⟨R.Bx.but hb k.bx h1,Ws.butB hb k.ws (fun j hj=>hn j (k.na j hj)),k.mo.but hb h2,k.ml.but hb h3,k.oe,k.le,fun e he=>(k.er e he).but hb hn,fun e he=>(k.lr e he).but hb hn,k.na,k.ng,k.no,k.nl,k.ol,fun j hj=>Nat.lt_of_lt_of_le (k.lt j hj) hb.size⟩
theorem Md.later (k:Md w h q N Es Ls)(hb:Below w.heap.size w w'):Md w' h q N Es Ls:=k.but (B:=fun _=>False) (But.of hb) (fun _ _ h=>h) (fun h=>h) (fun h=>h) (fun h=>h)
theorem Md.glt (k:Md w h q N Es Ls):h.g<w.heap.size:=R.Bx.lt k.bx (by simp [Hm.L,Cf.L])
theorem Md.olt (k:Md w h q N Es Ls):h.bo<w.heap.size:=k.mo.lt
theorem Md.llt (k:Md w h q N Es Ls):h.bl<w.heap.size:=k.ml.lt
theorem Md.cell (k:Md w h q N Es Ls)(j:Nat){v:Value}(hv:(h.L q)[j]?=some v):w.cell? ⟨h.g,j,none⟩=some v:=R.Bx.cell k.bx j hv
theorem Md.go (k:Md w h q N Es Ls):h.g≠h.bo:=k.mo.ne (k.cell 0 rfl)
theorem Md.gl (k:Md w h q N Es Ls):h.g≠h.bl:=k.ml.ne (k.cell 0 rfl)
theorem Md.new (k:Md w h q N Es Ls){j:Nat}(hj:w.heap.size≤j):¬N j:=fun e=>by have:=k.lt j e;omega
theorem Bx.fz {b:Nat}{L:List Value}(k:R.Bx w b L)(j:Nat)(hj:j<L.length):w.frozen? ⟨b,j,none⟩=false:=by
 have:=(k.there j hj).2
 simpa using this
theorem Md.fz (k:Md w h q N Es Ls)(j:Nat)(hj:j<16):w.frozen? ⟨h.g,j,none⟩=false:=Bx.fz k.bx j (by simp [Hm.L,Cf.L];omega)
def Hm.B (h:Hm)(k:Nat):Prop:=k=h.g∨k=h.bo∨k=h.bl
theorem Md.setG (k:Md w h q N Es Ls){q':Pl}(hO:q'.O=q.O)(hX:q'.X=q.X)(j:Nat)(v:Value)(hj:j<16)(hL:h.L q'=(h.L q).set j v):Md (w.setCell ⟨h.g,j,none⟩ v) h q' N Es Ls:=by
 have hb:But (·=h.g) w (w.setCell ⟨h.g,j,none⟩ v):=(But.refl (fun x=>x=h.g) w).setCell (p:=⟨h.g,j,none⟩) rfl v
 have hn:∀i,N i→¬i=h.g:=fun i hi e=>k.ng (e ▸ hi)
 exact⟨by rw [hL];exact Bx.put k.bx j (by simp [Hm.L,Cf.L];omega) v,Ws.butB hb k.ws (fun i hi=>hn i (k.na i hi)),k.mo.but hb (fun e=>k.go e.symm),k.ml.but hb (fun e=>k.gl e.symm),k.oe.trans hO.symm,k.le.trans hX.symm,fun e he=>(k.er e he).but hb hn,fun e he=>(k.lr e he).but hb hn,k.na,k.ng,k.no,k.nl,k.ol,fun i hi=>by rw [show (w.setCell ⟨h.g,j,none⟩ v).heap.size=w.heap.size by simp [World.setCell]];exact k.lt i hi⟩
theorem Md.setO (k:Md w h q N Es Ls)(hb:But (·=h.bo) w w')(hm:Mo w' h.bo (Es'.map En.v))(hE:∀e∈Es',Er w' N' e)(hN:∀j,N j→N' j)(h1:¬N' h.g)(h2:¬N' h.bo)(h3:¬N' h.bl)(h4:∀j,N' j→j<w'.heap.size) :
  Md w' h { q with O:=Es'.map En.o } N' Es' Ls:=by
 have hn:∀i,N i→¬i=h.bo:=fun i hi e=>k.no (e ▸ hi)
 exact⟨R.Bx.but hb k.bx (fun e=>k.go e),Ws.butB hb k.ws (fun i hi=>hn i (k.na i hi)),hm,k.ml.but hb (fun e=>k.ol e.symm),rfl,k.le,hE,fun e he=>((k.lr e he).but hb hn).mono hN,fun i hi=>hN i (k.na i hi),h1,h2,h3,k.ol,h4⟩
theorem Md.setX (k:Md w h q N Es Ls)(hb:But (·=h.bl) w w')(hm:Mo w' h.bl (Ls'.map Ln.v))(hE:∀e∈Ls',Lr w' N' e)(hN:∀j,N j→N' j)(h1:¬N' h.g)(h2:¬N' h.bo)(h3:¬N' h.bl)(h4:∀j,N' j→j<w'.heap.size) :
  Md w' h { q with X:=Ls'.map Ln.l } N' Es Ls':=by
 have hn:∀i,N i→¬i=h.bl:=fun i hi e=>k.nl (e ▸ hi)
 exact⟨R.Bx.but hb k.bx (fun e=>k.gl e),Ws.butB hb k.ws (fun i hi=>hn i (k.na i hi)),k.mo.but hb (fun e=>k.ol e),hm,k.oe,rfl,fun e he=>((k.er e he).but hb hn).mono hN,hE,fun i hi=>hN i (k.na i hi),h1,h2,h3,k.ol,h4⟩
theorem Md.mono (k:Md w h q N Es Ls)(hN:∀j,N j→N' j)(h1:¬N' h.g)(h2:¬N' h.bo)(h3:¬N' h.bl)(h4:∀j,N' j→j<w.heap.size):Md w h q N' Es Ls :=
 ⟨k.bx,k.ws,k.mo,k.ml,k.oe,k.le,fun e he=>(k.er e he).mono hN,fun e he=>(k.lr e he).mono hN,fun j hj=>hN j (k.na j hj),h1,h2,h3,k.ol,h4⟩
end
def Mw (w:World)(h:Hm)(q:Pl)(N:Nat→Prop):Prop:=∃Es Ls,Md w h q N Es Ls
def WentP (w:World)(h:Hm)(N:Nat→Prop)(w':World)(N':Nat→Prop):Prop:=But h.B w w'∧∀k,N' k→N k∨w.heap.size≤k
def DidP (w:World)(h:Hm)(N:Nat→Prop)(R:Rep×Pl)(e:Ending)(w':World):Prop :=
 ∃a n c N',e=.returned (rpV R.1 a n c)∧Own w' w.heap.size 5 a n c (S.u8s R.1.data)∧Mw w' h R.2 N'∧WentP w h N w' N'∧∀k,Blk a k→¬N' k
section
variable {w w' w2:World}{h:Hm}{q:Pl}{N N' N2:Nat→Prop}{Es Es':List En}{Ls Ls':List Ln}
theorem WentP.later (hb:Below w.heap.size w w'):WentP w h N w' N:=⟨But.of hb,fun _ h=>.inl h⟩
theorem WentP.trans (a:WentP w h N w' N')(b:WentP w' h N' w2 N2):WentP w h N w2 N2 :=
 ⟨a.1.trans b.1,fun k hk=>by
  rcases b.2 k hk with h1|h1
  ·exact a.2 k h1
  ·exact .inr (Nat.le_trans a.1.size h1)⟩
theorem Mw.later (k:Mw w h q N)(hb:Below w.heap.size w w'):Mw w' h q N:=by
 obtain⟨Es,Ls,k⟩:=k
 exact⟨Es,Ls,k.later hb⟩
theorem DidP.plain {r:Rep}{x:Pl}{e:Ending}(he:e=.returned (rpV r none 0 0))(hr:r.data=[])(hk:Mw w' h x N')(hw:WentP w h N w' N'):DidP w h N (r,x) e w' :=
 ⟨none,0,0,N',he,by rw [show (r,x).1.data=[] from hr];exact Own.nil _ _ _,hk,hw,fun k ⟨_,hk,_⟩=>by cases hk⟩
theorem find_o (Es:List En)(x:Int):obO (Es.map En.o) x=(Es.find? (fun e=>decide (e.id=x))).map (fun e=>⟨e.b,e.T⟩):=by
 unfold obO
 rw [List.find?_map]
 cases h:Es.find? (fun e=>decide (e.id=x)) with
 | none=>rw [show Es.find? ((fun q:Int×Ob=>decide (q.1=x)) ∘ En.o)=none from h];rfl
 | some e=>rw [show Es.find? ((fun q:Int×Ob=>decide (q.1=x)) ∘ En.o)=some e from h];rfl
theorem find_v (Es:List En)(x:Int):lkV (Es.map En.v) x=(Es.find? (fun e=>decide (e.id=x))).map En.val:=by
 unfold lkV
 rw [List.find?_map]
 cases h:Es.find? (fun e=>decide (e.id=x)) with
 | none=>rw [show Es.find? ((fun q:Int×Value=>decide (q.1=x)) ∘ En.v)=none from h];rfl
 | some e=>rw [show Es.find? ((fun q:Int×Value=>decide (q.1=x)) ∘ En.v)=some e from h];rfl
theorem find_l (Ls:List Ln)(x:Int):(Ls.map Ln.l).find? (fun q=>decide (q.1=x))=(Ls.find? (fun e=>decide (e.id=x))).map Ln.l:=by
 rw [List.find?_map]
 rfl
theorem find_lv (Ls:List Ln)(x:Int):lkV (Ls.map Ln.v) x=(Ls.find? (fun e=>decide (e.id=x))).map Ln.val:=by
 unfold lkV
 rw [List.find?_map]
 cases h:Ls.find? (fun e=>decide (e.id=x)) with
 | none=>rw [show Ls.find? ((fun q:Int×Value=>decide (q.1=x)) ∘ Ln.v)=none from h];rfl
 | some e=>rw [show Ls.find? ((fun q:Int×Value=>decide (q.1=x)) ∘ Ln.v)=some e from h];rfl
def en0:En:=⟨0,[],none,0,[],none,0⟩
def ln0:Ln:=⟨0,[],none,0⟩
def enA (Es:List En)(x:Int):En:=(Es.find? (fun e=>decide (e.id=x))).getD en0
def lnA (Ls:List Ln)(x:Int):Ln:=(Ls.find? (fun e=>decide (e.id=x))).getD ln0
theorem Er.zero (w:World)(N:Nat→Prop):Er w N en0:=⟨Ow.nil _ _ _ _,Ow.nil _ _ _ _,fun _ ⟨_,h,_⟩=>(by cases h),fun _ ⟨_,h,_⟩=>(by cases h)⟩
theorem Lr.zero (w:World)(N:Nat→Prop):Lr w N ln0:=⟨Ow.nil _ _ _ _,fun _ ⟨_,h,_⟩=>(by cases h)⟩
theorem Md.erA (k:Md w h q N Es Ls)(x:Int):Er w N (enA Es x):=by
 unfold enA
 cases hf:Es.find? (fun e=>decide (e.id=x)) with
 | none=>exact Er.zero _ _
 | some e=>exact k.er e (List.mem_of_find?_eq_some hf)
theorem Md.lrA (k:Md w h q N Es Ls)(x:Int):Lr w N (lnA Ls x):=by
 unfold lnA
 cases hf:Ls.find? (fun e=>decide (e.id=x)) with
 | none=>exact Lr.zero _ _
 | some e=>exact k.lr e (List.mem_of_find?_eq_some hf)
theorem Md.tk (k:Md w h q N Es Ls)(x:Int):(enA Es x).T=tkO q.O x:=by
 unfold enA tkO
 rw [←k.oe,find_o]
 cases Es.find? (fun e=>decide (e.id=x))<;>rfl
theorem Md.by (k:Md w h q N Es Ls)(x:Int):(enA Es x).b=byO q.O x:=by
 unfold enA byO
 rw [←k.oe,find_o]
 cases Es.find? (fun e=>decide (e.id=x))<;>rfl
theorem Md.ls (k:Md w h q N Es Ls)(x:Int):(lnA Ls x).K=lsX q.X x:=by
 unfold lnA lsX
 rw [←k.le,find_l]
 cases Ls.find? (fun e=>decide (e.id=x))<;>rfl
theorem zero80 (w:World):(zeroValue 85).run Tryz.prog w=.ok (.agg #[.slice none 0 0,.slice none 0 0]) w:=by kernel_rfl
theorem zero63 (w:World):(zeroValue 63).run Tryz.prog w=.ok (.slice none 0 0) w:=by kernel_rfl
theorem Md.look (k:Md w h q N Es Ls){x:Int}(hx:S.i64ok x):(Instr.lookup 58 (.map (some h.bo)) (.int .i64 x) false).run Tryz.prog w=.ok (enA Es x).val w:=by
 rw [k.mo.look Tryz.underlying58 (zero80 w) hx,find_v]
 unfold enA
 cases Es.find? (fun e=>decide (e.id=x))<;>rfl
theorem Md.lookL (k:Md w h q N Es Ls){x:Int}(hx:S.i64ok x):(Instr.lookup 59 (.map (some h.bl)) (.int .i64 x) false).run Tryz.prog w=.ok (lnA Ls x).val w:=by
 rw [k.ml.look Tryz.underlying59 (zero63 w) hx,find_lv]
 unfold lnA
 cases Ls.find? (fun e=>decide (e.id=x))<;>rfl
theorem has_l (x:Int):∀Ls:List Ln,haX (Ls.map Ln.l) x=(Ls.find? (fun e=>decide (e.id=x))).isSome
 | []=>rfl
 | y::r=>by
  have ih:=has_l x r
  unfold haX at ih ⊢
  rw [List.map_cons,List.any_cons,List.find?_cons,ih]
  show (decide (y.id=x)||_)=_
  cases decide (y.id=x)<;>simp
theorem Md.lookok (k:Md w h q N Es Ls){x:Int}(hx:S.i64ok x):(Instr.lookup 59 (.map (some h.bl)) (.int .i64 x) true).run Tryz.prog w=.ok (.tuple #[(lnA Ls x).val,.bool (haX q.X x)]) w:=by
 rw [k.ml.lookok Tryz.underlying59 (zero63 w) hx,find_lv,←k.le,has_l]
 unfold lnA
 cases Ls.find? (fun e=>decide (e.id=x))<;>rfl
end
end Go.Proofs.YtffmodpgddecnaaGreat.V.E
namespace Go.Proofs.YtffmodpgddecnaaGreat.V.E
open Go.RowKit Go.Maps
open Go.Proofs.YtffmodpgddecnaaGreat.H (B64 Cp)
def CpRel (w:World)(b r b':Nat)(L:List (Int×Value))(v:Value)(w':World):Prop :=
 ∃left cnt,Rg w' b r L left cnt∧Mo w' b' (L.filter (fun e=>goneP left e.1))∧Below w.heap.size w w'
theorem CpRel.put {w w1 w2:World}{b r b' cnt:Nat}{L:List (Int×Value)}{left:Lit→Bool}{x:Int}{v:Value}(hr:Ris L)(hlk:lkV L x=some v)(hg:goneP left x=false)(hrg:Rg w1 b r L (fun z=>left z&&!z.sameKey (.int .i64 x)) cnt)(hB:Below w.heap.size w w1)
  (hM:Mo w2 b' (insV (x,v) ((L.filter (fun e=>goneP left e.1)).filter (fun e=>decide (e.1≠x))))) (hb:But (·=b') w1 w2) (hbb:b'≠b) (hbr:b'≠r) (hlo:w.heap.size≤b') (u:Value):CpRel w b r b' L u w2∧w2.rangeLeft b r=cnt:=by
 have h1:=ranges_but hrg hb (fun e=>hbb e.symm) (fun e=>hbr e.symm)
 refine⟨⟨_,_,h1,?_,But.below hB hb (fun k e=>by omega)⟩,h1.left_eq⟩
 have e1:(L.filter (fun e=>goneP left e.1)).filter (fun e=>decide (e.1≠x))=L.filter (fun e=>goneP left e.1):=by
  rw [List.filter_eq_self]
  intro e he
  have:=(List.mem_filter.1 he).2
  simp only [decide_eq_true_eq]
  intro e'
  rw [e',hg] at this
  cases this
 rw [e1,insV_some (goneP left) hr (lkV_mem hlk) hg] at hM
 have e2:L.filter (fun e=>goneP (fun z=>left z&&!z.sameKey (.int .i64 x)) e.1)=L.filter (fun e=>goneP left e.1||decide (e.1=x)):=by
  congr 1
  funext e
  exact goneP_step left x e.1
 rw [e2]
 exact hM
theorem En.of {Es:List En}{x:Int}{v:Value}(h:lkV (Es.map En.v) x=some v):∃e∈Es,e.id=x∧v=.agg #[.slice e.ba e.b.length e.bc,.slice e.ta e.T.length e.tc]:=by
 have:=lkV_mem h
 obtain⟨e,he,hv⟩:=List.mem_map.1 this
 unfold En.v at hv
 simp only [Prod.mk.injEq] at hv
 exact⟨e,he,hv.1,hv.2.symm⟩
theorem Ln.of {Ls:List Ln}{x:Int}{v:Value}(h:lkV (Ls.map Ln.v) x=some v):∃e∈Ls,e.id=x∧v=.slice e.a e.K.length e.c:=by
 have:=lkV_mem h
 obtain⟨e,he,hv⟩:=List.mem_map.1 this
 unfold Ln.v at hv
 simp only [Prod.mk.injEq] at hv
 exact⟨e,he,hv.1,hv.2.symm⟩
theorem run_makeHint {t e:TypeId}(ht:Tryz.prog.underlying t=some (.map 3 e))(n:Int)(w:World):(Instr.makeMap t (some (.int .i64 n))).run Tryz.prog w=.ok (.map (some w.heap.size)) (w.alloc (.map #[] 0)):=by
 simp [Instr.makeMap,run_underlying ht,asInt,go_sem]
theorem len_filter {L:List (Int×Value)}(p:Int×Value→Bool)(h:L.length≤1024):(L.filter p).length≤1048576:=Nat.le_trans (List.length_filter_le _ _) (by omega)
set_option maxRecDepth 100000 in
set_option maxHeartbeats 4000000 in
theorem copyO_any {w:World}{b:Nat}{Es:List En}(k:Mo w b (Es.map En.v))(hr:Ris (Es.map En.v))(hn:Es.length≤1024) :
  Calls Tryz.prog 48 #[.map (some b)] w fun e w'=>∃b',e=.returned (.map (some b'))∧Mo w' b' (Es.map En.v)∧w.heap.size≤b'∧Below w.heap.size w w':=by
 have hbl:=k.lt
 have hmm:=fun n w=>run_makeHint Tryz.underlying58 n w
 obtain⟨W,hW⟩:∃W,W=w.alloc (.map #[] 0):=⟨_,rfl⟩
 have hown1:Mo W b (Es.map En.v):=by rw [hW];exact k.later (below1 _ _)
 have HNew:Hid (Mo W w.heap.size []):=by rw [hW];exact Mo.new w
 have HBW:Hid (Below w.heap.size w W):=by rw [hW];exact below1 _ _
 have HSz:Hid (W.heap.size=w.heap.size+1):=by rw [hW];simp [Hid]
 have HW:=hid hW
 have HR:=hid hr
 clear hW hr
 go_enter Tryz.func48,Tryz.ntmps48
 go_upto_region 2 with (first|(at_len;refine wpList_len_own _ rfl _ 58 rfl 3 85 Tryz.underlying58 _ b _ _ rfl k ?_))
 rw [←HW.out]
 go_upto_region 3 with (first|(at_range;refine wpList_range_own _ rfl _ 58 rfl 3 85 ikey Tryz.underlying58 _ b _ _ rfl hown1 ?_;intro w0 hrg0 hg0 hs0;clear hs0))
 go_frame
 go_loopw [4] (CpRel w b W.heap.size w.heap.size (Es.map En.v)) (fun _ wr=>wr.rangeLeft b W.heap.size)
 case atStart =>
  have hB0:=below_grown (Below.refl W.heap.size W) hg0 (fun k hk=>by cases hk)
  exact⟨_,_,hrg0,by rw [goneP_start];exact HNew.out.later hB0,below_call HBW.out hB0⟩
 case round =>
  clear hrg0 hg0 hmm hown1 HNew HW
  obtain⟨left,cnt,hrg,hMo,hbel⟩:=hrel
  have HM:=hid hMo
  have HB:=hid hbel
  clear hMo hbel
  go_wp2_with (first|(at_next;refine wpList_next_held rfl _ rfl b W.heap.size _ _ _ rfl hrg ?_ ?_))
  ·intro hl0
   have HL:=hid hl0
   clear hl0
   go_wp2
   go_ret
   refine⟨w.heap.size,rfl,?_,Nat.le_refl _,HB.out⟩
   have:=HM.out
   rw [goneP_end _ HL.out] at this
   exact this
  ·intro x v w1 cnt1 hx hgx hlk hrg1 hlt hb1 hs1 hen
   have hm:w1.rangeLeft b W.heap.size<wr.rangeLeft b W.heap.size:=by rw [hrg1.left_eq,hrg.left_eq];exact hlt
   have HE1:=hid hrg1.left_eq
   have HLK:=hid hlk
   obtain⟨e,he,-,rfl⟩:=En.of hlk
   have hsz:=HSz.out
   have hMo1:=HM.out.but hb1 (by omega)
   have hB1:=But.below HB.out hb1 (fun k e=>by omega)
   obtain⟨W2,hW2⟩:∃W2,W2=w1.alloc (Obj.cells #[.slice e.ba e.b.length e.bc,.slice e.ta e.T.length e.tc] 85):=⟨_,rfl⟩
   have hBl2:Below w1.heap.size w1 W2:=by rw [hW2];exact below1 _ _
   obtain⟨w2,hrun,hMo2,hb2,hs2⟩:=(hMo1.later hBl2).store (t:=58) (e:=85) Tryz.underlying58 (len_filter _ (by simpa using hn)) hx (.agg #[.slice e.ba e.b.length e.bc,.slice e.ta e.T.length e.tc])
   have hrg2:Rg W2 b W.heap.size (Es.map En.v) (fun z=>left z&&!z.sameKey (.int .i64 x)) cnt1:=ranges_but (B:=fun _=>False) hrg1 (But.of hBl2) (fun h=>h) (fun h=>h)
   have HC:=hid (CpRel.put HR.out HLK.out hgx hrg2 (below_call hB1 hBl2) hMo2 hb2 (by omega) (by omega) (Nat.le_refl _) (.int .i64 x))
   have hrun':=hrun
   rw [hW2] at hrun'
   have HRun:=hid hrun'
   clear hrun hrun' hMo2 hb2 hs2 hrg2 hrg1 hrg hb1 hs1 hlk hlt hMo1 hB1 hgx hBl2 hW2 HLK he hsz
   go_wp2_with (first|((with_reducible refine upd_arm HRun.out ?_ ?_ ?_ ?_);(· rfl);(· rfl);(· rfl)))
   exact⟨HC.out.1,by rw [HC.out.2,←HE1.out];exact hm⟩
set_option maxRecDepth 100000 in
set_option maxHeartbeats 4000000 in
theorem copyX_any {w:World}{b:Nat}{Es:List Ln}(k:Mo w b (Es.map Ln.v))(hr:Ris (Es.map Ln.v))(hn:Es.length≤1024) :
  Calls Tryz.prog 49 #[.map (some b)] w fun e w'=>∃b',e=.returned (.map (some b'))∧Mo w' b' (Es.map Ln.v)∧w.heap.size≤b'∧Below w.heap.size w w':=by
 have hbl:=k.lt
 have hmm:=fun n w=>run_makeHint Tryz.underlying59 n w
 obtain⟨W,hW⟩:∃W,W=w.alloc (.map #[] 0):=⟨_,rfl⟩
 have hown1:Mo W b (Es.map Ln.v):=by rw [hW];exact k.later (below1 _ _)
 have HNew:Hid (Mo W w.heap.size []):=by rw [hW];exact Mo.new w
 have HBW:Hid (Below w.heap.size w W):=by rw [hW];exact below1 _ _
 have HSz:Hid (W.heap.size=w.heap.size+1):=by rw [hW];simp [Hid]
 have HW:=hid hW
 have HR:=hid hr
 clear hW hr
 go_enter Tryz.func49,Tryz.ntmps49
 go_upto_region 2 with (first|(at_len;refine wpList_len_own _ rfl _ 59 rfl 3 63 Tryz.underlying59 _ b _ _ rfl k ?_))
 rw [←HW.out]
 go_upto_region 3 with (first|(at_range;refine wpList_range_own _ rfl _ 59 rfl 3 63 ikey Tryz.underlying59 _ b _ _ rfl hown1 ?_;intro w0 hrg0 hg0 hs0;clear hs0))
 go_frame
 go_loopw [4] (CpRel w b W.heap.size w.heap.size (Es.map Ln.v)) (fun _ wr=>wr.rangeLeft b W.heap.size)
 case atStart =>
  have hB0:=below_grown (Below.refl W.heap.size W) hg0 (fun k hk=>by cases hk)
  exact⟨_,_,hrg0,by rw [goneP_start];exact HNew.out.later hB0,below_call HBW.out hB0⟩
 case round =>
  clear hrg0 hg0 hmm hown1 HNew HW
  obtain⟨left,cnt,hrg,hMo,hbel⟩:=hrel
  have HM:=hid hMo
  have HB:=hid hbel
  clear hMo hbel
  go_wp2_with (first|(at_next;refine wpList_next_held rfl _ rfl b W.heap.size _ _ _ rfl hrg ?_ ?_))
  ·intro hl0
   have HL:=hid hl0
   clear hl0
   go_wp2
   go_ret
   refine⟨w.heap.size,rfl,?_,Nat.le_refl _,HB.out⟩
   have:=HM.out
   rw [goneP_end _ HL.out] at this
   exact this
  ·intro x v w1 cnt1 hx hgx hlk hrg1 hlt hb1 hs1 hen
   have hm:w1.rangeLeft b W.heap.size<wr.rangeLeft b W.heap.size:=by rw [hrg1.left_eq,hrg.left_eq];exact hlt
   have HE1:=hid hrg1.left_eq
   have HLK:=hid hlk
   obtain⟨e,he,-,rfl⟩:=Ln.of hlk
   have hsz:=HSz.out
   have hMo1:=HM.out.but hb1 (by omega)
   have hB1:=But.below HB.out hb1 (fun k e=>by omega)
   obtain⟨w2,hrun,hMo2,hb2,hs2⟩:=hMo1.store (t:=59) (e:=63) Tryz.underlying59 (len_filter _ (by simpa using hn)) hx (.slice e.a e.K.length e.c)
   have HC:=hid (CpRel.put HR.out HLK.out hgx hrg1 hB1 hMo2 hb2 (by omega) (by omega) (Nat.le_refl _) (.int .i64 x))
   have HRun:=hid hrun
   clear hrun hMo2 hb2 hs2 hrg1 hrg hb1 hs1 hlk hlt hMo1 hB1 hgx HLK he hsz
   go_wp2_with (first|((with_reducible refine upd_arm HRun.out ?_ ?_ ?_ ?_);(· rfl);(· rfl);(· rfl)))
   exact⟨HC.out.1,by rw [HC.out.2,←HE1.out];exact hm⟩
end Go.Proofs.YtffmodpgddecnaaGreat.V.E
