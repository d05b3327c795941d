import Derived.Test.YtffmodpgddecnaaGreatZ25
set_option linter.unusedVariables false
set_option linter.unusedSimpArgs false
namespace Go.Proofs.YtffmodpgddecnaaGreat.V.E
open Go.RowKit Go.Maps
open Go.Proofs.YtffmodpgddecnaaGreat.H (B64 Cp)
def _root_.Go.Proofs.YtffmodpgddecnaaGreat.V.Mh.p (M:Mh):Pm:=M.C.pm M.dn (fun j=>D.cutN (M.f j) M.C.W)
structure RF (p:Pm)(r:Rm):Prop where
 le:r.t≤p.n
 n:p.n≤4096
 nx:1≤r.nx∧r.nx≤4611686018427387905
 px:1≤r.px∧r.px≤65536
 nn:1≤r.nn∧r.nn≤4097
 V:r.V.length≤1024
 T:r.T.length≤256
 P:r.P.length≤32
 us:S.usedV r.V≤65536
 vb:∀v∈r.V,v.2.length≤4096∧∀x∈v.2,x<256
 rt:∀x∈r.T,1≤x.r∧x.r≤31
 pl:∀e∈r.P,e.2.length≤32
 no:∀x∈r.T,1≤x.no∧x.no≤4097
def RmP (w:World)(base:Nat)(M:Mh)(N:Nat→Prop)(R:Rep×Rm)(e:Ending)(w':World):Prop :=
 ∃a n c a1 c1 Q1 a2 c2 a3 c3 Q3,e=.returned (rpV R.1 a n c)∧Own w' w.heap.size 5 a n c (S.u8s R.1.data)∧Mx w' base M R.2 a1 c1 Q1 a2 c2 a3 c3 Q3∧But N w w'∧(∀j,MxN M a1 Q1 a2 a3 Q3 j→N j∨w.heap.size≤j)∧∀j,Blk a j→¬MxN M a1 Q1 a2 a3 Q3 j
def MxE (w U:World)(base b:Nat)(M:Mh)(N:Nat→Prop)(r:Rm):Prop :=
 ∃a1 c1 Q1 a2 c2 a3 c3 Q3,Mx U base M r a1 c1 Q1 a2 c2 a3 c3 Q3∧But N w U∧(∀j,MxN M a1 Q1 a2 a3 Q3 j→N j∨b<j)∧Zr U b
section
variable {w w' U V:World}{base b:Nat}{M:Mh}{r:Rm}{a1:Option Addr}{c1:Nat}{Q1:List Ev}{a2:Option Addr}{c2:Nat}{a3:Option Addr}{c3:Nat}{Q3:List Ev}{N:Nat→Prop}
theorem Two.lt {E ty k:Nat}{a:Option Addr}{n cap:Nat}{Q:List Ev}(h:Two w base E ty k a n cap Q)(j:Nat)(hj:Two.B a Q j):base≤j∧j<w.heap.size:=by
 rcases hj with hj|⟨o,ho,hj⟩
 ·exact h.row.blk j hj
 ·exact (h.each o ho).blk j hj
theorem _root_.Go.Proofs.YtffmodpgddecnaaGreat.V.Mx.rng (h:Mx w base M r a1 c1 Q1 a2 c2 a3 c3 Q3)(j:Nat)(hj:MxN M a1 Q1 a2 a3 Q3 j):base≤j∧j<w.heap.size:=by
 rcases hj with rfl|hj|hj|hj
 ·exact⟨h.lo,h.lt⟩
 ·exact Two.lt h.os j hj
 ·exact h.ts.blk j hj
 ·exact Two.lt h.ps j hj
theorem _root_.Go.Proofs.YtffmodpgddecnaaGreat.V.Mx.fz (h:Mx w base M r a1 c1 Q1 a2 c2 a3 c3 Q3)(k:Nat)(hk:k<18):w.frozen? ⟨M.b,k,none⟩=false:=by
 have:=(h.box.there k (by simp [moL,Cf.L];omega)).2
 rwa [Nat.zero_add] at this
theorem rcut_at (M:Mh)(t:Nat)(hs:M.f t<B64*B64)(hW:1≤M.C.W∧M.C.W≤128)(U:World):Calls Tryz.prog 24 #[.agg #[.int .u64 (D.hiI (M.f t)),.int .u64 (D.loI (M.f t))],.int .i64 M.C.W] U fun e w'=>e=.returned (.agg #[.int .u64 ((M.p.c t / B64:Nat):Int),.int .u64 ((M.p.c t%B64:Nat):Int)])∧Below U.heap.size U w':=by
 refine (rcut_any _ _ (M.f t) M.C.W (D.IsW.of hs) hW U).mono ?_
 rintro e w' ⟨c,d,rfl,hcd,hb⟩
 exact⟨by rw [hcd.hi,hcd.lo];rfl,hb⟩
theorem zC_new (v:World):Cc3 (v.alloc zC).drew v.heap.size (0,0,0)∧Fz (v.alloc zC).drew v.heap.size 3:=⟨⟨by simp [go_sem],by simp [go_sem],by simp [go_sem]⟩,by simp [go_sem],fun j hj=>by simp [go_sem]⟩
theorem MxE.start (h:Mx w base M r a1 c1 Q1 a2 c2 a3 c3 Q3)(hU:Below w.heap.size w U)(hz:Zr U b):MxE w U base b M (MxN M a1 Q1 a2 a3 Q3) r :=
 ⟨a1,c1,Q1,a2,c2,a3,c3,Q3,h.later hU,But.of hU,fun j hj=>.inl hj,hz⟩
theorem MxE.later (h:MxE w U base b M N r)(hV:Below U.heap.size U V):MxE w V base b M N r:=by
 obtain⟨a1,c1,Q1,a2,c2,a3,c3,Q3,h1,h2,h3,h4⟩:=h
 exact⟨a1,c1,Q1,a2,c2,a3,c3,Q3,h1.later hV,h2.trans (But.of hV),h3,h4.later hV⟩
theorem MxE.z (h:MxE w U base b M N r):Zr U b:=by
 obtain⟨a1,c1,Q1,a2,c2,a3,c3,Q3,h1,h2,h3,h4⟩:=h
 exact h4
theorem MxE.fin (h:MxE w U base b M N r)(hb:w.heap.size≤b)(hN:∀j,N j→j<w.heap.size)(hd:∀j,Blk M.da j→j<w.heap.size)(rp:Rep)(hr:rp.data=[]):RmP w base M N (rp,r) (.returned (rpV rp none 0 0)) (U.setCells b 0 (rpL rp none 0 0)):=by
 obtain⟨a1,c1,Q1,a2,c2,a3,c3,Q3,h1,h2,h3,h4⟩:=h
 have hb9:But (·=b) U (U.setCells b 0 (rpL rp none 0 0)):=R.setCells_but (S:=(·=b)) rfl _ 0 (But.refl _ _)
 refine⟨none,0,0,a1,c1,Q1,a2,c2,a3,c3,Q3,rfl,?_,h1.but hb9 (fun j hj e=>?_) (fun j hj e=>?_),h2.comp hb9 (fun i e=>.inr (by omega)),fun j hj=>?_,fun j hj=>?_⟩
 ·rw [hr];exact Own.nil _ _ _
 ·rcases h3 j hj with h5|h5
  ·have:=hN j h5;omega
  ·omega
 ·have:=hd j hj;omega
 ·rcases h3 j hj with h5|h5
  ·exact .inl h5
  ·exact .inr (by omega)
 ·obtain⟨x,hx,_⟩:=hj;cases hx
structure Pg (w V:World)(base b:Nat)(M:Mh)(N:Nat→Prop)(r:Rm)(a1:Option Addr)(c1:Nat)(Q1:List Ev)(a2:Option Addr)(c2:Nat)(a3:Option Addr)(c3:Nat)(Q3:List Ev):Prop where
 x:Mx V base M r a1 c1 Q1 a2 c2 a3 c3 Q3
 bt:But N w V
 n:∀j,MxN M a1 Q1 a2 a3 Q3 j→N j∨b<j
 z:Zr V b
 wb:w.heap.size≤b
 nw:∀j,N j→j<w.heap.size
theorem Pg.start (h:Mx w base M r a1 c1 Q1 a2 c2 a3 c3 Q3)(hU:Below w.heap.size w U)(hz:Zr U b)(hb:w.heap.size≤b):Pg w U base b M (MxN M a1 Q1 a2 a3 Q3) r a1 c1 Q1 a2 c2 a3 c3 Q3 :=
 ⟨h.later hU,But.of hU,fun j hj=>.inl hj,hz,hb,fun j hj=>(h.rng j hj).2⟩
theorem Pg.later (h:Pg w U base b M N r a1 c1 Q1 a2 c2 a3 c3 Q3)(hV:Below U.heap.size U V):Pg w V base b M N r a1 c1 Q1 a2 c2 a3 c3 Q3 :=
 ⟨h.x.later hV,h.bt.trans (But.of hV),h.n,h.z.later hV,h.wb,h.nw⟩
theorem Pg.e (h:Pg w U base b M N r a1 c1 Q1 a2 c2 a3 c3 Q3):MxE w U base b M N r:=⟨a1,c1,Q1,a2,c2,a3,c3,Q3,h.x,h.bt,h.n,h.z⟩
theorem Pg.go {S:Nat→Prop}{r':Rm}{b1:Option Addr}{d1:Nat}{R1:List Ev}{b2:Option Addr}{d2:Nat}{b3:Option Addr}{d3:Nat}{R3:List Ev}(h:Pg w U base b M N r a1 c1 Q1 a2 c2 a3 c3 Q3)(x':Mx V base M r' b1 d1 R1 b2 d2 b3 d3 R3)(hb:But S U V)(hS:∀j,S j→MxN M a1 Q1 a2 a3 Q3 j)(hN:∀j,MxN M b1 R1 b2 b3 R3 j→MxN M a1 Q1 a2 a3 Q3 j∨U.heap.size≤j):Pg w V base b M N r' b1 d1 R1 b2 d2 b3 d3 R3:=by
 have hlt:=h.z.lt
 have hwb:=h.wb
 refine⟨x',h.bt.comp hb (fun j hj=>?_),fun j hj=>?_,h.z.but hb (fun hj=>?_),hwb,h.nw⟩
 ·rcases h.n j (hS j hj) with h1|h1
  ·exact .inl h1
  ·exact .inr (by omega)
 ·rcases hN j hj with h1|h1
  ·exact h.n j h1
  ·exact .inr (by omega)
 ·rcases h.n b (hS b hj) with h1|h1
  ·have:=h.nw b h1;omega
  ·omega
theorem Pg.cell (h:Pg w U base b M N r a1 c1 Q1 a2 c2 a3 c3 Q3)(k:Nat){r':Rm}(v:Value)(x':Mx (U.setCell ⟨M.b,k,none⟩ v) base M r' a1 c1 Q1 a2 c2 a3 c3 Q3):Pg w (U.setCell ⟨M.b,k,none⟩ v) base b M N r' a1 c1 Q1 a2 c2 a3 c3 Q3 :=
 h.go x' (S:=fun j=>j=M.b) (But.setCell (S:=fun j=>j=M.b) (But.refl _ _) (p:=⟨M.b,k,none⟩) rfl _) (fun j hj=>.inl hj) (fun j hj=>.inl hj)
theorem _root_.Go.Proofs.YtffmodpgddecnaaGreat.V.Mx.obj2 (h:Mx w base M r a1 c1 Q1 a2 c2 a3 c3 Q3)(hbs:base≤w.heap.size){U:World}(hU:Below w.heap.size w U)(v:Int×List Nat){ao:Option Addr}{co:Nat}(ho:Ow U w.heap.size 5 1 ao v.2.length co (S.u8s v.2))(hV:r.V.length<2048):∃b d w3,(Builtin.append_ #[49,49] 49 #[.slice a1 r.V.length c1,.slice (some ⟨U.heap.size,0,none⟩) 1 1]).run Tryz.prog (U.alloc (Obj.cells #[.int .i64 v.1,.slice ao v.2.length co] 80))=.ok (.slice b (r.V.length+1) d) w3 ∧
  Mx (w3.setCell ⟨M.b,12,none⟩ (.slice b (r.V.length+1) d)) base M { r with V:=r.V++[v] } b d (Q1++[⟨v.1,S.u8s v.2,v.2.length,ao,co⟩]) a2 c2 a3 c3 Q3∧But (fun j=>j=M.b∨Blk a1 j) w (w3.setCell ⟨M.b,12,none⟩ (.slice b (r.V.length+1) d))∧But (Blk a1) w w3∧(∀j,MxN M b (Q1++[⟨v.1,S.u8s v.2,v.2.length,ao,co⟩]) a2 a3 Q3 j→MxN M a1 Q1 a2 a3 Q3 j∨w.heap.size≤j):=by
 obtain⟨b,d,w3,h1,h2,h3⟩:=h.obj1 hbs hU v ho hV
 obtain⟨b',d',w3',h4,_,h5,h6⟩:=Two.snoc2 49 _ 32 Tryz.underlying49 info63 rfl (by decide) (by decide) h.os hbs hU ⟨v.1,S.u8s v.2,v.2.length,ao,co⟩ ho (by omega)
 have h7:=h1.symm.trans h4
 simp only [Result.ok.injEq,Value.slice.injEq] at h7
 obtain⟨⟨e1,_,e2⟩,e3⟩:=h7
 subst e1 e2 e3
 refine⟨b,d,w3,h1,h2,h3,h5,fun j hj=>?_⟩
 rcases hj with e|hj|hj|hj
 ·exact .inl (.inl e)
 ·rcases hj with hj|⟨o,hO,hj⟩
  ·rcases h6 j hj with e|e
   ·exact .inl (.inr (.inl (.inl e)))
   ·exact .inr e
  ·rcases List.mem_append.1 hO with hO|hO
   ·exact .inl (.inr (.inl (.inr ⟨o,hO,hj⟩)))
   ·rw [List.mem_singleton.1 hO] at hj
    exact .inr (ho.blk j hj).1
 ·exact .inl (.inr (.inr (.inl hj)))
 ·exact .inl (.inr (.inr (.inr hj)))
theorem _root_.Go.Proofs.YtffmodpgddecnaaGreat.V.Mx.tok2 (h:Mx w base M r a1 c1 Q1 a2 c2 a3 c3 Q3)(hbs:base≤w.heap.size)(t:Hl)(hT:r.T.length<2048):∃b d w3,(Builtin.append_ #[66,66] 66 #[.slice a2 r.T.length c2,.slice (some ⟨w.heap.size,0,none⟩) 1 1]).run Tryz.prog (w.alloc (Obj.cells (hlC t).toArray 91))=.ok (.slice b (r.T.length+1) d) w3 ∧
  Mx (w3.setCell ⟨M.b,13,none⟩ (.slice b (r.T.length+1) d)) base M { r with T:=r.T++[t] } a1 c1 Q1 b d a3 c3 Q3∧But (fun j=>j=M.b∨Blk a2 j) w (w3.setCell ⟨M.b,13,none⟩ (.slice b (r.T.length+1) d))∧But (Blk a2) w w3∧(∀j,MxN M a1 Q1 b a3 Q3 j→MxN M a1 Q1 a2 a3 Q3 j∨w.heap.size≤j):=by
 have hcr:=Cr.lit w 91 (hlC t) (fun u hu=>by simp only [hlC,List.mem_cons,List.not_mem_nil,or_false] at hu;rcases hu with rfl|rfl|rfl|rfl|rfl|rfl<;>rfl)
 obtain⟨a',c',w3,hrun,hO3,hG0⟩:=append_k 66 91 _ 6 48 Tryz.underlying66 infoH rfl (by decide) (by decide) (h.ts.later (below1 w (Obj.cells (hlC t).toArray 91))) hcr (by simp;omega) (by omega)
 have hG:=hG0.pre (below1 w (Obj.cells (hlC t).toArray 91))
 rw [←hls_app] at hO3
 have hl:r.T.length+1=(r.T++[t]).length:=by simp
 rw [hl] at hO3 hrun
 refine⟨a',c',w3,by rw [hl];exact hrun,?_⟩
 rw [hl]
 obtain⟨h1,h2⟩:=h.toks hG.but hO3 (fun j hj=>hG.on j hj) (by simp;omega)
 refine⟨h1,h2,hG.but,fun j hj=>?_⟩
 rcases hj with e|hj|hj|hj
 ·exact .inl (.inl e)
 ·exact .inl (.inr (.inl hj))
 ·rcases hG.on j hj with e|e
  ·exact .inl (.inr (.inr (.inl e)))
  ·exact .inr e
 ·exact .inl (.inr (.inr (.inr hj)))
end
end Go.Proofs.YtffmodpgddecnaaGreat.V.E
