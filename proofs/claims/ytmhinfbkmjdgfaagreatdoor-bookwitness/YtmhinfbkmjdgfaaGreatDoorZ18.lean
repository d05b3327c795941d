import Derived.Test.YtmhinfbkmjdgfaaGreatDoorZ17
set_option linter.unusedVariables false
set_option linter.unusedSimpArgs false
set_option maxRecDepth 100000
set_option maxHeartbeats 4000000
namespace Go.Proofs.YtmhinfbkmjdgfaaGreatDoor.B
open Go.RowKit
variable {P:Nat->Prop}
variable {m m1:Bm}{p:Int}{l:List Cp}{L':List Im}{K:List Kn}{b base n:Nat}{S:Nat->Prop}{s:Sl}{w w' w1 w2:World}
def cA (m:Bm)(j:Nat):Prop:=j∈m.aR\/(∃k∈m.I,aI k.s.a j)\/∃k∈m.K,aI k.s.a j
structure Tr (w w':World)(m m':Bm):Prop where
 g:m'.g=m.g
 bt:aj (cA m) w w'
 gr:∀j,cA m' j->cA m j\/w.heap.size<=j
theorem Bw.cK (h:Bw w m):∀j,cA m j->j<w.heap.size:=by
 intro j hj;rcases hj with hj|⟨k,hk,hj⟩|⟨k,hk,hj⟩
 ·exact h.lo j hj
 ·exact ((h.lists.each k hk).1.dB j hj).2
 ·exact ((h.known.each k hk).1.dB j hj).2
theorem Tr.refl (w:World)(m:Bm):Tr w w m m:=⟨rfl,aj.refl _ _,λ_ h=>.inl h⟩
theorem Tr.trans {m2:Bm}(h:Tr w w1 m m1)(k:Tr w1 w2 m1 m2):Tr w w2 m m2 :=
 ⟨k.g.trans h.g,h.bt.comp k.bt h.gr,λj hj=>by
  rcases k.gr j hj with h1|h1
  ·exact h.gr j h1
  ·exact .inr (Nat.le_trans h.bt.size h1)⟩
theorem Tr.later (h:Tr w w1 m m1)(k:Below w1.heap.size w1 w2):Tr w w2 m m1:=⟨h.g,h.bt.trans (aj.of k),h.gr⟩
theorem Tr.fh (k:Below w.heap.size w w1)(h:Tr w1 w2 m m1):Tr w w2 m m1:=⟨h.g,(aj.of k).trans h.bt,λj hj=>(h.gr j hj).imp id (Nat.le_trans k.size)⟩
theorem Bw.JA (h:Bw w m){k:Nat}{s kd b t:Int}{c:Cp}{ah:Option Addr}(ht:kq w k s kd b t c ah):¬cA m k:=by
 rintro (hj|⟨x,hx,hj⟩|⟨x,hx,hj⟩)
 ·have hmm:∀{ti:TypeId} {b:Nat} {G:List Im},Mm w ti b G->k∈b::G.map Im.b->False:=λ{ti} {b} {G} hG hx=>by
   rcases List.mem_cons.1 hx with rfl|hx
   ·exact ht.map hG.out rfl
   ·obtain⟨g,hg,rfl⟩:=List.mem_map.1 hx
    exact ht.map (hG.pU g hg) rfl
  rcases List.mem_append.1 hj with hj|hj
  ·exact hmm h.live hj
  ·rcases List.mem_append.1 hj with hj|hj
   ·exact hmm h.told hj
   ·rcases List.mem_cons.1 hj with rfl|hj
    ·exact ht.g h.bx rfl
    ·rcases List.mem_cons.1 hj with rfl|hj
     ·exact ht.map h.lists.out rfl
     ·rcases List.mem_cons.1 hj with rfl|hj
      ·exact ht.map h.known.out rfl
      ·exact hmm h.laid hj
 ·exact ht.row (h.lists.each x hx).1 hj
 ·exact ht.row (h.known.each x hx).1 hj
theorem gK.but (h:Bw w m)(hb:aj S w w')(hS:∀j,S j->cA m j):∀{ls:List Lk} {p:Option Addr},gK P w p ls->gK P w' p ls
 | [],p,h'=>h'
 | x::ls,p,⟨k,ah,e,hp,ht,hr⟩=>⟨k,ah,e,hp,ht.but hb (λhs=>h.JA ht (hS _ hs)),gK.but h hb hS hr⟩
theorem iy {X A A' Y:List Nat}(h:(X++(A++Y)).Nodup)(hA:A'.Nodup)(hn:∀a∈A',a∈A\/n<=a)(hlt:∀a∈X++(A++Y),a<n):(X++(A'++Y)).Nodup:=by
 obtain⟨h1,h2,h3⟩:=List.nodup_append.1 h
 obtain⟨h4,h5,h6⟩:=List.nodup_append.1 h2
 refine List.nodup_append.2 ⟨h1,List.nodup_append.2 ⟨hA,h5,λa ha b hb e=>?_⟩,λa ha b hb e=>?_⟩
 ·rcases hn a ha with h7|h7
  ·exact h6 a h7 b hb e
  ·have:=hlt b (by simp [hb]);omega
 ·rcases List.mem_append.1 hb with hb|hb
  ·rcases hn b hb with h7|h7
   ·exact h3 a ha b (List.mem_append.2 (.inl h7)) e
   ·have:=hlt a (by simp [ha]);omega
  ·exact h3 a ha b (List.mem_append.2 (.inr hb)) e
theorem Bw.IE (h:Bw w m)(hb:aj S w w')(hS:∀j,S j->j∈m.aR)(hn:¬S m.bi):Mc w' (m.g+1) m.bi m.I :=
 ⟨h.lists.out.but hb hn,λk hk=>⟨(h.lists.each k hk).1.but hb (λj hj hs=>h.cells (h.lists.each k hk).1 (by omega) j hj (hS j hs)),(h.lists.each k hk).2⟩,h.lists.cr⟩
theorem Bw.I0 (h:Bw w m)(hb:aj S w w')(hS:∀j,S j->j∈m.aR)(hn:¬S m.bk):Mc w' (m.g+1) m.bk m.K :=
 ⟨h.known.out.but hb hn,λk hk=>⟨(h.known.each k hk).1.but hb (λj hj hs=>h.cells (h.known.each k hk).1 (by omega) j hj (hS j hs)),(h.known.each k hk).2⟩,h.known.cr⟩
theorem eu {G G':List Im}(hn:∀g∈G',g.b∈G.map Im.b\/n<=g.b):∀a∈kk b G',a∈kk b G\/n<=a:=by
 intro a ha;rcases List.mem_cons.1 ha with rfl|ha
 ·exact .inl List.mem_cons_self
 ·obtain⟨g,hg,rfl⟩:=List.mem_map.1 ha
  exact (hn g hg).imp (List.mem_cons_of_mem _) id
theorem Bw.oV (h:Bw w m)(hb:aj S w w')(hS:∀j,S j->j∈kk m.bl m.L)(hM:Mm w' 30 m.bl L')(hn:∀g∈L',g.b∈m.L.map Im.b\/w.heap.size<=g.b):Bw w' { m with L:=L' }/\Tr w w' m { m with L:=L' }:=by
 have hd:=List.nodup_append.1 h.cr
 have hne:∀j,j∈(kk m.bt m.T)++m.rest->¬S j:=λj hj hs=>hd.2.2 j (hS j hs) j hj rfl
 have hSb:∀j,S j->j∈m.aR:=λj hs=>List.mem_append.2 (.inl (hS j hs))
 have hgr:∀j∈Bm.aR { m with L:=L' },j∈m.aR\/w.heap.size<=j:=λj hj=>by
  rcases List.mem_append.1 hj with hj|hj
  ·exact (eu hn j hj).imp (λh=>List.mem_append.2 (.inl h)) id
  ·exact .inl (List.mem_append.2 (.inr hj))
 refine⟨⟨h.bx.but hb (hne _ (by simp)),hM,h.laid.but hb (λj hj=>hne j (List.mem_append.2 (.inr (gj hj)))),h.told.but hb (λj hj=>hne j (List.mem_append.2 (.inl hj))),h.IE hb hSb (hne _ (by simp)),h.I0 hb hSb (hne _ (by simp)),?_,?_,h.ap⟩,rfl,hb.mono (λj hs=>.inl (hSb j hs)),λj hj=>?_⟩
 ·exact iy (X:=[]) (A:=kk m.bl m.L) (n:=w.heap.size) h.cr hM.cr (eu hn) h.lo
 ·intro j hj
  rcases List.mem_append.1 hj with hj|hj
  ·exact hM.lt j hj
  ·exact Nat.lt_of_lt_of_le (h.lo j (List.mem_append.2 (.inr hj))) hb.size
 ·rcases hj with hj|hj
  ·exact (hgr j hj).imp .inl id
  ·exact .inl (.inr hj)
theorem Bw.Cz (h:Bw w m)(hb:aj S w w')(hS:∀j,S j->j∈kk m.bt m.T)(hM:Mm w' 249 m.bt L')(hn:∀g∈L',g.b∈m.T.map Im.b\/w.heap.size<=g.b):Bw w' { m with T:=L' }/\Tr w w' m { m with T:=L' }:=by
 have hd:=List.nodup_append.1 h.cr
 have hd2:=List.nodup_append.1 hd.2.1
 have hne:∀j,j∈m.rest->¬S j:=λj hj hs=>hd2.2.2 j (hS j hs) j hj rfl
 have hnl:∀j,j∈kk m.bl m.L->¬S j:=λj hj hs=>hd.2.2 j hj j (List.mem_append.2 (.inl (hS j hs))) rfl
 have hSb:∀j,S j->j∈m.aR:=λj hs=>List.mem_append.2 (.inr (List.mem_append.2 (.inl (hS j hs))))
 have hgr:∀j∈Bm.aR { m with T:=L' },j∈m.aR\/w.heap.size<=j:=λj hj=>by
  rcases List.mem_append.1 hj with hj|hj
  ·exact .inl (List.mem_append.2 (.inl hj))
  ·rcases List.mem_append.1 hj with hj|hj
   ·exact (eu hn j hj).imp (λh=>List.mem_append.2 (.inr (List.mem_append.2 (.inl h)))) id
   ·exact .inl (List.mem_append.2 (.inr (List.mem_append.2 (.inr hj))))
 refine⟨⟨h.bx.but hb (hne _ (by simp)),h.live.but hb hnl,h.laid.but hb (λj hj=>hne j (gj hj)),hM,h.IE hb hSb (hne _ (by simp)),h.I0 hb hSb (hne _ (by simp)),?_,?_,h.ap⟩,rfl,hb.mono (λj hs=>.inl (hSb j hs)),λj hj=>?_⟩
 ·exact iy (X:=kk m.bl m.L) (A:=kk m.bt m.T) (n:=w.heap.size) h.cr hM.cr (eu hn) h.lo
 ·intro j hj
  rcases List.mem_append.1 hj with hj|hj
  ·exact Nat.lt_of_lt_of_le (h.lo j (List.mem_append.2 (.inl hj))) hb.size
  ·rcases List.mem_append.1 hj with hj|hj
   ·exact hM.lt j hj
   ·exact Nat.lt_of_lt_of_le (h.lo j (List.mem_append.2 (.inr (List.mem_append.2 (.inr hj))))) hb.size
 ·rcases hj with hj|hj
  ·exact (hgr j hj).imp .inl id
  ·exact .inl (.inr hj)
theorem g9 (m:Bm):m.aR=(kk m.bl m.L++(kk m.bt m.T++[m.g,m.bi,m.bk]))++(kk m.ba m.A++[]):=by simp [Bm.aR,Bm.rest]
theorem Bw.kH (h:Bw w m)(hb:aj S w w')(hS:∀j,S j->j∈kk m.ba m.A)(hM:Mm w' 3 m.ba L')(hn:∀g∈L',g.b∈m.A.map Im.b\/w.heap.size<=g.b):Bw w' { m with A:=L' }/\Tr w w' m { m with A:=L' }:=by
 have hdd:=h.cr
 have hlo:=h.lo
 rw [g9] at hdd hlo;have hd:=List.nodup_append.1 hdd
 have hne:∀j,j∈kk m.bl m.L++(kk m.bt m.T++[m.g,m.bi,m.bk])->¬S j:=λj hj hs=>hd.2.2 j hj j (List.mem_append.2 (.inl (hS j hs))) rfl
 have hSb:∀j,S j->j∈m.aR:=λj hs=>by rw [g9];exact List.mem_append.2 (.inr (List.mem_append.2 (.inl (hS j hs))))
 have hgr:∀j∈Bm.aR { m with A:=L' },j∈m.aR\/w.heap.size<=j:=λj hj=>by
  rw [g9] at hj ⊢
  rcases List.mem_append.1 hj with hj|hj
  ·exact .inl (List.mem_append.2 (.inl hj))
  ·rcases List.mem_append.1 hj with hj|hj
   ·exact (eu hn j hj).imp (λh=>List.mem_append.2 (.inr (List.mem_append.2 (.inl h)))) id
   ·cases hj
 refine⟨⟨h.bx.but hb (hne _ (by simp)),h.live.but hb (λj hj=>hne j (List.mem_append.2 (.inl hj))),hM,h.told.but hb (λj hj=>hne j (List.mem_append.2 (.inr (List.mem_append.2 (.inl hj))))),h.IE hb hSb (hne _ (by simp)),h.I0 hb hSb (hne _ (by simp)),?_,?_,h.ap⟩,rfl,hb.mono (λj hs=>.inl (hSb j hs)),λj hj=>?_⟩
 ·rw [g9]
  exact iy (A:=kk m.ba m.A) (n:=w.heap.size) hdd hM.cr (eu hn) hlo
 ·intro j hj
  rcases hgr j hj with h1|h1
  ·exact Nat.lt_of_lt_of_le (h.lo j h1) hb.size
  ·rw [g9] at hj
   rcases List.mem_append.1 hj with hj|hj
   ·exact Nat.lt_of_lt_of_le (h.lo j (by rw [g9];exact List.mem_append.2 (.inl hj))) hb.size
   ·rcases List.mem_append.1 hj with hj|hj
    ·exact hM.lt j hj
    ·cases hj
 ·rcases hj with hj|hj
  ·exact (hgr j hj).imp .inl id
  ·exact .inl (.inr hj)
def CV (K:List Kn)(p:Int)(s:Sl)(l:List Cp):Prop:=(⟨p,s,l⟩:Kn)∈K\/(s=⟨none,0,0⟩/\l=[]/\∀k∈K,k.p≠p)
theorem CV.cJ (K:List Kn)(p:Int):∃s l,CV K p s l:=by
 by_cases h:∃k∈K,k.p=p
 ·obtain⟨⟨q,s,l⟩,hk,rfl⟩:=h
  exact⟨s,l,.inl hk⟩
 ·exact⟨_,_,.inr ⟨rfl,rfl,λk hk e=>h ⟨k,hk,e⟩⟩⟩
theorem Mc.DA (hn:∀k∈K,k.p≠p):∀x∈K.map (λk=>(Value.int .i64 k.p,Value.slice k.s.a k.s.n k.s.c)),x.1≠Value.int .i64 p:=λx hx=>by
 obtain⟨k,hk,rfl⟩:=List.mem_map.1 hx
 intro e;simp at e
 exact hn k hk e
theorem Mc.look (h:Mc w base b K)(hp:bQ p)(hl:CV K p s l) :
  (Instr.lookup 157 (.map (some b)) (ab p) false).run Tryz.prog w=.ok (.slice s.a s.n s.c) w/\Ow w base 37 3 s.a s.n s.c (aU l)/\l.length=s.n:=by
 rcases hl with hk|⟨rfl,rfl,hn⟩
 ·exact⟨h.out.vL dy Tryz.underlying157 (List.mem_map.2 ⟨_,hk,rfl⟩) false,h.each _ hk⟩
 ·exact⟨h.out.rD dy Tryz.underlying157 (gS hp) (Mc.DA hn) (xL w) false,Ow.nil _ _ _ _,rfl⟩
theorem Mc.inj (h:Mc w base b K){x y:Kn}(hx:x∈K)(hy:y∈K)(e:x.p=y.p):x=y:=by
 have hn:=h.out.nd
 clear h;induction K with
 | nil=>cases hx
 | cons z K ih =>
  simp only [List.map_cons,List.nodup_cons,List.map_map] at hn;have hz:∀q∈K,q.p≠z.p:=λq hq e=>hn.1 (List.mem_map.2 ⟨q,hq,by simp [e]⟩)
  rcases List.mem_cons.1 hx with h1|h1<;>rcases List.mem_cons.1 hy with h2|h2
  ·rw [h1,h2]
  ·exact absurd (by rw [<-h1,e]) (hz y h2)
  ·exact absurd (by rw [<-h2,e]) (hz x h1)
  ·exact ih h1 h2 (by rw [List.map_map];exact hn.2)
theorem Mc.set {w7:World}(h:Mc w base b K)(hp:bQ p){s':Sl}{l':List Cp}(hl:CV K p s l)(hb:aj S w w7)(hSb:¬S b)(hS:∀j,S j->aI s.a j)(ho:Ow w7 base 37 3 s'.a s'.n s'.c (aU l'))(hl':l'.length=s'.n)(hd:∀j,aI s'.a j->aI s.a j\/∀k∈K,¬aI k.s.a j) :
  ∃w8 K',(Instr.mapUpdate 157 (.map (some b)) (ab p) (.slice s'.a s'.n s'.c)).run Tryz.prog w7=.ok () w8/\Mc w8 base b K'/\(∀x,x∈K'↔x=⟨p,s',l'⟩\/(x∈K/\x.p≠p))/\aj (·=b) w7 w8:=by
 have hout:=h.out.but hb hSb
 have hrow:∀{a:Option Addr} {n cap:Nat} {L:List Value},Ow w7 base 37 3 a n cap L->∀j,aI a j->¬j=b:=λ{a} {n} {cap} {L} ho j hj e=>by
  obtain⟨es,clk,h1,_⟩:=hout.ex
  subst e;exact jo h1 ho hj
 rcases hl with hk|⟨rfl,rfl,hn⟩
 ·obtain⟨K1,K2,hK⟩:=List.append_of_mem hk
  have hdis:=h.cr
  rw [hK,List.pairwise_append,List.pairwise_cons] at hdis;have hK1:∀x∈K1,∀j,aI x.s.a j->¬aI s.a j:=λx hx j hj=>hdis.2.2 x hx _ List.mem_cons_self j hj
  have hK2:∀x∈K2,∀j,aI x.s.a j->¬aI s.a j:=λx hx j hj hj2=>hdis.2.1.1 x hx j hj2 hj
  have hin1:∀x∈K1,x∈K:=λx hx=>by rw [hK];simp [hx]
  have hin2:∀x∈K2,x∈K:=λx hx=>by rw [hK];simp [hx]
  have hp1:∀x∈K1,x.p≠p:=λx hx e=>by
   have:=h.inj (hin1 x hx) hk e
   subst this;have hnd:=h.out.nd
   rw [hK] at hnd;simp only [List.map_append,List.map_cons,List.map_map,List.nodup_append] at hnd;exact hnd.2.2 _ (List.mem_map.2 ⟨_,hx,rfl⟩) _ List.mem_cons_self rfl
  have hp2:∀x∈K2,x.p≠p:=λx hx e=>by
   have:=h.inj (hin2 x hx) hk e
   subst this;have hnd:=h.out.nd
   rw [hK] at hnd;simp only [List.map_append,List.map_cons,List.map_map,List.nodup_append,List.nodup_cons] at hnd;exact hnd.2.1.1 (List.mem_map.2 ⟨_,hx,rfl⟩)
  have hmem:(Value.int .i64 p,Value.slice s.a s.n s.c)∈K.map (λk=>(Value.int .i64 k.p,Value.slice k.s.a k.s.n k.s.c)):=List.mem_map.2 ⟨_,hk,rfl⟩
  obtain⟨w8,r8,m8,b8,s8⟩:=hout.set dy Tryz.underlying157 hmem (.slice s'.a s'.n s'.c)
  have e8:AY (K.map (λk=>(Value.int .i64 k.p,Value.slice k.s.a k.s.n k.s.c))) (ab p) (.slice s'.a s'.n s'.c)=(K1++(⟨p,s',l'⟩:Kn)::K2).map (λk=>(Value.int .i64 k.p,Value.slice k.s.a k.s.n k.s.c)):=by
   have hnd:=h.out.nd
   rw [hK,List.map_append,List.map_cons] at hnd ⊢
   rw [Ft hnd];simp
  rw [e8] at m8;have hR:∀x,x∈K1\/x∈K2->Ow w8 base 37 3 x.s.a x.s.n x.s.c (aU x.l)/\x.l.length=x.s.n:=λx hx=>by
   have hxK:x∈K:=by rcases hx with hx|hx;exact hin1 x hx;exact hin2 x hx
   have hxd:∀j,aI x.s.a j->¬aI s.a j:=by rcases hx with hx|hx;exact hK1 x hx;exact hK2 x hx
   have o7:=(h.each x hxK).1.but hb (λj hj hs=>hxd j hj (hS j hs))
   exact⟨o7.but b8 (hrow o7),(h.each x hxK).2⟩
  have hnw:∀x,x∈K1\/x∈K2->∀j,aI x.s.a j->¬aI s'.a j:=λx hx j hj hj2=>by
   rcases hd j hj2 with h1|h1
   ·rcases hx with hx|hx
    ·exact hK1 x hx j hj h1
    ·exact hK2 x hx j hj h1
   ·rcases hx with hx|hx
    ·exact h1 x (hin1 x hx) hj
    ·exact h1 x (hin2 x hx) hj
  refine⟨w8,_,r8,⟨m8,λx hx=>?_,?_⟩,λx=>⟨λhx=>?_,λhx=>?_⟩,b8⟩
  ·rcases List.mem_append.1 hx with hx|hx
   ·exact hR x (.inl hx)
   ·rcases List.mem_cons.1 hx with rfl|hx
    ·exact⟨ho.but b8 (hrow ho),hl'⟩
    ·exact hR x (.inr hx)
  ·rw [List.pairwise_append,List.pairwise_cons]
   refine⟨hdis.1,⟨λy hy j hj hj2=>hnw y (.inr hy) j hj2 hj,hdis.2.1.2⟩,λx hx y hy j hj hj2=>?_⟩
   rcases List.mem_cons.1 hy with rfl|hy
   ·exact hnw x (.inl hx) j hj hj2
   ·exact hdis.2.2 x hx y (List.mem_cons_of_mem _ hy) j hj hj2
  ·rcases List.mem_append.1 hx with hx|hx
   ·exact .inr ⟨hin1 x hx,hp1 x hx⟩
   ·rcases List.mem_cons.1 hx with rfl|hx
    ·exact .inl rfl
    ·exact .inr ⟨hin2 x hx,hp2 x hx⟩
  ·rcases hx with rfl|⟨hx,hxp⟩
   ·simp
   ·rw [hK] at hx
    rcases List.mem_append.1 hx with hx|hx
    ·exact List.mem_append.2 (.inl hx)
    ·rcases List.mem_cons.1 hx with rfl|hx
     ·exact absurd rfl hxp
     ·exact List.mem_append.2 (.inr (List.mem_cons_of_mem _ hx))
 ·have hS0:∀j,¬S j:=λj hs=>by obtain⟨x,hx,_⟩:=hS j hs;cases hx
  obtain⟨w8,r8,m8,b8,s8⟩:=hout.add dy Tryz.underlying157 (gS hp) (Mc.DA hn) (.slice s'.a s'.n s'.c)
  have hnw:∀x∈K,∀j,aI x.s.a j->¬aI s'.a j:=λx hx j hj hj2=>by
   rcases hd j hj2 with ⟨y,hy,_⟩|h1
   ·cases hy
   ·exact h1 x hx hj
  refine⟨w8,K++[⟨p,s',l'⟩],r8,⟨by rw [List.map_append];exact m8,λx hx=>?_,?_⟩,λx=>⟨λhx=>?_,λhx=>?_⟩,b8⟩
  ·rcases List.mem_append.1 hx with hx|hx
   ·have o7:=(h.each x hx).1.but hb (λj hj hs=>hS0 j hs)
    exact⟨o7.but b8 (hrow o7),(h.each x hx).2⟩
   ·rw [List.mem_singleton.1 hx]
    exact⟨ho.but b8 (hrow ho),hl'⟩
  ·rw [List.pairwise_append]
   refine⟨h.cr,List.pairwise_singleton _ _,λx hx y hy j hj hj2=>?_⟩
   rw [List.mem_singleton.1 hy] at hj2;exact hnw x hx j hj hj2
  ·rcases List.mem_append.1 hx with hx|hx
   ·exact .inr ⟨hx,hn x hx⟩
   ·exact .inl (List.mem_singleton.1 hx)
  ·rcases hx with rfl|⟨hx,hxp⟩
   ·simp
   ·exact List.mem_append.2 (.inl hx)
theorem Bw.qm {I':List Kn}(h:Bw w m)(hb:aj S w w')(hS:∀j,S j->j=m.bi\/∃k∈m.I,aI k.s.a j)(hM:Mc w' (m.g+1) m.bi I')(hn:∀x∈I',∀j,aI x.s.a j->(∃k∈m.I,aI k.s.a j)\/¬cA m j):Bw w' { m with I:=I' }/\aj (cA m) w w'/\∀j,cA { m with I:=I' } j->cA m j\/∃x∈I',aI x.s.a j:=by
 obtain⟨n1,n2,n3,n4,n5⟩:=nD h.cr
 have hnS:∀j∈m.aR,j≠m.bi->¬S j:=λj hj hne hs=>by
  rcases hS j hs with e|⟨k,hk,hj2⟩
  ·exact hne e
  ·exact h.cells (h.lists.each k hk).1 (by omega) j hj2 hj
 refine⟨⟨h.bx.but hb (hnS _ (by simp [Bm.aR]) n3),h.live.but hb (λj hj=>hnS j (List.mem_append.2 (.inl hj)) (n1 j hj)),h.laid.but hb (λj hj=>hnS j (List.mem_append.2 (.inr (List.mem_append.2 (.inr (gj hj))))) (n5 j hj)),h.told.but hb (λj hj=>hnS j (List.mem_append.2 (.inr (List.mem_append.2 (.inl hj)))) (n2 j hj)),hM,⟨h.known.out.but hb (hnS _ (by simp [Bm.aR]) n4),λk hk=>⟨(h.known.each k hk).1.but hb (λj hj hs=>?_),(h.known.each k hk).2⟩,h.known.cr⟩,h.cr,λj hj=>Nat.lt_of_lt_of_le (h.lo j hj) hb.size,λx hx y hy j hj hj2=>?_⟩,hb.mono (λj hs=>?_),λj hj=>?_⟩
 ·rcases hS j hs with rfl|⟨x,hx,hj2⟩
  ·exact h.cells (h.known.each k hk).1 (by omega) _ hj (by simp [Bm.aR])
  ·exact h.ap x hx k hk j hj2 hj
 ·rcases hn x hx j hj with ⟨k,hk,hj3⟩|h1
  ·exact h.ap k hk y hy j hj3 hj2
  ·exact h1 (.inr (.inr ⟨y,hy,hj2⟩))
 ·rcases hS j hs with rfl|⟨x,hx,hj2⟩
  ·exact .inl (by simp [Bm.aR])
  ·exact .inr (.inl ⟨x,hx,hj2⟩)
 ·rcases hj with hj|⟨x,hx,hj⟩|hj
  ·exact .inl (.inl hj)
  ·exact .inr ⟨x,hx,hj⟩
  ·exact .inl (.inr (.inr hj))
theorem Bw.ym {K':List Kn}(h:Bw w m)(hb:aj S w w')(hS:∀j,S j->j=m.bk\/∃k∈m.K,aI k.s.a j)(hM:Mc w' (m.g+1) m.bk K')(hn:∀x∈K',∀j,aI x.s.a j->(∃k∈m.K,aI k.s.a j)\/¬cA m j):Bw w' { m with K:=K' }/\aj (cA m) w w'/\∀j,cA { m with K:=K' } j->cA m j\/∃x∈K',aI x.s.a j:=by
 obtain⟨n1,n2,n3,n4,n5⟩:=uv h.cr
 have hnS:∀j∈m.aR,j≠m.bk->¬S j:=λj hj hne hs=>by
  rcases hS j hs with e|⟨k,hk,hj2⟩
  ·exact hne e
  ·exact h.cells (h.known.each k hk).1 (by omega) j hj2 hj
 refine⟨⟨h.bx.but hb (hnS _ (by simp [Bm.aR]) n3),h.live.but hb (λj hj=>hnS j (List.mem_append.2 (.inl hj)) (n1 j hj)),h.laid.but hb (λj hj=>hnS j (List.mem_append.2 (.inr (List.mem_append.2 (.inr (gj hj))))) (n5 j hj)),h.told.but hb (λj hj=>hnS j (List.mem_append.2 (.inr (List.mem_append.2 (.inl hj)))) (n2 j hj)),⟨h.lists.out.but hb (hnS _ (by simp [Bm.aR]) n4),λk hk=>⟨(h.lists.each k hk).1.but hb (λj hj hs=>?_),(h.lists.each k hk).2⟩,h.lists.cr⟩,hM,h.cr,λj hj=>Nat.lt_of_lt_of_le (h.lo j hj) hb.size,λx hx y hy j hj hj2=>?_⟩,hb.mono (λj hs=>?_),λj hj=>?_⟩
 ·rcases hS j hs with rfl|⟨x,hx,hj2⟩
  ·exact h.cells (h.lists.each k hk).1 (by omega) _ hj (by simp [Bm.aR])
  ·exact h.ap k hk x hx j hj hj2
 ·rcases hn y hy j hj2 with ⟨k,hk,hj3⟩|h1
  ·exact h.ap x hx k hk j hj hj3
  ·exact h1 (.inr (.inl ⟨x,hx,hj⟩))
 ·rcases hS j hs with rfl|⟨x,hx,hj2⟩
  ·exact .inl (by simp [Bm.aR])
  ·exact .inr (.inr ⟨x,hx,hj2⟩)
 ·rcases hj with hj|hj|⟨x,hx,hj⟩
  ·exact .inl (.inl hj)
  ·exact .inl (.inr (.inl hj))
  ·exact .inr ⟨x,hx,hj⟩
end Go.Proofs.YtmhinfbkmjdgfaaGreatDoor.B
namespace Go.Proofs.YtmhinfbkmjdgfaaGreatDoor.B
open Go.RowKit
variable {P:Nat->Prop}
structure Bv where
 n:Int
 live:Int->Nat×Nat->Option Tn
 laid:Int->Int->Option (List Lk)
 told:Int->List Nat->Option (List Lk)
 lists:Int->List Cp
 known:Int->List Cp
 ct:Nat
section
variable {κ α:Type}
structure Vw (key:κ->Value)(R:Value->α->Prop)(ok:κ->Prop)(G:List Im)(f:Int->κ->Option α):Prop where
 fwd:∀p x,In G p x->∃k a,ok k/\x.1=key k/\f p k=some a/\R x.2 a
 bwd:∀p k a,f p k=some a->∃x,In G p x/\x.1=key k
def dN [DecidableEq κ](f:Int->κ->Option α)(p:Int)(k:κ)(a:Option α):Int->κ->Option α:=λq j=>if q=p/\j=k then a else f q j
variable {key:κ->Value}{R:Value->α->Prop}{ok:κ->Prop}{G G':List Im}{f:Int->κ->Option α}
theorem Vw.put [DecidableEq κ](h:Vw key R ok G f){p:Int}{k:κ}{v:Value}{a:α}(hin:∀q x,In G' q x↔(q=p/\x=(key k,v))\/(In G q x/\¬(q=p/\x.1=key k)))(hinj:∀j,ok j->key j=key k->j=k)(hk:ok k)(hR:R v a)(hinj2:∀j,key j=key k->j=k):Vw key R ok G' (dN f p k (some a)):=by
 refine⟨λq x hx=>?_,λq j b hb=>?_⟩
 ·rcases (hin q x).1 hx with ⟨rfl,rfl⟩|⟨h1,h2⟩
  ·exact⟨k,a,hk,rfl,by simp [dN],hR⟩
  ·obtain⟨j,b,hj,e,hf,hr⟩:=h.fwd q x h1
   refine⟨j,b,hj,e,?_,hr⟩
   unfold dN;rw [if_neg]
   ·exact hf
   ·rintro ⟨rfl,rfl⟩
    exact h2 ⟨rfl,e⟩
 ·unfold dN at hb
  split at hb
  ·rename_i e
   obtain⟨rfl,rfl⟩:=e
   exact⟨(key j,v),(hin _ _).2 (.inl ⟨rfl,rfl⟩),rfl⟩
  ·rename_i hne
   obtain⟨x,hx,e⟩:=h.bwd q j b hb
   exact⟨x,(hin _ _).2 (.inr ⟨hx,λh2=>hne ⟨h2.1,hinj2 j (by rw [<-e,h2.2])⟩⟩),e⟩
theorem Vw.del [DecidableEq κ](h:Vw key R ok G f){p:Int}{k:κ}(hin:∀q x,In G' q x↔In G q x/\¬(q=p/\x.1=key k))(hinj2:∀j,key j=key k->j=k):Vw key R ok G' (dN f p k none):=by
 refine⟨λq x hx=>?_,λq j b hb=>?_⟩
 ·obtain⟨h1,h2⟩:=(hin q x).1 hx
  obtain⟨j,b,hj,e,hf,hr⟩:=h.fwd q x h1
  refine⟨j,b,hj,e,?_,hr⟩
  unfold dN;rw [if_neg]
  ·exact hf
  ·rintro ⟨rfl,rfl⟩
   exact h2 ⟨rfl,e⟩
 ·unfold dN at hb
  split at hb
  ·cases hb
  ·rename_i hne
   obtain⟨x,hx,e⟩:=h.bwd q j b hb
   exact⟨x,(hin _ _).2 ⟨hx,λh2=>hne ⟨h2.1,hinj2 j (by rw [<-e,h2.2])⟩⟩,e⟩
theorem Vw.look (h:Vw key R ok G f)(p:Int)(k:κ)(hinj:∀j,ok j->key j=key k->j=k):(f p k=none/\Gt G p (key k) none)\/∃a v,f p k=some a/\R v a/\Gt G p (key k) (some v):=by
 cases hf:f p k with
 | none =>
  refine .inl ⟨rfl,CM.2 (λx hx e=>?_)⟩
  obtain⟨j,b,hj,e2,hf2,hr⟩:=h.fwd p x hx
  have:=hinj j hj (by rw [<-e2,e])
  subst this;rw [hf] at hf2;cases hf2
 | some a =>
  obtain⟨x,hx,e⟩:=h.bwd p k a hf
  obtain⟨j,b,hj,e2,hf2,hr⟩:=h.fwd p x hx
  have:=hinj j hj (by rw [<-e2,e])
  subst this;rw [hf] at hf2;cases hf2
  exact .inr ⟨a,x.2,rfl,hr,BV.2 (by rw [<-e];exact hx)⟩
theorem Vw.mono {R':Value->α->Prop}(h:Vw key R ok G f)(hR:∀v a,R v a->R' v a):Vw key R' ok G f :=
 ⟨λp x hx=>by obtain⟨k,a,h1,h2,h3,h4⟩:=h.fwd p x hx;exact⟨k,a,h1,h2,h3,hR _ _ h4⟩,h.bwd⟩
theorem Vw.nil:Vw key R ok [] (λ_ _=>none):=⟨λp x ⟨g,hg,_⟩=>(by cases hg),λp k a h=>by cases h⟩
end
variable {m:Bm}{f:Int->List Cp}{K:List Kn}{w w':World}
structure Vl (K:List Kn)(f:Int->List Cp):Prop where
 fwd:∀k∈K,k.l=f k.p/\∀c∈k.l,c.eY
 bwd:∀p,(∀k∈K,k.p≠p)->f p=[]
def ke (f:Int->List Cp)(p:Int)(l:List Cp):Int->List Cp:=λq=>if q=p then l else f q
theorem Vl.look (h:Vl K f)(p:Int):∃s,CV K p s (f p)/\∀c∈f p,c.eY:=by
 obtain⟨s,l,hl⟩:=CV.cJ K p
 rcases hl with hk|⟨rfl,rfl,hn⟩
 ·obtain⟨e,hf⟩:=h.fwd _ hk
  simp only at e hf;rw [<-e];exact⟨s,.inl hk,hf⟩
 ·rw [h.bwd p hn]
  exact⟨_,.inr ⟨rfl,rfl,hn⟩,λc hc=>by cases hc⟩
theorem Vl.set {K':List Kn}(h:Vl K f){p:Int}{s:Sl}{l:List Cp}(hin:∀x,x∈K'↔x=⟨p,s,l⟩\/(x∈K/\x.p≠p))(hf:∀c∈l,c.eY):Vl K' (ke f p l):=by
 refine⟨λk hk=>?_,λq hq=>?_⟩
 ·rcases (hin k).1 hk with rfl|⟨h1,h2⟩
  ·exact⟨by simp [ke],hf⟩
  ·unfold ke
   rw [if_neg h2];exact h.fwd k h1
 ·have hne:q≠p:=λe=>hq ⟨p,s,l⟩ ((hin _).2 (.inl rfl)) e.symm
  unfold ke;rw [if_neg hne];exact h.bwd q (λk hk e=>hq k ((hin k).2 (.inr ⟨hk,λe2=>hne (e.symm.trans e2)⟩)) e)
theorem Vl.nil:Vl [] (λ_=>[]):=⟨λk hk=>(by cases hk),λ_ _=>rfl⟩
def sN (x:Lk):Prop:=x.c.eY/\dm x.c=true/\bQ x.t/\bQ x.b/\bQ x.s/\bQ x.kd
def RT (P:Nat->Prop)(w:World)(v:Value)(ls:List Lk):Prop:=∃k,v=aq k/\gK P w (some ⟨k,0,none⟩) ls/\∀x∈ls,sN x
def RL (v:Value)(t:Tn):Prop:=v=t.v/\nv t.h/\nv t.l/\nv t.ph/\nv t.pl/\bQ t.r/\bQ t.s
abbrev Gm (k:Nat×Nat):Value:=jj k.1 k.2
abbrev C8 (k:Nat×Nat):Prop:=nv k.1/\nv k.2
abbrev Gg (i:Int):Value:=ab i
def G7 (F:List Nat):Prop:=F.length=24/\∀x∈F,x<256
theorem Aa {j k:Nat×Nat}(h:Gm j=Gm k):j=k:=by
 obtain⟨h1,h2⟩:=Ck h
 exact Prod.ext h1 h2
theorem oA {j k:Int}(h:Gg j=Gg k):j=k:=by simpa using h
structure Bk (P:Nat->Prop)(w:World)(m:Bm)(B:Bv):Prop where
 bw:Bw w m
 n:m.n=B.n
 live:Vw Gm RL C8 m.L B.live
 laid:Vw Gg (RT P w) bQ m.A B.laid
 told:Vw dk (RT P w) G7 m.T B.told
 lists:Vl m.I B.lists
 known:Vl m.K B.known
 Df:∀k∈m.K,0<k.s.n
 jU:∀g∈m.L,g.E.length<=B.ct
 pn:∀k,w.heap.size<=k->P k
theorem RT.but {S:Nat->Prop}(h:Bw w m)(hb:aj S w w')(hS:∀j,S j->cA m j){v:Value}{ls:List Lk}(hr:RT P w v ls):RT P w' v ls:=by
 obtain⟨k,e,ht,ho⟩:=hr
 exact⟨k,e,gK.but h hb hS ht,ho⟩
theorem Bk.later {B:Bv}(h:Bk P w m B)(hb:Below w.heap.size w w'):Bk P w' m B :=
 ⟨h.bw.later hb,h.n,h.live,h.laid.mono (λv a hr=>hr.but h.bw (aj.of (S:=λ_=>False) hb) (λ_ h=>h.elim)),h.told.mono (λv a hr=>hr.but h.bw (aj.of (S:=λ_=>False) hb) (λ_ h=>h.elim)),h.lists,h.known,h.Df,h.jU,λk hk=>h.pn k (Nat.le_trans hb.size hk)⟩
theorem Bk.drew {B:Bv}(h:Bk P w m B):Bk P w.drew m B:=h.later (Below.refl _ _).drew
end Go.Proofs.YtmhinfbkmjdgfaaGreatDoor.B
namespace Go.Proofs.YtmhinfbkmjdgfaaGreatDoor.B
open Go.RowKit
variable {P:Nat->Prop}
variable {G:List Im}{b:Nat}{ti:TypeId}{k v:Value}{w w':World}
theorem xw (w:World):(zeroValue 267).run Tryz.prog w=.ok (.map none) w:=by kernel_rfl
theorem IM (w:World):(binOp .eql 267 (.map none) (.map none)).run Tryz.prog w=.ok (.bool true) w:=by kernel_rfl
theorem Gz (b:Nat)(w:World):(binOp .eql 267 (.map (some b)) (.map none)).run Tryz.prog w=.ok (.bool false) w:=by kernel_rfl
def Kept (ti:TypeId)(w w':World)(b:Nat)(G:List Im)(p:Int)(k v:Value):Prop :=
 ∃G',Mm w' ti b G'/\(∀g∈G',g.b∈G.map Im.b\/w.heap.size<=g.b)/\(∀q x,In G' q x↔(q=p/\x=(k,v))\/(In G q x/\¬(q=p/\x.1=k)))/\aj (λj=>j∈kk b G) w w'/\∀x∈G',x.E.length<=1\/∃y∈G,x.E.length<=y.E.length+1
theorem Kept.fresh {p:Int}{n:Nat}(hn:∀g∈G,g.p≠p)(hk:w.heap.size<=n)(hm:Mm w' ti b (G++[⟨p,n,[(k,v)]⟩]))(hb:aj (·=b) w w'):Kept ti w w' b G p k v:=by
 refine⟨_,hm,λg hg=>?_,λq x=>⟨?_,?_⟩,hb.mono (λj e=>by subst e;exact List.mem_cons_self),λx hx=>?_⟩
 ·rcases List.mem_append.1 hg with hg|hg
  ·exact .inl (List.mem_map.2 ⟨g,hg,rfl⟩)
  ·rw [List.mem_singleton.1 hg]
   exact .inr hk
 ·rintro ⟨g,hg,e,hx⟩
  rcases List.mem_append.1 hg with hg|hg
  ·exact .inr ⟨⟨g,hg,e,hx⟩,λh=>hn g hg (e.trans h.1)⟩
  ·rw [List.mem_singleton.1 hg] at e hx
   simp at hx
   exact .inl ⟨e.symm,hx⟩
 ·rintro (⟨rfl,rfl⟩|⟨⟨g,hg,e,hx⟩,-⟩)
  ·exact⟨_,List.mem_append.2 (.inr (List.mem_singleton.2 rfl)),rfl,by simp⟩
  ·exact⟨g,List.mem_append.2 (.inl hg),e,hx⟩
 ·rcases List.mem_append.1 hx with hx|hx
  ·exact .inr ⟨x,hx,by omega⟩
  ·rw [List.mem_singleton.1 hx]
   exact .inl (Nat.le_refl _)
theorem Kept.there {W:World}{G':List Im}{g:Im}(hB:Below w.heap.size w W)(hg:g∈G)(hm:Mm w' ti b G')(he:G'.map Im.b=G.map Im.b)(hin:∀p x,In G' p x↔(p=g.p/\x=(k,v))\/(In G p x/\¬(p=g.p/\x.1=k)))(hb:aj (·=g.b) W w')(hz:∀x∈G',∃y∈G,x.E.length<=y.E.length+1):Kept ti w w' b G g.p k v :=
 ⟨G',hm,λx hx=>.inl (by rw [<-he];exact List.mem_map.2 ⟨x,hx,rfl⟩),hin,((aj.of hB).trans hb).mono (λj e=>by subst e;exact List.mem_cons_of_mem _ (List.mem_map.2 ⟨g,hg,rfl⟩)),λx hx=>.inr (hz x hx)⟩
theorem pV (b:Nat)(G:List Im)(g:Im)(F:List Nat)(v:Option Addr)(hl:F.length=24)(hs:∀x∈F,x<256)(w:World)(h:Mm w 249 b G)(hg:g∈G) :
  Calls Tryz.prog 253 #[.map (some b),ab g.p,dk F,.pointer v] w λe w'=>e=.returned (.tuple #[])/\Kept 249 w w' b G g.p (dk F) (.pointer v):=by
 obtain⟨W,hW⟩:∃W,W=w.alloc (Obj.cells (aN F).toArray 249):=⟨_,rfl⟩
 have hB:Below w.heap.size w W:=by rw [hW];exact ag _ _
 have r1:(Instr.lookup 159 (.map (some b)) (ab g.p) false).run Tryz.prog W=.ok (.map (some g.b)) W:=(h.later hB).out.vL dy Tryz.underlying159 (List.mem_map.2 ⟨g,hg,rfl⟩) false
 obtain⟨w2,G',r2,m2,e2,hin,b2,hz2⟩:=(h.later hB).put A1 Tryz.underlying376 hg (uc hl hs) (.pointer v)
 have O4:Hid ((Instr.loadAt 249 (aq w.heap.size)).run Tryz.prog W=.ok (dk F) W):=by rw [hW];exact j6 (bA w (aN F) _) (by rw [ao];exact hl)
 have PB:=ae r1
 have Pp:=ae r2
 have HM:Hid (Kept 249 w w2 b G g.p (dk F) (.pointer v)):=Kept.there hB hg m2 e2 hin b2 hz2
 have HW:=ae hW
 obtain⟨gp,gb,gE⟩:=g
 simp only at PB Pp HM ⊢
 have hnil:=Gp gb W
 clear r1 r2 m2 b2 hW hB h hg e2 hin hz2 hs;go_enter Tryz.func253,Tryz.ntmps253
 go_upto_region 1 with fail
 rw [<-HW.out];go_wp2_with (first|((with_reducible refine bF PB.out ?_ ?_ ?_);(· rfl);(· rfl))|((with_reducible refine aJ O4.out ?_ ?_);(· rfl))|((with_reducible refine dX Pp.out ?_ ?_ ?_ ?_);(· rfl);(· rfl);(· rfl)))
 exact bodyPost_end (v:=.tuple #[]) (by simp [results,Tryz.results253,go_sem]) rfl ⟨rfl,HM.out⟩
theorem re (b:Nat)(G:List Im)(g:Im)(hi lo:Nat)(t:Tn)(h1:nv hi)(h2:nv lo)(w:World)(h:Mm w 30 b G)(hg:g∈G) :
  Calls Tryz.prog 252 #[.map (some b),ab g.p,jj hi lo,t.v] w λe w'=>e=.returned (.tuple #[])/\Kept 30 w w' b G g.p (jj hi lo) (t.v):=by
 obtain⟨W,hW⟩:∃W,W=(w.alloc (Obj.cells #[ai (hi:Int),ai (lo:Int)] 30)).alloc (Obj.cells #[ai (t.h:Int),ai (t.l:Int),ai (t.ph:Int),ai (t.pl:Int),ab t.r,ab t.s] 244):=⟨_,rfl⟩
 have hB:Below w.heap.size w W:=by rw [hW];exact aB _ _ _
 have r1:(Instr.lookup 156 (.map (some b)) (ab g.p) false).run Tryz.prog W=.ok (.map (some g.b)) W:=(h.later hB).out.vL dy Tryz.underlying156 (List.mem_map.2 ⟨g,hg,rfl⟩) false
 obtain⟨w2,G',r2,m2,e2,hin,b2,hz2⟩:=(h.later hB).put BL Tryz.underlying258 hg (uB h1 h2) (t.v)
 have O4:Hid ((Instr.loadAt 30 (aq w.heap.size)).run Tryz.prog W=.ok (jj hi lo) W):=by
  have hx:Bx W w.heap.size [ai (hi:Int),ai (lo:Int)]:=by rw [hW];exact (Bx.new w [ai (hi:Int),ai (lo:Int)] _).later (ag _ _)
  exact Ga hx.range rfl
 have Sm:Hid ((Instr.loadAt 244 (.pointer (some ⟨w.heap.size+1,0,none⟩))).run Tryz.prog W=.ok t.v W):=by
  have hx:Bx W (w.heap.size+1) t.L:=by rw [hW];have:=Bx.new (w.alloc (Obj.cells #[ai (hi:Int),ai (lo:Int)] 30)) t.L 244;simp at this;exact this
  exact Fe hx.range rfl
 have PB:=ae r1
 have Pp:=ae r2
 have HM:Hid (Kept 30 w w2 b G g.p (jj hi lo) (t.v)):=Kept.there hB hg m2 e2 hin b2 hz2
 have HW:=ae hW
 obtain⟨gp,gb,gE⟩:=g
 simp only at PB Pp HM ⊢
 have hnil:=G8 gb W
 clear r1 r2 m2 b2 hW hB h hg e2 hin hz2 h1 h2;go_enter Tryz.func252,Tryz.ntmps252
 go_upto_region 1 with fail
 rw [<-HW.out];go_wp2_with (first|((with_reducible refine bF PB.out ?_ ?_ ?_);(· rfl);(· rfl))|((with_reducible refine aJ O4.out ?_ ?_);(· rfl))|((with_reducible refine aJ Sm.out ?_ ?_);(· rfl))|((with_reducible refine dX Pp.out ?_ ?_ ?_ ?_);(· rfl);(· rfl);(· rfl)))
 exact bodyPost_end (v:=.tuple #[]) (by simp [results,Tryz.results252,go_sem]) rfl ⟨rfl,HM.out⟩
theorem qj (b:Nat)(G:List Im)(g:Im)(i:Int)(v:Option Addr)(hi:bQ i)(w:World)(h:Mm w 3 b G)(hg:g∈G) :
  Calls Tryz.prog 180 #[.map (some b),ab g.p,ab i,.pointer v] w λe w'=>e=.returned (.tuple #[])/\Kept 3 w w' b G g.p (ab i) (.pointer v):=by
 obtain⟨W,hW⟩:∃W,W=w:=⟨_,rfl⟩
 have hB:Below w.heap.size w W:=by rw [hW];exact Below.refl _ _
 have r1:(Instr.lookup 158 (.map (some b)) (ab g.p) false).run Tryz.prog W=.ok (.map (some g.b)) W:=(h.later hB).out.vL dy Tryz.underlying158 (List.mem_map.2 ⟨g,hg,rfl⟩) false
 obtain⟨w2,G',r2,m2,e2,hin,b2,hz2⟩:=(h.later hB).put dy Tryz.underlying267 hg (gS hi) (.pointer v)
 have PB:=ae r1
 have Pp:=ae r2
 have HM:Hid (Kept 3 w w2 b G g.p (ab i) (.pointer v)):=Kept.there hB hg m2 e2 hin b2 hz2
 have HW:=ae hW
 obtain⟨gp,gb,gE⟩:=g
 simp only at PB Pp HM ⊢
 have hnil:=Gz gb W
 clear r1 r2 m2 b2 hW hB h hg e2 hin hz2 hi;go_enter Tryz.func180,Tryz.ntmps180
 have hWw:=HW.out
 subst hWw;go_wp2_with (first|((with_reducible refine bF PB.out ?_ ?_ ?_);(· rfl);(· rfl))|((with_reducible refine dX Pp.out ?_ ?_ ?_ ?_);(· rfl);(· rfl);(· rfl)))
 exact bodyPost_end (v:=.tuple #[]) (by simp [results,Tryz.results180,go_sem]) rfl ⟨rfl,HM.out⟩
theorem qn (b:Nat)(G:List Im)(p i:Int)(v:Option Addr)(w:World)(h:Mm w 3 b G)(hp:bQ p)(hi:bQ i)(hn:∀g∈G,g.p≠p) :
  Calls Tryz.prog 180 #[.map (some b),ab p,ab i,.pointer v] w λe w'=>e=.returned (.tuple #[])/\∃k,w.heap.size<=k/\Mm w' 3 b (G++[⟨p,k,[(ab i,.pointer v)]⟩])/\aj (·=b) w w':=by
 obtain⟨m,hm,h0,-⟩:=h.look dy Tryz.underlying158 Tryz.underlying267 xw Ba hp (gS hi) (r:=none) (λg hg e=>absurd e (hn g hg))
 obtain rfl:m=none:=by
  cases m with
  | none=>rfl
  | some k=>obtain⟨g,hg,e,_⟩:=hm;exact absurd e (hn g hg)
 obtain⟨w1,w2,r1,r2,r3,m2,b2,s1,b1⟩:=h.fresh dy Tryz.underlying158 Tryz.underlying267 hp hn (gS hi) (.pointer v)
 have H0:=ae h0
 have PB:=ae r1
 have Pp:=ae r2
 have PW:=ae r3
 have HM:=ae m2
 have OQ:=ae b2
 have hmk:=dq Tryz.underlying267 w
 have hnil:=IM w
 clear h0 r1 r2 r3 m2 b2 s1 b1 h hn hm;go_enter Tryz.func180,Tryz.ntmps180
 go_wp2_with (first|((with_reducible refine bF H0.out ?_ ?_ ?_);(· rfl);(· rfl))|((with_reducible refine dX PB.out ?_ ?_ ?_ ?_);(· rfl);(· rfl);(· rfl))|((with_reducible refine bF Pp.out ?_ ?_ ?_);(· rfl);(· rfl))|((with_reducible refine dX PW.out ?_ ?_ ?_ ?_);(· rfl);(· rfl);(· rfl)))
 exact bodyPost_end (v:=.tuple #[]) (by simp [results,Tryz.results180,go_sem]) rfl ⟨rfl,_,Nat.le_refl _,HM.out,OQ.out⟩
theorem vu (b:Nat)(G:List Im)(p:Int)(F:List Nat)(v:Option Addr)(hl:F.length=24)(hs:∀x∈F,x<256)(w:World)(h:Mm w 249 b G)(hp:bQ p) :
  Calls Tryz.prog 253 #[.map (some b),ab p,dk F,.pointer v] w λe w'=>e=.returned (.tuple #[])/\Kept 249 w w' b G p (dk F) (.pointer v):=by
 by_cases hx:∃g∈G,g.p=p
 ·obtain⟨g,hg,rfl⟩:=hx
  exact pV b G g F v hl hs w h hg
 ·have hn:∀g∈G,g.p≠p:=λg hg e=>hx ⟨g,hg,e⟩
  refine (jS b G p F v w h hp hl hs hn).mono ?_
  rintro e w' ⟨rfl,k,hk,hm,hb⟩
  exact⟨rfl,Kept.fresh hn hk hm hb⟩
theorem vo (b:Nat)(G:List Im)(p:Int)(hi lo:Nat)(t:Tn)(h1:nv hi)(h2:nv lo)(w:World)(h:Mm w 30 b G)(hp:bQ p) :
  Calls Tryz.prog 252 #[.map (some b),ab p,jj hi lo,t.v] w λe w'=>e=.returned (.tuple #[])/\Kept 30 w w' b G p (jj hi lo) (t.v):=by
 by_cases hx:∃g∈G,g.p=p
 ·obtain⟨g,hg,rfl⟩:=hx
  exact re b G g hi lo t h1 h2 w h hg
 ·have hn:∀g∈G,g.p≠p:=λg hg e=>hx ⟨g,hg,e⟩
  refine (j4 b G p hi lo t w h hp h1 h2 hn).mono ?_
  rintro e w' ⟨rfl,k,hk,hm,hb⟩
  exact⟨rfl,Kept.fresh hn hk hm hb⟩
theorem uS (b:Nat)(G:List Im)(p:Int)(i:Int)(v:Option Addr)(hi:bQ i)(w:World)(h:Mm w 3 b G)(hp:bQ p) :
  Calls Tryz.prog 180 #[.map (some b),ab p,ab i,.pointer v] w λe w'=>e=.returned (.tuple #[])/\Kept 3 w w' b G p (ab i) (.pointer v):=by
 by_cases hx:∃g∈G,g.p=p
 ·obtain⟨g,hg,rfl⟩:=hx
  exact qj b G g i v hi w h hg
 ·have hn:∀g∈G,g.p≠p:=λg hg e=>hx ⟨g,hg,e⟩
  refine (qn b G p i v w h hp hi hn).mono ?_
  rintro e w' ⟨rfl,k,hk,hm,hb⟩
  exact⟨rfl,Kept.fresh hn hk hm hb⟩
theorem nQ (b:Nat)(G:List Im)(p i:Int)(r:Option Value)(w:World)(h:Mm w 3 b G)(hp:bQ p)(hi:bQ i)(hr:Gt G p (ab i) r) :
  Calls Tryz.prog 179 #[.map (some b),ab p,ab i] w λe w'=>e=.returned (.tuple #[r.getD (.pointer none),.bool r.isSome])/\w'=w:=by
 obtain⟨m,-,h1,h2⟩:=h.look dy Tryz.underlying158 Tryz.underlying267 xw Ba hp (gS hi) hr
 have H1:=ae h1
 have H2:=ae h2
 clear h1 h2 h hr;go_enter Tryz.func179,Tryz.ntmps179
 go_wp2_with (first|((with_reducible refine bF H1.out ?_ ?_ ?_);(· rfl);(· rfl))|((with_reducible refine bF H2.out ?_ ?_ ?_);(· rfl);(· rfl)))
 exact bodyPost_ret (v:=.tuple #[r.getD (.pointer none),.bool r.isSome]) (by simp [results,Tryz.results179,go_sem]) rfl ⟨rfl,rfl⟩
end Go.Proofs.YtmhinfbkmjdgfaaGreatDoor.B
namespace Go.Proofs.YtmhinfbkmjdgfaaGreatDoor.B
open Go.RowKit
variable {P:Nat->Prop}
variable {m:Bm}{p:Int}{L':List Im}{S:Nat->Prop}{v:Value}{w w':World}
theorem Kept.fh {ti:TypeId}{U:World}{b:Nat}{G:List Im}{k:Value}(hB:Below w.heap.size w U)(h:Kept ti U w' b G p k v):Kept ti w w' b G p k v:=by
 obtain⟨G',h1,h2,h3,h4,h5⟩:=h
 exact⟨G',h1,λg hg=>(h2 g hg).imp id (Nat.le_trans hB.size),h3,(aj.of hB).trans h4,h5⟩
theorem Bk.turn {m':Bm}{B:Bv}(h:Bk P w m B)(hb:Bw w' m')(ht:Tr w w' m m'):Vw Gg (RT P w') bQ m.A B.laid/\Vw dk (RT P w') G7 m.T B.told :=
 ⟨h.laid.mono (λv a hr=>hr.but h.bw ht.bt (λ_ h=>h)),h.told.mono (λv a hr=>hr.but h.bw ht.bt (λ_ h=>h))⟩
theorem Bk.oV {B:Bv}{f:Int->Nat×Nat->Option Tn}{q:Nat}(h:Bk P w m B)(hb:aj S w w')(hS:∀j,S j->j∈kk m.bl m.L)(hM:Mm w' 30 m.bl L')(hn:∀g∈L',g.b∈m.L.map Im.b\/w.heap.size<=g.b)(hv:Vw Gm RL C8 L' f)(hq:∀g∈L',g.E.length<=q):Bk P w' { m with L:=L' } { B with live:=f,ct:=q }/\Tr w w' m { m with L:=L' }:=by
 obtain⟨h1,h2⟩:=h.bw.oV hb hS hM hn
 obtain⟨h3,h4⟩:=h.turn h1 h2
 exact⟨⟨h1,h.n,hv,h3,h4,h.lists,h.known,h.Df,hq,λk hk=>h.pn k (Nat.le_trans hb.size hk)⟩,h2⟩
theorem Bk.kH {B:Bv}{f:Int->Int->Option (List Lk)}(h:Bk P w m B)(hb:aj S w w')(hS:∀j,S j->j∈kk m.ba m.A)(hM:Mm w' 3 m.ba L')(hn:∀g∈L',g.b∈m.A.map Im.b\/w.heap.size<=g.b)(hv:Vw Gg (RT P w') bQ L' f):Bk P w' { m with A:=L' } { B with laid:=f }/\Tr w w' m { m with A:=L' }:=by
 obtain⟨h1,h2⟩:=h.bw.kH hb hS hM hn
 obtain⟨h3,h4⟩:=h.turn h1 h2
 exact⟨⟨h1,h.n,h.live,hv,h4,h.lists,h.known,h.Df,h.jU,λk hk=>h.pn k (Nat.le_trans hb.size hk)⟩,h2⟩
theorem Kept.live {B:Bv}(h:Bk P w m B){k:Nat×Nat}{t:Tn}(hk:Kept 30 w w' m.bl m.L p (Gm k) t.v)(ho:C8 k)(ht:RL t.v t):∃m',Bk P w' m' { B with live:=dN B.live p k (some t),ct:=B.ct+1 }/\Tr w w' m m':=by
 obtain⟨G',h1,h2,h3,h4,h5⟩:=hk
 exact⟨_,h.oV h4 (λ_ h=>h) h1 h2 (h.live.put h3 (λj _ e=>Aa e) ho ht (λj e=>Aa e)) (λg hg=>(h5 g hg).elim (λh=>by omega) (λ⟨y,hy,hl⟩=>by have:=h.jU y hy;omega))⟩
theorem Kept.laid {B:Bv}(h:Bk P w m B){i:Int}{ls:List Lk}(hk:Kept 3 w w' m.ba m.A p (Gg i) v)(ho:bQ i)(ht:RT P w v ls):∃m',Bk P w' m' { B with laid:=dN B.laid p i (some ls) }/\Tr w w' m m':=by
 obtain⟨G',h1,h2,h3,h4,h5⟩:=hk
 have hS:∀j,j∈kk m.ba m.A->cA m j:=λj hj=>.inl (List.mem_append.2 (.inr (List.mem_append.2 (.inr (gj hj)))))
 exact⟨_,h.kH h4 (λ_ h=>h) h1 h2 ((h.laid.mono (λv a hr=>hr.but h.bw h4 hS)).put h3 (λj _ e=>oA e) ho (ht.but h.bw h4 hS) (λj e=>oA e))⟩
theorem oe (m:Bm)(B:Bv)(c:Cp)(hc:c.eY)(ph pl:Nat)(r:Int)(w:World)(h:Bk P w m B)(h1:nv ph)(h2:nv pl)(hr:bQ r)(hnn:bQ B.n) :
  Calls Tryz.prog 173 #[aq m.g,dw c,jj ph pl,ab r] w λe w'=>e=.returned (.tuple #[])/\∃m',Bk P w' m' { B with live:=dN B.live c.o (c.h,c.l) (some ⟨c.h,c.l,ph,pl,r,B.n⟩),ct:=B.ct+1 }/\Tr w w' m m':=by
 obtain⟨o,ch,cl⟩:=c
 obtain⟨W,hW⟩:∃W,W=(w.alloc (Obj.cells #[ab o,ai (ch:Int),ai (cl:Int)] 37)).alloc (Obj.cells #[ai (ph:Int),ai (pl:Int)] 30):=⟨_,rfl⟩
 have hB:Below w.heap.size w W:=by rw [hW];exact aB _ _ _
 have hBW:=h.bw.later hB
 have OK:Hid (Bx W w.heap.size [ab o,ai (ch:Int),ai (cl:Int)]):=by rw [hW];exact (Bx.new w [ab o,ai (ch:Int),ai (cl:Int)] _).later (ag _ _)
 have OL:Hid (Bx W (w.heap.size+1) [ai (ph:Int),ai (pl:Int)]):=by rw [hW];have:=Bx.new (w.alloc (Obj.cells #[ab o,ai (ch:Int),ai (cl:Int)] 37)) [ai (ph:Int),ai (pl:Int)] 30;simp at this;exact this
 have HK:Hid (∀U,Below W.heap.size W U->Calls Tryz.prog 252 #[.map (some m.bl),ab o,jj ch cl,Tn.v ⟨ch,cl,ph,pl,r,m.n⟩] U λe w'=>e=.returned (.tuple #[])/\Kept 30 U w' m.bl m.L o (jj ch cl) (Tn.v ⟨ch,cl,ph,pl,r,m.n⟩)):=λU hU=>vo m.bl m.L o ch cl ⟨ch,cl,ph,pl,r,m.n⟩ hc.2.1 hc.2.2 U (hBW.live.later hU) hc.1
 have O8:=ae hBW
 have HB:=ae hB
 have HW:=ae hW
 have HH:=ae h
 have HS:Hid (∀U,aj (λj=>j∈kk m.bl m.L) W U->(U.rangeAt m.g 0 m.cells/\U.rangeAt w.heap.size 0 [ab o,ai (ch:Int),ai (cl:Int)]/\U.rangeAt (w.heap.size+1) 0 [ai (ph:Int),ai (pl:Int)])):=λU hU=>by
  have hd:=List.nodup_append.1 h.bw.cr
  exact⟨(hBW.bx.but hU (λhj=>hd.2.2 m.g hj m.g (by simp) rfl)).range,(OK.out.but hU (λhj=>by have:=h.bw.live.lt _ hj;omega)).range,(OL.out.but hU (λhj=>by have:=h.bw.live.lt _ hj;omega)).range⟩
 have Wl:Hid (RL (Tn.v ⟨ch,cl,ph,pl,r,m.n⟩) ⟨ch,cl,ph,pl,r,m.n⟩/\C8 (ch,cl)):=⟨⟨rfl,hc.2.1,hc.2.2,h1,h2,hr,by rw [h.n];exact hnn⟩,hc.2.1,hc.2.2⟩
 clear hBW hB hW h hc h1 h2 hr hnn;go_enter Tryz.func173,Tryz.ntmps173
 go_upto_region 1 with fail
 rw [<-HW.out];refine wp_region_held_drew (S:=(λU:World=>U.rangeAt m.g 0 m.cells/\U.rangeAt w.heap.size 0 [ab o,ai (ch:Int),ai (cl:Int)]/\U.rangeAt (w.heap.size+1) 0 [ai (ph:Int),ai (pl:Int)])) (by kernel_rfl) (HS.out _ (aj.of (Below.refl _ _).drew)) (λhHeld=>?_)
 refine nm 18 0 18 ?_
 refine tn 0 18 1 17 ?_
 simp only [zz];refine tn 1 18 3 16 ?_
 simp only [zz];refine tn 2 18 7 15 ?_
 simp only [zz];refine wpAnyH_take (i:=3) (oi:=_) (v:=?_) rfl (by kernel_rfl) (by kernel_rfl) (by kernel_rfl) (λ_ _ _ h=>h) (Or.inl ⟨by rfl,?_⟩) (by assumption) ?_
 rotate_left
 ·(intro w hSw;have z1:=aG (j:=1) hSw.1 rfl;go_simp;try with_reducible rfl)
 simp only [zz];refine nm 18 15 14 ?_
 refine tn 4 18 31 13 ?_
 simp only [zz];refine wpAnyH_take (i:=5) (oi:=_) (v:=?_) rfl (by kernel_rfl) (by kernel_rfl) (by kernel_rfl) (λ_ _ _ h=>h) (Or.inl ⟨by rfl,?_⟩) (by assumption) ?_
 rotate_left
 ·(intro w hSw;have z0:=aG (j:=0) hSw.2.1 rfl;go_simp;try with_reducible rfl)
 simp only [zz];refine nm 18 63 12 ?_
 refine tn 6 18 127 11 ?_
 simp only [zz];refine wpAnyH_take (i:=7) (oi:=_) (v:=?_) rfl (by kernel_rfl) (by kernel_rfl) (by kernel_rfl) (λ_ _ _ h=>h) (Or.inl ⟨by rfl,?_⟩) (by assumption) ?_
 rotate_left
 ·(intro w hSw;have z1:=aG (j:=1) hSw.2.1 rfl;have z2:=aG (j:=2) hSw.2.1 rfl;go_simp;try with_reducible rfl)
 simp only [zz];refine nm 18 255 10 ?_
 refine tn 8 18 511 9 ?_
 simp only [zz];refine wpAnyH_take (i:=9) (oi:=_) (v:=?_) rfl (by kernel_rfl) (by kernel_rfl) (by kernel_rfl) (λ_ _ _ h=>h) (Or.inl ⟨by rfl,?_⟩) (by assumption) ?_
 rotate_left
 ·(intro w hSw;have z1:=aG (j:=1) hSw.2.1 rfl;have z2:=aG (j:=2) hSw.2.1 rfl;go_simp;try with_reducible rfl)
 simp only [zz];refine nm 18 1023 8 ?_
 refine wpAnyH_take (i:=10) (oi:=_) (v:=?_) rfl (by kernel_rfl) (by kernel_rfl) (by kernel_rfl) (λ_ _ _ h=>h) (Or.inl ⟨by rfl,?_⟩) (by assumption) ?_
 rotate_left
 ·(intro w hSw;have z0:=aG (j:=0) hSw.2.2 rfl;have z1:=aG (j:=1) hSw.2.2 rfl;go_simp;try with_reducible rfl)
 simp only [zz];refine nm 18 2047 7 ?_
 refine tn 11 18 4095 6 ?_
 simp only [zz];refine tn 12 18 8191 5 ?_
 simp only [zz];refine tn 13 18 16383 4 ?_
 simp only [zz];refine tn 14 18 32767 3 ?_
 simp only [zz];refine wpAnyH_take (i:=15) (oi:=_) (v:=?_) rfl (by kernel_rfl) (by kernel_rfl) (by kernel_rfl) (λ_ _ _ h=>h) (Or.inl ⟨by rfl,?_⟩) (by assumption) ?_
 rotate_left
 ·(intro w hSw;have z0:=aG (j:=0) hSw.1 rfl;go_simp;try with_reducible rfl)
 simp only [zz];refine nm 18 65535 2 ?_
 refine tn 16 18 131071 1 ?_
 simp only [zz];refine zr 17 λK hK=>?_
 go_simp
 go_wp2_with (first|(go_at_call 252;refine (HK.out _ (Below.refl _ _).drew).mono ?_;rintro e w1 ⟨rfl,hk⟩))
 have Uz:=ae hk
 have QP:Hid (aj (λj=>j∈kk m.bl m.L) W w1):=by obtain⟨G,_,_,_,hb,_⟩:=hk;exact (aj.of (Below.refl _ _).drew).trans hb
 clear hk;refine zk hK 18 262143 0 (HS.out _ QP.out) λhHeld=>?_
 clear hK K;try simp only [zz]
 refine zn ?_ _
 go_wp2;have hfin:=Kept.live HH.out (k:=(ch,cl)) ((Uz.out.fh (Below.refl _ _).drew).fh HB.out) Wl.out.2 Wl.out.1
 rw [HH.out.n] at hfin;exact bodyPost_end (v:=.tuple #[]) (by simp [results,Tryz.results173,go_sem]) rfl ⟨rfl,hfin⟩
end Go.Proofs.YtmhinfbkmjdgfaaGreatDoor.B
