import Derived.Test.YtfmhdimaijimlaaGreatDoorG30
set_option linter.unusedVariables false
set_option linter.unusedSimpArgs false
set_option maxRecDepth 1000000
set_option maxHeartbeats 8000000
namespace Go.Proofs.YtfmhdimaijimlaaGreatDoor.V
open Go.RowKit
open Go.Proofs.YtfmhdimaijimlaaGreatDoor.H (B64 Cp)
section
variable {w w':World}{H:Hd}{s s':Sta}{d d':Nat→List K.Pu}{N:Nat→Prop}
theorem pIds (h:Duo w H s d N):Calls Tryz.prog 69 #[.pointer (some ⟨H.z.s,0,none⟩)] w fun e w'=>∃a cap,e=.returned (.slice a s.V.length cap)∧Own w' w.heap.size 3 a s.V.length cap (ints (s.V.map Prod.fst))∧Below w.heap.size w w':=by
 obtain⟨Os,hs,hv⟩:=h.st
 rw [←hv,S.vw_length,show (S.vw Os).map Prod.fst=Os.map S.Ob.id by simp [S.vw,Function.comp_def]]
 exact S.st_ids H.z s.nx Os w hs
theorem pSize (h:Duo w H s d N){id:Int}{l:List Nat}(hl:S.atV s.V id=some l)(hi:S.i64ok id):Calls Tryz.prog 119 #[.pointer (some ⟨H.z.s,0,none⟩),.int .i64 id] w fun e w'=>e=.returned (.tuple #[.int .i64 (l.length:Int),.bool true])∧Below w.heap.size w w':=by
 obtain⟨Os,hs,hv⟩:=h.st
 rw [←hv,S.vw_at] at hl
 have:=S.st_size H.z s.nx Os id w hs hi
 cases ho:S.at? Os id with
 | none=>rw [ho] at hl;cases hl
 | some o =>
  rw [ho] at hl this
  cases hl
  exact this
theorem pBig (h:Duo w H s d N){id:Int}{l:List Nat}(hl:S.atV s.V id=some l):l.length≤4096:=by
 obtain⟨Os,hs,hv⟩:=h.st
 rw [←hv,S.vw_at] at hl
 obtain⟨t,B,hs⟩:=hs
 cases ho:S.at? Os id with
 | none=>rw [ho] at hl;cases hl
 | some o =>
  rw [ho] at hl
  cases hl
  exact hs.big o (S.at_mem ho).1
theorem pNumbers (h:Duo w H s d N)(hi:P.Iv H.pm s.px s.P):Calls Tryz.prog 72 #[.pointer (some ⟨H.pg,0,none⟩)] w fun e w'=>∃a cap,e=.returned (.slice a s.P.length cap)∧Own w' w.heap.size 3 a s.P.length cap (ints s.P)∧Below w.heap.size w w':=by
 obtain⟨pa,cap,h1⟩:=h.pr
 exact P.numb_any h1 hi
theorem pNextP (h:Duo w H s d N):Calls Tryz.prog 39 #[.pointer (some ⟨H.pg,0,none⟩)] w fun e w'=>e=.returned (.int .i64 s.px)∧w'=w:=by
 obtain⟨pa,cap,h1⟩:=h.pr
 exact P.next_any h1
theorem pTaken (h:Duo w H s d N):Calls Tryz.prog 40 #[.pointer (some ⟨H.g,0,none⟩)] w fun e w'=>e=.returned (.int .i64 (s.t:Int))∧w'=w:=D.taken_any _ _ _ _ _ _ h.dr
def slN:Value→Nat
 | .slice _ n _=>n
 | _=>0
def ByRel (w2:World)(b0:Nat)(l:List Nat)(v:Value)(w':World):Prop :=
 ∃(m cap:Nat) (a:Option Addr),v=.slice a m cap∧m≤l.length∧Own w' b0 5 a m cap (S.u8s (l.take m))∧(∀j,Blk a j→j=b0∨w2.heap.size≤j)∧But (·=b0) w2 w'
theorem bytes_any (h:Duo w H s d N){id:Int}{l:List Nat}(hl:S.atV s.V id=some l)(hi:S.i64ok id) :
  Calls Tryz.prog 70 #[.pointer (some ⟨H.kb,0,none⟩),.int .i64 id] w fun e w'=>∃a cap,e=.returned (.slice a l.length cap)∧Own w' w.heap.size 5 a l.length cap (S.u8s l)∧Below w.heap.size w w':=by
 have hbig:=pBig h hl
 have HSz:=hid (pSize h hl hi)
 have HD:=hid h
 have HP:Hid (0<w.heap.size):=by have:=h.b0;unfold Hid;omega
 have HN:=hid (fun k hk=>h.new (k:=k) hk)
 have x11:=h.kb 11 _ rfl
 have HRd:Hid (∀U,Duo U H s d N→∀m k:Nat,k≤1024→m+k≤l.length→Calls Tryz.prog 111 #[.pointer (some ⟨H.z.s,0,none⟩),.int .i64 id,.int .i64 (m:Int),.int .i64 (k:Int)] U fun e w'=>∃a cap,e=.returned (.tuple #[.slice a k cap,.int .i64 0])∧Row w' a k cap (S.u8s ((l.drop m).take k))∧Below U.heap.size U w'):=fun U hU m k h1 h2=>by
  have:=pRead hU id m k hi
  have e1:S.rvE s.V id m k=0:=by unfold S.rvE;rw [hl];simp only [];rw [if_pos (by omega)]
  have e2:S.rvL s.V id m k=(l.drop m).take k:=by unfold S.rvL;rw [hl];simp only [];rw [if_pos (by omega)];simp
  have e3:((l.drop m).take k).length=k:=by simp;omega
  rw [e1,e2,e3] at this
  refine this.mono ?_
  rintro e w' ⟨a,cap,he,ho,hb⟩
  exact⟨a,cap,he,ho.read,hb⟩
 obtain⟨Z,hZs,hmk⟩:=S.make_room l.length (by omega)
 have HZs:=hid hZs
 obtain⟨n,hn⟩:∃n,n=l.length:=⟨_,rfl⟩
 have HL:=hid hn
 rw [←hn] at HSz HZs HRd hmk hbig
 rw [←hn]
 clear h hl hi hZs hn
 go_enter Tryz.func70,Tryz.ntmps70
 go_upto_region 2 with (first|(go_at_call 119;refine HSz.out.mono ?_;rintro e w1 ⟨rfl,hb1⟩;have HB1:=hid hb1;clear hb1))
 clear x11
 go_upto_region 3 with fail
 obtain⟨w2,hw2⟩:∃w2,w2=w1.alloc (Obj.cells Z 5):=⟨_,rfl⟩
 have HB2:Hid (Below w.heap.size w w2):=by rw [hw2];exact bc HB1.out (below1 _ _)
 have HO0:Hid (Own w2 w1.heap.size 5 (some ⟨w1.heap.size,0,none⟩) 0 n []):=by
  have:=World.ownsRow_made (base:=w1.heap.size) (size:=1) (e:=5) w1 Z n (by simp) (by unfold maxLen;omega) (by rw [HZs.out];omega)
  rw [hw2]
  exact⟨this,fun _ h=>(by cases h)⟩
 obtain⟨b0,hb0⟩:∃b0,b0=w1.heap.size:=⟨_,rfl⟩
 have HS2:Hid (w.heap.size≤b0∧b0<w2.heap.size):=by rw [hw2,hb0];exact⟨HB1.out.size,by simp⟩
 rw [←hb0] at HO0
 rw [←hw2,←hb0]
 have HB0:=hid hb0
 clear hw2 hmk hb0
 go_loopw [7] (ByRel w2 b0 l) (fun v _=>n - slN v)
 case atStart=>exact⟨0,n,_,rfl,Nat.zero_le _,HO0.out,fun j hj=>.inl (S.blk_at hj),But.refl _ _⟩
 case round =>
  obtain⟨m,cap,a,rfl,hm,hO,hBl,hBt⟩:=hrel
  have HO:=hid hO
  have HBl:=hid hBl
  have HBt:=hid hBt
  rw [←HL.out] at hm
  have HM:=hid hm
  have HDr:=hid ((HD.out.later HB2.out).but hBt (fun k hk e=>HN.out k (by have:=HS2.out;omega) hk) (fun e=>by have:=HS2.out;have:=HP.out;omega))
  have xs:=HDr.out.kb 11 _ rfl
  clear hO hBl hBt hm
  by_cases hlt:m<n
  ·have hd:decide ((m:Int)<(n:Int))=true:=decide_eq_true (by omega)
   obtain⟨k,hk⟩:∃k,k=min 1024 (n - m):=⟨_,rfl⟩
   have HMn:Hid (min (1024:Int) ((n:Int) - m)=(k:Int)):=by unfold Hid;omega
   have hk2:k≤1024∧m+k≤n∧0<k:=by omega
   have HK:=hid hk2
   clear hk hk2
   go_upto_region 5 with (first|(go_at_call 111;rw [HMn.out];refine (HRd.out wr HDr.out m k HK.out.1 HK.out.2.1).mono ?_;rintro e w6 ⟨a6,c6,rfl,hr6,hb6⟩;have HR6:=hid hr6;have HB6:=hid hb6;clear hr6 hb6))
   obtain⟨a',cap',w7,hrun,hO7,hG⟩:=S.append_bytes (HO.out.later HB6.out) HR6.out (by have:=HB6.out.size;have:=HBt.out.size;have:=HS2.out;omega) (by have:=HK.out;omega)
   have HRUN:=hid hrun
   have HO7:=hid hO7
   have HG:=hid hG
   clear hrun hO7 hG xs
   go_wp2_with (first|(at_builtin;refine wk_ rfl _ _ 39 rfl _ _ rfl rfl _ w7 HRUN.out ?_))
   have hBt6:=HBt.out.call HB6.out
   have hk2:=HK.out
   refine⟨⟨m+k,cap',a',rfl,by have:=HL.out;omega,?_,fun j hj=>?_,hBt6.comp HG.out.but (fun j hj=>?_)⟩,by simp [slN];omega⟩
   ·rw [List.take_add,S.u8s_append]
    exact HO7.out
   ·rcases HG.out.on j hj with h1|h1
    ·exact HBl.out j h1
    ·exact .inr (Nat.le_trans hBt6.size h1)
   ·exact HBl.out j hj
  ·obtain rfl:m=n:=by have:=HM.out;omega
   have hd:decide ((m:Int)<(m:Int))=false:=by simp
   clear xs
   go_wp2
   have hw:Below w.heap.size w wr:=But.below (S:=(·=b0)) HB2.out HBt.out (fun j hj=>by have:=HS2.out;omega)
   have ho:=HO.out
   rw [HL.out,List.take_length] at ho
   have hl:=HL.out
   subst hl
   exact bodyPost_ret (v:=.slice a l.length cap) (by simp [results,Tryz.results70,go_sem]) rfl ⟨a,cap,rfl,ho.mono (by have:=HS2.out;omega),hw⟩
end
section
variable {w w':World}{H:Hd}{s s':Sta}{d d':Nat→List K.Pu}{N:Nat→Prop}
structure Ev where
 id:Int
 vs:List Value
 len:Nat
 a:Option Addr
 cap:Nat
def Ev.c (o:Ev):List Value:=[.int .i64 o.id,.slice o.a o.len o.cap]
def evs (Q:List Ev):List Value:=Q.flatMap Ev.c
structure Two (w:World)(base:Nat)(E ty k:Nat)(a:Option Addr)(n cap:Nat)(Q:List Ev):Prop where
 row:Ow w base E 2 a n cap (evs Q)
 len:Q.length=n
 each:∀o∈Q,Ow w base ty k o.a o.len o.cap o.vs
 ap:Q.Pairwise (fun o p=>∀j,Blk o.a j→¬Blk p.a j)
 top:∀o∈Q,∀j,Blk o.a j→¬Blk a j
variable {base E ty k:Nat}{a:Option Addr}{n cap:Nat}{Q:List Ev}
def Two.B (a:Option Addr)(Q:List Ev)(j:Nat):Prop:=Blk a j∨∃o∈Q,Blk o.a j
theorem Two.nil (w:World)(base E ty k:Nat):Two w base E ty k none 0 0 []:=⟨Ow.nil _ _ _ _,rfl,fun o h=>(by cases h),List.Pairwise.nil,fun o h=>(by cases h)⟩
theorem Two.but {S:Nat→Prop}(h:Two w base E ty k a n cap Q)(hb:But S w w')(hn:∀j,Two.B a Q j→¬S j):Two w' base E ty k a n cap Q :=
 ⟨h.row.but hb (fun j hj=>hn j (.inl hj)),h.len,fun o ho=>(h.each o ho).but hb (fun j hj=>hn j (.inr ⟨o,ho,hj⟩)),h.ap,h.top⟩
theorem Two.later (h:Two w base E ty k a n cap Q)(hb:Below w.heap.size w w'):Two w' base E ty k a n cap Q:=h.but (S:=fun _=>False) (But.of hb) (fun _ _ h=>h)
theorem Two.mono (h:Two w base E ty k a n cap Q){b:Nat}(hb:b≤base):Two w b E ty k a n cap Q:=⟨h.row.mono hb,h.len,fun o ho=>(h.each o ho).mono hb,h.ap,h.top⟩
theorem Two.blk (h:Two w base E ty k a n cap Q):∀j,Two.B a Q j→base≤j∧j<w.heap.size:=fun j hj=>by
 rcases hj with hj|⟨o,ho,hj⟩
 ·exact h.row.blk j hj
 ·exact (h.each o ho).blk j hj
theorem Two.snoc (t:TypeId)(z:Value)(by_:Nat)(ht:Tryz.prog.underlying t=some (.slice E))(hinf:(Tryz.prog.info? E).map (fun i=>(i.zero,i.size,i.bytes))=some (some z,2,by_))(hzs:z.cells.size=2)(hby:0<by_)(hby2:by_≤1024)
  {U U':World} (h:Two U base E ty k a n cap Q) (hb:base≤U.heap.size) (hU:Below U.heap.size U U') (o:Ev) (ho:Ow U' U.heap.size ty k o.a o.len o.cap o.vs) (hn:n≤2048) :
  ∃a' c' w3,(Builtin.append_ #[t,t] t #[.slice a n cap,.slice (some ⟨U'.heap.size,0,none⟩) 1 1]).run Tryz.prog (U'.alloc (Obj.cells o.c.toArray E))=.ok (.slice a' (n+1) c') w3∧Two w3 base E ty k a' (n+1) c' (Q++[o])∧But (Blk a) U w3:=by
 have h':=h.later hU
 have hcr:=Cr.lit U' E o.c (fun u hu=>by simp only [Ev.c,List.mem_cons,List.not_mem_nil,or_false] at hu;rcases hu with rfl|rfl<;>rfl)
 obtain⟨a',c',w3,hrun,hO3,hG0⟩:=append_k t E z 2 by_ ht hinf hzs (by omega) hby (h'.row.later (below1 U' (Obj.cells o.c.toArray E))) hcr (by have:=hU.size;simp;omega) (by
  have:(n+1)*by_≤2049*1024:=Nat.mul_le_mul (by omega) hby2
  omega)
 have hG:=hG0.pre (below1 U' (Obj.cells o.c.toArray E))
 have hob:=fun j hj=>ho.blk j hj
 have hna:∀j,Blk a j→¬Blk o.a j:=fun j h1 h2=>by have:=(h.row.blk j h1).2;have:=(hob j h2).1;omega
 refine⟨a',c',w3,hrun,⟨?_,by simp [h.len],?_,?_,?_⟩,(But.of hU).trans hG.but⟩
 ·have e:evs (Q++[o])=evs Q++o.c:=by simp [evs]
  rw [e]
  exact hO3
 ·intro p hp
  rcases List.mem_append.1 hp with hp|hp
  ·exact (h'.each p hp).but hG.but (fun j hj hj2=>h.top p hp j hj hj2)
  ·rw [List.mem_singleton.1 hp]
   exact (ho.mono hb).but hG.but (fun j hj hj2=>hna j hj2 hj)
 ·rw [List.pairwise_append]
  refine⟨h.ap,List.pairwise_singleton _ _,fun p hp q hq j h1 h2=>?_⟩
  rw [List.mem_singleton.1 hq] at h2
  have:=((h.each p hp).blk j h1).2
  have:=(hob j h2).1
  omega
 ·intro p hp j h1 h2
  rcases hG.on j h2 with h3|h3
  ·rcases List.mem_append.1 hp with hp|hp
   ·exact h.top p hp j h1 h3
   ·rw [List.mem_singleton.1 hp] at h1
    exact hna j h3 h1
  ·rcases List.mem_append.1 hp with hp|hp
   ·have:=((h.each p hp).blk j h1).2
    have:=hU.size
    omega
   ·rw [List.mem_singleton.1 hp] at h1
    have:=(hob j h1).2
    omega
theorem info63:(Tryz.prog.info? 63).map (fun i=>(i.zero,i.size,i.bytes))=some (some (.agg #[.int .i64 0,.slice none 0 0]),2,32):=by kernel_rfl
theorem info59:(Tryz.prog.info? 59).map (fun i=>(i.zero,i.size,i.bytes))=some (some (.agg #[.int .i64 0,.slice none 0 0]),2,32):=by kernel_rfl
end
section
variable {w w':World}{H:Hd}{s s':Sta}{d d':Nat→List K.Pu}{N:Nat→Prop}
def Ev.key (o:Ev):Int×List Value×Nat:=(o.id,o.vs,o.len)
def obK (v:Int×List Nat):Int×List Value×Nat:=(v.1,S.u8s v.2,v.2.length)
theorem pVs (h:Duo w H s d N):s.V.length≤64∧(∀v∈s.V,1≤v.1∧v.1<s.nx∧S.i64ok v.1∧S.atV s.V v.1=some v.2)∧s.V.Pairwise (fun a b=>a.1<b.1):=by
 obtain⟨Os,⟨t,B,hs⟩,hv⟩:=h.st
 have hr:s.V.Pairwise (fun a b=>a.1<b.1):=by
  rw [←hv]
  unfold S.vw
  rw [List.pairwise_map]
  exact hs.rise
 refine⟨by rw [←hv,S.vw_length];exact Nat.le_trans hs.rm.1 hs.rm.2,fun v hm=>?_,hr⟩
 have hm':=hm
 rw [←hv] at hm'
 obtain⟨o,ho,rfl⟩:=List.mem_map.1 hm'
 have:=hs.ids o ho
 have:=hs.nx1
 refine⟨by simp only [];omega,by simp only [];omega,by unfold S.i64ok;simp only [];omega,?_⟩
 simp only [] at hm ⊢
 unfold S.atV
 obtain⟨i,hi,he⟩:=List.getElem_of_mem hm
 have key:s.V.find? (fun p=>decide (p.1=o.id))=some (o.id,o.data):=by
  rw [List.find?_eq_some_iff_getElem]
  refine⟨by simp,i,hi,he,fun j hj=>?_⟩
  have:=List.pairwise_iff_getElem.1 hr j i (by omega) hi hj
  rw [he] at this
  simp only [] at this
  simp
  omega
 rw [key]
 rfl
def ObRel (w1:World)(V:List (Int×List Nat))(v3 v12:Value)(w':World):Prop :=
 ∃(i c:Nat) (a:Option Addr) (Q:List Ev),v3=.slice a i c∧v12=.int .i64 (i:Int)∧i≤V.length∧Two w' w1.heap.size 63 5 1 a i c Q∧Q.map Ev.key=(V.take i).map obK∧Below w1.heap.size w1 w'
theorem objects_any (h:Duo w H s d N) :
  Calls Tryz.prog 35 #[.pointer (some ⟨H.kb,0,none⟩)] w fun e w'=>∃a c Q,e=.returned (.slice a s.V.length c)∧Two w' w.heap.size 63 5 1 a s.V.length c Q∧Q.map Ev.key=s.V.map obK∧Below w.heap.size w w':=by
 obtain⟨hV1,hV2,hV3⟩:=pVs h
 have HI:=hid (pIds h)
 have x11:=h.kb 11 _ rfl
 have HBy:Hid (∀U,Below w.heap.size w U→∀v∈s.V,Calls Tryz.prog 70 #[.pointer (some ⟨H.kb,0,none⟩),.int .i64 v.1] U fun e w'=>∃a cap,e=.returned (.slice a v.2.length cap)∧Own w' U.heap.size 5 a v.2.length cap (S.u8s v.2)∧Below U.heap.size U w'):=fun U hU v hv=>bytes_any (h.later hU) (hV2 v hv).2.2.2 (hV2 v hv).2.2.1
 generalize s.V=V at *
 obtain⟨n,hn⟩:∃n,n=V.length:=⟨_,rfl⟩
 have HL:=hid hn
 rw [←hn] at HI hV1
 rw [←hn]
 clear h hV2 hV3 hn
 go_enter Tryz.func35,Tryz.ntmps35
 go_upto_region 3 with (first|(go_at_call 69;refine HI.out.mono ?_;rintro e w1 ⟨ai,ci,rfl,hoi,hb1⟩;have HB1:=hid hb1;have HOi:=hid hoi;clear hb1 hoi))
 clear x11
 go_loopw [3,12] (ObRel w1 V) (fun _ v _=>n - S.ivN v)
 case atStart=>exact⟨0,0,none,[],rfl,rfl,Nat.zero_le _,Two.nil _ _ _ _ _,rfl,Below.refl _ _⟩
 case round =>
  obtain⟨i,c,a,Q,rfl,rfl,hi,hT,hQ,hB⟩:=hrel
  rw [←HL.out] at hi
  have HIn:=hid hi
  have HT:=hid hT
  have HQ:=hid hQ
  have HB:=hid hB
  clear hT hQ hB hi
  by_cases hlt:i<n
  ·have hd:decide ((i:Int)<(n:Int))=true:=decide_eq_true (by omega)
   obtain⟨v,hv⟩:∃v,V[i]?=some v:=⟨_,List.getElem?_eq_getElem (by have:=HL.out;omega)⟩
   obtain⟨g,rfl⟩:=HOi.out.form (by omega)
   have y:=(HOi.out.later HB.out).read.cells _ rfl i (.int .i64 v.1) (by simp [ints,hv])
   rw [aa_] at y
   have HV:=hid hv
   clear hv
   go_upto_region 5 with fail
   have HBv:=hid (HBy.out wr (bc HB1.out HB.out) v (List.mem_of_getElem? HV.out))
   go_wp2_with (first|(go_at_call 70;refine HBv.out.mono ?_;rintro e w6 ⟨a6,c6,rfl,ho6,hb6⟩;have hsn:=Two.snoc 49 _ 32 Tryz.underlying49 info63 rfl (by decide) (by decide) HT.out HB.out.size hb6 ⟨v.1,S.u8s v.2,v.2.length,a6,c6⟩ ho6.row (by omega);obtain⟨a',c',w7,hrun,hT7,hB7⟩:=hsn;simp only [Ev.c] at hrun;have HRUN:=hid hrun;have HT7:=hid hT7;have HB7:=hid hB7;clear hrun hT7 hB7 ho6 hb6)|(at_builtin;refine wk_ rfl _ _ 49 rfl _ _ rfl rfl _ w7 HRUN.out ?_))
   refine⟨⟨i+1,c',a',_,rfl,rfl,by have:=HL.out;omega,HT7.out,?_,But.below HB.out HB7.out (fun j hj=>(HT.out.row.blk j hj).1)⟩,by simp [S.ivN];omega⟩
   rw [List.map_append,HQ.out,List.take_add_one,HV.out]
   simp [obK,Ev.key]
  ·obtain rfl:i=n:=by have:=HIn.out;omega
   have hd:decide ((i:Int)<(i:Int))=false:=by simp
   go_wp2
   have hq:=HQ.out
   rw [HL.out,List.take_length] at hq
   exact bodyPost_ret (v:=.slice a i c) (by simp [results,Tryz.results35,go_sem]) rfl ⟨a,c,Q,rfl,HT.out.mono HB1.out.size,hq,bc HB1.out HB.out⟩
end
section
variable {w w':World}{H:Hd}{s s':Sta}{d d':Nat→List K.Pu}{N:Nat→Prop}
def prK (D:Int→List Cp)(i:Int):Int×List Value×Nat:=(i,caps (D i),(D i).length)
def PrRel (w1:World)(P:List Int)(D:Int→List Cp)(v3 v12:Value)(w':World):Prop :=
 ∃(i c:Nat) (a:Option Addr) (Q:List Ev),v3=.slice a i c∧v12=.int .i64 (i:Int)∧i≤P.length∧Two w' w1.heap.size 59 38 3 a i c Q∧Q.map Ev.key=(P.take i).map (prK D)∧Below w1.heap.size w1 w'
theorem processes_any (h:Duo w H s d N)(hf:KF H.p s) :
  Calls Tryz.prog 37 #[.pointer (some ⟨H.kb,0,none⟩)] w fun e w'=>∃a c Q,e=.returned (.slice a s.P.length c)∧Two w' w.heap.size 59 38 3 a s.P.length c Q∧Q.map Ev.key=s.P.map (prK s.D)∧Below w.heap.size w w':=by
 have hP1:s.P.length≤32:=by have:=hf.iv.len;have:=hf.iv.m2;omega
 have HI:=hid (pNumbers h hf.iv)
 have x14:=h.kb 14 _ rfl
 obtain⟨G,pa,cap,col,hli,-⟩:=h.li
 have HX:Hid (∀U,Below w.heap.size w U→U.cell? ⟨H.kb,15,none⟩=some (.map (some H.lg))∧∀i∈s.P,(Instr.lookup 85 (.map (some H.lg)) (.int .i64 i) false).run Tryz.prog U=.ok (.pointer (some ⟨G i,0,none⟩)) U):=fun U hU=>by
  refine⟨(h.later hU).kb 15 _ rfl,fun i hi=>?_⟩
  exact hli.lookU (But.of (S:=fun _=>False) hU) (fun h=>h) (by rw [hf.ks];exact hi) (hf.by64 hi)
 have HAl:Hid (∀U,Below w.heap.size w U→∀i∈s.P,Calls Tryz.prog 73 #[.pointer (some ⟨G i,0,none⟩)] U fun e w'=>∃p c,e=.returned (.slice p (s.D i).length c)∧Ow w' U.heap.size 38 3 p (s.D i).length c (caps (s.D i))∧Below U.heap.size U w'):=fun U hU i hi=>M.all_any ((hli.each i (by rw [hf.ks];exact hi)).later hU) (hf.len32 hi)
 generalize s.P=P at *
 generalize s.D=D at *
 obtain⟨n,hn⟩:∃n,n=P.length:=⟨_,rfl⟩
 have HL:=hid hn
 rw [←hn] at HI hP1
 rw [←hn]
 clear h hf hn hli
 go_enter Tryz.func37,Tryz.ntmps37
 go_upto_region 3 with (first|(go_at_call 72;refine HI.out.mono ?_;rintro e w1 ⟨ai,ci,rfl,hoi,hb1⟩;have HB1:=hid hb1;have HOi:=hid hoi;clear hb1 hoi))
 clear x14
 go_loopw [3,12] (PrRel w1 P D) (fun _ v _=>n - S.ivN v)
 case atStart=>exact⟨0,0,none,[],rfl,rfl,Nat.zero_le _,Two.nil _ _ _ _ _,rfl,Below.refl _ _⟩
 case round =>
  obtain⟨i,c,a,Q,rfl,rfl,hi,hT,hQ,hB⟩:=hrel
  rw [←HL.out] at hi
  have HIn:=hid hi
  have HT:=hid hT
  have HQ:=hid hQ
  have HB:=hid hB
  clear hT hQ hB hi
  by_cases hlt:i<n
  ·have hd:decide ((i:Int)<(n:Int))=true:=decide_eq_true (by omega)
   obtain⟨v,hv⟩:∃v,P[i]?=some v:=⟨_,List.getElem?_eq_getElem (by have:=HL.out;omega)⟩
   obtain⟨g,rfl⟩:=HOi.out.form (by omega)
   have y:=(HOi.out.later HB.out).read.cells _ rfl i (.int .i64 v) (by simp [ints,hv])
   rw [aa_] at y
   have HV:=hid hv
   clear hv
   go_upto_region 5 with fail
   have HBv:=hid (HAl.out wr (bc HB1.out HB.out) v (List.mem_of_getElem? HV.out))
   have hx:=HX.out wr (bc HB1.out HB.out)
   have x15:=hx.1
   have xl:=hx.2 v (List.mem_of_getElem? HV.out)
   clear hx
   go_wp2_with (first|(go_at_call 73;refine HBv.out.mono ?_;rintro e w6 ⟨a6,c6,rfl,ho6,hb6⟩;have hsn:=Two.snoc 51 _ 32 Tryz.underlying51 info59 rfl (by decide) (by decide) HT.out HB.out.size hb6 ⟨v,caps (D v),(D v).length,a6,c6⟩ ho6 (by omega);obtain⟨a',c',w7,hrun,hT7,hB7⟩:=hsn;simp only [Ev.c] at hrun;have HRUN:=hid hrun;have HT7:=hid hT7;have HB7:=hid hB7;clear hrun hT7 hB7 ho6 hb6)|(at_builtin;refine wk_ rfl _ _ 51 rfl _ _ rfl rfl _ w7 HRUN.out ?_))
   refine⟨⟨i+1,c',a',_,rfl,rfl,by have:=HL.out;omega,HT7.out,?_,But.below HB.out HB7.out (fun j hj=>(HT.out.row.blk j hj).1)⟩,by simp [S.ivN];omega⟩
   rw [List.map_append,HQ.out,List.take_add_one,HV.out]
   simp [prK,Ev.key]
  ·obtain rfl:i=n:=by have:=HIn.out;omega
   have hd:decide ((i:Int)<(i:Int))=false:=by simp
   go_wp2
   have hq:=HQ.out
   rw [HL.out,List.take_length] at hq
   exact bodyPost_ret (v:=.slice a i c) (by simp [results,Tryz.results37,go_sem]) rfl ⟨a,c,Q,rfl,HT.out.mono HB1.out.size,hq,bc HB1.out HB.out⟩
end
section
variable {w w':World}{H:Hd}{s s':Sta}{d d':Nat→List K.Pu}{N:Nat→Prop}
theorem toks_at:∀(M:List Tok) (j:Nat) (t:Tok),M[j]?=some t→∀k,k<5→(toks M)[j*5+k]?=(encT t)[k]?
 | [],j,t,h,k,hk=>by simp at h
 | x::M,0,t,h,k,hk=>by
  simp only [List.getElem?_cons_zero,Option.some.injEq] at h
  subst h
  simp only [toks,List.flatMap_cons]
  rw [List.getElem?_append_left (by simp [encT];omega)]
  simp
 | x::M,j+1,t,h,k,hk=>by
  rw [List.getElem?_cons_succ] at h
  have:=toks_at M j t h k hk
  simp only [toks,List.flatMap_cons] at this ⊢
  rw [List.getElem?_append_right (by simp [encT];omega),←this]
  congr 1
  simp [encT]
  omega
def shf (b:Nat)(t:Tok):Tok:=(t.1,t.2.1,if t.2.2=-1 then -1 else t.2.2+(b:Int))
def tkStep (mo:Nat)(X:List Tk)(l:Fo)(acc:List Tok)(id:Int):List Tok:=acc++(ofL mo X l id).map (shf acc.length)
def tkF (mo:Nat)(X:List Tk)(l:Fo)(ids:List Int):List Tok:=ids.foldl (tkStep mo X l) []
theorem tkF_snoc (mo:Nat)(X:List Tk)(l:Fo)(ids:List Int)(i:Int):tkF mo X l (ids++[i])=tkStep mo X l (tkF mo X l ids) i:=by unfold tkF;rw [List.foldl_append];rfl
theorem ofL_len {m:Nat}{X:List Tk}{l:Fo}(h:Inv m X l)(o:Int):(ofL m X l o).length≤m:=by
 unfold ofL
 split
 ·rw [ofF_len2];exact G_len h.ok _ _
 ·simp
theorem tkF_len {m:Nat}{X:List Tk}{l:Fo}(h:Inv m X l):∀ids:List Int,(tkF m X l ids).length≤ids.length*m:=by
 intro ids
 unfold tkF
 suffices ∀(ids:List Int) (acc:List Tok),(ids.foldl (tkStep m X l) acc).length≤acc.length+ids.length*m by simpa using this ids []
 intro ids
 induction ids with
 | nil=>simp
 | cons i ids ih =>
  intro acc
  rw [List.foldl_cons]
  refine Nat.le_trans (ih _) ?_
  have:=ofL_len h i
  simp only [tkStep,List.length_append,List.length_map,List.length_cons,Nat.add_mul,Nat.one_mul]
  omega
theorem ofL_par {m:Nat}{X:List Tk}{l:Fo}(h:Inv m X l)(o:Int){j:Nat}{t:Tok}(ht:(ofL m X l o)[j]?=some t):t.2.2=-1∨(0≤t.2.2∧t.2.2<(j:Int)):=by
 unfold ofL at ht
 split at ht
 ·rename_i r hr
  unfold rootOf at hr
  have hm:=List.find?_some hr
  simp only [decide_eq_true_eq] at hm
  have hl:=ofF_len2 X l m (G true l r)
  have hj:=(List.getElem?_eq_some_iff.1 ht).1
  have sp:=(ofF_spec (X:=X) h.ok hm.1 _ (Nat.le_refl _)).2 j ((G true l r)[j]'(by omega)) (by omega) (List.getElem?_eq_getElem (by omega))
  rw [List.take_length] at sp
  obtain⟨q,h1,h2⟩:=sp
  rw [ht] at h1
  cases h1
  rcases h2 with ⟨_,h2,_⟩|⟨_,p,h3,h4,_⟩
  ·exact .inl h2
  ·exact .inr ⟨by simp only [];omega,by simp only [];omega⟩
 ·simp at ht
theorem app5 {U U':World}{base:Nat}{a:Option Addr}{n c:Nat}{L:List Value}(hO:Ow U base 61 5 a n c L)(hb:base≤U.heap.size)(hU:Below U.heap.size U U')(x:Tok)(hn:n≤1048576) :
  ∃a' c' w3,(Builtin.append_ #[50,50] 50 #[.slice a n c,.slice (some ⟨U'.heap.size,0,none⟩) 1 1]).run Tryz.prog (U'.alloc (Obj.cells (encT x).toArray 61))=.ok (.slice a' (n+1) c') w3∧Ow w3 base 61 5 a' (n+1) c' (L++encT x)∧But (Blk a) U w3∧(∀j,Blk a' j→Blk a j∨U.heap.size≤j):=by
 have hcr:=Cr.lit U' 61 (encT x) (fun u hu=>by simp only [encT,List.mem_cons,List.not_mem_nil,or_false] at hu;rcases hu with rfl|rfl|rfl|rfl|rfl<;>rfl)
 obtain⟨a',c',w3,hrun,hO3,hG0⟩:=append_k 50 61 _ 5 40 Tryz.underlying50 info61 rfl (by omega) (by omega) ((hO.later hU).later (below1 U' (Obj.cells (encT x).toArray 61))) hcr (by have:=hU.size;simp;omega) (by omega)
 have hG:=hG0.pre (below1 U' (Obj.cells (encT x).toArray 61))
 refine⟨a',c',w3,hrun,hO3,(But.of hU).trans hG.but,fun j hj=>?_⟩
 rcases hG.on j hj with h1|h1
 ·exact .inl h1
 ·exact .inr (Nat.le_trans hU.size h1)
theorem pOf (h:Duo w H s d N)(o:Int):Calls Tryz.prog 71 #[.pointer (some ⟨H.A.g,0,none⟩),.int .i64 o] w fun e w'=>∃a c,e=.returned (.slice a (ofL H.mo s.X s.l o).length c)∧Ow w' w.heap.size 61 5 a (ofL H.mo s.X s.l o).length c (toks (ofL H.mo s.X s.l o))∧Below w.heap.size w w':=cof_any h.cat o
def TkRel (w1:World)(mo:Nat)(X:List Tk)(l:Fo)(ids:List Int)(v3 v15:Value)(w':World):Prop :=
 ∃(i c:Nat) (a:Option Addr) (L:List Tok),v3=.slice a L.length c∧v15=.int .i64 (i:Int)∧i≤ids.length∧L=tkF mo X l (ids.take i)∧Ow w' w1.heap.size 61 5 a L.length c (toks L)∧Below w1.heap.size w1 w'
def TiRel (w1 w5 w6:World)(L M:List Tok)(v3 v28:Value)(w':World):Prop :=
 ∃(j c:Nat) (a:Option Addr),v3=.slice a (L.length+j) c∧v28=.int .i64 (j:Int)∧j≤M.length∧Ow w' w1.heap.size 61 5 a (L.length+j) c (toks (L++(M.take j).map (shf L.length)))∧(∀k,Blk a k→k<w5.heap.size∨w6.heap.size≤k)∧But (fun k=>w1.heap.size≤k∧k<w5.heap.size) w6 w'
theorem tokens_any (h:Duo w H s d N)(hv:Inv H.mo s.X s.l) :
  Calls Tryz.prog 36 #[.pointer (some ⟨H.kb,0,none⟩)] w fun e w'=>∃a c,e=.returned (.slice a (tkF H.mo s.X s.l (s.V.map Prod.fst)).length c)∧Ow w' w.heap.size 61 5 a (tkF H.mo s.X s.l (s.V.map Prod.fst)).length c (toks (tkF H.mo s.X s.l (s.V.map Prod.fst)))∧Below w.heap.size w w':=by
 obtain⟨hV1,hV2,hV3⟩:=pVs h
 have HI:=hid (pIds h)
 have x11:=h.kb 11 _ rfl
 have HX:Hid (∀U,Below w.heap.size w U→U.cell? ⟨H.kb,12,none⟩=some (.pointer (some ⟨H.A.g,0,none⟩))):=fun U hU=>(h.later hU).kb 12 _ rfl
 have HOf:=hid (fun (U:World) (hU:Below w.heap.size w U) (o:Int)=>pOf (h.later hU) o)
 have HM:Hid (1≤H.mo∧H.mo≤256):=h.hmo
 have HV:=hid hv
 obtain⟨ids,hids⟩:∃ids,ids=s.V.map Prod.fst:=⟨_,rfl⟩
 have hil:ids.length=s.V.length:=by rw [hids];simp
 rw [←hids] at HI ⊢
 rw [←hil] at HI hV1
 obtain⟨n,hn⟩:∃n,n=ids.length:=⟨_,rfl⟩
 have HL:=hid hn
 rw [←hn] at HI hV1
 clear h hV2 hV3 hn hv hil hids
 go_enter Tryz.func36,Tryz.ntmps36
 go_upto_region 3 with (first|(go_at_call 69;refine HI.out.mono ?_;rintro e w1 ⟨ai,ci,rfl,hoi,hb1⟩;have HB1:=hid hb1;have HOi:=hid hoi;clear hb1 hoi))
 clear x11
 go_loopw [3,15] (TkRel w1 H.mo s.X s.l ids) (fun _ v _=>n - S.ivN v)
 case atStart=>exact⟨0,0,none,[],rfl,rfl,Nat.zero_le _,rfl,Ow.nil _ _ _ _,Below.refl _ _⟩
 case round =>
  obtain⟨i,c,a,L,rfl,rfl,hi,hL,hO,hB⟩:=hrel
  rw [←HL.out] at hi
  have HIn:=hid hi
  have HO:=hid hO
  have HLq:=hid hL
  have HB:=hid hB
  clear hO hL hB hi
  by_cases hlt:i<n
  ·have hd:decide ((i:Int)<(n:Int))=true:=decide_eq_true (by omega)
   have hLb:L.length≤16384:=by
    have h1:=tkF_len HV.out (ids.take i)
    rw [←HLq.out,List.length_take] at h1
    have h2:min i ids.length*H.mo≤64*256:=Nat.mul_le_mul (by omega) HM.out.2
    omega
   obtain⟨id,hid_⟩:∃id,ids[i]?=some id:=⟨_,List.getElem?_eq_getElem (by have:=HL.out;omega)⟩
   obtain⟨g,rfl⟩:=HOi.out.form (by omega)
   have y:=(HOi.out.later HB.out).read.cells _ rfl i (.int .i64 id) (by simp [ints,hid_])
   rw [aa_] at y
   have HIa:=hid hid_
   clear hid_
   obtain⟨w5,rfl⟩:∃w5,w5=wr:=⟨_,rfl⟩
   obtain⟨M,hM⟩:∃M,M=ofL H.mo s.X s.l id:=⟨_,rfl⟩
   have hMl:M.length≤256:=by rw [hM];exact Nat.le_trans (ofL_len HV.out id) HM.out.2
   have HOv:=hid (HOf.out w5 (bc HB1.out HB.out) id)
   rw [←hM] at HOv
   have HMe:=hid hM
   have HPa:Hid (∀(j:Nat) t,M[j]?=some t→t.2.2=-1∨(0≤t.2.2∧t.2.2<(j:Int))):=fun j t ht=>by rw [hM] at ht;exact ofL_par HV.out id ht
   obtain⟨ml,hml⟩:∃ml,ml=M.length:=⟨_,rfl⟩
   have HMl:=hid hml
   obtain⟨ll,hll⟩:∃ll,ll=L.length:=⟨_,rfl⟩
   have HLl:=hid hll
   rw [←hml] at HOv hMl
   rw [←hll] at HO hLb
   rw [←hll]
   have x12:=HX.out w5 (bc HB1.out HB.out)
   clear hM hml hll
   go_upto_region 7 with (first|(go_at_call 71;refine HOv.out.mono ?_;rintro e w6 ⟨am,cm,rfl,hom,hb6⟩;have HOm:=hid hom;have HB6:=hid hb6;clear hom hb6))
   clear x12 y
   go_loopw [3,28] (TiRel w1 w5 w6 L M) (fun _ v _=>ml - S.ivN v)
   case atStart=>exact⟨0,c,a,by rw [HLl.out];rfl,rfl,Nat.zero_le _,by rw [←HLl.out];simpa using HO.out.later HB6.out,fun k hk=>.inl (HO.out.blk k hk).2,But.refl _ _⟩
   case round =>
    obtain⟨j,c2,a2,rfl,rfl,hj,hO2,hBl,hBt⟩:=hrel
    rw [←HMl.out] at hj
    have HJn:=hid hj
    have HO2:=hid hO2
    have HBl:=hid hBl
    have HBt:=hid hBt
    clear hj hO2 hBl hBt
    by_cases hjt:j<ml
    ·have hd2:decide ((j:Int)<(ml:Int))=true:=decide_eq_true (by omega)
     obtain⟨t,ht⟩:∃t,M[j]?=some t:=⟨_,List.getElem?_eq_getElem (by have:=HMl.out;omega)⟩
     have hpa:=HPa.out j t ht
     have hOr:=HOm.out.but HBt.out (fun k hk e=>by have:=(HOm.out.blk k hk).1;omega)
     obtain⟨gm,rfl,hat⟩:=Ow.at_ hOr (by omega)
     obtain⟨⟨tb,th,tl⟩,tr,tq⟩:=t
     have hta:=toks_at M j _ ht
     have x0:=hat (j*5) _ (hta 0 (by omega))
     have x1:=hat (j*5+1) _ (hta 1 (by omega))
     have x2:=hat (j*5+2) _ (hta 2 (by omega))
     have x3:=hat (j*5+3) _ (hta 3 (by omega))
     have x4:=hat (j*5+4) _ (hta 4 (by omega))
     simp only [] at x0 x1 x2 x3 x4 hpa
     have HTj:=hid ht
     have HPq:=hid hpa
     clear hat hta ht hOr hpa
     obtain⟨w2,hw2⟩:∃w2,w2=wr.alloc (Obj.cells #[.int .i64 tb,.int .u64 (th:Int),.int .u64 (tl:Int),.int .i64 tr,.int .i64 tq] 61):=⟨_,rfl⟩
     have HB2:Hid (Below wr.heap.size wr w2):=by rw [hw2];exact below1 _ _
     go_upto_region 9 with fail
     rw [←hw2]
     have y0:w2.cell? ⟨wr.heap.size,0,none⟩=some (.int .i64 tb):=by rw [hw2];simp [go_sem]
     have y1:w2.cell? ⟨wr.heap.size,1,none⟩=some (.int .u64 (th:Int)):=by rw [hw2];simp [go_sem]
     have y2:w2.cell? ⟨wr.heap.size,2,none⟩=some (.int .u64 (tl:Int)):=by rw [hw2];simp [go_sem]
     have y3:w2.cell? ⟨wr.heap.size,3,none⟩=some (.int .i64 tr):=by rw [hw2];simp [go_sem]
     have y4:w2.cell? ⟨wr.heap.size,4,none⟩=some (.int .i64 tq):=by rw [hw2];simp [go_sem]
     have y5:w2.frozen? ⟨wr.heap.size,4,none⟩=false:=by rw [hw2];simp [go_sem]
     clear hw2 x0 x1 x2 x3 x4
     by_cases hq:tq=-1
     ·subst hq
      obtain⟨a',c',w7,hrun,hO7,hB7,hA7⟩:=app5 HO2.out (by have:=HBt.out.size;have:=HB6.out.size;have:=HB.out.size;omega) HB2.out ((tb,th,tl),tr,-1) (by have:=HLl.out;omega)
      simp only [encT] at hrun
      have HRUN:=hid hrun
      have HO7:=hid hO7
      have HB7:=hid hB7
      have HA7:=hid hA7
      clear hrun hO7 hB7 hA7
      go_wp2_with (first|(at_builtin;refine wk_ rfl _ _ 50 rfl _ _ rfl rfl _ w7 HRUN.out ?_))
      have hsz:=HBt.out.size
      refine⟨⟨j+1,c',a',rfl,rfl,by have:=HMl.out;omega,?_,fun k hk=>?_,HBt.out.comp HB7.out (fun k hk=>?_)⟩,by simp [S.ivN];omega⟩
      ·have e:toks (L++(M.take (j+1)).map (shf L.length))=toks (L++(M.take j).map (shf L.length))++encT ((tb,th,tl),tr,-1):=by
        rw [List.take_add_one,HTj.out,List.map_append,←List.append_assoc]
        simp only [Option.toList,List.map_cons,List.map_nil]
        rw [toks_snoc]
        simp [shf,HLl.out]
       rw [e]
       exact HO7.out
      ·rcases HA7.out k hk with h1|h1
       ·exact HBl.out k h1
       ·exact .inr (by omega)
      ·rcases HBl.out k hk with h1|h1
       ·exact .inl ⟨(HO2.out.blk k hk).1,h1⟩
       ·exact .inr h1
     ·have hq1:0≤tq∧tq<256:=by rcases HPq.out with h|h<;>omega
      obtain⟨hq2,hq3⟩:=hq1
      have hqd:decide (tq=-1)=false:=decide_eq_false hq
      go_upto_region 11 with fail
      obtain⟨w3,hw3⟩:∃w3,w3=w2.setCell ⟨wr.heap.size,4,none⟩ (.int .i64 (tq+(ll:Int))):=⟨_,rfl⟩
      have HB3:Hid (Below wr.heap.size wr w3):=by
       rw [hw3]
       exact But.below HB2.out (But.own (g:=wr.heap.size) (But.refl _ _) 4 _) (fun k e=>by omega)
      have z0:w3.cell? ⟨wr.heap.size,0,none⟩=some (.int .i64 tb):=by rw [hw3];simp [go_sem,y0]
      have z1:w3.cell? ⟨wr.heap.size,1,none⟩=some (.int .u64 (th:Int)):=by rw [hw3];simp [go_sem,y1]
      have z2:w3.cell? ⟨wr.heap.size,2,none⟩=some (.int .u64 (tl:Int)):=by rw [hw3];simp [go_sem,y2]
      have z3:w3.cell? ⟨wr.heap.size,3,none⟩=some (.int .i64 tr):=by rw [hw3];simp [go_sem,y3]
      have z4:w3.cell? ⟨wr.heap.size,4,none⟩=some (.int .i64 (tq+(ll:Int))):=by rw [hw3];simp [go_sem,y4,y5]
      rw [←hw3]
      clear hw3 y0 y1 y2 y3 y4 y5
      obtain⟨a',c',w7,hrun,hO7,hB7,hA7⟩:=app5 HO2.out (by have:=HBt.out.size;have:=HB6.out.size;have:=HB.out.size;omega) HB3.out ((tb,th,tl),tr,tq+(ll:Int)) (by have:=HLl.out;omega)
      simp only [encT] at hrun
      have HRUN:=hid hrun
      have HO7:=hid hO7
      have HB7:=hid hB7
      have HA7:=hid hA7
      clear hrun hO7 hB7 hA7
      go_wp2_with (first|(at_builtin;refine wk_ rfl _ _ 50 rfl _ _ rfl rfl _ w7 HRUN.out ?_))
      have hsz:=HBt.out.size
      refine⟨⟨j+1,c',a',rfl,rfl,by have:=HMl.out;omega,?_,fun k hk=>?_,HBt.out.comp HB7.out (fun k hk=>?_)⟩,by simp [S.ivN];omega⟩
      ·have e:toks (L++(M.take (j+1)).map (shf L.length))=toks (L++(M.take j).map (shf L.length))++encT ((tb,th,tl),tr,tq+(ll:Int)):=by
        rw [List.take_add_one,HTj.out,List.map_append,←List.append_assoc]
        simp only [Option.toList,List.map_cons,List.map_nil]
        rw [toks_snoc]
        simp [shf,hq,HLl.out]
       rw [e]
       exact HO7.out
      ·rcases HA7.out k hk with h1|h1
       ·exact HBl.out k h1
       ·exact .inr (by omega)
      ·rcases HBl.out k hk with h1|h1
       ·exact .inl ⟨(HO2.out.blk k hk).1,h1⟩
       ·exact .inr h1
    ·obtain rfl:j=ml:=by have:=HJn.out;omega
     have hd2:decide ((j:Int)<(j:Int))=false:=by simp
     go_wp2
     have hL':L++M.map (shf L.length)=tkF H.mo s.X s.l (ids.take (i+1)):=by
      rw [List.take_add_one,HIa.out]
      show _=tkF _ _ _ (ids.take i++[id])
      rw [tkF_snoc,←HLq.out,tkStep,←HMe.out]
     have hO:=HO2.out
     rw [HMl.out,List.take_length] at hO
     refine⟨⟨i+1,c2,a2,L++M.map (shf L.length),by simp [HMl.out],rfl,by have:=HL.out;omega,hL',by simpa using hO,But.below (bc HB.out HB6.out) HBt.out (fun k hk=>hk.1)⟩,by simp [S.ivN];omega⟩
  ·obtain rfl:i=n:=by have:=HIn.out;omega
   have hd:decide ((i:Int)<(i:Int))=false:=by simp
   go_wp2
   have hq:=HLq.out
   rw [HL.out,List.take_length] at hq
   rw [←hq]
   exact bodyPost_ret (v:=.slice a L.length c) (by simp [results,Tryz.results36,go_sem]) rfl ⟨a,c,rfl,HO.out.mono HB1.out.size,bc HB1.out HB.out⟩
end
end Go.Proofs.YtfmhdimaijimlaaGreatDoor.V
