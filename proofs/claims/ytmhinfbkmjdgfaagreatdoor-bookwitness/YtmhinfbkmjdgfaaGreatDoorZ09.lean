import Derived.Test.YtmhinfbkmjdgfaaGreatDoorZ08
set_option linter.unusedVariables false
set_option linter.unusedSimpArgs false
set_option maxRecDepth 100000
set_option maxHeartbeats 2000000
namespace Go.Proofs.YtmhinfbkmjdgfaaGreatDoor.K
open Go.RowKit
variable {i n:Nat}
abbrev Pu:=Cp×Int
def mk (x:Pu):Pl:=(true,x.1,x.2)
def qv (S:List Pu):List Pl:=S.map mk++List.replicate (4 - S.length) fr
def mO (n:Nat)(S:List Pu)(c:Cp)(m:Int):List Pu:=((c,m)::S.filter (λx=>x.1≠c)).take n
def CE (S:List Pu)(c:Cp):Int×Bool :=
 match S.find? (λx=>x.1=c) with
 | some x=>(x.2,true)
 | none=>(0,false)
theorem lM {S:List Pu}(h:i<S.length):(qv S)[i]?=some (mk S[i]):=by
 unfold qv;rw [List.getElem?_append_left (by simpa using h)];simp [h]
theorem uj {S:List Pu}(h:S.length<=i)(h4:i<4):(qv S)[i]?=some fr:=by
 unfold qv;rw [List.getElem?_append_right (by simpa using h),List.getElem?_replicate,if_pos (by simp;omega)]
theorem sP {S:List Pu}(h:S.length<=4):(qv S).length=4:=by simp [qv];omega
theorem yx:∀(S:List Pu) (i:Nat),(S.eraseIdx i).map mk=(S.map mk).eraseIdx i
 | [],_=>rfl
 | a::r,0=>rfl
 | a::r,i+1=>by simp only [List.eraseIdx_cons_succ,List.map_cons,yx r i]
theorem iJ (c:Cp)(x:Pu):fj c (mk x)=decide (x.1=c):=rfl
theorem jY {S:List Pu}{c:Cp}(h:∀x∈S,x.1≠c):S.filter (λx=>x.1≠c)=S:=List.filter_eq_self.2 (λx hx=>by simpa using h x hx)
theorem iF:∀{S:List Pu} (hn:(S.map (·.1)).Nodup) (i:Nat) (h:i<S.length),S.filter (λx=>x.1≠S[i].1)=S.eraseIdx i
 | [],_,i,h=>by simp at h
 | a::r,hn,0,h=>by
  simp only [List.map_cons,List.nodup_cons] at hn;rw [List.filter_cons_of_neg (by simp)];simp only [List.getElem_cons_zero,List.eraseIdx_zero,List.tail_cons];exact jY (λx hx e=>hn.1 (List.mem_map.2 ⟨x,hx,e⟩))
 | a::r,hn,i+1,h=>by
  simp only [List.map_cons,List.nodup_cons] at hn;have hi:i<r.length:=by simpa using h
  have hne:a.1≠(a::r)[i+1].1:=λe=>hn.1 (List.mem_map.2 ⟨r[i],List.getElem_mem hi,by simpa using e.symm⟩)
  rw [List.filter_cons_of_pos (by simpa using hne),List.eraseIdx_cons_succ];simp only [List.getElem_cons_succ];rw [iF hn.2 i hi]
theorem qw {S:List Pu}{c:Cp}(hl:S.length<=n)(h1:1<=n)(h4:n<=4) :
  (∃(i:Nat) (h:i<S.length),S[i].1=c/\S.find? (λx=>x.1=c)=some S[i]/\dU (qv S) c n=i)\/((∀x∈S,x.1≠c)/\S.find? (λx=>x.1=c)=none/\dU (qv S) c n=n - 1):=by
 cases hf:S.find? (λx=>x.1=c) with
 | some x =>
  obtain⟨hx,i,hi,rfl,hj⟩:=List.find?_eq_some_iff_getElem.1 hf
  have hx2:S[i].1=c:=by simpa using hx
  refine .inl ⟨i,hi,hx2,rfl,uf (p:=mk S[i]) (by omega) (lM hi) (by rw [iJ];simpa using hx2) (λj q hji hq=>?_)⟩
  have:=hj j hji
  rw [lM (by omega)] at hq;cases hq
  rw [iJ];simpa using this
 | none =>
  have hn:∀x∈S,x.1≠c:=λx hx=>by simpa using List.find?_eq_none.1 hf x hx
  refine .inr ⟨hn,rfl,od (λj q hj hq=>?_) (by rw [sP (by omega)];exact h4)⟩
  by_cases e:j<S.length
  ·rw [lM e] at hq
   cases hq
   rw [iJ];simpa using hn _ (List.getElem_mem e)
  ·rw [uj (by omega) (by omega)] at hq
   cases hq
   rfl
theorem zI (S:List Pu)(c:Cp)(m:Int):(mO n S c m).length<=n:=by unfold mO;rw [List.length_take];omega
theorem sH {S:List Pu}(c:Cp)(m:Int)(h:(S.map (·.1)).Nodup):((mO n S c m).map (·.1)).Nodup:=by
 unfold mO;rw [List.map_take];refine List.Nodup.sublist (List.take_sublist _ _) ?_
 rw [List.map_cons,List.nodup_cons];refine⟨λe=>?_,List.Nodup.sublist (List.Sublist.map _ List.filter_sublist) h⟩
 obtain⟨x,hx,e2⟩:=List.mem_map.1 e
 simpa [e2] using (List.mem_filter.1 hx).2
theorem xH {S:List Pu}{c:Cp}(m:Int)(hl:S.length<=n)(h1:1<=n)(h4:n<=4)(hn:(S.map (·.1)).Nodup) :
  (true,c,m)::(qv S).eraseIdx (dU (qv S) c n)=qv (mO n S c m):=by
 rcases qw (c:=c) hl h1 h4 with ⟨i,hi,hc,_,hs⟩|⟨hno,_,hs⟩
 ·rw [hs]
  have e:mO n S c m=(c,m)::S.eraseIdx i:=by
   unfold mO;rw [<-hc,iF hn i hi,List.take_of_length_le (by simp [List.length_eraseIdx,hi];omega)]
  rw [e];unfold qv;rw [List.eraseIdx_append_of_lt_length (by simpa using hi)];simp only [List.map_cons,List.cons_append,List.length_cons,List.length_eraseIdx,if_pos hi];rw [show S.length - 1+1=S.length by omega,<-yx];rfl
 ·rw [hs]
  unfold mO;rw [jY hno];by_cases e:S.length<n
  ·rw [List.take_of_length_le (by simp;omega)]
   unfold qv;rw [List.eraseIdx_append_of_length_le (by simp;omega),List.eraseIdx_replicate,if_pos (by simp;omega)];simp only [List.map_cons,List.cons_append,List.length_cons];rw [show 4 - S.length - 1=4 - (S.length+1) by omega];rfl
  ·have e2:S.length=n:=by omega
   obtain⟨v,rfl⟩:∃v,n=v+1:=⟨n - 1,by omega⟩
   rw [List.take_succ_cons];unfold qv;rw [List.eraseIdx_append_of_lt_length (by simp;omega)];simp only [List.map_cons,List.cons_append,List.length_cons,List.length_take,e2];rw [show min v (v+1)+1=v+1 by omega];congr 2
   rw [List.map_take,List.eraseIdx_eq_take_drop_succ,List.drop_eq_nil_of_le (by simp;omega),List.append_nil];rfl
theorem Be {S:List Pu}{c:Cp}(hl:S.length<=n)(h1:1<=n)(h4:n<=4) :
  (match (qv S)[dU (qv S) c n]? with|some p=>(if fj c p then p.2.2 else 0,fj c p)|none=>((0:Int),false))=CE S c:=by
 unfold CE;rcases qw (c:=c) hl h1 h4 with ⟨i,hi,hc,hf,hs⟩|⟨hno,hf,hs⟩
 ·rw [hs,lM hi,hf]
  simp only [iJ,hc];simp [mk]
 ·rw [hs,hf]
  by_cases e:n - 1<S.length
  ·rw [lM e]
   simp only [iJ];have:=hno _ (List.getElem_mem e)
   simp [this]
  ·rw [uj (by omega) (by omega)]
   rfl
structure Fit (n:Nat)(T:Nat->List Pu)(R:Nat->List Pl):Prop where
 eq:∀r,R r=qv (T r)
 len:∀r,(T r).length<=n
 nd:∀r,((T r).map (·.1)).Nodup
def r_ (s n k:Nat)(T:Nat->List Pu)(c:Cp)(m:Int):Nat->List Pu:=if s=0 then T else λx=>if x=fM k s c then mO n (T (fM k s c)) c m else T x
def il (s k:Nat)(T:Nat->List Pu)(c:Cp):Int×Bool:=if s=0 then (0,false) else CE (T (fM k s c)) c
variable {s n k:Nat}{T:Nat->List Pu}{R:Nat->List Pl}
theorem Fit.zero (n:Nat):Fit n (λ_=>[]) R0:=⟨λ_=>rfl,λ_=>Nat.zero_le _,λ_=>List.nodup_nil⟩
theorem Fit.xj (h:Fit n T R)(h1:1<=n)(h4:n<=4)(c:Cp):xj s n k R c=il s k T c:=by
 unfold Go.Proofs.YtmhinfbkmjdgfaaGreatDoor.K.xj il;by_cases hs:s=0
 ·rw [if_pos hs,if_pos hs]
 ·rw [if_neg hs,if_neg hs,h.eq]
  exact Be (h.len _) h1 h4
theorem Fit.put (h:Fit n T R)(h1:1<=n)(h4:n<=4)(c:Cp)(m:Int):Fit n (r_ s n k T c m) (BR s n k R c m):=by
 unfold r_ BR;by_cases hs:s=0
 ·rw [if_pos hs,if_pos hs];exact h
 ·rw [if_neg hs,if_neg hs]
  refine⟨λr=>?_,λr=>?_,λr=>?_⟩
  ·unfold fE
   by_cases e:r=fM k s c
   ·rw [if_pos e]
    rw [if_pos e,h.eq];exact xH m (h.len _) h1 h4 (h.nd _)
   ·rw [if_neg e]
    rw [if_neg e];exact h.eq r
  ·split
   ·exact zI _ _ _
   ·exact h.len r
  ·split
   ·exact sH _ _ (h.nd _)
   ·exact h.nd r
end Go.Proofs.YtmhinfbkmjdgfaaGreatDoor.K
namespace Go.Proofs.YtmhinfbkmjdgfaaGreatDoor.K
open Go.RowKit
def Kc (w:World)(g s n k:Nat)(T:Nat->List Pu)(E:Nat)(hi mi:Int):Prop:=E<256/\∃R,Ca w g s n k R (E:Int) hi mi/\Fit n T R
def T0:Nat->List Pu:=λ_=>[]
variable {w w':World}{g s n k E:Nat}{T:Nat->List Pu}{hi mi:Int}
theorem Kc.but {S:Nat->Prop}(h:Kc w g s n k T E hi mi)(hb:aj S w w')(h1:¬S g):Kc w' g s n k T E hi mi:=by
 obtain⟨hE,R,hc,hf⟩:=h
 exact⟨hE,R,hc.but hb h1,hf⟩
theorem Kc.later (h:Kc w g s n k T E hi mi)(hb:Below w.heap.size w w'):Kc w' g s n k T E hi mi:=h.but (S:=λ_=>False) (aj.of hb) (λh=>h)
theorem Kc.lt (h:Kc w g s n k T E hi mi):g<w.heap.size:=by
 obtain⟨_,R,hc,hf⟩:=h
 exact hc.lt
theorem I_ (s n k:Nat)(w:World)(h1:s<=16)(h2:1<=n)(h3:n<=4)(h4:k<=64) :
  Calls Tryz.prog 129 #[ab (s:Int),ab (n:Int),ab (k:Int)] w λe w'=>∃g,e=.returned (.tuple #[aq g,ab 0])/\Kc w' g s n k T0 0 0 0/\w.heap.size<=g/\Below w.heap.size w w':=by
 refine (cu s n k w h1 h2 h3 h4).mono ?_
 rintro e w' ⟨g,rfl,hc,hg,hb⟩
 exact⟨g,rfl,⟨by decide,R0,hc,Fit.zero n⟩,hg,hb⟩
theorem IH (h:Kc w g s n k T E hi mi)(c:Cp)(hc:D3 c) :
  Calls Tryz.prog 467 #[aq g,.agg #[ab c.1,ai (c.2.1:Int),ai (c.2.2:Int)]] w λx w'=>x=.returned (.tuple #[ab (il s k T c).1,.bool (il s k T c).2])/\Kc w' g s n k T E (if (il s k T c).2 then wrap64 (hi+1) else hi) (if (il s k T c).2 then mi else wrap64 (mi+1))/\aj (λk=>k=g) w w':=by
 obtain⟨hE,R,ha,hf⟩:=h
 have:=Bd ha c hc
 rw [hf.xj ha.n1 ha.n4] at this;refine this.mono ?_
 rintro e w' ⟨rfl,h2,hb⟩
 exact⟨rfl,⟨hE,R,h2,hf⟩,hb⟩
theorem IZ (h:Kc w g s n k T E hi mi)(c:Cp)(m:Int)(hc:D3 c) :
  Calls Tryz.prog 425 #[aq g,.agg #[ab c.1,ai (c.2.1:Int),ai (c.2.2:Int)],ab m] w λx w'=>x=.returned (.tuple #[])/\Kc w' g s n k (r_ s n k T c m) E hi mi/\aj (λk=>k=g) w w':=by
 obtain⟨hE,R,ha,hf⟩:=h
 refine (kA ha c m hc).mono ?_
 rintro e w' ⟨rfl,h2,hb⟩
 exact⟨rfl,⟨hE,_,h2,hf.put ha.n1 ha.n4 c m⟩,hb⟩
theorem Ht (h:Kc w g s n k T E hi mi):Calls Tryz.prog 274 #[aq g] w λx w'=>x=.returned (.tuple #[])/\Kc w' g s n k T0 ((E+1)%256) hi mi/\aj (λk=>k=g) w w':=by
 obtain⟨hE,R,ha,hf⟩:=h
 refine (xG ha hE).mono ?_
 rintro e w' ⟨rfl,h2,hb⟩
 exact⟨rfl,⟨Nat.mod_lt _ (by decide),R0,h2,Fit.zero n⟩,hb⟩
end Go.Proofs.YtmhinfbkmjdgfaaGreatDoor.K
namespace Go.Proofs.YtmhinfbkmjdgfaaGreatDoor.L
open Go.RowKit H
variable {o:Int}{i:Nat}
def eX (X:List Tk)(l:Fo)(c:Cp):Int:=rg X (aX X l c)
def cO (X:List Tk)(l:Fo)(need:Int)(c:Cp):Int:=if bn X l c=false then 3 else if aS need (eX X l c)=false then 4 else 0
theorem mr (X:List Tk)(l:Fo)(need:Int)(c:Cp):(bn X l c=false/\cO X l need c=3)\/(bn X l c=true/\aS need (eX X l c)=false/\cO X l need c=4)\/(bn X l c=true/\aS need (eX X l c)=true/\cO X l need c=0):=by
 unfold cO;cases h1:bn X l c with
 | false=>exact .inl ⟨rfl,by simp⟩
 | true =>
  cases h2:aS need (eX X l c) with
  | false=>exact .inr (.inl ⟨rfl,rfl,by simp⟩)
  | true=>exact .inr (.inr ⟨rfl,rfl,by simp⟩)
def dL (g:Cp->Int)(o:Int):List Cp->Int->Cp×Int
 | [],e=>((0,0,0),e)
 | c::r,e=>if c.1≠o then dL g o r e else if g c=0 then (c,0) else if g c=4 then dL g o r 4 else dL g o r e
theorem vz {g:Cp->Int}{K:List Cp}{c:Cp}(h:K[i]?=some c)(e:Int) :
  dL g o (K.drop i) e=if c.1≠o then dL g o (K.drop (i+1)) e else if g c=0 then (c,0) else if g c=4 then dL g o (K.drop (i+1)) 4 else dL g o (K.drop (i+1)) e:=by
 obtain⟨hi,rfl⟩:=List.getElem?_eq_some_iff.1 h
 rw [List.drop_eq_getElem_cons hi];rfl
theorem yO {g:Cp->Int}{K:List Cp}(h:K.length<=i)(e:Int):dL g o (K.drop i) e=((0,0,0),e):=by
 rw [List.drop_eq_nil_of_le h];rfl
def Tr (X:List Tk)(l:Fo)(T:Nat->List K.Pu):Prop:=∀r x,x∈T r->bn X l x.1=true/\eX X l x.1=x.2
variable {X:List Tk}{l:Fo}{T:Nat->List K.Pu}{s n k:Nat}
variable {m:Nat}
theorem Tr.zero (X:List Tk)(l:Fo):Tr X l K.T0:=λr x hx=>by cases hx
theorem Tr.get (h:Tr X l T){c:Cp}(hg:(K.il s k T c).2=true):bn X l c=true/\(K.il s k T c).1=eX X l c:=by
 unfold K.il at hg ⊢
 by_cases hs:s=0
 ·rw [if_pos hs] at hg;cases hg
 ·rw [if_neg hs] at hg ⊢
  unfold K.CE at hg ⊢
  cases hf:(T (K.fM k s c)).find? (λx=>x.1=c) with
  | none=>rw [hf] at hg;cases hg
  | some x =>
   have h1:=List.mem_of_find?_eq_some hf
   have h2:x.1=c:=by simpa using List.find?_some hf
   obtain⟨h3,h4⟩:=h _ x h1
   rw [h2] at h3 h4;exact⟨h3,h4.symm⟩
theorem Tr.put (h:Tr X l T){c:Cp}(hc:bn X l c=true):Tr X l (K.r_ s n k T c (eX X l c)):=λr x hx=>by
 unfold K.r_ at hx;split at hx
 ·exact h r x hx
 ·simp only at hx
  split at hx
  ·unfold K.mO at hx
   rcases List.mem_cons.1 (List.mem_of_mem_take hx) with rfl|h1
   ·exact⟨hc,rfl⟩
   ·exact h _ x (List.mem_filter.1 h1).1
  ·exact h r x hx
theorem E6 (h:Inv m X l){j:Nat}(x:Tk)(hj:(j:Int)∉aF l){a:Int}(ha:a∈aF l):tk (X.set j x) a=tk X a:=dY _ (gH h.ok ha) (λe=>hj (e ▸ ha))
theorem Tr.add (h:Tr X l T)(hv:Inv m X l)(p:Int)(c:Cp)(r:Int)(hv2:Inv m (gz m X l p c r).X (gz m X l p c r).l):Tr (gz m X l p c r).X (gz m X l p c r).l T:=by
 revert hv2
 unfold gz;by_cases h1:bn X l c=true
 ·rw [if_pos h1];exact λ_=>h
 ·rw [if_neg h1]
  by_cases h2:l.length=m
  ·rw [if_pos h2];exact λ_=>h
  ·rw [if_neg h2]
   intro hv2;have hv2:Inv m (X.set (low l) (c,r)) (l++[((low l:Int),p)]):=hv2
   intro q x hx;obtain⟨h3,h4⟩:=h q x hx
   obtain⟨a,ha,e⟩:=bW.1 h3
   have ht:=E6 hv (c,r) (fx l) ha
   have ha2:a∈aF (l++[((low l:Int),p)]):=by rw [cT];exact List.mem_append_left _ ha
   have h5:aX (X.set (low l) (c,r)) (l++[((low l:Int),p)]) x.1=a:=by
    have:=gC hv2 ha2
    rw [ht,e] at this;exact this
   have h6:aX X l x.1=a:=by rw [<-e];exact gC hv ha
   refine⟨bW.2 ⟨a,ha2,by rw [ht];exact e⟩,?_⟩
   show rg (X.set (low l) (c,r)) (aX (X.set (low l) (c,r)) (l++[((low l:Int),p)]) x.1)=x.2
   rw [<-h4];unfold eX;rw [h5,h6];unfold rg;rw [ht]
theorem found (h:Inv m X l){c:Cp}(hc:bn X l c=true):aX X l c∈aF l/\(tk X (aX X l c)).1=c:=by
 obtain⟨a,ha,e⟩:=bW.1 hc
 have:=gC h ha
 rw [e] at this;rw [this];exact⟨ha,e⟩
end Go.Proofs.YtmhinfbkmjdgfaaGreatDoor.L
namespace Go.Proofs.YtmhinfbkmjdgfaaGreatDoor.L
open Go.RowKit H
variable {c g v:Nat}{w w':World}
theorem DQ (a b:Int)(w:World):Calls Tryz.prog 343 #[ab a,ab b] w λe w'=>e=.returned (.bool (aS b a))/\w'=w:=by
 have hp:=ae (gA b a)
 go_enter Tryz.func343,Tryz.ntmps343
 go_wp2_with (first|(go_at_call 316;refine (hp.out _).mono ?_;rintro e w9 ⟨rfl,hw9⟩;obtain rfl:=hw9.symm;clear hw9))
 go_ret;exact⟨rfl,rfl⟩
def dJ (X:List Tk)(l:Fo)(c:Cp):Int:=if bn X l c=false then 0 else eX X l c
theorem yN {A:Ad}{kn mo:Nat}{X:List Tk}{l:Fo}(h:jb w A kn mo X l)(c:Cp)(hw:c.2.1<az/\c.2.2<az) :
  Calls Tryz.prog 470 #[.agg #[aq A.g],j5 c] w λe w'=>e=.returned (.tuple #[ab (dJ X l c),.bool (bn X l c)])/\Below w.heap.size w w':=by
 obtain⟨o,hi,lo⟩:=c
 obtain⟨w0,hw0⟩:∃w0,w0=(w.alloc (Obj.cells #[aq A.g] 326)).alloc (Obj.cells #[ab o,ai (hi:Int),ai (lo:Int)] 37):=⟨_,rfl⟩
 have hB0:Below w.heap.size w w0:=by rw [hw0];exact aB _ _ _
 have y1:w0.cell? ⟨w.heap.size,0,none⟩=some (aq A.g):=by rw [hw0];simp [go_sem]
 have x0:w0.cell? ⟨w.heap.size+1,0,none⟩=some (ab o):=by rw [hw0];simp [go_sem]
 have x1:w0.cell? ⟨w.heap.size+1,1,none⟩=some (ai (hi:Int)):=by rw [hw0];simp [go_sem]
 have x2:w0.cell? ⟨w.heap.size+1,2,none⟩=some (ai (lo:Int)):=by rw [hw0];simp [go_sem]
 have HY:Hid (∀U,Below w0.heap.size w0 U->U.cell? ⟨w.heap.size,0,none⟩=some (aq A.g)):=λU hU=>cell_later hU y1
 have OX:=ae hB0
 have HF:=ae (jG (h.later hB0) (o,hi,lo) hw)
 unfold dJ;by_cases hc:bn X l (o,hi,lo)=false
 ·rw [hc] at HF
  simp only [hc,if_true];obtain⟨m,hm⟩:∃m,m=aX X l (o,hi,lo):=⟨_,rfl⟩
  rw [<-hm] at HF;clear h hB0 hc hm;go_enter Tryz.func470,Tryz.ntmps470
  go_upto_region 1 with fail
  rw [<-hw0];clear hw0;go_wp2_with (first
   | (go_at_call 342;refine HF.out.mono ?_;rintro e w2 ⟨rfl,hb2⟩;have OH:=ae (aa OX.out hb2);clear hb2))
  exact bodyPost_ret (v:=.tuple #[ab 0,.bool false]) (by simp [results,Tryz.results470,go_sem]) rfl ⟨rfl,OH.out⟩
 ·have hc':bn X l (o,hi,lo)=true:=by simpa using hc
  rw [hc'] at HF;simp only [hc',Bool.true_eq_false,if_false];obtain⟨hfn,hft⟩:=found h.inv hc'
  obtain⟨p,hp⟩:=aL.1 hfn
  have HA:=ae (λ(U:World) (hU:Below w.heap.size w U)=>AH (h.later hU).cm (aX X l (o,hi,lo)) p hp)
  unfold eX;rw [hft] at HA;obtain⟨m,hm⟩:∃m,m=aX X l (o,hi,lo):=⟨_,rfl⟩
  rw [<-hm] at HF HA;rw [<-hm];obtain⟨q,hq⟩:∃q,q=rg X m:=⟨_,rfl⟩
  rw [<-hq] at HA;rw [<-hq];unfold wP at HA;clear h hB0 hc hc' hm hq hft hfn hp;go_enter Tryz.func470,Tryz.ntmps470
  go_upto_region 1 with fail
  rw [<-hw0];clear hw0;go_upto_region 4 with (first
   | (go_at_call 342;refine HF.out.mono ?_;rintro e w2 ⟨rfl,hb2⟩;have OH:=ae (aa OX.out hb2);have z1:=HY.out _ hb2;clear hb2))
  go_wp2_with (first
   | (go_at_call 241;refine (HA.out w2 OH.out).mono ?_;rintro e w3 ⟨rfl,hb3⟩;have OJ:=ae (aa OH.out hb3);clear hb3))
  exact bodyPost_ret (v:=.tuple #[ab q,.bool true]) (by simp [results,Tryz.results470,go_sem]) rfl ⟨rfl,OJ.out.alloc OJ.out.size _⟩
structure Va (w:World)(v g c:Nat):Prop where
 c0:w.cell? ⟨v,0,none⟩=some (aq g)
 c1:w.cell? ⟨v,1,none⟩=some (.iface 217 (aq g))
 c2:w.cell? ⟨v,2,none⟩=some (.iface 326 (.agg #[aq c]))
theorem Va.but {S:Nat->Prop}(h:Va w v g c)(hb:aj S w w')(hn:¬S v):Va w' v g c:=⟨an hb h.c0 hn,an hb h.c1 hn,an hb h.c2 hn⟩
theorem Va.later (h:Va w v g c)(hb:Below w.heap.size w w'):Va w' v g c:=h.but (S:=λ_=>False) (aj.of hb) (λh=>h)
theorem Va.lt (h:Va w v g c):v<w.heap.size:=World.block_lt_of_cell? _ _ h.c0
theorem Ab (v:Value)(w:World):(Instr.typeAssert (.iface 217 v) 328 326 true).run Tryz.prog w=.ok (.tuple #[.agg #[.pointer none],.bool false]) w:=by kernel_rfl
theorem BJ (v:Value)(w:World):(Instr.typeAssert (.iface 217 v) 328 217 true).run Tryz.prog w=.ok (.tuple #[v,.bool true]) w:=by kernel_rfl
theorem vU (v:Value)(w:World):(Instr.typeAssert (.iface 326 v) 328 326 true).run Tryz.prog w=.ok (.tuple #[v,.bool true]) w:=by kernel_rfl
theorem Bu (v g:Nat)(c:Cp)(m:Int)(w:World) :
  Calls Tryz.prog 394 #[aq v,.iface 217 (aq g),j5 c,ab m] w λe w'=>e=.returned (.tuple #[])/\Below w.heap.size w w':=by
 obtain⟨o,hi,lo⟩:=c
 have HB:=ae (ag w (Obj.cells #[ab o,ai (hi:Int),ai (lo:Int)] 37))
 have q1:=Ab
 have q2:=BJ
 go_enter Tryz.func394,Tryz.ntmps394
 go_wp2;exact bodyPost_end (by simp [results,Tryz.results394,go_sem]) rfl ⟨rfl,HB.out⟩
theorem BQ {cg s n k E:Nat}{T:Nat->List K.Pu}{hi_ mi:Int}(hv:Va w v g cg)(hk:K.Kc w g s n k T E hi_ mi)(c:Cp)(m:Int)(hw:c.2.1<az/\c.2.2<az) :
  Calls Tryz.prog 394 #[aq v,.iface 326 (.agg #[aq cg]),j5 c,ab m] w λe w'=>e=.returned (.tuple #[])/\K.Kc w' g s n k (K.r_ s n k T c m) E hi_ mi/\aj (λj=>j=g) w w':=by
 obtain⟨o,hi,lo⟩:=c
 obtain⟨w0,hw0⟩:∃w0,w0=w.alloc (Obj.cells #[ab o,ai (hi:Int),ai (lo:Int)] 37):=⟨_,rfl⟩
 have hB0:Below w.heap.size w w0:=by rw [hw0];exact ag _ _
 have HC:Hid (∀U,Below w0.heap.size w0 U->U.cell? ⟨v,0,none⟩=some (aq g)/\U.cell? ⟨w.heap.size,0,none⟩=some (ab o)/\U.cell? ⟨w.heap.size,1,none⟩=some (ai (hi:Int))/\U.cell? ⟨w.heap.size,2,none⟩=some (ai (lo:Int))):=λU hU =>
  ⟨(hv.later (aa hB0 hU)).c0,cell_later hU (by rw [hw0];simp [go_sem]),cell_later hU (by rw [hw0];simp [go_sem]),cell_later hU (by rw [hw0];simp [go_sem])⟩
 have HP:Hid (∀U,Below w0.heap.size w0 U->Calls Tryz.prog 425 #[aq g,.agg #[ab o,ai (hi:Int),ai (lo:Int)],ab m] U λx w'=>x=.returned (.tuple #[])/\K.Kc w' g s n k (K.r_ s n k T (o,hi,lo) m) E hi_ mi/\aj (λk=>k=g) U w'):=λU hU=>K.IZ (hk.later (aa hB0 hU)) (o,hi,lo) m hw
 have OX:=ae hB0
 have q1:=vU
 have Yb:=ae (hv.later hB0).c0
 have hne:¬v=g:=λe=>by
  have h1:=hv.c0
  rw [e] at h1;obtain⟨_,R,hc,_⟩:=hk
  have h2:=hc.c0
  rw [h1] at h2;cases h2
 have XW:=ae hne
 have VK:Hid (¬w.heap.size=g):=λe=>by have:=hk.lt;omega
 clear hv hk hB0 hne;go_enter Tryz.func394,Tryz.ntmps394
 go_upto_region 3 with fail
 rw [<-hw0];clear hw0;go_region_held3 (λU=>U.cell? ⟨v,0,none⟩=some (aq g)/\U.cell? ⟨w.heap.size,0,none⟩=some (ab o)/\U.cell? ⟨w.heap.size,1,none⟩=some (ai (hi:Int))/\U.cell? ⟨w.heap.size,2,none⟩=some (ai (lo:Int))) (first|exact Pj.out|exact HC.out _ (Below.refl _ _).drew|exact HC.out _ (Below.refl _ _)) (first
  | (go_at_call 425;refine (HP.out _ (Below.refl _ _).drew).mono ?_;rintro e w2 ⟨rfl,hk2,hb2⟩;have PG:=ae hk2;have OH:=ae ((aj.of (S:=λk=>k=g) (aa OX.out (Below.refl _ _).drew)).trans hb2);have Pj:=ae (And.intro (an hb2 (HC.out _ (Below.refl _ _).drew).1 XW.out) (And.intro (an hb2 (HC.out _ (Below.refl _ _).drew).2.1 VK.out) (And.intro (an hb2 (HC.out _ (Below.refl _ _).drew).2.2.1 VK.out) (an hb2 (HC.out _ (Below.refl _ _).drew).2.2.2 VK.out))));clear hk2 hb2))
 go_wp2;exact bodyPost_end (by simp [results,Tryz.results394,go_sem]) rfl ⟨rfl,PG.out,OH.out⟩
structure Hv where
 A:Ad
 kn:Nat
 mo:Nat
 g:Nat
 s:Nat
 n:Nat
 k:Nat
 v:Nat
 d:Nat
 r:Nat
 b:Nat
structure Hv.IJ (H:Hv):Prop where
 g1:¬H.A.jP H.g
 v1:¬H.A.jP H.v
 v2:H.v≠H.g
 d1:¬H.A.jP H.d
 d2:H.d≠H.g
 r1:¬H.A.jP H.r
 r2:H.r≠H.g
 r3:H.r≠H.v
 r4:H.r≠H.d
 b1:¬H.A.jP H.b
 b2:H.b≠H.g
 b3:H.b≠H.v
 b4:H.b≠H.d
structure Vd (w:World)(H:Hv)(X:List Tk)(l:Fo)(T:Nat->List K.Pu):Prop where
 cat:jb w H.A H.kn H.mo X l
 ch:∃E hi mi,K.Kc w H.g H.s H.n H.k T E hi mi
 va:Va w H.v H.g H.A.g
 cr:H.IJ
variable {w w':World}{H:Hv}{X:List Tk}{l:Fo}{T:Nat->List K.Pu}
variable {S:Nat->Prop}
theorem Vd.but (h:Vd w H X l T)(hb:aj S w w')(h1:∀k,H.A.jP k->¬S k)(h2:¬S H.g)(h3:¬S H.v):Vd w' H X l T:=by
 obtain⟨E,hi,mi,hk⟩:=h.ch
 exact⟨h.cat.but hb h1,⟨E,hi,mi,hk.but hb h2⟩,h.va.but hb h3,h.cr⟩
theorem Vd.later (h:Vd w H X l T)(hb:Below w.heap.size w w'):Vd w' H X l T:=h.but (S:=λ_=>False) (aj.of hb) (λ_ _ h=>h) (λh=>h) (λh=>h)
def Vt (w:World)(H:Hv)(X:List Tk)(l:Fo):Prop:=∃T,Vd w H X l T/\Tr X l T
theorem Vt.but (h:Vt w H X l)(hb:aj S w w')(h1:∀k,H.A.jP k->¬S k)(h2:¬S H.g)(h3:¬S H.v):Vt w' H X l:=by
 obtain⟨T,h,ht⟩:=h
 exact⟨T,h.but hb h1 h2 h3,ht⟩
theorem Vt.later (h:Vt w H X l)(hb:Below w.heap.size w w'):Vt w' H X l:=h.but (S:=λ_=>False) (aj.of hb) (λ_ _ h=>h) (λh=>h) (λh=>h)
theorem Vt.cat (h:Vt w H X l):jb w H.A H.kn H.mo X l:=by obtain⟨T,h,_⟩:=h;exact h.cat
theorem Vd.keep (h:Vd w H X l T){T':Nat->List K.Pu}(hb:aj (λk=>k=H.g) w w')(hk:∃E hi mi,K.Kc w' H.g H.s H.n H.k T' E hi mi):Vd w' H X l T' :=
 ⟨h.cat.but hb (λk hk e=>h.cr.g1 (e ▸ hk)),hk,h.va.but hb h.cr.v2,h.cr⟩
end Go.Proofs.YtmhinfbkmjdgfaaGreatDoor.L
namespace Go.Proofs.YtmhinfbkmjdgfaaGreatDoor.L
open Go.RowKit H
theorem Gw (a:Addr)(w:World):(method 693 217 (.pointer (some a)) "Get").run Tryz.prog w=.ok (467,.pointer (some a)) w:=by kernel_rfl
theorem FB (a:Addr)(w:World):(method 693 326 (.agg #[.pointer (some a)]) "Get").run Tryz.prog w=.ok (470,.agg #[.pointer (some a)]) w:=by kernel_rfl
theorem Iz (a b:Value)(w:World):(Instr.index 329 (.agg #[a,b]) (ab 0)).run Tryz.prog w=.ok a w:=by kernel_rfl
theorem Jf (a b:Value)(w:World):(Instr.index 329 (.agg #[a,b]) (ab 1)).run Tryz.prog w=.ok b w:=by kernel_rfl
variable {w w':World}{H:Hv}{X:List Tk}{l:Fo}{T:Nat->List K.Pu}
def Kk (w:World)(H:Hv)(T:Nat->List K.Pu):Prop:=∃E hi mi,K.Kc w H.g H.s H.n H.k T E hi mi
def Gx (w1:World)(H:Hv)(T:Nat->List K.Pu)(q b:Bool)(t:Value)(w:World):Prop :=
 ∃i:Nat,t=ab (i:Int)/\i<=2/\(1<=i->q=false)/\(2<=i->b=false)/\Kk w H T/\aj (λk=>k=H.g) w1 w
theorem g6 (h:Vt w H X l)(c:Cp)(hw:c.2.1<az/\c.2.2<az) :
  Calls Tryz.prog 352 #[aq H.v,j5 c] w λe w'=>e=.returned (.tuple #[ab (dJ X l c),.bool (bn X l c)])/\Vt w' H X l/\aj (λk=>k=H.g) w w':=by
 obtain⟨T,h,ht⟩:=h
 obtain⟨o,hi,lo⟩:=c
 obtain⟨w1,hw1⟩:∃w1,w1=w.alloc (Obj.cells #[ab o,ai (hi:Int),ai (lo:Int)] 37):=⟨_,rfl⟩
 have hB1:Below w.heap.size w w1:=by rw [hw1];exact ag _ _
 have hgl:H.g<w.heap.size:=by obtain⟨_,_,_,hk⟩:=h.ch;exact hk.lt
 have h1:=h.later hB1
 have HV:=ae (λ(U:World) (hU:aj (λk=>k=H.g) w1 U)=>h1.va.but hU h.cr.v2)
 have HC:Hid (∀U:World,aj (λk=>k=H.g) w1 U->U.cell? ⟨w.heap.size,0,none⟩=some (ab o)/\U.cell? ⟨w.heap.size,1,none⟩=some (ai (hi:Int))/\U.cell? ⟨w.heap.size,2,none⟩=some (ai (lo:Int))):=λU hU =>
  have hne:¬w.heap.size=H.g:=by omega
  ⟨an hU (by rw [hw1];simp [go_sem]) hne,an hU (by rw [hw1];simp [go_sem]) hne,an hU (by rw [hw1];simp [go_sem]) hne⟩
 have HK:=ae (λ(U:World) (hU:aj (λk=>k=H.g) w1 U) (T':Nat->List K.Pu) (ht':Tr X l T') (hk:Kk U H T')=>(show Vt U H X l from ⟨T',h1.keep hU hk,ht'⟩))
 have Pz:=ae (λ(U:World) (hU:aj (λk=>k=H.g) w1 U)=>yN (h1.cat.but hU (λk hk e=>h.cr.g1 (e ▸ hk))) (o,hi,lo) hw)
 have HT:=ae ht
 have W_:Hid ((K.il H.s H.k T (o,hi,lo)).2=true->(K.il H.s H.k T (o,hi,lo)).1=dJ X l (o,hi,lo)/\bn X l (o,hi,lo)=true):=λe=>by
  obtain⟨e1,e2⟩:=ht.get e
  exact⟨by unfold dJ;rw [e1,e2];rfl,e1⟩
 have HG:Hid (∀U,Kk U H T->Calls Tryz.prog 467 #[aq H.g,.agg #[ab o,ai (hi:Int),ai (lo:Int)]] U λx w'=>x=.returned (.tuple #[ab (K.il H.s H.k T (o,hi,lo)).1,.bool (K.il H.s H.k T (o,hi,lo)).2])/\Kk w' H T/\aj (λk=>k=H.g) U w'):=λU ⟨E,h1,m1,hk⟩=>(K.IH hk (o,hi,lo) hw).mono (λx w' hx=>⟨hx.1,⟨_,_,_,hx.2.1⟩,hx.2.2⟩)
 have HL:Hid (∀U,aj (λk=>k=H.g) w1 U->Kk U H T->bn X l (o,hi,lo)=true->Calls Tryz.prog 394 #[aq H.v,.iface 326 (.agg #[aq H.A.g]),.agg #[ab o,ai (hi:Int),ai (lo:Int)],ab (dJ X l (o,hi,lo))] U λx w'=>x=.returned (.tuple #[])/\Vt w' H X l/\aj (λk=>k=H.g) U w'):=λU hU ⟨E,a1,m1,hk⟩ hb=>by
  have hs:dJ X l (o,hi,lo)=eX X l (o,hi,lo):=by unfold dJ;rw [hb];rfl
  rw [hs];refine (BQ (h1.va.but hU h.cr.v2) hk (o,hi,lo) (eX X l (o,hi,lo)) hw).mono ?_
  rintro x w' ⟨rfl,hk',hb'⟩
  exact⟨rfl,⟨_,h1.keep (hU.trans hb') ⟨_,_,_,hk'⟩,ht.put hb⟩,hb'⟩
 have Tt:Hid (bn X l (o,hi,lo)=false->dJ X l (o,hi,lo)=0):=λe=>by unfold dJ;rw [e];rfl
 have VH:Hid (Kk w1 H T):=h1.ch
 have v0:=(HV.out w1 (aj.refl _ _)).c0
 have v1:=(HV.out w1 (aj.refl _ _)).c1
 have v2:=(HV.out w1 (aj.refl _ _)).c2
 have OI:=ae hB1
 have m1:=Gw
 have m2:=FB
 have i0:=λw=>Iz (.iface 217 (aq H.g)) (.iface 326 (.agg #[aq H.A.g])) w
 have i1:=λw=>Jf (.iface 217 (aq H.g)) (.iface 326 (.agg #[aq H.A.g])) w
 clear h h1 ht hw hB1 hgl;generalize (K.il H.s H.k T (o,hi,lo)).1=gm at *
 generalize (K.il H.s H.k T (o,hi,lo)).2=gq at *
 generalize dJ X l (o,hi,lo)=sm at *
 generalize bn X l (o,hi,lo)=sq at *
 go_enter Tryz.func352,Tryz.ntmps352
 go_upto_region 1 with fail
 rw [<-hw1];clear hw1;go_upto_region 2 with fail
 clear v0 v1 v2;go_loopw [14] (Gx w1 H T gq sq) (λt _=>2 - (intOf t).toNat)
 case atStart=>exact⟨0,rfl,by omega,λe=>by omega,λe=>by omega,VH.out,aj.refl _ _⟩
 case round =>
  obtain⟨i,rfl,hi2,hg1,hg2,hk,hB⟩:=hrel
  have HB:=ae hB
  have TQ:=ae hk
  obtain⟨c0,c1,c2⟩:=HC.out _ hB
  rcases Nat.lt_or_ge i 1 with hi0|hi1
  ·obtain rfl:i=0:=by omega
   clear hg1 hg2 hk hB hi2 hi0;simp only [Int.cast_ofNat_Int];cases gq with
   | true =>
    obtain⟨rfl,rfl⟩:=W_.out rfl
    go_upto_region 6 with (first|(go_at_call 467;refine (HG.out _ TQ.out).mono ?_;rintro e w2 ⟨rfl,hk2,hb2⟩;have PG:=ae hk2;have OH:=ae (HB.out.trans hb2);clear hk2 hb2))
    clear c0 c1 c2;obtain⟨c0,c1,c2⟩:=HC.out _ OH.out
    go_wp2_with (first|(go_at_call 394;refine (Bu H.v H.g (o,hi,lo) gm _).mono ?_;rintro e w3 ⟨rfl,hb3⟩;have QW:Hid (Vt w3 H X l):=(HK.out _ OH.out T HT.out PG.out).later hb3;have OJ:=ae (OH.out.call hb3);clear hb3))
    exact bodyPost_ret (v:=.tuple #[ab gm,.bool true]) (by simp [results,Tryz.results352,go_sem]) rfl ⟨rfl,QW.out,(aj.of (S:=λk=>k=H.g) OI.out).trans OJ.out⟩
   | false =>
    go_wp2_with (first|(go_at_call 467;refine (HG.out _ TQ.out).mono ?_;rintro e w2 ⟨rfl,hk2,hb2⟩;have PG:=ae hk2;have OH:=ae (HB.out.trans hb2);clear hk2 hb2))
    exact⟨⟨1,rfl,by omega,λ_=>rfl,λh=>by omega,PG.out,OH.out⟩,by simp [intOf]⟩
  ·have hq:=hg1 hi1
   rcases Nat.lt_or_ge i 2 with hi0|hi2'
   ·obtain rfl:i=1:=by omega
    clear hg1 hg2 hk hB hi2 hi0 hi1;simp only [Int.cast_ofNat_Int];cases sq with
    | true =>
     go_upto_region 6 with (first|(go_at_call 470;refine (Pz.out _ HB.out).mono ?_;rintro e w2 ⟨rfl,hb2⟩;have OH:=ae (HB.out.call hb2);have PG:Hid (Kk w2 H T):=(by obtain⟨E,x1,x2,hk⟩:=TQ.out;exact⟨E,x1,x2,hk.later hb2⟩);clear hb2))
     clear c0 c1 c2;obtain⟨c0,c1,c2⟩:=HC.out _ OH.out
     go_wp2_with (first|(go_at_call 394;refine (HL.out _ OH.out PG.out (by simp)).mono ?_;rintro e w3 ⟨rfl,hv3,hb3⟩;have Sa:=ae hv3;have OJ:=ae (OH.out.trans hb3);clear hv3 hb3))
     exact bodyPost_ret (v:=.tuple #[ab sm,.bool true]) (by simp [results,Tryz.results352,go_sem]) rfl ⟨rfl,Sa.out,(aj.of (S:=λk=>k=H.g) OI.out).trans OJ.out⟩
    | false =>
     go_wp2_with (first|(go_at_call 470;refine (Pz.out _ HB.out).mono ?_;rintro e w2 ⟨rfl,hb2⟩;have OH:=ae (HB.out.call hb2);have PG:Hid (Kk w2 H T):=(by obtain⟨E,x1,x2,hk⟩:=TQ.out;exact⟨E,x1,x2,hk.later hb2⟩);clear hb2))
     exact⟨⟨2,rfl,by omega,λ_=>hq,λ_=>rfl,PG.out,OH.out⟩,by simp [intOf]⟩
   ·obtain rfl:i=2:=by omega
    have hs:=hg2 hi2'
    subst hs;obtain rfl:=Tt.out rfl
    clear hg1 hg2 hk hB hi2 hi1 hi2';simp only [Int.cast_ofNat_Int];go_wp2;exact bodyPost_ret (v:=.tuple #[ab 0,.bool false]) (by simp [results,Tryz.results352,go_sem]) rfl ⟨rfl,HK.out _ HB.out T HT.out TQ.out,(aj.of (S:=λk=>k=H.g) OI.out).trans HB.out⟩
end Go.Proofs.YtmhinfbkmjdgfaaGreatDoor.L
namespace Go.Proofs.YtmhinfbkmjdgfaaGreatDoor.L
open Go.RowKit H
variable {w w':World}{H:Hv}{X:List Tk}{l:Fo}{T:Nat->List K.Pu}
variable {hi mi:Int}{E g k n s:Nat}
theorem nW (h:Vt w H X l)(c:Cp)(need:Int)(hw:c.2.1<az/\c.2.2<az) :
  Calls Tryz.prog 299 #[aq H.v,j5 c,ab need] w λe w'=>e=.returned (ab (cO X l need c))/\Vt w' H X l/\aj (λk=>k=H.g) w w':=by
 obtain⟨o,hi,lo⟩:=c
 obtain⟨w1,hw1⟩:∃w1,w1=w.alloc (Obj.cells #[ab o,ai (hi:Int),ai (lo:Int)] 37):=⟨_,rfl⟩
 have hB1:Below w.heap.size w w1:=by rw [hw1];exact ag _ _
 have x0:w1.cell? ⟨w.heap.size,0,none⟩=some (ab o):=by rw [hw1];simp [go_sem]
 have x1:w1.cell? ⟨w.heap.size,1,none⟩=some (ai (hi:Int)):=by rw [hw1];simp [go_sem]
 have x2:w1.cell? ⟨w.heap.size,2,none⟩=some (ai (lo:Int)):=by rw [hw1];simp [go_sem]
 have HR:=ae (g6 (h.later hB1) (o,hi,lo) hw)
 have OI:=ae hB1
 have P3:Hid (bn X l (o,hi,lo)=true->dJ X l (o,hi,lo)=eX X l (o,hi,lo)):=λe=>by unfold dJ;rw [e];rfl
 clear h hB1 hw;rcases mr X l need (o,hi,lo) with ⟨h1,h2⟩|⟨h1,h2,h3⟩|⟨h1,h2,h3⟩
 ·rw [h1] at HR
  rw [h2];clear h1 h2;go_enter Tryz.func299,Tryz.ntmps299
  go_upto_region 1 with fail
  rw [<-hw1];clear hw1;go_wp2_with (first|(go_at_call 352;refine HR.out.mono ?_;rintro e w2 ⟨rfl,hv2,hb2⟩;have QV:=ae hv2;have OH:=ae ((aj.of (S:=λk=>k=H.g) OI.out).trans hb2);clear hv2 hb2))
  go_ret;exact⟨rfl,QV.out,OH.out⟩
 ·have hs:=P3.out h1
  rw [h1,hs] at HR;rw [h3];have HH:=ae (DQ (eX X l (o,hi,lo)) need)
  rw [h2] at HH;clear h1 h2 h3 hs;generalize eX X l (o,hi,lo)=q at *
  go_enter Tryz.func299,Tryz.ntmps299
  go_upto_region 1 with fail
  rw [<-hw1];clear hw1;go_wp2_with (first
   | (go_at_call 343;refine (HH.out _).mono ?_;rintro e w9 ⟨rfl,hw9⟩;obtain rfl:=hw9.symm;clear hw9)
   | (go_at_call 352;refine HR.out.mono ?_;rintro e w2 ⟨rfl,hv2,hb2⟩;have QV:=ae hv2;have OH:=ae ((aj.of (S:=λk=>k=H.g) OI.out).trans hb2);clear hv2 hb2))
  go_ret;exact⟨rfl,QV.out,OH.out⟩
 ·have hs:=P3.out h1
  rw [h1,hs] at HR;rw [h3];have HH:=ae (DQ (eX X l (o,hi,lo)) need)
  rw [h2] at HH;clear h1 h2 h3 hs;generalize eX X l (o,hi,lo)=q at *
  go_enter Tryz.func299,Tryz.ntmps299
  go_upto_region 1 with fail
  rw [<-hw1];clear hw1;go_wp2_with (first
   | (go_at_call 343;refine (HH.out _).mono ?_;rintro e w9 ⟨rfl,hw9⟩;obtain rfl:=hw9.symm;clear hw9)
   | (go_at_call 352;refine HR.out.mono ?_;rintro e w2 ⟨rfl,hv2,hb2⟩;have QV:=ae hv2;have OH:=ae ((aj.of (S:=λk=>k=H.g) OI.out).trans hb2);clear hv2 hb2))
  go_ret;exact⟨rfl,QV.out,OH.out⟩
def Gk (w1:World)(g s n k:Nat)(t:Value)(w:World):Prop :=
 ∃i:Nat,t=ab (i:Int)/\i<=256/\(∃E T hi mi,K.Kc w g s n k T E hi mi/\(1<=i->T=K.T0))/\aj (λk=>k=g) w1 w
theorem sM (hk:K.Kc w g s n k T E hi mi) :
  Calls Tryz.prog 208 #[aq g] w λe w'=>e=.returned (.tuple #[])/\(∃E hi mi,K.Kc w' g s n k K.T0 E hi mi)/\aj (λk=>k=g) w w':=by
 have HK:=ae hk
 clear hk;go_enter Tryz.func208,Tryz.ntmps208
 go_upto_region 1 with fail
 go_loopw [2] (Gk w g s n k) (λt _=>256 - (intOf t).toNat)
 case atStart=>exact⟨0,rfl,by omega,⟨_,_,_,_,HK.out,λh=>by omega⟩,aj.refl _ _⟩
 case round =>
  obtain⟨i,rfl,hi2,⟨E',T',h1,h2,hk,ht⟩,hB⟩:=hrel
  have HB:=ae hB
  by_cases hlt:i<256
  ·have hd:decide ((i:Int)<256)=true:=decide_eq_true (by omega)
   have HT:=ae (K.Ht hk)
   clear hk ht hB;go_wp2_with (first|(go_at_call 274;refine HT.out.mono ?_;rintro e w2 ⟨rfl,hk2,hb2⟩;have PG:=ae hk2;have OH:=ae (HB.out.trans hb2);clear hk2 hb2))
   exact⟨⟨i+1,by go_num,by omega,⟨_,_,_,_,PG.out,λ_=>rfl⟩,OH.out⟩,by simp [intOf];omega⟩
  ·have hd:decide ((i:Int)<256)=false:=decide_eq_false (by omega)
   have QW:=ae hk
   rw [ht (by omega)] at QW;clear hk ht hB;go_wp2;exact bodyPost_end (by simp [results,Tryz.results208,go_sem]) rfl ⟨rfl,⟨_,_,_,QW.out⟩,HB.out⟩
theorem xU {c:Nat}(hk:K.Kc w g s n k T E hi mi) :
  Calls Tryz.prog 130 #[aq c,aq g] w λe w'=>∃v,e=.returned (aq v)/\Va w' v g c/\(∃E hi mi,K.Kc w' g s n k K.T0 E hi mi)/\w.heap.size<=v/\aj (λk=>k=g) w w':=by
 have HF:=ae (sM hk)
 clear hk;go_enter Tryz.func130,Tryz.ntmps130
 go_upto_region 2 with (first|(go_at_call 208;refine HF.out.mono ?_;rintro e w2 ⟨rfl,hk2,hb2⟩;have PG:=ae hk2;have OH:=ae hb2;clear hk2 hb2))
 go_wp2;go_ret;obtain⟨E2,h2,m2,hk2⟩:=PG.out
 exact⟨_,rfl,⟨by simp [go_sem],by simp [go_sem],by simp [go_sem]⟩,⟨_,_,_,hk2.later (ag _ _)⟩,OH.out.size,OH.out.alloc _⟩
end Go.Proofs.YtmhinfbkmjdgfaaGreatDoor.L
namespace Go.Proofs.YtmhinfbkmjdgfaaGreatDoor.L
open Go.RowKit H
variable {w w':World}{H:Hv}{X:List Tk}{l:Fo}{T:Nat->List K.Pu}
variable {b n:Nat}{S:Nat->Prop}{a:Option Addr}
theorem _root_.Go.Proofs.YtmhinfbkmjdgfaaGreatDoor.Rd.IP {w w':World}{K:List Cp}(h:Rd w a n K)(hb:aj S w w')(hn:0<n->∀k,aI a k->¬S k):Rd w' a n K:=by
 by_cases h0:0<n
 ·exact h.but hb (hn h0)
 ·exact⟨h.len,λh1=>absurd h1 h0⟩
def Bf (w:World)(b:Nat)(c:Cp):World:=((w.setCell ⟨b,0,none⟩ (ab c.1)).setCell ⟨b,1,none⟩ (ai (c.2.1:Int))).setCell ⟨b,2,none⟩ (ai (c.2.2:Int))
theorem c_ {a w:World}(h:aj S a w)(hb:S b)(c:Cp):aj S a (Bf w b c):=((h.setCell (p:=⟨b,0,none⟩) hb _).setCell (p:=⟨b,1,none⟩) hb _).setCell (p:=⟨b,2,none⟩) hb _
theorem yo {a w:World}(h:aj S a w)(hb:a.heap.size<=b)(c:Cp):aj S a (Bf w b c):=((h.put (p:=⟨b,0,none⟩) hb _).put (p:=⟨b,1,none⟩) hb _).put (p:=⟨b,2,none⟩) hb _
def G_ (w1:World)(H:Hv)(X:List Tk)(l:Fo)(K:List Cp)(o need:Int)(t s:Value)(w:World):Prop :=
 ∃(i:Nat) (e:Int),t=ab (i:Int)/\s=ab e/\i<=K.length/\dL (cO X l need) o K 3=dL (cO X l need) o (K.drop i) e/\Vt w H X l/\aj (λk=>k=H.g) w1 w
theorem wJ (h:Vt w H X l)(o need:Int){K:List Cp}(cap:Nat)(hr:Rd w a n K)(hn:n<=9223372036854775807)(hk:∀c∈K,c.2.1<az/\c.2.2<az)(ha:0<n->∀k,aI a k->k≠H.g) :
  Calls Tryz.prog 300 #[aq H.v,ab o,ab need,.slice a n cap] w λe w'=>e=.returned (.tuple #[j5 (dL (cO X l need) o K 3).1,ab (dL (cO X l need) o K 3).2])/\Vt w' H X l/\aj (λk=>k=H.g) w w':=by
 have hl:=hr.len
 subst hl;obtain⟨w1,hw1⟩:∃w1,w1=w.alloc (Obj.cells #[ab 0,ai 0,ai 0] 37):=⟨_,rfl⟩
 have hB1:Below w.heap.size w w1:=by rw [hw1];exact ag _ _
 have hgl:H.g<w.heap.size:=by obtain⟨_,⟨_,⟨_,_,_,hk⟩,_,_⟩,_⟩:=h;exact hk.lt
 have hL1:aM w1 ⟨w.heap.size,0,none⟩ (ab 0)/\aM w1 ⟨w.heap.size,1,none⟩ (ai 0)/\aM w1 ⟨w.heap.size,2,none⟩ (ai 0):=by
  rw [hw1];exact⟨⟨by simp [go_sem],by simp [go_sem]⟩,⟨by simp [go_sem],by simp [go_sem]⟩,⟨by simp [go_sem],by simp [go_sem]⟩⟩
 have HL:Hid (∀U,aj (λk=>k=H.g) w1 U->aM U ⟨w.heap.size,0,none⟩ (ab 0)/\aM U ⟨w.heap.size,1,none⟩ (ai 0)/\aM U ⟨w.heap.size,2,none⟩ (ai 0)):=λU hU =>
  have hne:¬w.heap.size=H.g:=by omega
  ⟨hL1.1.but hU hne,hL1.2.1.but hU hne,hL1.2.2.but hU hne⟩
 have HR:=ae (λ(U:World) (hU:aj (λk=>k=H.g) w1 U)=>(hr.later hB1).IP hU ha)
 have HW:=ae hk
 have XF:=ae (h.later hB1)
 have OI:=ae hB1
 have XK:Hid (∀U,aj (λk=>k=H.g) w1 U->aj (λk=>k=H.g) w U):=λU hU=>(aj.of hB1).trans hU
 have Ru:Hid (∀U,aj (λk=>k=H.g) w1 U->∀(x:Int) (y z:Nat),aj (λk=>k=H.g) w (Bf U w.heap.size (x,y,z))):=λU hU x y z=>yo ((aj.of hB1).trans hU) (Nat.le_refl _) _
 have Qm:Hid (∀U,Vt U H X l->∀(x:Int) (y z:Nat),Vt (Bf U w.heap.size (x,y,z)) H X l):=λU hU x y z=>hU.but (S:=λk=>k=w.heap.size) (c_ (S:=λk=>k=w.heap.size) (aj.refl _ _) (b:=w.heap.size) rfl _) (λk hk e=>by have:=h.cat.lt k hk;omega) (by omega) (λe=>by obtain⟨_,⟨_,_,hva,_⟩,_⟩:=h;have:=hva.lt;omega)
 have Qv:Hid (w.heap.size<w1.heap.size):=by rw [hw1];simp [Hid]
 clear h hr hk ha hB1 hL1 hgl;go_enter Tryz.func300,Tryz.ntmps300
 go_upto_region 1 with fail
 rw [<-hw1];clear hw1;go_upto_region 3 with fail
 go_loopw [15,10] (G_ w1 H X l K o need) (λt _ _=>K.length - (intOf t).toNat)
 case atStart=>exact⟨0,3,rfl,rfl,by omega,by simp,XF.out,aj.refl _ _⟩
 case round =>
  obtain⟨i,e,rfl,rfl,hi,hna,hv,hB⟩:=hrel
  have HB:=ae hB
  have HN:=ae hna
  have HV:=ae hv
  clear hna hv hB;by_cases hlt:i<K.length
  ·have hd:decide ((i:Int)<(K.length:Int))=true:=decide_eq_true (by omega)
   obtain⟨x,hx⟩:∃x,K[i]?=some x:=⟨_,List.getElem?_eq_getElem hlt⟩
   obtain⟨b,q,rfl,hat⟩:=(HR.out _ HB.out).at_ (by omega)
   have HS:=ae (vz (g:=cO X l need) (o:=o) hx e)
   obtain⟨x0,x1,x2⟩:=hat i x hx
   have Xk:=ae (HW.out x (List.mem_of_getElem? hx))
   clear hx hat;obtain⟨xo,xh,xl⟩:=x
   simp only at x0 x1 x2;by_cases hc:xo=o
   ·have hq:(xo != o)=false:=by simp [hc]
    obtain⟨w2,hw2⟩:∃w2,w2=wr.alloc (Obj.cells #[ab xo,ai (xh:Int),ai (xl:Int)] 37):=⟨_,rfl⟩
    have hB2:Below wr.heap.size wr w2:=by rw [hw2];exact ag _ _
    have y0:w2.cell? ⟨wr.heap.size,0,none⟩=some (ab xo):=by rw [hw2];simp [go_sem]
    have y1:w2.cell? ⟨wr.heap.size,1,none⟩=some (ai (xh:Int)):=by rw [hw2];simp [go_sem]
    have y2:w2.cell? ⟨wr.heap.size,2,none⟩=some (ai (xl:Int)):=by rw [hw2];simp [go_sem]
    have hgl:H.g<wr.heap.size:=by obtain⟨_,⟨_,⟨_,_,_,hk⟩,_,_⟩,_⟩:=HV.out;exact hk.lt
    have HY:Hid (∀U,aj (λk=>k=H.g) w2 U->U.cell? ⟨wr.heap.size,0,none⟩=some (ab xo)/\U.cell? ⟨wr.heap.size,1,none⟩=some (ai (xh:Int))/\U.cell? ⟨wr.heap.size,2,none⟩=some (ai (xl:Int))):=λU hU =>
     have hne:¬wr.heap.size=H.g:=by omega
     ⟨an hU y0 hne,an hU y1 hne,an hU y2 hne⟩
    have HG:=ae (nW (HV.out.later hB2) (xo,xh,xl) need Xk.out)
    have OH:=ae (HB.out.call hB2)
    have OW:Hid (dL (cO X l need) o K 3=if cO X l need (xo,xh,xl)=0 then ((xo,xh,xl),0) else if cO X l need (xo,xh,xl)=4 then dL (cO X l need) o (K.drop (i+1)) 4 else dL (cO X l need) o (K.drop (i+1)) e):=by unfold Hid;rw [HN.out,HS.out,if_neg (by simpa using hc)]
    have Yc:Hid (¬w.heap.size=wr.heap.size):=by have h1:=Qv.out;have h2:=HB.out.size;unfold Hid;omega
    have hcx:=mr X l need (xo,xh,xl)
    clear hc hB2 hgl HS HN;rcases hcx with ⟨_,h1⟩|⟨_,_,h1⟩|⟨_,_,h1⟩
    ·rw [h1] at HG OW
     clear h1;go_upto_region 5 with fail
     rw [<-hw2];clear hw2 x0 x1 x2;go_wp2_with (first|(go_at_call 299;refine HG.out.mono ?_;rintro e3 w3 ⟨rfl,hv3,hb3⟩;have Sa:=ae hv3;have OJ:=ae (OH.out.trans hb3);clear hv3 hb3))
     exact⟨⟨i+1,e,by go_num,rfl,by omega,OW.out.trans (by simp),Sa.out,OJ.out⟩,by simp [intOf];omega⟩
    ·rw [h1] at HG OW
     clear h1;go_upto_region 5 with fail
     rw [<-hw2];clear hw2 x0 x1 x2;go_wp2_with (first|(go_at_call 299;refine HG.out.mono ?_;rintro e3 w3 ⟨rfl,hv3,hb3⟩;have Sa:=ae hv3;have OJ:=ae (OH.out.trans hb3);clear hv3 hb3))
     exact⟨⟨i+1,4,by go_num,rfl,by omega,OW.out.trans (by simp),Sa.out,OJ.out⟩,by simp [intOf];omega⟩
    ·rw [h1] at HG OW
     clear h1;go_upto_region 5 with fail
     rw [<-hw2];clear hw2 x0 x1 x2;go_upto_region 8 with (first|(go_at_call 299;refine HG.out.mono ?_;rintro e3 w3 ⟨rfl,hv3,hb3⟩;have Sa:=ae hv3;have Xb:=ae (HY.out _ hb3);have OJ:=ae (OH.out.trans hb3);clear hv3 hb3))
     clear y0 y1 y2;obtain⟨y0,y1,y2⟩:=Xb.out
     obtain⟨⟨r0,f0⟩,⟨r1,f1⟩,⟨r2,f2⟩⟩:=HL.out _ OJ.out
     have HE:Hid (dL (cO X l need) o K 3=((xo,xh,xl),0)):=OW.out.trans (by simp)
     go_wp2;exact bodyPost_ret (v:=.tuple #[j5 (xo,xh,xl),ab 0]) (by simp [results,Tryz.results300,go_sem,r0,r1,r2]) rfl ⟨by rw [HE.out],Qm.out _ Sa.out xo xh xl,Ru.out _ OJ.out xo xh xl⟩
   ·have hq:(xo != o)=true:=by simp [hc]
    have OW:Hid (dL (cO X l need) o (K.drop i) e=dL (cO X l need) o (K.drop (i+1)) e):=by unfold Hid;rw [HS.out,if_pos hc]
    clear hc;go_wp2;exact⟨⟨i+1,e,by go_num,rfl,by omega,HN.out.trans OW.out,HV.out.later (ag _ _),HB.out.alloc _⟩,by simp [intOf];omega⟩
  ·have hd:decide ((i:Int)<(K.length:Int))=false:=decide_eq_false (by omega)
   have HE:Hid (dL (cO X l need) o K 3=((0,0,0),e)):=HN.out.trans (yO (by omega) e)
   obtain⟨⟨r0,f0⟩,⟨r1,f1⟩,⟨r2,f2⟩⟩:=HL.out _ HB.out
   go_wp2;exact bodyPost_ret (v:=.tuple #[j5 (0,0,0),ab e]) (by simp [results,Tryz.results300,go_sem,r0,r1,r2]) rfl ⟨by rw [HE.out],Qm.out _ HV.out 0 0 0,Ru.out _ HB.out 0 0 0⟩
end Go.Proofs.YtmhinfbkmjdgfaaGreatDoor.L
namespace Go.Proofs.YtmhinfbkmjdgfaaGreatDoor.M
open Go.RowKit
variable {L:List Value}{base cap g k n:Nat}{P:Program}{e:TypeId}{w:World}
abbrev Cp:=Int×Nat×Nat
theorem kE {α:Type}{enc:α->List Value}(hk:∀x,(enc x).length=k)(K:List α)(i c:Nat)(x:α)(hi:K[i]?=some x)(hc:c<k):(K.flatMap enc)[i*k+c]?=(enc x)[c]?:=by
 induction K generalizing i with
 | nil=>cases hi
 | cons a r ih =>
  rw [List.flatMap_cons];cases i with
  | zero =>
   simp at hi
   subst hi;rw [Nat.zero_mul,Nat.zero_add,List.getElem?_append_left (by rw [hk];exact hc)]
  | succ i =>
   rw [List.getElem?_append_right (by rw [hk,Nat.add_mul];omega),hk]
   have:(i+1)*k+c - k=i*k+c:=by rw [Nat.add_mul];omega
   rw [this];exact ih i (by simpa using hi)
theorem _root_.Go.Proofs.YtmhinfbkmjdgfaaGreatDoor.Ow.rd {a:Option Addr}{K:List Cp}(h:Ow w base 37 3 a n cap (br K))(hn:K.length=n):Rd w a n K :=
 ⟨hn,λh0=>by
  obtain⟨b,e,hc⟩:=h.at_ h0
  refine⟨b,0,e,λi c hi=>?_⟩
  have hg:=λd (hd:d<3)=>kE (enc:=dP) (k:=3) (λ_=>rfl) K i d c hi hd
  rw [Nat.zero_add];exact⟨hc _ _ (hg 0 (by omega)),hc _ _ (hg 1 (by omega)),hc _ _ (hg 2 (by omega))⟩⟩
def GF (w:World)(b o:Nat)(c:Cp):World:=((w.setCell ⟨b,o,none⟩ (ab c.1)).setCell ⟨b,o+1,none⟩ (ai (c.2.1:Int))).setCell ⟨b,o+2,none⟩ (ai (c.2.2:Int))
theorem ji (K:List Cp):∀u∈br K,u.oneCell'=true:=λu hu=>by
 unfold br at hu;obtain⟨x,_,hx⟩:=List.mem_flatMap.1 hu
 exact p7 x u hx
theorem kW (w:World)(dT sT ty elem:TypeId)(k b o dLen dCap:Nat)(a:Addr)(sLen sCap:Nat)(cs:List Value)
  (hu:P.underlying dT=some (.slice elem)) (hs:(P.info? elem).map (·.size)=some k) (hn:cs.length=Nat.min sLen dLen*k)
  (hsrc:∀j v,cs[j]?=some v->w.cell? (a.add j)=some v) (hc:∀j,j<cs.length->(w.cell? ⟨b,o+j,none⟩).isSome=true) (hf:∀j,j<cs.length->w.frozen? ⟨b,o+j,none⟩=false) (h1:∀v∈cs,v.oneCell'=true) :
  (Builtin.copy_ #[dT,sT] ty #[.slice (some ⟨b,o,none⟩) dLen dCap,.slice (some a) sLen sCap]).run P w=.ok (goInt (Nat.min sLen dLen)) (w.setCells b o cs):=by
 have hl:=run_loadCells_list (P:=P) w a cs hsrc
 have hst:=run_storeCells_cells (P:=P) b o cs 0 w (by simpa using hc) (by simpa using hf) h1
 cases hq:P.info? elem with
 | none=>simp [hq] at hs
 | some i =>
  have hi:i.size=k:=by simpa [hq] using hs
  simp [Builtin.copy_,run_underlying hu,Builtin.lenOf,Builtin.firstCells,sizeOf,typeInfo,hq,hi,<-hn,hl,hst]
theorem lx (w:World)(dT sT ty elem:TypeId)(k:Nat)(d a:Option Addr)(dLen dCap sLen sCap:Nat)(hu:P.underlying dT=some (.slice elem))(hs:(P.info? elem).map (·.size)=some k)(hn:Nat.min sLen dLen=0) :
  (Builtin.copy_ #[dT,sT] ty #[.slice d dLen dCap,.slice a sLen sCap]).run P w=.ok (goInt 0) w:=by
 cases hq:P.info? elem with
 | none=>simp [hq] at hs
 | some i =>
  have hl:∀(x:Addr),(loadCells x 0).run P w=.ok #[] w:=λx=>by simpa using run_loadCells_list (P:=P) w x [] (by simp)
  cases d<;>cases a<;>simp [Builtin.copy_,run_underlying hu,Builtin.lenOf,Builtin.firstCells,sizeOf,typeInfo,hq,hn,storeCells,hl]
theorem sX:(Tryz.prog.info? 37).map (·.size)=some 3:=by
 obtain⟨i,hi,hz0,hz1,hz2⟩:=info_parts sZ
 rw [hi];simp [hz1]
def gT (L:List Value):Nat->List Value->List Value
 | _,[]=>L
 | o,v::r=>gT (L.set o v) (o+1) r
theorem tY:∀(vs:List Value) (L:List Value) (o:Nat),o+vs.length<=L.length->gT L o vs=L.take o++vs++L.drop (o+vs.length)
 | [],L,o,h=>by simp [gT]
 | v::r,L,o,h=>by
  rw [gT,tY r _ _ (by simp at h ⊢;omega)];simp at h
  rw [List.take_set,List.drop_set_of_lt (by omega)];have e:(L.take (o+1)).set o v=L.take o++[v]:=by
   apply List.ext_getElem?
   intro j;rw [List.getElem?_set];rcases Nat.lt_trichotomy j o with h1|h1|h1
   ·rw [if_neg (by omega),List.getElem?_take_of_lt (by omega),List.getElem?_append_left (by simp;omega),List.getElem?_take_of_lt h1]
   ·subst h1
    rw [if_pos rfl,if_pos (by simp;omega),List.getElem?_append_right (by simp;omega)];simp
    have:j - min j L.length=0:=by omega
    simp [this]
   ·rw [if_neg (by omega),List.getElem?_eq_none (by simp;omega),List.getElem?_eq_none (by simp;omega)]
  rw [e];simp
  congr 1
  omega
theorem _root_.Go.Proofs.YtmhinfbkmjdgfaaGreatDoor.Ow.setCells :∀(vs:List Value) (o:Nat) (w:World) (L:List Value),Ow w base e k (some ⟨g,0,none⟩) n cap L->Ow (w.setCells g o vs) base e k (some ⟨g,0,none⟩) n cap (gT L o vs)
 | [],_,_,_,h=>h
 | v::r,o,w,L,h=>Ow.setCells r (o+1) _ _ (h.jO o v)
theorem _root_.Go.Proofs.YtmhinfbkmjdgfaaGreatDoor.Ow.some_ (h:Ow w base e k (some ⟨g,0,none⟩) n cap L){j:Nat}(hj:j<n*k):(w.cell? ⟨g,j,none⟩).isSome=true:=by
 have hl:j<L.length:=by rw [h.1];exact hj
 have:=h.rv g rfl j L[j] (List.getElem?_eq_getElem hl)
 rw [this];rfl
theorem _root_.Go.Proofs.YtmhinfbkmjdgfaaGreatDoor.Ow.fr (h:Ow w base e k (some ⟨g,0,none⟩) n cap L)(j:Nat):w.frozen? ⟨g,j,none⟩=false:=by
 rcases h.form with ⟨h1,_⟩|⟨g',h1,h2,_⟩
 ·cases h1
 ·cases h1;exact h2 j
theorem gy (K M:List Cp):br (K++M)=br K++br M:=by simp [br]
theorem cS (K:List Cp):(br K).length=K.length*3:=by
 induction K with
 | nil=>rfl
 | cons a r ih =>
  have e:br (a::r)=dP a++br r:=by simp [br]
  rw [e,List.length_append,ih];simp [dP];omega
theorem nf:∀(K:List Cp) (i:Nat),(br K).take (i*3)=br (K.take i)
 | [],i=>by simp [br]
 | x::K,0=>by simp [br]
 | x::K,i+1=>by
  have ih:=nf K i
  have e:(i+1)*3=i*3+1+1+1:=by omega
  have e1:∀(y:Cp) (M:List Cp),br (y::M)=ab y.1::ai (y.2.1:Int)::ai (y.2.2:Int)::br M:=λy M=>by simp [br,dP]
  rw [List.take_succ_cons,e1,e1,e,List.take_succ_cons,List.take_succ_cons,List.take_succ_cons,ih]
theorem jq:∀(K:List Cp) (i:Nat),(br K).drop (i*3)=br (K.drop i)
 | [],i=>by simp [br]
 | x::K,0=>by simp [br]
 | x::K,i+1=>by
  have ih:=jq K i
  have e:(i+1)*3=i*3+1+1+1:=by omega
  have e1:∀(y:Cp) (M:List Cp),br (y::M)=ab y.1::ai (y.2.1:Int)::ai (y.2.2:Int)::br M:=λy M=>by simp [br,dP]
  rw [List.drop_succ_cons,e1,e,List.drop_succ_cons,List.drop_succ_cons,List.drop_succ_cons,ih]
theorem nc (K M:List Cp)(i:Nat)(h:i+M.length<=K.length):gT (br K) (i*3) (br M)=br (K.take i++M++K.drop (i+M.length)):=by
 rw [tY _ _ _ (by rw [cS,cS];omega),nf,cS,show i*3+M.length*3=(i+M.length)*3 by omega,jq,gy,gy]
theorem nw (w:World)(n:Nat)(hn:n<=1024) :
  ∃w',(Instr.makeSlice 74 (ab (n:Int)) (ab (n:Int))).run Tryz.prog w=.ok (.slice (some ⟨w.heap.size,0,none⟩) n n) w'/\Ow w' w.heap.size 37 3 (some ⟨w.heap.size,0,none⟩) n n (br (List.replicate n (0,0,0)))/\Below w.heap.size w w':=by
 obtain⟨i,hi,hz0,hz1,hz2⟩:=info_parts sZ
 obtain⟨w',hr,ho,hg⟩:=run_make_full (P:=Tryz.prog) w w.heap.size 74 37 i _ 3 Tryz.underlying74 hi hz0 hz1 .i64 .i64 n (by rw [hz2];omega) (by unfold maxLen;omega) (Nat.le_refl _)
 refine⟨w',hr,?_,(Below.refl _ _).grown hg (Nat.le_refl _) (λk hk=>by cases hk)⟩
 have e:br (List.replicate n (0,0,0))=(madeCells (Value.agg #[ab 0,ai 0,ai 0]).cells (n*3)).toList:=by
  apply List.ext_getElem?
  intro j;rw [show (madeCells (Value.agg #[ab 0,ai 0,ai 0]).cells (n*3)).toList[j]?=(madeCells (Value.agg #[ab 0,ai 0,ai 0]).cells (n*3))[j]? from Array.getElem?_toList]
  simp only [madeCells,Value.cells];rw [Array.getElem?_map,Array.getElem?_range];by_cases hj:j<n*3
  ·rw [if_pos hj]
   have hg:=kE (enc:=dP) (k:=3) (λ_=>rfl) (List.replicate n (0,0,0)) (j / 3) (j%3) (0,0,0) (by rw [List.getElem?_replicate,if_pos (by omega)]) (by omega)
   rw [show j / 3*3+j%3=j by omega] at hg;rw [show (br (List.replicate n (0,0,0)))[j]?=_ from hg]
   have hm:j%3=0\/j%3=1\/j%3=2:=by omega
   simp only [Option.map_some,Array.size,List.length];rcases hm with hm|hm|hm<;>rw [hm]<;>simp [dP]
  ·rw [if_neg hj,List.getElem?_eq_none (by rw [cS];simp;omega)]
   rfl
 unfold Ow;rw [e];exact ho
theorem below_drewN {W:World}(h:Below n w W)(k:Nat):Below n w (W.drewN k):=⟨h.os,h.tape,h.output,h.size,h.block⟩
structure Dm (w:World)(base g:Nat)(m:Int)(pa:Option Addr)(cap:Nat)(K:List Cp):Prop where
 c0:w.cell? ⟨g,0,none⟩=some (ab m)
 c1:aM w ⟨g,1,none⟩ (.slice pa K.length cap)
 own:Ow w base 37 3 pa K.length cap (br K)
 ap:∀k,aI pa k->k≠g
 lo:base<=g
variable {w w':World}{base g:Nat}{m:Int}{pa:Option Addr}{cap:Nat}{K:List Cp}
variable {a:Act}{Q:Exit->Act->World->Prop}{o:Oper}{pa':Option Addr}
theorem Dm.lt (h:Dm w base g m pa cap K):g<w.heap.size:=World.block_lt_of_cell? _ _ h.c0
theorem Dm.but {S:Nat->Prop}(h:Dm w base g m pa cap K)(hb:aj S w w')(h1:¬S g)(h2:∀k,aI pa k->¬S k):Dm w' base g m pa cap K :=
 ⟨an hb h.c0 h1,h.c1.but hb h1,h.own.but hb h2,h.ap,h.lo⟩
theorem Dm.later (h:Dm w base g m pa cap K)(hb:Below w.heap.size w w'):Dm w' base g m pa cap K:=h.but (S:=λ_=>False) (aj.of hb) (λh=>h) (λ_ _ h=>h)
theorem Dm.hb (h:Dm w base g m pa cap K):base<=w.heap.size:=by have:=h.lo;have:=h.lt;omega
theorem Dm.mono {b:Nat}(h:Dm w base g m pa cap K)(hb:b<=base):Dm w b g m pa cap K:=⟨h.c0,h.c1,h.own.mono hb,h.ap,Nat.le_trans hb h.lo⟩
theorem Dm.GW (h:Dm w base g m pa cap K):K.length<=cap:=by
 rcases h.own.form with ⟨_,h1,h2⟩|⟨_,_,_,h1⟩
 ·omega
 ·exact h1
structure Wr (w w':World)(g:Nat)(pa pa':Option Addr):Prop where
 but:aj (λk=>k=g\/aI pa k) w w'
 on:∀k,aI pa' k->aI pa k\/w.heap.size<=k
theorem Wr.below {u:World}(h:Wr w w' g pa pa')(ho:Dm w base g m pa cap K)(hb:Below base u w):Below base u w' :=
 ⟨h.but.os.trans hb.os,h.but.tape.trans hb.tape,h.but.output.trans hb.output,Nat.le_trans hb.size h.but.size,λk hk=>(h.but.block k (by have:=ho.hb;omega) (λe=>by
  rcases e with e|e
  ·have:=ho.lo;omega
  ·have:=(ho.own.dB k e).1;omega)).trans (hb.block k hk)⟩
theorem Wr.pre {W:World}(hb:Below w.heap.size w W)(h:Wr W w' g pa pa'):Wr w w' g pa pa' :=
 ⟨(aj.of hb).trans h.but,λk hk=>by
  rcases h.on k hk with e|e
  ·exact .inl e
  ·exact .inr (Nat.le_trans hb.size e)⟩
theorem Dm.put {pb:Option Addr}{c:Nat}{M:List Cp}(h:Dm w base g m pa cap K)(hG:Gr pa pb w w')(ho:Ow w' base 37 3 pb M.length c (br M)):Dm (w'.setCell ⟨g,1,none⟩ (.slice pb M.length c)) base g m pb c M/\Wr w (w'.setCell ⟨g,1,none⟩ (.slice pb M.length c)) g pa pb:=by
 have hn:¬aI pa g:=λe=>h.ap g e rfl
 have hap:∀k,aI pb k->k≠g:=λk hk=>by
  rcases hG.on k hk with e|e
  ·exact h.ap k e
  ·have:=h.lt;omega
 exact⟨⟨by rw [World.cell?_setCell_other _ _ _ _ (by simp)];exact an hG.but h.c0 hn,(h.c1.but hG.but hn).put,ho.but ((aj.refl (λk=>k=g) w').setCell (p:=⟨g,1,none⟩) rfl _) hap,hap,h.lo⟩,
  (hG.but.mono (λk hk=>.inr hk)).setCell (.inl rfl) _,λk hk=>hG.on k hk⟩
theorem bM {P:Program}{md:Region.Mode}{ops:Array Oper}{S:World->Prop}{fuel f2:Nat}{listed l2:Array Bool}{w:World}(hl:listed=l2)(hf:fuel=f2)(h:wpAnyH P md ops Q S f2 l2 a w):wpAnyH P md ops Q S fuel listed a w:=by
 subst hl hf
 exact h
theorem bE {P:Program}{w:World}{K:Act->World->Prop}(s x:Operand)(t:TypeId)
  (ho:o.op=.call { callee:=.builtin .append,args:=#[s,x],argTypes:=#[t,t] }) (vs vx:Value) (hs:a.eval s=vs) (hx:a.eval x=vx) (v':Value) (w':World)
  (hr:(Builtin.append_ #[t,t] o.type #[vs,vx]).run P w=.ok v' w') (h:K (a.put o.dst v') w'):o.wp P a w K Q:=by
 unfold Oper.wp execOp;simp only [ho,resolve,invoke,builtin,Sem.run_bind,Sem.run_pure,Result.andThen_ok,List.map_toArray,List.map_cons,List.map_nil,hs,hx,hr];exact h
theorem mM {P:Program}{w:World}{K:Act->World->Prop}(s x:Operand)(t:TypeId)
  (ho:o.op=.call { callee:=.builtin .copy,args:=#[s,x],argTypes:=#[t,t] }) (vs vx:Value) (hs:a.eval s=vs) (hx:a.eval x=vx) (v':Value) (w':World)
  (hr:(Builtin.copy_ #[t,t] o.type #[vs,vx]).run P w=.ok v' w') (h:K (a.put o.dst v') w'):o.wp P a w K Q:=by
 unfold Oper.wp execOp;simp only [ho,resolve,invoke,builtin,Sem.run_bind,Sem.run_pure,Result.andThen_ok,List.map_toArray,List.map_cons,List.map_nil,hs,hx,hr];exact h
def kT (K:List Cp)(i:Int):Bool:=decide (0<=i/\i<(K.length:Int))
theorem um {i:Int}:kT K i=true↔0<=i/\i<(K.length:Int):=by unfold kT;exact decide_eq_true_iff
theorem cI (h:Dm w base g m pa cap K)(i:Int):Calls Tryz.prog 306 #[aq g,ab i] w λe w'=>e=.returned (.bool (kT K i))/\w'=w:=by
 have c1:=h.c1.1
 clear h;by_cases h1:0<=i
 ·have hd1:decide (i>=0)=true:=decide_eq_true h1
  by_cases h2:i<(K.length:Int)
  ·have hd2:decide (i<(K.length:Int))=true:=decide_eq_true h2
   rw [show kT K i=true from um.2 ⟨h1,h2⟩];go_enter Tryz.func306,Tryz.ntmps306
   go_wp2;go_ret;exact⟨rfl,rfl⟩
  ·have hd2:decide (i<(K.length:Int))=false:=decide_eq_false h2
   rw [show kT K i=false from decide_eq_false (λe=>h2 e.2)];go_enter Tryz.func306,Tryz.ntmps306
   go_wp2;go_ret;exact⟨rfl,rfl⟩
 ·have hd1:decide (i>=0)=false:=decide_eq_false h1
  rw [show kT K i=false from decide_eq_false (λe=>h1 e.1)];go_enter Tryz.func306,Tryz.ntmps306
  go_wp2;go_ret;exact⟨rfl,rfl⟩
theorem Dm.new (w:World)(m:Int)(t:TypeId):Dm (w.alloc (.cells #[ab m,.slice none 0 0] t)) w.heap.size w.heap.size m none 0 [] :=
 ⟨by simp [go_sem],⟨by simp [go_sem],by simp [go_sem]⟩,Ow.nil _ _ _ _,λk hk=>(by obtain⟨_,e,_⟩:=hk;cases e),Nat.le_refl _⟩
theorem cu (m:Int)(w:World)(h1:1<=m)(h2:m<=32) :
  Calls Tryz.prog 209 #[ab m] w λe w'=>∃g,e=.returned (.tuple #[aq g,ab 0])/\Dm w' w.heap.size g m none 0 []/\Below w.heap.size w w':=by
 have hd1:decide (m<1)=false:=decide_eq_false (by omega)
 have hd2:decide (m>32)=false:=decide_eq_false (by omega)
 have HO:=ae (Dm.new w m 370)
 clear h1 h2;go_enter Tryz.func209,Tryz.ntmps209
 go_wp2;exact bodyPost_ret (v:=.tuple #[aq w.heap.size,ab 0]) (by simp [results,Tryz.results209,go_sem]) rfl ⟨w.heap.size,rfl,HO.out,ag _ _⟩
end Go.Proofs.YtmhinfbkmjdgfaaGreatDoor.M
