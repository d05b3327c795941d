import Derived.Test.YtmhinfbkmjdgfaaGreatDoorZ14
set_option linter.unusedVariables false
set_option linter.unusedSimpArgs false
set_option maxRecDepth 100000
set_option maxHeartbeats 4000000
namespace Go.Proofs.YtmhinfbkmjdgfaaGreatDoor.B
open Go.RowKit
variable {p:Int}{E:List (Value×Value)}{b base cap j k n o:Nat}{S:Nat->Prop}{a:Option Addr}{P:Program}{e ti tm tq:TypeId}{w w':World}
structure Im where
 p:Int
 b:Nat
 E:List (Value×Value)
structure Mm (w:World)(ti:TypeId)(b:Nat)(G:List Im):Prop where
 out:Mg w 3 b (G.map λg=>(ab g.p,.map (some g.b)))
 pU:∀g∈G,Mg w ti g.b g.E
 cr:(b::G.map Im.b).Nodup
theorem Mm.but {G:List Im}(h:Mm w ti b G)(hb:aj S w w')(hn:∀k∈b::G.map Im.b,¬S k):Mm w' ti b G :=
 ⟨h.out.but hb (hn b List.mem_cons_self),λg hg=>(h.pU g hg).but hb (hn _ (List.mem_cons_of_mem _ (List.mem_map.2 ⟨g,hg,rfl⟩))),h.cr⟩
theorem Mm.later {G:List Im}(h:Mm w ti b G)(hb:Below w.heap.size w w'):Mm w' ti b G:=h.but (S:=λ_=>False) (aj.of hb) (λ_ _ h=>h)
theorem Mm.new (w:World)(ti:TypeId):Mm (w.alloc (.map #[] 0)) ti w.heap.size []:=⟨Mg.new w _,λg h=>(by cases h),by simp⟩
theorem Mm.lt {G:List Im}(h:Mm w ti b G):∀k∈b::G.map Im.b,k<w.heap.size:=by
 intro k hk;rcases List.mem_cons.1 hk with rfl|hk
 ·exact h.out.lt
 ·obtain⟨g,hg,rfl⟩:=List.mem_map.1 hk
  exact (h.pU g hg).lt
def Gt (G:List Im)(p:Int)(k:Value):Option Value->Prop
 | some v=>∃g∈G,g.p=p/\(k,v)∈g.E
 | none=>∀g∈G,g.p=p->∀x∈g.E,x.1≠k
theorem Gt.cJ {G:List Im}(p:Int)(k:Value):∃r,Gt G p k r:=by
 by_cases h:∃v,∃g∈G,g.p=p/\(k,v)∈g.E
 ·obtain⟨v,h⟩:=h
  exact⟨some v,h⟩
 ·exact⟨none,λg hg hp x hx e=>h ⟨x.2,g,hg,hp,by rw [<-e];exact hx⟩⟩
theorem Mm.key {G:List Im}(h:Mm w ti b G){g g':Im}(hg:g∈G)(hg':g'∈G)(e:g.p=g'.p):g.b=g'.b:=by
 have h1:(Value.int .i64 g.p,Value.map (some g.b))∈G.map λg=>(Value.int .i64 g.p,Value.map (some g.b)):=List.mem_map.2 ⟨g,hg,rfl⟩
 have h2:(Value.int .i64 g.p,Value.map (some g'.b))∈G.map λg=>(Value.int .i64 g.p,Value.map (some g.b)):=List.mem_map.2 ⟨g',hg',by rw [e]⟩
 have:=h.out.one h1 h2
 simpa using this
theorem Mm.same {G:List Im}(h:Mm w ti b G){g g':Im}(hg:g∈G)(hg':g'∈G)(e:g.p=g'.p):g=g':=by
 have hb:=h.key hg hg' e
 have hn:=(List.nodup_cons.1 h.cr).2
 clear h;induction G with
 | nil=>cases hg
 | cons x G ih =>
  rw [List.map_cons,List.nodup_cons] at hn;rcases List.mem_cons.1 hg with h1|h1<;>rcases List.mem_cons.1 hg' with h2|h2
  ·rw [h1,h2]
  ·exact absurd (show x.b∈G.map Im.b from List.mem_map.2 ⟨g',h2,by rw [<-hb,h1]⟩) hn.1
  ·exact absurd (show x.b∈G.map Im.b from List.mem_map.2 ⟨g,h1,by rw [hb,h2]⟩) hn.1
  ·exact ih h1 h2 hn.2
def JM (G:List Im)(p:Int):Option Nat->Prop
 | some b=>∃g∈G,g.p=p/\g.b=b
 | none=>∀g∈G,g.p≠p
theorem Mm.look {G:List Im}(h:Mm w ti b G)(K:Kd ti)(ho:Tryz.prog.underlying tq=some (.map 3 tm))(hi:Tryz.prog.underlying tm=some (.map ti e))(hz0:∀w,(zeroValue tm).run Tryz.prog w=.ok (.map none) w){z:Value}(hz:∀w,(zeroValue e).run Tryz.prog w=.ok z w)
   (hp:bQ p) {k:Value} (hk:Kv ti k) {r:Option Value} (hr:Gt G p k r) :
  ∃m:Option Nat,JM G p m/\(Instr.lookup tq (.map (some b)) (ab p) false).run Tryz.prog w=.ok (.map m) w/\(Instr.lookup tm (.map m) k true).run Tryz.prog w=.ok (.tuple #[r.getD z,.bool r.isSome]) w:=by
 by_cases hx:∃g∈G,g.p=p
 ·obtain⟨g,hg,rfl⟩:=hx
  refine⟨some g.b,⟨g,hg,rfl,rfl⟩,h.out.vL dy ho (List.mem_map.2 ⟨g,hg,rfl⟩) false,?_⟩
  cases r with
  | some v =>
   obtain⟨g',hg',e',hm⟩:=hr
   have:=h.same hg hg' e'.symm
   subst this;exact (h.pU g hg).vL K hi hm true
  | none=>exact (h.pU g hg).rD K hi hk (λx hx=>hr g hg rfl x hx) (hz w) true
 ·have hn:∀g∈G,g.p≠p:=λg hg e=>hx ⟨g,hg,e⟩
  refine⟨none,hn,h.out.rD dy ho (gS hp) (λx hx=>?_) (hz0 w) false,?_⟩
  ·obtain⟨g,hg,rfl⟩:=List.mem_map.1 hx
   intro e;simp at e
   exact hn g hg e
  ·cases r with
   | some v=>obtain⟨g',hg',e',hm⟩:=hr;exact absurd e' (hn g' hg')
   | none=>exact zg w K hi hk (hz w) true
theorem Mm.fresh {G:List Im}(h:Mm w ti b G)(K:Kd ti)(ho:Tryz.prog.underlying tq=some (.map 3 tm))(hi:Tryz.prog.underlying tm=some (.map ti e))(hp:bQ p)(hn:∀g∈G,g.p≠p){k:Value}(hk:Kv ti k)(v:Value) :
  ∃w1 w2,(Instr.mapUpdate tq (.map (some b)) (ab p) (.map (some w.heap.size))).run Tryz.prog (w.alloc (.map #[] 0))=.ok () w1/\(Instr.lookup tq (.map (some b)) (ab p) false).run Tryz.prog w1=.ok (.map (some w.heap.size)) w1/\(Instr.mapUpdate tm (.map (some w.heap.size)) k v).run Tryz.prog w1=.ok () w2/\Mm w2 ti b (G++[⟨p,w.heap.size,[(k,v)]⟩])/\aj (·=b) w w2/\w.heap.size<=w1.heap.size/\aj (·=b) w w1:=by
 have hb1:=ag w (.map #[] 0)
 have hbl:=h.out.lt
 obtain⟨w1,r1,m1,b1,s1⟩:=(h.out.later hb1).add dy ho (gS hp) (λx hx=>by
  obtain⟨g,hg,rfl⟩:=List.mem_map.1 hx
  intro e;simp at e
  exact hn g hg e) (.map (some w.heap.size))
 have hne:w.heap.size≠b:=by omega
 have mi:Mg w1 ti w.heap.size []:=(Mg.new w ti).but b1 hne
 obtain⟨w2,r2,m2,b2,s2⟩:=mi.add K hi hk (λx hx=>by cases hx) v
 have hm1:Mg w1 3 b ((G++[(⟨p,w.heap.size,[(k,v)]⟩:Im)]).map λg:Im=>(ab g.p,.map (some g.b))):=by rw [List.map_append];exact m1
 refine⟨w1,w2,r1,m1.vL dy ho (List.mem_append.2 (.inr (List.mem_singleton.2 rfl))) false,r2,⟨hm1.but b2 (λe=>hne e.symm),λg hg=>?_,?_⟩,((aj.of hb1).trans b1).comp b2 (λi hi=>.inr (by omega)),by rw [s1];exact hb1.size,(aj.of hb1).trans b1⟩
 ·rcases List.mem_append.1 hg with hg|hg
  ·have hgl:=(h.pU g hg).lt
   have hgb:g.b≠b:=λe=>(List.nodup_cons.1 h.cr).1 (by rw [<-e];exact List.mem_map.2 ⟨g,hg,rfl⟩)
   exact (((h.pU g hg).later hb1).but b1 hgb).but b2 (by omega)
  ·rw [List.mem_singleton.1 hg]
   exact m2
 ·rw [List.map_append,<-List.cons_append,List.nodup_append]
  refine⟨h.cr,by simp,λa ha c hc=>?_⟩
  have:=h.lt a ha
  simp at hc
  omega
theorem Dz (w:World):(zeroValue 376).run Tryz.prog w=.ok (.map none) w:=by kernel_rfl
theorem Ba (w:World):(zeroValue 165).run Tryz.prog w=.ok (.pointer none) w:=by kernel_rfl
theorem IV (w:World):(binOp .eql 376 (.map none) (.map none)).run Tryz.prog w=.ok (.bool true) w:=by kernel_rfl
theorem Gp (b:Nat)(w:World):(binOp .eql 376 (.map (some b)) (.map none)).run Tryz.prog w=.ok (.bool false) w:=by kernel_rfl
theorem Iq (w:World):(binOp .eql 258 (.map none) (.map none)).run Tryz.prog w=.ok (.bool true) w:=by kernel_rfl
theorem G8 (b:Nat)(w:World):(binOp .eql 258 (.map (some b)) (.map none)).run Tryz.prog w=.ok (.bool false) w:=by kernel_rfl
theorem Dv (w:World):(zeroValue 258).run Tryz.prog w=.ok (.map none) w:=by kernel_rfl
abbrev Jp:Value:=.agg #[ai 0,ai 0,ai 0,ai 0,ab 0,ab 0]
theorem GG (w:World):(zeroValue 244).run Tryz.prog w=.ok Jp w:=by kernel_rfl
theorem fe (b:Nat)(G:List Im)(p:Int)(F:List Nat)(r:Option Value)(w:World)(h:Mm w 249 b G)(hp:bQ p)(hl:F.length=24)(hs:∀x∈F,x<256)(hr:Gt G p (dk F) r) :
  Calls Tryz.prog 171 #[.map (some b),ab p,dk F] w λe w'=>e=.returned (.tuple #[r.getD (.pointer none),.bool r.isSome])/\Below w.heap.size w w':=by
 obtain⟨W,hW⟩:∃W,W=w.alloc (Obj.cells (aN F).toArray 249):=⟨_,rfl⟩
 have hB:Below w.heap.size w W:=by rw [hW];exact ag _ _
 have O4:Hid ((Instr.loadAt 249 (aq w.heap.size)).run Tryz.prog W=.ok (dk F) W):=by rw [hW];exact j6 (bA w (aN F) _) (by rw [ao];exact hl)
 obtain⟨m,-,h1,h2⟩:=(h.later hB).look A1 Tryz.underlying159 Tryz.underlying376 Dz Ba hp (uc hl hs) hr
 have H1:=ae h1
 have H2:=ae h2
 have HW:=ae hW
 have HB:=ae hB
 clear h1 h2 hW hB h hr;go_enter Tryz.func171,Tryz.ntmps171
 go_upto_region 1 with fail
 rw [<-HW.out];go_wp2_with (first|((with_reducible refine bF H1.out ?_ ?_ ?_);(· rfl);(· rfl))|((with_reducible refine bF H2.out ?_ ?_ ?_);(· rfl);(· rfl))|((with_reducible refine aJ O4.out ?_ ?_);(· rfl)))
 exact bodyPost_ret (v:=.tuple #[r.getD (.pointer none),.bool r.isSome]) (by simp [results,Tryz.results171,go_sem]) rfl ⟨rfl,HB.out⟩
theorem jS (b:Nat)(G:List Im)(p:Int)(F:List Nat)(v:Option Addr)(w:World)(h:Mm w 249 b G)(hp:bQ p)(hl:F.length=24)(hs:∀x∈F,x<256)(hn:∀g∈G,g.p≠p) :
  Calls Tryz.prog 253 #[.map (some b),ab p,dk F,.pointer v] w λe w'=>e=.returned (.tuple #[])/\∃k,w.heap.size<=k/\Mm w' 249 b (G++[⟨p,k,[(dk F,.pointer v)]⟩])/\aj (·=b) w w':=by
 obtain⟨W,hW⟩:∃W,W=w.alloc (Obj.cells (aN F).toArray 249):=⟨_,rfl⟩
 have hB:Below w.heap.size w W:=by rw [hW];exact ag _ _
 have hMW:=h.later hB
 obtain⟨m,hm,h0,-⟩:=hMW.look A1 Tryz.underlying159 Tryz.underlying376 Dz Ba hp (uc hl hs) (r:=none) (λg hg e=>absurd e (hn g hg))
 obtain rfl:m=none:=by
  cases m with
  | none=>rfl
  | some k=>obtain⟨g,hg,e,_⟩:=hm;exact absurd e (hn g hg)
 obtain⟨w1,w2,r1,r2,r3,m2,b2,s1,b1⟩:=hMW.fresh A1 Tryz.underlying159 Tryz.underlying376 hp hn (uc hl hs) (.pointer v)
 have hlW:=h.out.lt
 have O4:Hid ((Instr.loadAt 249 (aq w.heap.size)).run Tryz.prog w1=.ok (dk F) w1):=by
  have hx:Bx W w.heap.size (aN F):=by rw [hW];exact Bx.new w (aN F) _
  exact j6 (hx.but b1 (by omega)).range (by rw [ao];exact hl)
 have H0:=ae h0
 have PB:=ae r1
 have Pp:=ae r2
 have PW:=ae r3
 have HM:=ae m2
 have OQ:Hid (aj (·=b) w w2):=(aj.of hB).trans b2
 have HW:=ae hW
 have HS:Hid (w.heap.size<=W.heap.size):=hB.size
 have hmk:=dq Tryz.underlying376 W
 have hnil:=IV W
 clear h0 r1 r2 r3 m2 b2 s1 b1 hW hB hMW h hn hm;go_enter Tryz.func253,Tryz.ntmps253
 go_upto_region 1 with fail
 rw [<-HW.out];go_wp2_with (first|((with_reducible refine bF H0.out ?_ ?_ ?_);(· rfl);(· rfl))|((with_reducible refine dX PB.out ?_ ?_ ?_ ?_);(· rfl);(· rfl);(· rfl))|((with_reducible refine bF Pp.out ?_ ?_ ?_);(· rfl);(· rfl))|((with_reducible refine aJ O4.out ?_ ?_);(· rfl))|((with_reducible refine dX PW.out ?_ ?_ ?_ ?_);(· rfl);(· rfl);(· rfl)))
 exact bodyPost_end (v:=.tuple #[]) (by simp [results,Tryz.results253,go_sem]) rfl ⟨rfl,_,HS.out,HM.out,OQ.out⟩
structure Tn where
 h:Nat
 l:Nat
 ph:Nat
 pl:Nat
 r:Int
 s:Int
abbrev Tn.L (t:Tn):List Value:=[ai (t.h:Int),ai (t.l:Int),ai (t.ph:Int),ai (t.pl:Int),ab t.r,ab t.s]
abbrev Tn.v (t:Tn):Value:=.agg #[ai (t.h:Int),ai (t.l:Int),ai (t.ph:Int),ai (t.pl:Int),ab t.r,ab t.s]
def D1:Tn:=⟨0,0,0,0,0,0⟩
theorem tS:(Tryz.prog.info? 244).map (·.size)=some 6:=by kernel_rfl
theorem Fp:(Tryz.prog.info? 30).map (·.size)=some 2:=by kernel_rfl
theorem Fe {L:List Value}(h:w.rangeAt b o L)(hl:L.length=6):(Instr.loadAt 244 (.pointer (some ⟨b,o,none⟩))).run Tryz.prog w=.ok (.agg L.toArray) w :=
 run_loadAt_mid w b o 244 L _ h Tryz.underlying244 rfl (by rw [tS,hl])
theorem Ga {L:List Value}(h:w.rangeAt b o L)(hl:L.length=2):(Instr.loadAt 30 (.pointer (some ⟨b,o,none⟩))).run Tryz.prog w=.ok (.agg L.toArray) w :=
 run_loadAt_mid w b o 30 L _ h Tryz.underlying30 rfl (by rw [Fp,hl])
theorem j4 (b:Nat)(G:List Im)(p:Int)(hi lo:Nat)(t:Tn)(w:World)(h:Mm w 30 b G)(hp:bQ p)(h1:nv hi)(h2:nv lo)(hn:∀g∈G,g.p≠p) :
  Calls Tryz.prog 252 #[.map (some b),ab p,jj hi lo,t.v] w λe w'=>e=.returned (.tuple #[])/\∃k,w.heap.size<=k/\Mm w' 30 b (G++[⟨p,k,[(jj hi lo,t.v)]⟩])/\aj (·=b) w w':=by
 obtain⟨W,hW⟩:∃W,W=(w.alloc (Obj.cells #[ai (hi:Int),ai (lo:Int)] 30)).alloc (Obj.cells #[ai (t.h:Int),ai (t.l:Int),ai (t.ph:Int),ai (t.pl:Int),ab t.r,ab t.s] 244):=⟨_,rfl⟩
 have hB:Below w.heap.size w W:=by rw [hW];exact aB _ _ _
 have hMW:=h.later hB
 obtain⟨m,hm,h0,-⟩:=hMW.look BL Tryz.underlying156 Tryz.underlying258 Dv GG hp (uB h1 h2) (r:=none) (λg hg e=>absurd e (hn g hg))
 obtain rfl:m=none:=by
  cases m with
  | none=>rfl
  | some k=>obtain⟨g,hg,e,_⟩:=hm;exact absurd e (hn g hg)
 obtain⟨w1,w2,r1,r2,r3,m2,b2,s1,b1⟩:=hMW.fresh BL Tryz.underlying156 Tryz.underlying258 hp hn (uB h1 h2) t.v
 have hlW:=h.out.lt
 have O4:Hid ((Instr.loadAt 30 (aq w.heap.size)).run Tryz.prog w1=.ok (jj hi lo) w1):=by
  have hx:Bx W w.heap.size [ai (hi:Int),ai (lo:Int)]:=by rw [hW];exact (Bx.new w [ai (hi:Int),ai (lo:Int)] _).later (ag _ _)
  exact Ga (hx.but b1 (by omega)).range rfl
 have Sm:Hid ((Instr.loadAt 244 (.pointer (some ⟨w.heap.size+1,0,none⟩))).run Tryz.prog w1=.ok t.v w1):=by
  have hx:Bx W (w.heap.size+1) t.L:=by rw [hW];have:=Bx.new (w.alloc (Obj.cells #[ai (hi:Int),ai (lo:Int)] 30)) t.L 244;simp at this;exact this
  exact Fe (hx.but b1 (by omega)).range rfl
 have H0:=ae h0
 have PB:=ae r1
 have Pp:=ae r2
 have PW:=ae r3
 have HM:=ae m2
 have OQ:Hid (aj (·=b) w w2):=(aj.of hB).trans b2
 have HW:=ae hW
 have HS:Hid (w.heap.size<=W.heap.size):=hB.size
 have hmk:=dq Tryz.underlying258 W
 have hnil:=Iq W
 clear h0 r1 r2 r3 m2 b2 s1 b1 hW hB hMW h hn hm;go_enter Tryz.func252,Tryz.ntmps252
 go_upto_region 1 with fail
 rw [<-HW.out];go_wp2_with (first|((with_reducible refine bF H0.out ?_ ?_ ?_);(· rfl);(· rfl))|((with_reducible refine dX PB.out ?_ ?_ ?_ ?_);(· rfl);(· rfl);(· rfl))|((with_reducible refine bF Pp.out ?_ ?_ ?_);(· rfl);(· rfl))|((with_reducible refine aJ O4.out ?_ ?_);(· rfl))|((with_reducible refine aJ Sm.out ?_ ?_);(· rfl))|((with_reducible refine dX PW.out ?_ ?_ ?_ ?_);(· rfl);(· rfl);(· rfl)))
 exact bodyPost_end (v:=.tuple #[]) (by simp [results,Tryz.results252,go_sem]) rfl ⟨rfl,_,HS.out,HM.out,OQ.out⟩
def Ow (w:World)(base:Nat)(e:TypeId)(k:Nat)(a:Option Addr)(n cap:Nat)(L:List Value):Prop:=w.ownsRow base e k (.slice a n cap) n L
theorem Ow.nil (w:World)(base:Nat)(e:TypeId)(k:Nat):Ow w base e k none 0 0 []:=⟨by simp,.inl ⟨rfl,rfl⟩⟩
theorem Ow.dB {L:List Value}(h:Ow w base e k a n cap L):∀j,aI a j->base<=j/\j<w.heap.size:=by
 intro j ⟨x,hx,hk⟩
 rcases h.2 with ⟨h1,h2⟩|⟨g,cp,cur,hv,hg,hh,r⟩
 ·simp only [Value.slice.injEq] at h1
  rw [hx] at h1;exact absurd h1.1 (by simp)
 ·simp only [Value.slice.injEq] at hv
  rw [hx] at hv;have e:=Option.some.inj hv.1
  rw [e] at hk;simp only at hk;subst hk;exact⟨hg,(Array.getElem?_eq_some_iff.1 hh).1⟩
theorem Ow.but {L:List Value}(h:Ow w base e k a n cap L)(hb:aj S w w')(hn:∀j,aI a j->¬S j):Ow w' base e k a n cap L:=by
 obtain⟨h1,h2⟩:=h
 refine⟨h1,?_⟩
 rcases h2 with h2|⟨g,cp,cur,hv,hg,hh,r⟩
 ·exact .inl h2
 ·refine .inr ⟨g,cp,cur,hv,hg,?_,r⟩
  rw [hb.block g (Array.getElem?_eq_some_iff.1 hh).1 (hn g (by simp only [Value.slice.injEq] at hv;exact⟨_,hv.1,rfl⟩))]
  exact hh
theorem Ow.later {L:List Value}(h:Ow w base e k a n cap L)(hb:Below w.heap.size w w'):Ow w' base e k a n cap L:=h.but (S:=λ_=>False) (aj.of hb) (λ_ _ h=>h)
theorem kJ (t e:TypeId)(z:Value)(k aE:Nat)(ht:Tryz.prog.underlying t=some (.slice e))(hinf:(Tryz.prog.info? e).map (λi=>(i.zero,i.size,i.bytes))=some (some z,k,aE))(hzs:z.cells.size=k)(hk:0<k)
      {L cs:List Value} (h:Ow w base e k a n cap L) (hl:cs.length=k) (h1:∀u∈cs,u.oneCell'=true) (hb:base<=w.heap.size) (hn:n+1<=100000) (hby:aE<=1000) :
  ∃a' c' w',(Builtin.append_ #[t,t] t #[.slice a n cap,.slice (some ⟨w.heap.size,0,none⟩) 1 1]).run Tryz.prog (w.alloc (Obj.cells cs.toArray e))=.ok (.slice a' (n+1) c') w'/\Ow w' base e k a' (n+1) c' (L++cs)/\aj (aI a) w w'/\∀j,aI a' j->aI a j\/w.heap.size<=j:=by
 obtain⟨i,hi,hz0,hz1,hz2⟩:=info_parts hinf
 have hb1:=ag w (Obj.cells cs.toArray e)
 have hbyt:(n+1)*aE<=140737488355328:=by
  have:=Nat.mul_le_mul hn hby
  omega
 obtain⟨v',w',hr,h2,h3,_,h5⟩:=run_append_own_at (P:=Tryz.prog) (w.alloc (Obj.cells cs.toArray e)) base t t e i z k aE ht hi hz0 hz1 hz2 hzs hk _ n _ (h.later hb1) ⟨w.heap.size,0,none⟩ 1 1 cs (by rw [hl,Nat.one_mul]) (λj u hu=>by
  rw [aY];have:=bA w cs e j u hu
  rw [Nat.zero_add] at this;exact this) h1 (by unfold maxLen;omega) hbyt (by simp;omega)
 obtain⟨a',c',rfl⟩:∃a' c',v'=.slice a' (n+1) c':=by
  rcases h2.2 with ⟨h,h'⟩|⟨g',cap',_,h,_⟩
  ·exact⟨.none,0,by rw [h,h']⟩
  ·exact⟨_,cap',h⟩
 have hbut:aj (aI a) (w.alloc (Obj.cells cs.toArray e)) w':=⟨h3.os,h3.tape,h3.output,h3.size,λj hj hn=>h3.block j hj (λe=>hn (aI.of.1 e.symm))⟩
 refine⟨a',c',w',hr,h2,(aj.of hb1).trans hbut,λj hj=>?_⟩
 rcases h5 with h5|h5
 ·rw [aI.of.2 hj] at h5
  exact .inl (aI.of.1 h5.symm)
 ·rw [aI.of.2 hj] at h5
  right
  simp at h5
  omega
theorem Ow.mono {b2:Nat}{L:List Value}(h:Ow w base e k a n cap L)(hb:b2<=base):Ow w b2 e k a n cap L:=by
 obtain⟨h1,h2⟩:=h
 refine⟨h1,?_⟩
 rcases h2 with h2|⟨g,cp,cur,hv,hg,r⟩
 ·exact .inl h2
 ·exact .inr ⟨g,cp,cur,hv,Nat.le_trans hb hg,r⟩
def dP (c:Cp):List Value:=[ab c.o,ai (c.h:Int),ai (c.l:Int)]
def aU (l:List Cp):List Value:=(l.map dP).flatten
structure Kn where
 p:Int
 s:Sl
 l:List Cp
structure Mc (w:World)(base b:Nat)(K:List Kn):Prop where
 out:Mg w 3 b (K.map λk=>(ab k.p,.slice k.s.a k.s.n k.s.c))
 each:∀k∈K,Ow w base 37 3 k.s.a k.s.n k.s.c (aU k.l)/\k.l.length=k.s.n
 cr:K.Pairwise (λx y=>∀j,aI x.s.a j->¬aI y.s.a j)
theorem Mc.new (w:World)(base:Nat):Mc (w.alloc (.map #[] 0)) base w.heap.size []:=⟨Mg.new w _,λg h=>(by cases h),List.Pairwise.nil⟩
theorem Mc.but {K:List Kn}(h:Mc w base b K)(hb:aj S w w')(h1:¬S b)(h2:∀j,base<=j->¬S j):Mc w' base b K :=
 ⟨h.out.but hb h1,λk hk=>⟨(h.each k hk).1.but hb (λj hj=>h2 j ((h.each k hk).1.dB j hj).1),(h.each k hk).2⟩,h.cr⟩
theorem Mc.later {K:List Kn}(h:Mc w base b K)(hb:Below w.heap.size w w'):Mc w' base b K:=h.but (S:=λ_=>False) (aj.of hb) (λh=>h) (λ_ _ h=>h)
structure Bm where
 g:Nat
 bl:Nat
 bi:Nat
 ba:Nat
 bt:Nat
 bk:Nat
 n:Int
 L:List Im
 A:List Im
 T:List Im
 I:List Kn
 K:List Kn
abbrev Bm.cells (m:Bm):List Value:=[ab m.n,.map (some m.bl),.map (some m.bi),.map (some m.ba),.map (some m.bt),.map (some m.bk)]
abbrev Bm.rest (m:Bm):List Nat:=m.g::m.bi::m.bk::(m.ba::m.A.map Im.b)
abbrev Bm.aR (m:Bm):List Nat:=(m.bl::m.L.map Im.b)++((m.bt::m.T.map Im.b)++m.rest)
structure Bw (w:World)(m:Bm):Prop where
 bx:Bx w m.g m.cells
 live:Mm w 30 m.bl m.L
 laid:Mm w 3 m.ba m.A
 told:Mm w 249 m.bt m.T
 lists:Mc w (m.g+1) m.bi m.I
 known:Mc w (m.g+1) m.bk m.K
 cr:m.aR.Nodup
 lo:∀j∈m.aR,j<w.heap.size
 ap:∀x∈m.I,∀y∈m.K,∀j,aI x.s.a j->¬aI y.s.a j
theorem Bw.later {m:Bm}(h:Bw w m)(hb:Below w.heap.size w w'):Bw w' m :=
 ⟨h.bx.later hb,h.live.later hb,h.laid.later hb,h.told.later hb,h.lists.later hb,h.known.later hb,h.cr,λj hj=>Nat.lt_of_lt_of_le (h.lo j hj) hb.size,h.ap⟩
theorem xI {X Y:List Nat}(h:(X++Y).Nodup)(hk:k∉X++Y):((X++[k])++Y).Nodup:=by
 have hp:((X++[k])++Y).Perm (k::(X++Y)):=by
  rw [List.append_assoc];exact List.perm_middle
 exact hp.nodup_iff.2 (List.nodup_cons.2 ⟨hk,h⟩)
theorem jo {es:Array MapEntry}{clk:Nat}{L:List Value}(hb:w.heap[b]?=some (.map es clk))(h:Ow w base e k a n cap L):¬aI a b:=λhk=>by
 obtain⟨x,hx,e1⟩:=hk
 rcases h.2 with ⟨h1,h2⟩|⟨g,cp,cur,hv,hg,hh,r⟩
 ·simp only [Value.slice.injEq] at h1
  rw [hx] at h1;exact absurd h1.1 (by simp)
 ·simp only [Value.slice.injEq] at hv
  rw [hx] at hv;have e2:=Option.some.inj hv.1
  rw [e2] at e1;simp only at e1;subst e1;rw [hb] at hh;cases hh
theorem Mc.map {c:Nat}{K:List Kn}{tk:TypeId}(h:Mc w base b K)(hm:Mg w tk c E)(hb:aj (·=c) w w')(hne:b≠c):Mc w' base b K :=
 ⟨h.out.but hb hne,λk hk=>⟨(h.each k hk).1.but hb (λj hj e=>by
  obtain⟨es,clk,h1,_⟩:=hm.ex
  subst e;exact jo h1 (h.each k hk).1 hj),(h.each k hk).2⟩,h.cr⟩
theorem Bw.En {m:Bm}(h:Bw w m)(hk:w.heap.size<=k)(hl:Mm w' 30 m.bl (m.L++[⟨p,k,E⟩]))(hb:aj (·=m.bl) w w'):Bw w' { m with L:=m.L++[⟨p,k,E⟩] }:=by
 have hd:=h.cr
 have hd1:=(List.nodup_append.1 hd)
 have hne:∀j∈(m.bt::m.T.map Im.b)++m.rest,j≠m.bl:=λj hj e=>hd1.2.2 m.bl List.mem_cons_self j hj e.symm
 have hkl:k<w'.heap.size:=hl.lt k (List.mem_cons_of_mem _ (List.mem_map.2 ⟨⟨p,k,E⟩,List.mem_append.2 (.inr (List.mem_singleton.2 rfl)),rfl⟩))
 refine⟨h.bx.but hb (hne _ (by simp)),hl,h.laid.but hb (λj hj=>hne j (List.mem_append.2 (.inr (List.mem_cons_of_mem _ (List.mem_cons_of_mem _ (List.mem_cons_of_mem _ hj)))))),h.told.but hb (λj hj=>hne j (List.mem_append.2 (.inl hj))),h.lists.map h.live.out hb (hne _ (by simp)),h.known.map h.live.out hb (hne _ (by simp)),?_,?_,h.ap⟩
 ·have:=xI (k:=k) hd (λhx=>by have:=h.lo k hx;omega)
  simp only [Bm.aR,List.map_append,List.map_cons,List.map_nil] at this ⊢
  exact this
 ·intro j hj
  simp only [Bm.aR,List.map_append,List.map_cons,List.map_nil] at hj;rcases List.mem_append.1 hj with hj|hj
  ·rcases List.mem_cons.1 hj with rfl|hj
   ·have:=h.lo m.bl (by simp);have:=hb.size;omega
   ·rcases List.mem_append.1 hj with hj|hj
    ·have:=h.lo j (List.mem_append.2 (.inl (List.mem_cons_of_mem _ hj)));have:=hb.size;omega
    ·rw [List.mem_singleton.1 hj];exact hkl
  ·have:=h.lo j (List.mem_append.2 (.inr hj));have:=hb.size;omega
theorem dA {L:List Value}(hb:Below w.heap.size w w')(h:w.rangeAt b o L):w'.rangeAt b o L:=λj v hv=>by
 have hk:=h j v hv
 rw [hb.cell (World.block_lt_of_cell? _ _ hk)];exact hk
theorem bM {md:Region.Mode}{ops:Array Oper}{Q:Exit->Act->World->Prop}{S:World->Prop}{fuel f2:Nat}{listed l2:Array Bool}{a:Act}(hl:listed=l2)(hf:fuel=f2)(h:wpAnyH P md ops Q S f2 l2 a w):wpAnyH P md ops Q S fuel listed a w:=by
 subst hl;subst hf;exact h
theorem df {o:Oper}{ρ:Operand->Value}{ty:TypeId}{x:Operand}{p v:Value}(ho:o.op=.load ty x)(hx:ρ x=p)(hr:(Instr.loadAt ty p).run P w=.ok v w):(execOp ρ o).run P w=.ok (.value v) w:=by
 unfold execOp;simp only [ho,hx,hr,Sem.run_bind,Sem.run_pure,Result.andThen_ok]
theorem aG {L:List Value}(h:w.rangeAt b 0 L){v:Value}(hv:L[j]?=some v):w.cell? ⟨b,j,none⟩=some v:=by
 have:=h j v hv
 rwa [Nat.zero_add] at this
theorem vR (m:Bm)(c:Cp)(hc:c.eY)(ph pl:Nat)(r:Int)(w:World)(h:Bw w m)(hn:∀g∈m.L,g.p≠c.o) :
  Calls Tryz.prog 173 #[aq m.g,dw c,jj ph pl,ab r] w λe w'=>e=.returned (.tuple #[])/\∃k,w.heap.size<=k/\Bw w' { m with L:=m.L++[⟨c.o,k,[(jj c.h c.l,Tn.v ⟨c.h,c.l,ph,pl,r,m.n⟩)]⟩] }/\aj (·=m.bl) w w':=by
 obtain⟨o,ch,cl⟩:=c
 obtain⟨W,hW⟩:∃W,W=(w.alloc (Obj.cells #[ab o,ai (ch:Int),ai (cl:Int)] 37)).alloc (Obj.cells #[ai (ph:Int),ai (pl:Int)] 30):=⟨_,rfl⟩
 have hB:Below w.heap.size w W:=by rw [hW];exact aB _ _ _
 have hBW:=h.later hB
 have OK:Hid (W.rangeAt w.heap.size 0 [ab o,ai (ch:Int),ai (cl:Int)]):=by rw [hW];exact ((Bx.new w [ab o,ai (ch:Int),ai (cl:Int)] _).later (ag _ _)).range
 have OL:Hid (W.rangeAt (w.heap.size+1) 0 [ai (ph:Int),ai (pl:Int)]):=by rw [hW];have:=(Bx.new (w.alloc (Obj.cells #[ab o,ai (ch:Int),ai (cl:Int)] 37)) [ai (ph:Int),ai (pl:Int)] 30).range;simp at this;exact this
 have HK:Hid (∀U,Below W.heap.size W U->Calls Tryz.prog 252 #[.map (some m.bl),ab o,jj ch cl,Tn.v ⟨ch,cl,ph,pl,r,m.n⟩] U λe w'=>e=.returned (.tuple #[])/\∃k,U.heap.size<=k/\Mm w' 30 m.bl (m.L++[⟨o,k,[(jj ch cl,Tn.v ⟨ch,cl,ph,pl,r,m.n⟩)]⟩])/\aj (·=m.bl) U w'):=λU hU=>j4 m.bl m.L o ch cl ⟨ch,cl,ph,pl,r,m.n⟩ U (hBW.live.later hU) hc.1 hc.2.1 hc.2.2 hn
 have O8:=ae hBW
 have HB:=ae hB
 have HW:=ae hW
 have HH:=ae h
 have HS:Hid (∀U,Below W.heap.size W U->(U.rangeAt m.g 0 m.cells/\U.rangeAt w.heap.size 0 [ab o,ai (ch:Int),ai (cl:Int)]/\U.rangeAt (w.heap.size+1) 0 [ai (ph:Int),ai (pl:Int)])):=λU hU=>⟨dA hU O8.out.bx.range,dA hU OK.out,dA hU OL.out⟩
 have XS:Hid (∀U,aj (·=m.bl) W U->(U.rangeAt m.g 0 m.cells/\U.rangeAt w.heap.size 0 [ab o,ai (ch:Int),ai (cl:Int)]/\U.rangeAt (w.heap.size+1) 0 [ai (ph:Int),ai (pl:Int)])):=λU hU=>by
  have hl:=h.live.out.lt
  have hg:m.g≠m.bl:=λe=>(List.nodup_append.1 h.cr).2.2 m.bl List.mem_cons_self m.g (by simp) e.symm
  refine⟨(O8.out.bx.but hU hg).range,?_,?_⟩
  ·intro j v hv
   have hk:=OK.out j v hv
   rw [World.cell?_of_block (w:=W) (hU.block w.heap.size (World.block_lt_of_cell? _ _ hk) (by omega))];exact hk
  ·intro j v hv
   have hk:=OL.out j v hv
   rw [World.cell?_of_block (w:=W) (hU.block (w.heap.size+1) (World.block_lt_of_cell? _ _ hk) (by omega))];exact hk
 clear hBW hB hW h hn;go_enter Tryz.func173,Tryz.ntmps173
 go_upto_region 1 with fail
 rw [<-HW.out];refine wp_region_held_drew (S:=(λU:World=>U.rangeAt m.g 0 m.cells/\U.rangeAt w.heap.size 0 [ab o,ai (ch:Int),ai (cl:Int)]/\U.rangeAt (w.heap.size+1) 0 [ai (ph:Int),ai (pl:Int)])) (by kernel_rfl) (HS.out _ (Below.refl _ _).drew) (λhHeld=>?_)
 refine nm 18 0 18 ?_
 refine tn 0 18 1 17 ?_
 simp only [zz];refine tn 1 18 3 16 ?_
 simp only [zz];refine tn 2 18 7 15 ?_
 simp only [zz];refine wpAnyH_take (i:=3) (oi:=_) (v:=?_) rfl (by kernel_rfl) (by kernel_rfl) (by kernel_rfl) (λ_ _ _ h=>h) (Or.inl ⟨by rfl,?_⟩) (by assumption) ?_
 rotate_left
 ·(intro w hSw;have z1:=aG (j:=1) hSw.1 rfl;go_simp;try with_reducible rfl)
 simp only [zz];refine nm 18 15 14 ?_
 refine tn 4 18 31 13 ?_
 simp only [zz];refine wpAnyH_take (i:=5) (oi:=_) (v:=?_) rfl (by kernel_rfl) (by kernel_rfl) (by kernel_rfl) (λ_ _ _ h=>h) (Or.inl ⟨by rfl,?_⟩) (by assumption) ?_
 rotate_left
 ·(intro w hSw;have z0:=aG (j:=0) hSw.2.1 rfl;go_simp;try with_reducible rfl)
 simp only [zz];refine nm 18 63 12 ?_
 refine tn 6 18 127 11 ?_
 simp only [zz];refine wpAnyH_take (i:=7) (oi:=_) (v:=?_) rfl (by kernel_rfl) (by kernel_rfl) (by kernel_rfl) (λ_ _ _ h=>h) (Or.inl ⟨by rfl,?_⟩) (by assumption) ?_
 rotate_left
 ·(intro w hSw;have z1:=aG (j:=1) hSw.2.1 rfl;have z2:=aG (j:=2) hSw.2.1 rfl;go_simp;try with_reducible rfl)
 simp only [zz];refine nm 18 255 10 ?_
 refine tn 8 18 511 9 ?_
 simp only [zz];refine wpAnyH_take (i:=9) (oi:=_) (v:=?_) rfl (by kernel_rfl) (by kernel_rfl) (by kernel_rfl) (λ_ _ _ h=>h) (Or.inl ⟨by rfl,?_⟩) (by assumption) ?_
 rotate_left
 ·(intro w hSw;have z1:=aG (j:=1) hSw.2.1 rfl;have z2:=aG (j:=2) hSw.2.1 rfl;go_simp;try with_reducible rfl)
 simp only [zz];refine nm 18 1023 8 ?_
 refine wpAnyH_take (i:=10) (oi:=_) (v:=?_) rfl (by kernel_rfl) (by kernel_rfl) (by kernel_rfl) (λ_ _ _ h=>h) (Or.inl ⟨by rfl,?_⟩) (by assumption) ?_
 rotate_left
 ·(intro w hSw;have z0:=aG (j:=0) hSw.2.2 rfl;have z1:=aG (j:=1) hSw.2.2 rfl;go_simp;try with_reducible rfl)
 simp only [zz];refine nm 18 2047 7 ?_
 refine tn 11 18 4095 6 ?_
 simp only [zz];refine tn 12 18 8191 5 ?_
 simp only [zz];refine tn 13 18 16383 4 ?_
 simp only [zz];refine tn 14 18 32767 3 ?_
 simp only [zz];refine wpAnyH_take (i:=15) (oi:=_) (v:=?_) rfl (by kernel_rfl) (by kernel_rfl) (by kernel_rfl) (λ_ _ _ h=>h) (Or.inl ⟨by rfl,?_⟩) (by assumption) ?_
 rotate_left
 ·(intro w hSw;have z0:=aG (j:=0) hSw.1 rfl;go_simp;try with_reducible rfl)
 simp only [zz];refine nm 18 65535 2 ?_
 refine tn 16 18 131071 1 ?_
 simp only [zz];refine zr 17 λK hK=>?_
 go_simp
 go_wp2_with (first|(go_at_call 252;refine (HK.out _ (Below.refl _ _).drew).mono ?_;rintro e w1 ⟨rfl,k,hk,hm,hb⟩))
 have Uz:=ae hk
 have HM:=ae hm
 have QP:Hid (aj (·=m.bl) W w1):=(aj.of (Below.refl _ _).drew).trans hb
 clear hk hm hb;refine zk hK 18 262143 0 (XS.out _ QP.out) λhHeld=>?_
 clear hK K;try simp only [zz]
 refine zn ?_ _
 go_wp2;have hkk:w.heap.size<=k:=Nat.le_trans HB.out.size Uz.out
 have hbw:aj (·=m.bl) w w1:=(aj.of HB.out).trans QP.out
 exact bodyPost_end (v:=.tuple #[]) (by simp [results,Tryz.results173,go_sem]) rfl ⟨rfl,k,hkk,HH.out.En hkk HM.out hbw,hbw⟩
theorem II {m:Bm}(hd:m.aR.Nodup)(hj:j∈m.bt::m.T.map Im.b):(∀i∈m.bl::m.L.map Im.b,i≠j)/\∀i∈m.rest,i≠j:=by
 have h1:=List.nodup_append.1 hd
 have h2:=List.nodup_append.1 h1.2.1
 exact⟨λi hi e=>h1.2.2 i hi j (List.mem_append.2 (.inl hj)) e,λi hi e=>h2.2.2 j hj i hi e.symm⟩
theorem gj {m:Bm}{i:Nat}(hi:i∈m.ba::m.A.map Im.b):i∈m.rest:=List.mem_cons_of_mem _ (List.mem_cons_of_mem _ (List.mem_cons_of_mem _ hi))
theorem Bw.yW {m:Bm}(h:Bw w m)(hk:w.heap.size<=k)(hl:Mm w' 249 m.bt (m.T++[⟨p,k,E⟩]))(hb:aj (·=m.bt) w w'):Bw w' { m with T:=m.T++[⟨p,k,E⟩] }:=by
 have hd:=h.cr
 obtain⟨n1,n2⟩:=II hd (j:=m.bt) List.mem_cons_self
 have hkl:k<w'.heap.size:=hl.lt k (List.mem_cons_of_mem _ (List.mem_map.2 ⟨⟨p,k,E⟩,List.mem_append.2 (.inr (List.mem_singleton.2 rfl)),rfl⟩))
 refine⟨h.bx.but hb (n2 _ (by simp)),h.live.but hb n1,h.laid.but hb (λj hj=>n2 j (gj hj)),hl,h.lists.map h.told.out hb (n2 _ (by simp)),h.known.map h.told.out hb (n2 _ (by simp)),?_,?_,h.ap⟩
 ·have hkn:k∉m.aR:=λhx=>by have:=h.lo k hx;omega
  have hp:Bm.aR { m with T:=m.T++[⟨p,k,E⟩] } |>.Perm (k::m.aR):=by
   simp only [Bm.aR,List.map_append,List.map_cons,List.map_nil];have e:(m.bl::m.L.map Im.b)++((m.bt::(m.T.map Im.b++[k]))++m.rest)=((m.bl::m.L.map Im.b)++(m.bt::m.T.map Im.b))++k::m.rest:=by simp
   rw [e];refine List.perm_middle.trans ?_
   rw [List.append_assoc]
  exact hp.nodup_iff.2 (List.nodup_cons.2 ⟨hkn,hd⟩)
 ·intro j hj
  have hs:=hb.size
  simp only [Bm.aR,List.map_append,List.map_cons,List.map_nil] at hj;have:j=k\/j∈m.aR:=by
   simp only [List.mem_append,List.mem_cons,List.not_mem_nil,or_false,Bm.aR] at hj ⊢
   grind
  rcases this with rfl|hj
  ·exact hkl
  ·have:=h.lo j hj;omega
theorem ir:(Tryz.prog.info? 37).map (λi=>(i.zero,i.size,i.bytes))=some (some (.agg #[ab 0,ai 0,ai 0]),3,24):=by kernel_rfl
theorem xL (w:World):(zeroValue 74).run Tryz.prog w=.ok (.slice none 0 0) w:=by kernel_rfl
theorem sO (x:Int)(y z:Int):∀u∈([ab x,ai y,ai z]:List Value),u.oneCell'=true:=by
 intro u hu;simp only [List.mem_cons,List.not_mem_nil,or_false] at hu;rcases hu with rfl|rfl|rfl<;>rfl
open Classical in
theorem Ft {E1 E2:List (Value×Value)}{k v0 v:Value}(hn:((E1++(k,v0)::E2).map Prod.fst).Nodup):AY (E1++(k,v0)::E2) k v=E1++(k,v)::E2:=by
 rw [List.map_append,List.map_cons,List.nodup_append] at hn;have h1:∀x∈E1,x.1≠k:=λx hx e=>hn.2.2 x.1 (List.mem_map.2 ⟨x,hx,rfl⟩) k List.mem_cons_self e
 have h2:∀x∈E2,x.1≠k:=λx hx e=>(List.nodup_cons.1 hn.2.1).1 (by show k∈_;rw [<-e];exact List.mem_map.2 ⟨x,hx,rfl⟩)
 unfold AY;rw [List.map_append,List.map_cons];have e1:E1.map (λx=>if x.1=k then (k,v) else x)=E1:=by
  conv=>rhs;rw [<-List.map_id E1]
  exact List.map_congr_left (λx hx=>by rw [if_neg (h1 x hx)];rfl)
 have e2:E2.map (λx=>if x.1=k then (k,v) else x)=E2:=by
  conv=>rhs;rw [<-List.map_id E2]
  exact List.map_congr_left (λx hx=>by rw [if_neg (h2 x hx)];rfl)
 rw [e1,e2];simp
theorem uv {m:Bm}(hd:m.aR.Nodup):(∀i∈m.bl::m.L.map Im.b,i≠m.bk)/\(∀i∈m.bt::m.T.map Im.b,i≠m.bk)/\m.g≠m.bk/\m.bi≠m.bk/\∀i∈m.ba::m.A.map Im.b,i≠m.bk:=by
 have h1:=List.nodup_append.1 hd
 have h2:=List.nodup_append.1 h1.2.1
 have h3:=List.nodup_cons.1 h2.2.1
 have h4:=List.nodup_cons.1 h3.2
 have h5:=List.nodup_cons.1 h4.2
 refine⟨λi hi e=>h1.2.2 i hi m.bk (by simp) e,λi hi e=>h2.2.2 i hi m.bk (by simp) e,λe=>h3.1 (by rw [e];simp),λe=>h4.1 (by rw [e];simp),λi hi e=>h5.1 (by rw [<-e];exact hi)⟩
theorem Bw.cells {m:Bm}(h:Bw w m){L:List Value}(ho:Ow w base e k a n cap L)(hb:m.g<base):∀j,aI a j->j∉m.aR:=by
 intro j hj hx;have hm:∀{tk:TypeId} {E:List (Value×Value)},Mg w tk j E->False:=λ{tk} {E} hg=>by
  obtain⟨es,clk,h1,_⟩:=hg.ex
  exact jo h1 ho hj
 have hmm:∀{ti:TypeId} {b:Nat} {G:List Im},Mm w ti b G->j∈b::G.map Im.b->False:=λ{ti} {b} {G} hG hx=>by
  rcases List.mem_cons.1 hx with rfl|hx
  ·exact hm hG.out
  ·obtain⟨g,hg,rfl⟩:=List.mem_map.1 hx
   exact hm (hG.pU g hg)
 rcases List.mem_append.1 hx with hx|hx
 ·exact hmm h.live hx
 ·rcases List.mem_append.1 hx with hx|hx
  ·exact hmm h.told hx
  ·rcases List.mem_cons.1 hx with rfl|hx
   ·have:=(ho.dB _ hj).1;omega
   ·rcases List.mem_cons.1 hx with rfl|hx
    ·exact hm h.lists.out
    ·rcases List.mem_cons.1 hx with rfl|hx
     ·exact hm h.known.out
     ·exact hmm h.laid hx
theorem Bw.ou {m:Bm}(h:Bw w m)(hp:bQ p)(hn:∀k∈m.K,k.p≠p)(c:Cp) :
  (Instr.lookup 157 (.map (some m.bk)) (ab p) false).run Tryz.prog w=.ok (.slice none 0 0) w /\
  ∃a' c' w7 w8,(Builtin.append_ #[74,74] 74 #[.slice none 0 0,.slice (some ⟨w.heap.size,0,none⟩) 1 1]).run Tryz.prog (w.alloc (Obj.cells #[ab c.o,ai (c.h:Int),ai (c.l:Int)] 37))=.ok (.slice a' 1 c') w7 /\
   (Instr.mapUpdate 157 (.map (some m.bk)) (ab p) (.slice a' 1 c')).run Tryz.prog w7=.ok () w8/\Bw w8 { m with K:=m.K++[⟨p,⟨a',1,c'⟩,[c]⟩] }/\aj (·=m.bk) w w8/\Below w.heap.size w w7/\∀j,aI a' j->w.heap.size<=j:=by
 have hmk:∀x∈m.K.map (λk=>(Value.int .i64 k.p,Value.slice k.s.a k.s.n k.s.c)),x.1≠Value.int .i64 p:=λx hx=>by
  obtain⟨k,hk,rfl⟩:=List.mem_map.1 hx
  intro e;simp at e
  exact hn k hk e
 have hgl:m.g<w.heap.size:=h.lo m.g (by simp)
 refine⟨h.known.out.rD dy Tryz.underlying157 (gS hp) hmk (xL w) false,?_⟩
 obtain⟨a',c',w7,r7,o7,b7,n7⟩:=kJ 74 37 _ 3 24 Tryz.underlying74 ir rfl (by omega) (w:=w) (base:=m.g+1) (cs:=[ab c.o,ai (c.h:Int),ai (c.l:Int)]) (Ow.nil w (m.g+1) _ _) rfl (sO _ _ _) (by omega) (by omega) (by omega)
 have hB7:Below w.heap.size w w7:=aj.below (Below.refl _ _) b7 (λk hk=>by obtain⟨x,hx,_⟩:=hk;cases hx)
 have hw7:=h.later hB7
 obtain⟨w8,r8,m8,b8,s8⟩:=hw7.known.out.add dy Tryz.underlying157 (gS hp) hmk (.slice a' 1 c')
 obtain⟨n1,n2,n3,n4,n5⟩:=uv h.cr
 have hnew:∀j,aI a' j->w.heap.size<=j:=λj hj=>by
  rcases n7 j hj with ⟨x,hx,_⟩|h'
  ·cases hx
  ·exact h'
 have ho8:Ow w8 (m.g+1) 37 3 a' 1 c' (aU [c]):=by
  have:Ow w7 (m.g+1) 37 3 a' 1 c' (aU [c]):=by simpa [aU,dP] using o7
  exact this.but b8 (λj hj e=>hw7.cells this (by omega) j hj (by subst e;simp [Bm.aR]))
 have hk8:∀k∈m.K,Ow w8 (m.g+1) 37 3 k.s.a k.s.n k.s.c (aU k.l):=λk hk=>(hw7.known.each k hk).1.but b8 (λj hj e=>hw7.cells (hw7.known.each k hk).1 (by omega) j hj (by subst e;simp [Bm.aR]))
 refine⟨a',c',w7,w8,by simpa using r7,r8,⟨hw7.bx.but b8 n3,hw7.live.but b8 n1,hw7.laid.but b8 n5,hw7.told.but b8 n2,hw7.lists.map hw7.known.out b8 n4,⟨by rw [List.map_append];exact m8,λk hk=>?_,?_⟩,h.cr,λj hj=>Nat.lt_of_lt_of_le (hw7.lo j hj) b8.size,λx hx y hy j hj hj2=>?_⟩,(aj.of hB7).trans b8,hB7,hnew⟩
 ·rcases List.mem_append.1 hk with hk|hk
  ·exact⟨hk8 k hk,(h.known.each k hk).2⟩
  ·rw [List.mem_singleton.1 hk]
   exact⟨ho8,rfl⟩
 ·show (m.K++[_]).Pairwise _
  rw [List.pairwise_append];refine⟨h.known.cr,List.pairwise_singleton _ _,λx hx y hy j hj hj2=>?_⟩
  rw [List.mem_singleton.1 hy] at hj2;have h1:=((h.known.each x hx).1.dB j hj).2
  have h2:=hnew j hj2
  omega
 ·rcases List.mem_append.1 hy with hy|hy
  ·exact h.ap x hx y hy j hj hj2
  ·rw [List.mem_singleton.1 hy] at hj2
   have h1:=((h.lists.each x hx).1.dB j hj).2
   have h2:=hnew j hj2
   omega
end Go.Proofs.YtmhinfbkmjdgfaaGreatDoor.B
namespace Go.Proofs.YtmhinfbkmjdgfaaGreatDoor.B
open Go.RowKit
variable {a:Act}{K:Act->World->Prop}{c:Bool}{Q:Exit->Act->World->Prop}{b:Nat}{o:Oper}{P:Program}{t:TypeId}{k p:Value}{w:World}
theorem bE (s x:Operand)(t:TypeId)
  (ho:o.op=.call { callee:=.builtin .append,args:=#[s,x],argTypes:=#[t,t] }) (vs vx:Value) (hs:a.eval s=vs) (hx:a.eval x=vx) (v':Value) (w':World)
  (hr:(Builtin.append_ #[t,t] o.type #[vs,vx]).run P w=.ok v' w') (h:K (a.put o.dst v') w'):o.wp P a w K Q:=by
 unfold Oper.wp execOp;simp only [ho,resolve,invoke,builtin,Sem.run_bind,Sem.run_pure,Result.andThen_ok,List.map_toArray,List.map_cons,List.map_nil,hs,hx,hr];exact h
theorem jK {w':World}{x y z:Operand}{v:Value}(ho:o.op=.mapUpdate t x y z)(hx:a.eval x=p)(hy:a.eval y=k)(hz:a.eval z=v)(hr:(Instr.mapUpdate t p k v).run P w=.ok () w')(h:K (a.put o.dst undef) w'):o.wp P a w K Q:=by
 unfold Oper.wp execOp;simp only [ho,hx,hy,hz,hr,Sem.run_bind,Sem.run_pure,Result.andThen_ok];exact h
theorem DY {ρ:Operand->Value}{x y:Operand}{v:Value}(ho:o.op=.lookup t x y c)(hx:ρ x=p)(hy:ρ y=k)(hr:(Instr.lookup t p k c).run P w=.ok v w):(execOp ρ o).run P w=.ok (.value v) w:=by
 unfold execOp;simp only [ho,hx,hy,hr,Sem.run_bind,Sem.run_pure,Result.andThen_ok]
theorem qA {x y:Operand}{v:Value}(ho:o.op=.lookup t x y c)(hx:a.eval x=p)(hy:a.eval y=k)(hr:(Instr.lookup t p k c).run P w=.ok v w)(h:K (a.put o.dst v) w):o.wp P a w K Q:=by
 unfold Oper.wp execOp;simp only [ho,hx,hy,hr,Sem.run_bind,Sem.run_pure,Result.andThen_ok];exact h
theorem kv (w:World)(o:Obj):(w.alloc o).drew=w.drew.alloc o:=rfl
theorem yj:(Tryz.prog.info? 72).map (·.size)=some 7:=by kernel_rfl
theorem EK {o:Nat}{L:List Value}(h:w.rangeAt b o L)(hl:L.length=7):(Instr.loadAt 72 (.pointer (some ⟨b,o,none⟩))).run Tryz.prog w=.ok (.agg L.toArray) w :=
 run_loadAt_mid w b o 72 L _ h Tryz.underlying72 rfl (by rw [yj,hl])
theorem Bx.jO {L:List Value}(h:Bx w b L)(j:Nat)(v:Value)(hj:j<L.length):Bx (w.setCell ⟨b,j,none⟩ v) b (L.set j v):=by
 refine⟨λi u hu=>?_,λi hi=>?_⟩
 ·rw [Nat.zero_add]
  by_cases e:i=j
  ·subst e
   rw [List.getElem?_set_self hj] at hu;cases hu
   have:=h.cell i (List.getElem?_eq_getElem hj)
   exact World.cell?_setCell_same _ _ _ this
  ·rw [List.getElem?_set_ne (λh=>e h.symm)] at hu
   rw [World.cell?_setCell_other _ _ _ _ (λe2=>e (by simpa using (congrArg Addr.off e2).symm))];exact h.cell i hu
 ·have hi':i<L.length:=by simpa using hi
  obtain⟨h1,h2⟩:=h.there i hi'
  obtain⟨u,hu⟩:=Option.isSome_iff_exists.1 h1
  obtain⟨u',hu'⟩:=cell?_setCell_some (w:=w) (p:=⟨b,j,none⟩) (x:=v) (q:=⟨b,0+i,none⟩) (v:=u) hu
  exact⟨by rw [hu'];rfl,by rw [World.frozen?_setCell];exact h2⟩
theorem pF (m:Bm)(s0 kd aE tt o:Int)(ch cl:Nat)(ah:Option Addr)(w:World)(h:Bw w m)(hc:Cp.eY ⟨o,ch,cl⟩)(hF:dm ⟨o,ch,cl⟩=true)(hp:bQ tt)(hg:Gt m.T tt (dk (bP ⟨o,ch,cl⟩)) none)(S1 S2:Nat->Prop)(R:Bm->Nat->Prop)(Q:World->Nat->Prop)
  (hk:∀(U:World) (kt:Nat),Below w.heap.size w U->Calls Tryz.prog 253 #[.map (some m.bt),ab tt,dk (bP ⟨o,ch,cl⟩),aq kt] U λe w'=>e=.returned (.tuple #[])/\∃m1:Bm,Bw w' m1/\R m1 kt/\m1.g=m.g/\m1.cells=m.cells/\aj S1 U w')
  (hS1:∀j,S1 j->j<w.heap.size) (hS2:∀j,S2 j->j<w.heap.size/\j≠m.g)
  (hn:∀(U:World) (m1:Bm) (kt:Nat),w.heap.size<=U.heap.size->Bw U m1->R m1 kt->m1.cells=m.cells->∃v0 v7 w7 w8,(∀U',Below U.heap.size U U'->(Instr.lookup 157 (.map (some m.bk)) (ab tt) false).run Tryz.prog U'=.ok v0 U')/\(Builtin.append_ #[74,74] 74 #[v0,.slice (some ⟨U.heap.size,0,none⟩) 1 1]).run Tryz.prog (U.alloc (Obj.cells #[ab o,ai (ch:Int),ai (cl:Int)] 37))=.ok v7 w7/\(Instr.mapUpdate 157 (.map (some m.bk)) (ab tt) v7).run Tryz.prog w7=.ok () w8/\Q w8 kt/\aj S2 U w8/\aj S2 U w7) :
  Calls Tryz.prog 174 #[aq m.g,.agg #[ab s0,ab kd,ab aE,ab tt,ab o,ai (ch:Int),ai (cl:Int)],.pointer ah] w λe w'=>e=.returned (.tuple #[])/\∃kt,w.heap.size<=kt/\Q w' kt/\Bx w' kt [ab m.n,ab kd,ab aE,ab tt,ab o,ai (ch:Int),ai (cl:Int),.pointer ah]/\w'.heap[kt]?=some (Obj.cells #[ab m.n,ab kd,ab aE,ab tt,ab o,ai (ch:Int),ai (cl:Int),.pointer ah] 254)/\aj (λj=>S1 j\/S2 j) w w':=by
 obtain⟨W,hW⟩:∃W,W=w.alloc (Obj.cells #[ab s0,ab kd,ab aE,ab tt,ab o,ai (ch:Int),ai (cl:Int)] 72):=⟨_,rfl⟩
 have hB:Below w.heap.size w W:=by rw [hW];exact ag _ _
 have OK:Hid (Bx W w.heap.size [ab s0,ab kd,ab aE,ab tt,ab o,ai (ch:Int),ai (cl:Int)]):=by rw [hW];exact Bx.new w [ab s0,ab kd,ab aE,ab tt,ab o,ai (ch:Int),ai (cl:Int)] _
 have c4:=OK.out.cell 4 rfl
 have c5:=OK.out.cell 5 rfl
 have c6:=OK.out.cell 6 rfl
 have PD:=ae (fz ⟨o,ch,cl⟩ hc W)
 have eF:mz ⟨o,ch,cl⟩=bP ⟨o,ch,cl⟩:=by unfold mz;rw [if_pos hF]
 rw [eF,hF] at PD;have Pd:Hid (∀U,Below w.heap.size w U->Calls Tryz.prog 171 #[.map (some m.bt),ab tt,dk (bP ⟨o,ch,cl⟩)] U λe w'=>e=.returned (.tuple #[.pointer none,.bool false])/\Below U.heap.size U w'):=λU hU=>fe m.bt m.T tt (bP ⟨o,ch,cl⟩) none U ((h.later hU).told) hp (cG _) (fp _) hg
 have HH:=ae h
 have HB:=ae hB
 have HW:=ae hW
 have Tx:=ae hk
 have HN:=ae hn
 have O2:=ae hS1
 have OW:=ae hS2
 have O1:=ae (cG ⟨o,ch,cl⟩)
 generalize bP ⟨o,ch,cl⟩=F at PD Pd Tx O1
 clear h hB hW hk hn hS1 hS2 hg eF hF hc;go_enter Tryz.func174,Tryz.ntmps174
 go_upto_region 1 with fail
 rw [<-HW.out];go_upto_region 2 with (first|(go_at_call 170;refine PD.out.mono ?_;rintro x w2 ⟨rfl,hb2⟩;have OH:=ae hb2;(have Pt:Hid (Bx (w2.alloc (Obj.cells #[.int .u8 0,.int .u8 0,.int .u8 0,.int .u8 0,.int .u8 0,.int .u8 0,.int .u8 0,.int .u8 0,.int .u8 0,.int .u8 0,.int .u8 0,.int .u8 0,.int .u8 0,.int .u8 0,.int .u8 0,.int .u8 0,.int .u8 0,.int .u8 0,.int .u8 0,.int .u8 0,.int .u8 0,.int .u8 0,.int .u8 0,.int .u8 0] 249)) w2.heap.size (aN zF)):=Bx.new w2 (aN zF) _);(have O6:=ae (pA (L:=aN F) (w:=w2.alloc (Obj.cells #[.int .u8 0,.int .u8 0,.int .u8 0,.int .u8 0,.int .u8 0,.int .u8 0,.int .u8 0,.int .u8 0,.int .u8 0,.int .u8 0,.int .u8 0,.int .u8 0,.int .u8 0,.int .u8 0,.int .u8 0,.int .u8 0,.int .u8 0,.int .u8 0,.int .u8 0,.int .u8 0,.int .u8 0,.int .u8 0,.int .u8 0,.int .u8 0] 249)) (b:=w2.heap.size) (o:=0) (by have:=Pt.out.there;rwa [ao,show zF.length=24 from rfl] at this) (by rw [ao];exact O1.out) (bJ F)));clear hb2)|((with_reducible refine a_ O6.out ?_ ?_ ?_);(· rfl);(· rfl)))
 obtain⟨V2,hV2⟩:∃V,V=(w2.alloc (Obj.cells #[.int .u8 0,.int .u8 0,.int .u8 0,.int .u8 0,.int .u8 0,.int .u8 0,.int .u8 0,.int .u8 0,.int .u8 0,.int .u8 0,.int .u8 0,.int .u8 0,.int .u8 0,.int .u8 0,.int .u8 0,.int .u8 0,.int .u8 0,.int .u8 0,.int .u8 0,.int .u8 0,.int .u8 0,.int .u8 0,.int .u8 0,.int .u8 0] 249)).setCells w2.heap.size 0 (aN F):=⟨_,rfl⟩
 rw [<-hV2];obtain⟨kf,hkf⟩:∃k,k=w2.heap.size:=⟨_,rfl⟩
 have OT:Hid (Below w2.heap.size w2 V2):=by rw [hV2];exact aj.below (ag _ _) (au (S:=(·=w2.heap.size)) rfl (aN F) 0 (aj.refl _ _)) (λk hk=>by omega)
 have Qc:Hid (Bx V2 kf (aN F)):=by rw [hkf,hV2];exact Pt.out.set (by rw [ao,ao,O1.out];rfl)
 have OZ:Hid (Bx V2 w.heap.size [ab s0,ab kd,ab aE,ab tt,ab o,ai (ch:Int),ai (cl:Int)]):=(OK.out.later OH.out).later OT.out
 have Pq:Hid (Below w.heap.size w V2):=aa HB.out (aa OH.out OT.out)
 have Ub:Hid (w.heap.size<kf/\kf<V2.heap.size):=by
  have h1:=OH.out.size
  have h2:w.heap.size<W.heap.size:=by rw [HW.out];simp
  exact⟨by omega,Qc.out.lt (by rw [ao,O1.out];omega)⟩
 rw [<-hkf];clear c4 c5 c6 hV2 hkf Pt O6 OH OT OK PD HW HB;have PQ:Hid (∀U,Below V2.heap.size V2 U->(U.rangeAt m.g 0 m.cells/\U.rangeAt w.heap.size 0 [ab s0,ab kd,ab aE,ab tt,ab o,ai (ch:Int),ai (cl:Int)]/\U.rangeAt kf 0 (aN F))):=λU hU=>⟨((HH.out.later Pq.out).bx.later hU).range,(OZ.out.later hU).range,(Qc.out.later hU).range⟩
 refine wp_region_held_drew (S:=(λU:World=>U.rangeAt m.g 0 m.cells/\U.rangeAt w.heap.size 0 [ab s0,ab kd,ab aE,ab tt,ab o,ai (ch:Int),ai (cl:Int)]/\U.rangeAt kf 0 (aN F))) (by kernel_rfl) (PQ.out _ (Below.refl _ _).drew) (λhHeld=>?_)
 refine nm 13 0 13 ?_
 refine tn 0 13 1 12 ?_
 simp only [zz];refine tn 1 13 3 11 ?_
 simp only [zz];refine tn 2 13 7 10 ?_
 simp only [zz];refine wpAnyH_take (i:=3) (oi:=_) (v:=?_) rfl (by kernel_rfl) (by kernel_rfl) (by kernel_rfl) (λ_ _ _ h=>h) (Or.inl ⟨by rfl,?_⟩) (by assumption) ?_
 rotate_left
 ·(intro w hSw;have z1:=aG (j:=4) hSw.1 rfl;go_simp;try with_reducible rfl)
 simp only [zz];refine nm 13 15 9 ?_
 refine tn 4 13 31 8 ?_
 simp only [zz];refine wpAnyH_take (i:=5) (oi:=_) (v:=?_) rfl (by kernel_rfl) (by kernel_rfl) (by kernel_rfl) (λ_ _ _ h=>h) (Or.inl ⟨by rfl,?_⟩) (by assumption) ?_
 rotate_left
 ·(intro w hSw;have z0:=aG (j:=3) hSw.2.1 rfl;go_simp;try with_reducible rfl)
 simp only [zz];refine nm 13 63 7 ?_
 refine tv 6 (v:=dk F) ?_ ?_
 ·(intro w hSw;(try dsimp only at hSw);exact df rfl rfl (j6 hSw.2.2 (by rw [ao];exact O1.out)))
 simp only [zz];refine nm 13 127 6 ?_
 refine zr 7 λK hK=>?_
 go_simp
 go_wp2_with (first|(go_at_call 171;refine (Pd.out _ (aa Pq.out (Below.refl _ _).drew)).mono ?_;rintro e w3 ⟨rfl,hb3⟩))
 have OJ:Hid (Below V2.heap.size V2 w3):=aa (Below.refl _ _).drew hb3
 clear hb3;refine zk hK 13 255 5 (PQ.out _ OJ.out) λhHeld=>?_
 clear hK K;try simp only [zz]
 refine tn 8 13 511 4 ?_
 simp only [zz];refine tn 9 13 1023 3 ?_
 simp only [zz];refine tn 10 13 2047 2 ?_
 simp only [zz];refine tn 11 13 4095 1 ?_
 simp only [zz];refine tn 12 13 8191 0 ?_
 simp only [zz];refine zn ?_ _
 have Pw:=ae (OZ.out.later OJ.out)
 have Po:Hid (Below w.heap.size w w3):=aa Pq.out OJ.out
 have q0:=(HH.out.later Po.out).bx.cell 0 rfl
 have y0:=Pw.out.cell 0 rfl
 have y0f:w3.frozen? ⟨w.heap.size,0,none⟩=false:=by have:=(Pw.out.there 0 (by simp)).2;rwa [Nat.zero_add] at this
 go_upto_region 5 with fail
 obtain⟨U4,hU4⟩:∃U,U=w3.setCell ⟨w.heap.size,0,none⟩ (ab m.n):=⟨_,rfl⟩
 rw [<-hU4];have UN:Hid (aj (·=w.heap.size) w3 U4):=by rw [hU4];exact (aj.refl (·=w.heap.size) w3).setCell (p:=⟨w.heap.size,0,none⟩) rfl _
 have Qb:Hid (Bx U4 w.heap.size [ab m.n,ab kd,ab aE,ab tt,ab o,ai (ch:Int),ai (cl:Int)]):=by rw [hU4];exact Pw.out.jO 0 _ (by simp)
 have Qq:Hid (Bx U4 kf (aN F)):=(Qc.out.later OJ.out).but UN.out (by have:=Ub.out;omega)
 have OM:Hid (Below w.heap.size w U4):=aj.below Po.out UN.out (λk hk=>by omega)
 clear q0 y0 y0f hU4 Pw UN OZ Qc PQ Pd;have TK:Hid (∀U,Below U4.heap.size U4 U->(U.rangeAt m.g 0 m.cells/\U.rangeAt w.heap.size 0 [ab m.n,ab kd,ab aE,ab tt,ab o,ai (ch:Int),ai (cl:Int)]/\U.rangeAt kf 0 (aN F))):=λU hU=>⟨((HH.out.later OM.out).bx.later hU).range,(Qb.out.later hU).range,(Qq.out.later hU).range⟩
 obtain⟨V5,hV5⟩:∃V,V=(U4.alloc (Obj.cells #[ab m.n,ab kd,ab aE,ab tt,ab o,ai (ch:Int),ai (cl:Int),.pointer ah] 254)).drew:=⟨_,rfl⟩
 have WZ:=ae hV5
 have OS:Hid (Below U4.heap.size U4 V5):=by rw [hV5];exact (ag _ _).drew
 have WO:Hid (Bx V5 U4.heap.size [ab m.n,ab kd,ab aE,ab tt,ab o,ai (ch:Int),ai (cl:Int),.pointer ah]):=by rw [hV5];exact (Bx.new U4 [ab m.n,ab kd,ab aE,ab tt,ab o,ai (ch:Int),ai (cl:Int),.pointer ah] _).later (Below.refl _ _).drew
 have PY:Hid (V5.heap[U4.heap.size]?=some (Obj.cells #[ab m.n,ab kd,ab aE,ab tt,ab o,ai (ch:Int),ai (cl:Int),.pointer ah] 254)):=by rw [hV5];exact Array.getElem?_push_size
 clear hV5;refine wp_region_held_drew (S:=(λU:World=>U.rangeAt m.g 0 m.cells/\U.rangeAt w.heap.size 0 [ab m.n,ab kd,ab aE,ab tt,ab o,ai (ch:Int),ai (cl:Int)]/\U.rangeAt kf 0 (aN F))) (by kernel_rfl) (TK.out _ (Below.refl _ _).drew) (λhHeld=>?_)
 refine nm 12 0 12 ?_
 refine tn 0 12 1 11 ?_
 simp only [zz];refine tn 1 12 3 10 ?_
 simp only [zz];refine tn 2 12 7 9 ?_
 simp only [zz];refine wpAnyH_take (i:=3) (oi:=_) (v:=?_) rfl (by kernel_rfl) (by kernel_rfl) (by kernel_rfl) (λ_ _ _ h=>h) (Or.inl ⟨by rfl,?_⟩) (by assumption) ?_
 rotate_left
 ·(intro w hSw;have z1:=aG (j:=4) hSw.1 rfl;go_simp;try with_reducible rfl)
 simp only [zz];refine nm 12 15 8 ?_
 refine tn 4 12 31 7 ?_
 simp only [zz];refine wpAnyH_take (i:=5) (oi:=_) (v:=?_) rfl (by kernel_rfl) (by kernel_rfl) (by kernel_rfl) (λ_ _ _ h=>h) (Or.inl ⟨by rfl,?_⟩) (by assumption) ?_
 rotate_left
 ·(intro w hSw;have z0:=aG (j:=3) hSw.2.1 rfl;go_simp;try with_reducible rfl)
 simp only [zz];refine nm 12 63 6 ?_
 refine tv 6 (v:=dk F) ?_ ?_
 ·(intro w hSw;(try dsimp only at hSw);exact df rfl rfl (j6 hSw.2.2 (by rw [ao];exact O1.out)))
 simp only [zz];refine nm 12 127 5 ?_
 refine tv 7 (v:=.agg #[ab m.n,ab kd,ab aE,ab tt,ab o,ai (ch:Int),ai (cl:Int)]) ?_ ?_
 ·(intro w hSw;(try dsimp only at hSw);exact df rfl rfl (EK hSw.2.1 rfl))
 simp only [zz];refine nm 12 255 4 ?_
 refine tn 8 12 511 3 ?_
 simp only [zz];refine tn 9 12 1023 2 ?_
 simp only [zz];refine zr 10 λK hK=>?_
 go_simp
 rw [<-WZ.out];refine zk hK 12 2047 1 (TK.out _ OS.out) λhHeld=>?_
 clear hK K;try simp only [zz]
 refine zr 11 λK hK=>?_
 go_simp
 go_wp2_with (first|(go_at_call 253;refine (Tx.out _ _ (aa OM.out OS.out)).mono ?_;rintro e w6 ⟨rfl,m1,hm1,hr1,hg1,hcl,hb6⟩))
 have Sv:=ae hm1
 have PB:=ae hr1
 have R3:=ae (And.intro hg1 hcl)
 have O7:=ae hb6
 clear hm1 hr1 hg1 hcl hb6;have X4:Hid (w6.rangeAt m.g 0 m.cells/\w6.rangeAt w.heap.size 0 [ab m.n,ab kd,ab aE,ab tt,ab o,ai (ch:Int),ai (cl:Int)]/\w6.rangeAt kf 0 (aN F)):=by have h1:=Sv.out.bx.range;rw [R3.out.1,R3.out.2] at h1;exact⟨h1,((Qb.out.later OS.out).but O7.out (λhj=>by have:=O2.out _ hj;omega)).range,((Qq.out.later OS.out).but O7.out (λhj=>by have:=O2.out _ hj;have:=Ub.out;omega)).range⟩
 refine zk hK 12 4095 0 (X4.out) λhHeld=>?_
 clear hK K;try simp only [zz]
 refine zn ?_ _
 have Q0:Hid (Bx w6 U4.heap.size [ab m.n,ab kd,ab aE,ab tt,ab o,ai (ch:Int),ai (cl:Int),.pointer ah]):=WO.out.but O7.out (λhj=>by have:=O2.out _ hj;have:=OM.out.size;omega)
 have TB:Hid (w6.heap[U4.heap.size]?=some (Obj.cells #[ab m.n,ab kd,ab aE,ab tt,ab o,ai (ch:Int),ai (cl:Int),.pointer ah] 254)):=by unfold Hid;rw [O7.out.block U4.heap.size (WO.out.lt (by simp)) (λhj=>by have:=O2.out _ hj;have:=OM.out.size;omega)];exact PY.out
 have TF:Hid (Bx w6 w.heap.size [ab m.n,ab kd,ab aE,ab tt,ab o,ai (ch:Int),ai (cl:Int)]):=(Qb.out.later OS.out).but O7.out (λhj=>by have:=O2.out _ hj;omega)
 have Sh:Hid (aj S1 w w6):=(aj.of (aa OM.out OS.out)).trans O7.out
 have RY:Hid (w.heap.size<U4.heap.size):=Qb.out.lt (by simp)
 obtain⟨v0,v7,w7,w8,l0,r7,r8,hQ,b8,b7⟩:=HN.out w6.drew m1 U4.heap.size Sh.out.size (Sv.out.later (Below.refl _ _).drew) PB.out R3.out.2
 have QJ:=ae l0
 have Q9:=ae r7
 have Re:=ae r8
 have HQ:=ae hQ
 have Pb:=ae b8
 have PR:=ae b7
 have VC:Hid (Bx w6 m.g m.cells):=by have h1:=Sv.out.bx;rw [R3.out.1,R3.out.2] at h1;exact h1
 have PK:Hid (∀U,aj S2 w6.drew U->(U.rangeAt m.g 0 m.cells/\U.rangeAt w.heap.size 0 [ab m.n,ab kd,ab aE,ab tt,ab o,ai (ch:Int),ai (cl:Int)])):=λU hU=>⟨((VC.out.later (Below.refl _ _).drew).but hU (λhj=>(OW.out _ hj).2 rfl)).range,((TF.out.later (Below.refl _ _).drew).but hU (λhj=>by have:=(OW.out _ hj).1;omega)).range⟩
 clear l0 r7 r8 hQ b8 b7 HN Tx;go_upto_region 6 with fail
 refine wp_region_held_drew (S:=(λU:World=>U.rangeAt m.g 0 m.cells/\U.rangeAt w.heap.size 0 [ab m.n,ab kd,ab aE,ab tt,ab o,ai (ch:Int),ai (cl:Int)])) (by kernel_rfl) (PK.out _ (aj.refl _ _)) (λhHeld=>?_)
 refine nm 18 0 18 ?_
 refine tn 0 18 1 17 ?_
 simp only [zz];refine tn 1 18 3 16 ?_
 simp only [zz];refine tn 2 18 7 15 ?_
 simp only [zz];refine wpAnyH_take (i:=3) (oi:=_) (v:=?_) rfl (by kernel_rfl) (by kernel_rfl) (by kernel_rfl) (λ_ _ _ h=>h) (Or.inl ⟨by rfl,?_⟩) (by assumption) ?_
 rotate_left
 ·(intro w hSw;have z1:=aG (j:=5) hSw.1 rfl;go_simp;try with_reducible rfl)
 simp only [zz];refine nm 18 15 14 ?_
 refine tn 4 18 31 13 ?_
 simp only [zz];refine wpAnyH_take (i:=5) (oi:=_) (v:=?_) rfl (by kernel_rfl) (by kernel_rfl) (by kernel_rfl) (λ_ _ _ h=>h) (Or.inl ⟨by rfl,?_⟩) (by assumption) ?_
 rotate_left
 ·(intro w hSw;have z0:=aG (j:=3) hSw.2 rfl;go_simp;try with_reducible rfl)
 simp only [zz];refine nm 18 63 12 ?_
 refine tn 6 18 127 11 ?_
 simp only [zz];refine tn 7 18 255 10 ?_
 simp only [zz];refine tn 8 18 511 9 ?_
 simp only [zz];refine wpAnyH_take (i:=9) (oi:=_) (v:=?_) rfl (by kernel_rfl) (by kernel_rfl) (by kernel_rfl) (λ_ _ _ h=>h) (Or.inl ⟨by rfl,?_⟩) (by assumption) ?_
 rotate_left
 ·(intro w hSw;have z1:=aG (j:=5) hSw.1 rfl;go_simp;try with_reducible rfl)
 simp only [zz];refine nm 18 1023 8 ?_
 refine tn 10 18 2047 7 ?_
 simp only [zz];refine wpAnyH_take (i:=11) (oi:=_) (v:=?_) rfl (by kernel_rfl) (by kernel_rfl) (by kernel_rfl) (λ_ _ _ h=>h) (Or.inl ⟨by rfl,?_⟩) (by assumption) ?_
 rotate_left
 ·(intro w hSw;have z0:=aG (j:=3) hSw.2 rfl;go_simp;try with_reducible rfl)
 simp only [zz];refine nm 18 4095 6 ?_
 refine tn 13 18 12287 5 ?_
 simp only [zz];refine wpAnyH_take (i:=14) (oi:=_) (v:=?_) rfl (by kernel_rfl) (by kernel_rfl) (by kernel_rfl) (λ_ _ _ h=>h) (Or.inl ⟨by rfl,?_⟩) (by assumption) ?_
 rotate_left
 ·(intro w hSw;have z4:=aG (j:=4) hSw.2 rfl;have z5:=aG (j:=5) hSw.2 rfl;have z6:=aG (j:=6) hSw.2 rfl;go_simp;try with_reducible rfl)
 simp only [zz];refine nm 18 28671 4 ?_
 refine wpAnyH_ready (rs:=[12,15]) (by kernel_rfl) (by simp) ?_
 refine AllReadyH.cons rfl (λK hK=>?_) ?_
 ·refine qA rfl rfl rfl (QJ.out _ (Below.refl _ _)) ?_
  refine zk hK 18 32767 3 (PK.out _ (aj.refl _ _)) λhHeld=>?_
  clear hK K;try simp only [zz]
  refine zr 15 λK hK=>?_
  go_simp
  rw [kv];refine zk hK 18 65535 2 (PK.out _ (aj.of (ag _ _))) λhHeld=>?_
  clear hK K;try simp only [zz]
  refine zr 16 λK hK=>?_
  refine bE (.tmp 61) (.tmp 64) 74 rfl _ _ rfl rfl _ w7 Q9.out ?_
  refine zk hK 18 131071 1 (PK.out _ PR.out) λhHeld=>?_
  clear hK K;try simp only [zz]
  refine zr 17 λK hK=>?_
  refine jK rfl rfl rfl rfl Re.out ?_
  refine zk hK 18 262143 0 (PK.out _ Pb.out) λhHeld=>?_
  clear hK K;try simp only [zz]
  refine zn ?_ _
  exact bodyPost_end (v:=.tuple #[]) (by simp [results,Tryz.results174,go_sem]) rfl ⟨rfl,U4.heap.size,Nat.le_of_lt RY.out,HQ.out,(Q0.out.later (Below.refl _ _).drew).but Pb.out (λhj=>by have:=(OW.out _ hj).1;have:=RY.out;omega),(by rw [Pb.out.block U4.heap.size ((Q0.out.later (Below.refl _ _).drew).lt (by simp)) (λhj=>by have:=(OW.out _ hj).1;have:=RY.out;omega)];exact TB.out),((Sh.out.mono (λj hj=>.inl hj)).trans (aj.of (Below.refl _ _).drew)).trans (Pb.out.mono (λj hj=>.inr hj))⟩
 refine AllReadyH.cons rfl (λK hK=>?_) AllReadyH.nil
 go_simp
 rw [kv];refine zk hK 18 61439 3 (PK.out _ (aj.of (ag _ _))) λhHeld=>?_
 clear hK K;try simp only [zz]
 refine zr 12 λK hK=>?_
 refine qA rfl rfl rfl (QJ.out _ (ag _ _)) ?_
 refine zk hK 18 65535 2 (PK.out _ (aj.of (ag _ _))) λhHeld=>?_
 clear hK K;try simp only [zz]
 refine zr 16 λK hK=>?_
 refine bE (.tmp 61) (.tmp 64) 74 rfl _ _ rfl rfl _ w7 Q9.out ?_
 refine zk hK 18 131071 1 (PK.out _ PR.out) λhHeld=>?_
 clear hK K;try simp only [zz]
 refine zr 17 λK hK=>?_
 refine jK rfl rfl rfl rfl Re.out ?_
 refine zk hK 18 262143 0 (PK.out _ Pb.out) λhHeld=>?_
 clear hK K;try simp only [zz]
 refine zn ?_ _
 exact bodyPost_end (v:=.tuple #[]) (by simp [results,Tryz.results174,go_sem]) rfl ⟨rfl,U4.heap.size,Nat.le_of_lt RY.out,HQ.out,(Q0.out.later (Below.refl _ _).drew).but Pb.out (λhj=>by have:=(OW.out _ hj).1;have:=RY.out;omega),(by rw [Pb.out.block U4.heap.size ((Q0.out.later (Below.refl _ _).drew).lt (by simp)) (λhj=>by have:=(OW.out _ hj).1;have:=RY.out;omega)];exact TB.out),((Sh.out.mono (λj hj=>.inl hj)).trans (aj.of (Below.refl _ _).drew)).trans (Pb.out.mono (λj hj=>.inr hj))⟩
end Go.Proofs.YtmhinfbkmjdgfaaGreatDoor.B
