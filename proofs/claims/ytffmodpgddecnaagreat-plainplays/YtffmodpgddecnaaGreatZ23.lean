import Derived.Test.YtffmodpgddecnaaGreatZ22
set_option linter.unusedVariables false
set_option linter.unusedSimpArgs false
namespace Go.Proofs.YtffmodpgddecnaaGreat.V.E
open Go.RowKit Go.Maps
open Go.Proofs.YtffmodpgddecnaaGreat.H (B64 Cp)
theorem wp_app {P:Program}{w:World}{o:Oper}{a:Act}{K:Act→World→Prop}{Q:Exit→Act→World→Prop}(s x:Operand)(t:TypeId)
  (ho:o.op=.call { callee:=.builtin .append,args:=#[s,x],argTypes:=#[t,t] }) (vs vx:Value) (hs:a.eval s=vs) (hx:a.eval x=vx) (v':Value) (w':World)
  (hr:(Builtin.append_ #[t,t] o.type #[vs,vx]).run P w=.ok v' w') (h:K (a.put o.dst v') w'):o.wp P a w K Q:=by
 unfold Oper.wp execOp
 simp only [ho,resolve,invoke,builtin,Sem.run_bind,Sem.run_pure,Result.andThen_ok,List.map_toArray,List.map_cons,List.map_nil,hs,hx,hr]
 exact h
theorem ex_ld {P:Program}{w:World}{o:Oper}{ρ:Operand→Value}{ty:TypeId}{x:Operand}{p v:Value}
  (ho:o.op=.load ty x) (hx:ρ x=p) (hr:(Instr.loadAt ty p).run P w=.ok v w):(execOp ρ o).run P w=.ok (.value v) w:=by
 unfold execOp
 simp only [ho,hx,hr,Sem.run_bind,Sem.run_pure,Result.andThen_ok]
theorem dr_size (w:World):w.drew.heap.size=w.heap.size:=rfl
theorem al_drew (w:World)(o:Obj):w.drew.alloc o=(w.alloc o).drew:=rfl
theorem run_makeMap0 {t e:TypeId}(ht:Tryz.prog.underlying t=some (.map 3 e))(w:World):(Instr.makeMap t none).run Tryz.prog w=.ok (.map (some w.heap.size)) (w.alloc (.map #[] 0)):=by
 simp [Instr.makeMap,run_underlying ht,go_sem]
theorem Ow.ws {w:World}{base:Nat}{a:Option Addr}{n c:Nat}{f:Nat→Nat}(h:Ow w base 36 2 a n c (D.wvs f n))(hs:∀i,f i<B64*B64):D.Ws w a n c f:=by
 refine⟨?_,?_,?_,hs⟩
 ·rcases h.form with ⟨_,h1,h2⟩|⟨g,_,_,h3⟩
  ·omega
  ·exact h3
 ·intro e
  rcases h.form with ⟨_,h1,h2⟩|⟨g,h1,_⟩
  ·exact⟨h1,h2⟩
  ·rw [h1] at e;cases e
 ·intro x hx j u hu
  by_cases h0:0<n
  ·obtain⟨b,h1,h2⟩:=Ow.at_ h h0
   rw [h1] at hx
   cases hx
   rw [addr_add0]
   exact h2 j u hu
  ·have:n=0:=by omega
   subst this
   simp [D.wvs] at hu
structure Nw (W:World)(f:Nat→Nat)(n:Nat)(U:World)(fA fM fN fI:Bool)(a:Option Addr)(c b1 b2:Nat):Prop where
 bl:Below W.heap.size W U
 sm:∀i,f i<B64*B64
 A:fA=true→Ow U W.heap.size 36 2 a n c (D.wvs f n)
 M:fM=true→Mo U b1 []∧W.heap.size≤b1
 N:fN=true→Mo U b2 (if fI then [(0,.slice none 0 0)] else [])∧W.heap.size≤b2
 mn:fM=true→fN=true→b1≠b2
 am:fA=true→fM=true→∀j,Blk a j→j≠b1
 an:fA=true→fN=true→∀j,Blk a j→j≠b2
section
variable {W U:World}{f:Nat→Nat}{n:Nat}{fA fM fN fI:Bool}{a:Option Addr}{c b1 b2:Nat}
theorem Nw.start (hs:∀i,f i<B64*B64):Nw W f n W.drew false false false false none 0 0 0 :=
 ⟨(Below.refl _ _).drew,hs,fun h=>(by cases h),fun h=>(by cases h),fun h=>(by cases h),fun h=>(by cases h),fun h=>(by cases h),fun h=>(by cases h)⟩
theorem Nw.step (k:Nw W f n U fA fM fN fI a c b1 b2){U':World}(hb:Below U.heap.size U U'):Nw W f n U' fA fM fN fI a c b1 b2 :=
 ⟨below_call k.bl hb,k.sm,fun h=>(k.A h).later hb,fun h=>⟨(k.M h).1.later hb,(k.M h).2⟩,fun h=>⟨(k.N h).1.later hb,(k.N h).2⟩,k.mn,k.am,k.an⟩
theorem Nw.addA (k:Nw W f n U false fM fN fI a c b1 b2){aw:Option Addr}{cw:Nat}(hw:D.Ws W aw n cw f)(hn:n≤4096) :
  ∃a' c' U',(Builtin.append_ #[24,24] 24 #[.slice none 0 0,.slice aw n cw]).run Tryz.prog U=.ok (.slice a' n c') U'∧Nw W f n U' true fM fN fI a' c' b1 b2:=by
 obtain⟨a',c',U',hr,hO,hG⟩:=append_k 24 36 _ 2 16 Tryz.underlying24 info31 rfl (by omega) (by omega) (Ow.nil U U.heap.size 36 2) (Ws.cr (hw.later k.bl)) (Nat.le_refl _) (by omega)
 rw [Nat.zero_add] at hr hO
 rw [List.nil_append] at hO
 have hO:Ow U' U.heap.size 36 2 a' n c' (D.wvs f n):=hO
 have hb:Below U.heap.size U U':=But.below (Below.refl _ _) hG.but (fun j ⟨x,hx,_⟩=>by cases hx)
 have k':=k.step hb
 refine⟨a',c',U',hr,k'.bl,k.sm,fun _=>hO.mono k.bl.size,k'.M,k'.N,k.mn,fun _ h j hj=>?_,fun _ h j hj=>?_⟩
 ·have:=(hO.blk j hj).1
  have:=(k.M h).1.lt
  omega
 ·have:=(hO.blk j hj).1
  have:=(k.N h).1.lt
  omega
theorem Nw.addM (k:Nw W f n U fA false fN fI a c b1 b2):Nw W f n (U.alloc (.map #[] 0)) fA true fN fI a c U.heap.size b2:=by
 have hb:=below1 U (.map #[] 0)
 have k':=k.step hb
 refine⟨k'.bl,k.sm,k'.A,fun _=>⟨Mo.new U,k.bl.size⟩,k'.N,fun _ h e=>?_,fun h _ j hj e=>?_,k.an⟩
 ·have:=(k.N h).1.lt
  omega
 ·have:=((k.A h).blk j hj).2
  omega
theorem Nw.addN (k:Nw W f n U fA fM false false a c b1 b2):Nw W f n (U.alloc (.map #[] 0)) fA fM true false a c b1 U.heap.size:=by
 have hb:=below1 U (.map #[] 0)
 have k':=k.step hb
 refine⟨k'.bl,k.sm,k'.A,k'.M,fun _=>⟨Mo.new U,k.bl.size⟩,fun h _ e=>?_,k.am,fun h _ j hj e=>?_⟩
 ·have:=(k.M h).1.lt
  omega
 ·have:=((k.A h).blk j hj).2
  omega
theorem Nw.addI (k:Nw W f n U fA fM true false a c b1 b2) :
  ∃U',(Instr.mapUpdate 59 (.map (some b2)) (.int .i64 0) (.slice none 0 0)).run Tryz.prog U=.ok () U'∧Nw W f n U' fA fM true true a c b1 b2:=by
 obtain⟨hm,hlo⟩:=k.N rfl
 obtain⟨U',hr,hm',hb,hs⟩:=Mo.store (t:=59) (e:=63) hm Tryz.underlying59 (Nat.zero_le _) (x:=0) (by unfold S.i64ok;decide) (.slice none 0 0)
 refine⟨U',hr,But.below k.bl hb (fun j e=>by omega),k.sm,fun h=>(k.A h).but hb (fun j hj=>k.an h rfl j hj),fun h=>⟨(k.M h).1.but hb (k.mn h rfl),(k.M h).2⟩,fun _=>⟨hm',hlo⟩,k.mn,k.am,k.an⟩
theorem Nw.ge (k:Nw W f n U true true true true a c b1 b2){g:Nat}(hg:g=U.heap.size):W.heap.size≤g:=by rw [hg];exact k.bl.size
theorem Nw.fin (k:Nw W f n U true true true true a c b1 b2)(cf:Cf){g:Nat}(hg:g=U.heap.size):Md (U.alloc (Obj.cells (({ g:=g,bo:=b1,bl:=b2,cf:=cf,aw:=a,n:=n,cw:=c,f:=f }:Hm).L pl0).toArray 61)) { g:=g,bo:=b1,bl:=b2,cf:=cf,aw:=a,n:=n,cw:=c,f:=f } pl0 (fun j=>Blk a j) [] [⟨0,[],none,0⟩]:=by
 subst hg
 have hb:=below1 U (Obj.cells (({ g:=U.heap.size,bo:=b1,bl:=b2,cf:=cf,aw:=a,n:=n,cw:=c,f:=f }:Hm).L pl0).toArray 61)
 have k':=k.step hb
 refine⟨R.Bx.new U _ _,Ow.ws (k'.A rfl) k.sm,(k'.M rfl).1,(k'.N rfl).1,rfl,rfl,fun e he=>(by cases he),fun e he=>?_,fun j hj=>hj,fun e=>?_,fun e=>k.am rfl rfl _ e rfl,fun e=>k.an rfl rfl _ e rfl,k.mn rfl rfl,fun j hj=>((k'.A rfl).blk j hj).2⟩
 ·rw [List.mem_singleton.1 he]
  exact⟨Ow.nil _ _ _ _,fun j ⟨_,h,_⟩=>(by cases h)⟩
 ·have:=((k.A rfl).blk _ e).2
  simp only at this
  omega
end
theorem ldF {w:World}{b:Nat}{c:Cf}(h:R.Bx w b c.L):(Instr.loadAt 23 (.pointer (some ⟨b,0,none⟩))).run Tryz.prog w=.ok c.v w:=by
 have:=run_loadVar_mid (P:=Tryz.prog) w b 0 23 c.L _ h.range Tryz.underlying23 rfl (by kernel_rfl)
 simp [Instr.loadAt,Instr.sureAddr,this]
set_option maxRecDepth 100000 in
set_option maxHeartbeats 2000000 in
theorem pnew_bad (c:Cf)(hc:c.may=false)(a:Option Addr)(n cap:Nat)(w:World):Calls Tryz.prog 5 #[c.v,.slice a n cap] w fun e w'=>e=.returned (.tuple #[.pointer none,.int .i64 16])∧Below w.heap.size w w':=by
 obtain⟨W,hW⟩:∃W,W=w.alloc (Obj.cells c.L.toArray 23):=⟨_,rfl⟩
 have hB:Below w.heap.size w W:=by rw [hW];exact below1 _ _
 have hX:R.Bx W w.heap.size c.L:=by rw [hW];exact R.Bx.new w c.L 23
 have HM:=hid (pmay_any c W)
 have HB:=hid hB
 have HW:=hid hW
 rw [hc] at HM
 have HLd:=hid (fun U (hU:Below W.heap.size W U)=>ldF (R.Bx.later hU hX))
 clear hX hB hW hc
 go_enter Tryz.func5,Tryz.ntmps5
 go_upto_region 1 with fail
 rw [←HW.out]
 go_upto_region 2 with (first|((with_reducible refine R.ld_arm (HLd.out W (Below.refl _ _)) ?_ ?_);(· rfl))|(go_at_call 15;refine HM.out.mono ?_;rintro e w1 ⟨rfl,hb1⟩;have HB1:=hid hb1;clear hb1))
 go_wp2
 exact bodyPost_ret (v:=.tuple #[.pointer none,.int .i64 16]) (by simp [results,Tryz.results5,go_sem]) rfl ⟨rfl,below_call HB.out HB1.out⟩
set_option maxRecDepth 100000 in
set_option maxHeartbeats 2000000 in
theorem pnew_many (c:Cf)(hc:c.may=true)(a:Option Addr)(n cap:Nat)(w:World)(hn:4096<n):Calls Tryz.prog 5 #[c.v,.slice a n cap] w fun e w'=>e=.returned (.tuple #[.pointer none,.int .i64 23])∧Below w.heap.size w w':=by
 obtain⟨W,hW⟩:∃W,W=w.alloc (Obj.cells c.L.toArray 23):=⟨_,rfl⟩
 have hB:Below w.heap.size w W:=by rw [hW];exact below1 _ _
 have hX:R.Bx W w.heap.size c.L:=by rw [hW];exact R.Bx.new w c.L 23
 have HM:=hid (pmay_any c W)
 have HB:=hid hB
 have HW:=hid hW
 rw [hc] at HM
 have HLd:=hid (fun U (hU:Below W.heap.size W U)=>ldF (R.Bx.later hU hX))
 have hd:decide ((n:Int)>4096)=true:=decide_eq_true (by omega)
 have hd2:decide ((4096:Int)<(n:Int))=true:=decide_eq_true (by omega)
 clear hX hB hW hc
 go_enter Tryz.func5,Tryz.ntmps5
 go_upto_region 1 with fail
 rw [←HW.out]
 go_upto_region 4 with (first|((with_reducible refine R.ld_arm (HLd.out W (Below.refl _ _)) ?_ ?_);(· rfl))|(go_at_call 15;refine HM.out.mono ?_;rintro e w1 ⟨rfl,hb1⟩;have HB1:=hid hb1;clear hb1))
 go_wp2
 exact bodyPost_ret (v:=.tuple #[.pointer none,.int .i64 23]) (by simp [results,Tryz.results5,go_sem]) rfl ⟨rfl,below_call HB.out HB1.out⟩
set_option maxRecDepth 100000 in
set_option maxHeartbeats 8000000 in
theorem pnew_ok (c:Cf)(hc:c.may=true)(a:Option Addr)(n cap:Nat)(f:Nat→Nat)(w:World)(hw:D.Ws w a n cap f)(hn:n≤4096) :
  Calls Tryz.prog 5 #[c.v,.slice a n cap] w fun e w'=>∃h N,e=.returned (.tuple #[.pointer (some ⟨h.g,0,none⟩),.int .i64 0])∧Md w' h pl0 N [] [⟨0,[],none,0⟩]∧h.cf=c∧h.n=n∧h.f=f∧(∀j,N j→w.heap.size≤j)∧(w.heap.size≤h.g∧w.heap.size≤h.bo∧w.heap.size≤h.bl)∧Below w.heap.size w w':=by
 obtain⟨W,hW⟩:∃W,W=w.alloc (Obj.cells c.L.toArray 23):=⟨_,rfl⟩
 have hB:Below w.heap.size w W:=by rw [hW];exact below1 _ _
 have hX:R.Bx W w.heap.size c.L:=by rw [hW];exact R.Bx.new w c.L 23
 have HM:=hid (pmay_any c W)
 have HB:=hid hB
 have HW:=hid hW
 rw [hc] at HM
 have hWs:=hw.later hB
 obtain⟨W_,o_,p_,m_,q_,r_,l_,s_,y_,k_⟩:=c
 have HLd0:=hid (fun U (hU:Below W.heap.size W U)=>ldF (R.Bx.later hU hX))
 have HLd:=HLd0
 have hd:decide ((n:Int)>4096)=false:=decide_eq_false (by omega)
 have hd2:decide ((4096:Int)<(n:Int))=false:=decide_eq_false (by omega)
 have hsm:=hw.small
 have hsW0:=hB.size
 clear hX hB hW hc hw
 have HWs0:=hid hWs
 clear hWs
 go_enter Tryz.func5,Tryz.ntmps5
 go_upto_region 1 with fail
 rw [←HW.out]
 go_upto_region 5 with (first|((with_reducible refine R.ld_arm (HLd.out W (Below.refl _ _)) ?_ ?_);(· rfl))|(go_at_call 15;refine HM.out.mono ?_;rintro e w1 ⟨rfl,hb1⟩;have HB1:=hid hb1;clear hb1))
 have HWs:=hid (HWs0.out.later HB1.out)
 have hsW:w.heap.size≤w1.heap.size:=Nat.le_trans hsW0 HB1.out.size
 have HLd:=hid (fun U (hU:Below w1.heap.size w1 U)=>HLd0.out U (below_call HB1.out hU))
 have n0:=hid (Nw.start (W:=w1) (n:=n) hsm)
 have hmk1:=fun U=>run_makeMap0 Tryz.underlying58 U
 have hmk2:=fun U=>run_makeMap0 Tryz.underlying59 U
 simp only [Cf.v,Cf.L] at HLd
 refine wp_region_held_drew (S:=(fun U:World=>(Instr.loadAt 23 (.pointer (some ⟨w.heap.size,0,none⟩))).run Tryz.prog U=.ok (.agg #[.int .i64 W_,.int .i64 o_,.int .i64 p_,.int .i64 m_,.int .i64 q_,.int .i64 r_,.int .i64 l_,.int .i64 s_,.int .i64 y_,.int .i64 k_]) U)) (by kernel_rfl) (HLd.out _ (Below.refl _ _).drew) (fun hHeld=>?_)
 refine nm 11 0 11 ?_
 refine tv 0 (v:=.agg #[.int .i64 W_,.int .i64 o_,.int .i64 p_,.int .i64 m_,.int .i64 q_,.int .i64 r_,.int .i64 l_,.int .i64 s_,.int .i64 y_,.int .i64 k_]) ?_ ?_
 ·(intro w hSw;(try dsimp only at hSw);exact ex_ld rfl rfl hSw)
 simp only [zz]
 refine nm 11 1 10 ?_
 refine tn 1 11 3 9 ?_
 simp only [zz]
 refine wpAnyH_ready (rs:=[2,3,4]) (by kernel_rfl) (by simp) ?_
 refine AllReadyH.cons rfl (fun K hK=>?_) ?_
 ·obtain⟨a1,c1,U1,hr1,m1⟩:=n0.out.addA HWs.out hn
  have n1:=hid m1
  clear m1
  refine wp_app (.const (.slice none 0 0)) (.tmp 13) 24 rfl _ _ rfl rfl _ U1 hr1 ?_
  refine zk hK 11 7 8 (HLd.out _ n1.out.bl) fun hHeld=>?_
  clear hK K
  try simp only [zz]
  refine wpAnyH_ready (rs:=[3,4]) (by kernel_rfl) (by simp) ?_
  refine AllReadyH.cons rfl (fun K hK=>?_) ?_
  ·have n2:=hid n1.out.addM
   (try simp only [World.size_alloc,dr_size] at n2)
   go_simp
   refine zk hK 11 15 7 (HLd.out _ n2.out.bl) fun hHeld=>?_
   clear hK K
   try simp only [zz]
   refine zr 4 fun K hK=>?_
   have n3:=hid n2.out.addN
   (try simp only [World.size_alloc,dr_size] at n3)
   go_simp
   refine zk hK 11 31 6 (HLd.out _ n3.out.bl) fun hHeld=>?_
   clear hK K
   try simp only [zz]
   refine zr 5 fun K hK=>?_
   obtain⟨U4,hr4,m4⟩:=n3.out.addI
   (try simp only [World.size_alloc,dr_size,al_drew] at hr4)
   have n4:=hid m4
   clear m4
   go_simp
   refine zk hK 11 63 5 (HLd.out _ n4.out.bl) fun hHeld=>?_
   clear hK K
   try simp only [zz]
   refine tn 6 11 127 4 ?_
   simp only [zz]
   refine tn 7 11 255 3 ?_
   simp only [zz]
   refine zr 8 fun K hK=>?_
   have FN:=n4
   go_simp
   refine zk hK 11 511 2 (HLd.out _ (below_call n4.out.bl (below1 _ _))) fun hHeld=>?_
   clear hK K
   try simp only [zz]
   refine tn 9 11 1023 1 ?_
   simp only [zz]
   refine tn 10 11 2047 0 ?_
   simp only [zz]
   refine zn ?_ _
   (try go_wp2)
   refine bodyPost_ret (v:=.tuple #[.pointer (some ⟨_,0,none⟩),.int .i64 0]) (by simp [results,Tryz.results5,go_sem];rfl) rfl ?_
   exact⟨_,_,rfl,FN.out.fin ⟨W_,o_,p_,m_,q_,r_,l_,s_,y_,k_⟩ (by simp),rfl,rfl,rfl,fun j hj=>Nat.le_trans hsW ((FN.out.A rfl).blk j hj).1,⟨Nat.le_trans hsW (FN.out.ge (by simp)),Nat.le_trans hsW (FN.out.M rfl).2,Nat.le_trans hsW (FN.out.N rfl).2⟩,below_call HB.out (below_call HB1.out (below_call FN.out.bl (below1 _ _)))⟩
  refine AllReadyH.cons rfl (fun K hK=>?_) AllReadyH.nil
  have n5:=hid n1.out.addN
  (try simp only [World.size_alloc,dr_size] at n5)
  go_simp
  refine zk hK 11 23 7 (HLd.out _ n5.out.bl) fun hHeld=>?_
  clear hK K
  try simp only [zz]
  refine wpAnyH_ready (rs:=[3,5]) (by kernel_rfl) (by simp) ?_
  refine AllReadyH.cons rfl (fun K hK=>?_) ?_
  ·have n6:=hid n5.out.addM
   (try simp only [World.size_alloc,dr_size] at n6)
   go_simp
   refine zk hK 11 31 6 (HLd.out _ n6.out.bl) fun hHeld=>?_
   clear hK K
   try simp only [zz]
   refine zr 5 fun K hK=>?_
   obtain⟨U7,hr7,m7⟩:=n6.out.addI
   (try simp only [World.size_alloc,dr_size,al_drew] at hr7)
   have n7:=hid m7
   clear m7
   go_simp
   refine zk hK 11 63 5 (HLd.out _ n7.out.bl) fun hHeld=>?_
   clear hK K
   try simp only [zz]
   refine tn 6 11 127 4 ?_
   simp only [zz]
   refine tn 7 11 255 3 ?_
   simp only [zz]
   refine zr 8 fun K hK=>?_
   have FN:=n7
   go_simp
   refine zk hK 11 511 2 (HLd.out _ (below_call n7.out.bl (below1 _ _))) fun hHeld=>?_
   clear hK K
   try simp only [zz]
   refine tn 9 11 1023 1 ?_
   simp only [zz]
   refine tn 10 11 2047 0 ?_
   simp only [zz]
   refine zn ?_ _
   (try go_wp2)
   refine bodyPost_ret (v:=.tuple #[.pointer (some ⟨_,0,none⟩),.int .i64 0]) (by simp [results,Tryz.results5,go_sem];rfl) rfl ?_
   exact⟨_,_,rfl,FN.out.fin ⟨W_,o_,p_,m_,q_,r_,l_,s_,y_,k_⟩ (by simp),rfl,rfl,rfl,fun j hj=>Nat.le_trans hsW ((FN.out.A rfl).blk j hj).1,⟨Nat.le_trans hsW (FN.out.ge (by simp)),Nat.le_trans hsW (FN.out.M rfl).2,Nat.le_trans hsW (FN.out.N rfl).2⟩,below_call HB.out (below_call HB1.out (below_call FN.out.bl (below1 _ _)))⟩
  refine AllReadyH.cons rfl (fun K hK=>?_) AllReadyH.nil
  obtain⟨U8,hr8,m8⟩:=n5.out.addI
  (try simp only [World.size_alloc,dr_size,al_drew] at hr8)
  have n8:=hid m8
  clear m8
  go_simp
  refine zk hK 11 55 6 (HLd.out _ n8.out.bl) fun hHeld=>?_
  clear hK K
  try simp only [zz]
  refine tn 6 11 119 5 ?_
  simp only [zz]
  refine zr 3 fun K hK=>?_
  have n9:=hid n8.out.addM
  (try simp only [World.size_alloc,dr_size] at n9)
  go_simp
  refine zk hK 11 127 4 (HLd.out _ n9.out.bl) fun hHeld=>?_
  clear hK K
  try simp only [zz]
  refine tn 7 11 255 3 ?_
  simp only [zz]
  refine zr 8 fun K hK=>?_
  have FN:=n9
  go_simp
  refine zk hK 11 511 2 (HLd.out _ (below_call n9.out.bl (below1 _ _))) fun hHeld=>?_
  clear hK K
  try simp only [zz]
  refine tn 9 11 1023 1 ?_
  simp only [zz]
  refine tn 10 11 2047 0 ?_
  simp only [zz]
  refine zn ?_ _
  (try go_wp2)
  refine bodyPost_ret (v:=.tuple #[.pointer (some ⟨_,0,none⟩),.int .i64 0]) (by simp [results,Tryz.results5,go_sem];rfl) rfl ?_
  exact⟨_,_,rfl,FN.out.fin ⟨W_,o_,p_,m_,q_,r_,l_,s_,y_,k_⟩ (by simp),rfl,rfl,rfl,fun j hj=>Nat.le_trans hsW ((FN.out.A rfl).blk j hj).1,⟨Nat.le_trans hsW (FN.out.ge (by simp)),Nat.le_trans hsW (FN.out.M rfl).2,Nat.le_trans hsW (FN.out.N rfl).2⟩,below_call HB.out (below_call HB1.out (below_call FN.out.bl (below1 _ _)))⟩
 refine AllReadyH.cons rfl (fun K hK=>?_) ?_
 ·have n10:=hid n0.out.addM
  (try simp only [World.size_alloc,dr_size] at n10)
  go_simp
  refine zk hK 11 11 8 (HLd.out _ n10.out.bl) fun hHeld=>?_
  clear hK K
  try simp only [zz]
  refine wpAnyH_ready (rs:=[2,4]) (by kernel_rfl) (by simp) ?_
  refine AllReadyH.cons rfl (fun K hK=>?_) ?_
  ·obtain⟨a11,c11,U11,hr11,m11⟩:=n10.out.addA HWs.out hn
   have n11:=hid m11
   clear m11
   refine wp_app (.const (.slice none 0 0)) (.tmp 13) 24 rfl _ _ rfl rfl _ U11 hr11 ?_
   refine zk hK 11 15 7 (HLd.out _ n11.out.bl) fun hHeld=>?_
   clear hK K
   try simp only [zz]
   refine zr 4 fun K hK=>?_
   have n12:=hid n11.out.addN
   (try simp only [World.size_alloc,dr_size] at n12)
   go_simp
   refine zk hK 11 31 6 (HLd.out _ n12.out.bl) fun hHeld=>?_
   clear hK K
   try simp only [zz]
   refine zr 5 fun K hK=>?_
   obtain⟨U13,hr13,m13⟩:=n12.out.addI
   (try simp only [World.size_alloc,dr_size,al_drew] at hr13)
   have n13:=hid m13
   clear m13
   go_simp
   refine zk hK 11 63 5 (HLd.out _ n13.out.bl) fun hHeld=>?_
   clear hK K
   try simp only [zz]
   refine tn 6 11 127 4 ?_
   simp only [zz]
   refine tn 7 11 255 3 ?_
   simp only [zz]
   refine zr 8 fun K hK=>?_
   have FN:=n13
   go_simp
   refine zk hK 11 511 2 (HLd.out _ (below_call n13.out.bl (below1 _ _))) fun hHeld=>?_
   clear hK K
   try simp only [zz]
   refine tn 9 11 1023 1 ?_
   simp only [zz]
   refine tn 10 11 2047 0 ?_
   simp only [zz]
   refine zn ?_ _
   (try go_wp2)
   refine bodyPost_ret (v:=.tuple #[.pointer (some ⟨_,0,none⟩),.int .i64 0]) (by simp [results,Tryz.results5,go_sem];rfl) rfl ?_
   exact⟨_,_,rfl,FN.out.fin ⟨W_,o_,p_,m_,q_,r_,l_,s_,y_,k_⟩ (by simp),rfl,rfl,rfl,fun j hj=>Nat.le_trans hsW ((FN.out.A rfl).blk j hj).1,⟨Nat.le_trans hsW (FN.out.ge (by simp)),Nat.le_trans hsW (FN.out.M rfl).2,Nat.le_trans hsW (FN.out.N rfl).2⟩,below_call HB.out (below_call HB1.out (below_call FN.out.bl (below1 _ _)))⟩
  refine AllReadyH.cons rfl (fun K hK=>?_) AllReadyH.nil
  have n14:=hid n10.out.addN
  (try simp only [World.size_alloc,dr_size] at n14)
  go_simp
  refine zk hK 11 27 7 (HLd.out _ n14.out.bl) fun hHeld=>?_
  clear hK K
  try simp only [zz]
  refine wpAnyH_ready (rs:=[2,5]) (by kernel_rfl) (by simp) ?_
  refine AllReadyH.cons rfl (fun K hK=>?_) ?_
  ·obtain⟨a15,c15,U15,hr15,m15⟩:=n14.out.addA HWs.out hn
   have n15:=hid m15
   clear m15
   refine wp_app (.const (.slice none 0 0)) (.tmp 13) 24 rfl _ _ rfl rfl _ U15 hr15 ?_
   refine zk hK 11 31 6 (HLd.out _ n15.out.bl) fun hHeld=>?_
   clear hK K
   try simp only [zz]
   refine zr 5 fun K hK=>?_
   obtain⟨U16,hr16,m16⟩:=n15.out.addI
   (try simp only [World.size_alloc,dr_size,al_drew] at hr16)
   have n16:=hid m16
   clear m16
   go_simp
   refine zk hK 11 63 5 (HLd.out _ n16.out.bl) fun hHeld=>?_
   clear hK K
   try simp only [zz]
   refine tn 6 11 127 4 ?_
   simp only [zz]
   refine tn 7 11 255 3 ?_
   simp only [zz]
   refine zr 8 fun K hK=>?_
   have FN:=n16
   go_simp
   refine zk hK 11 511 2 (HLd.out _ (below_call n16.out.bl (below1 _ _))) fun hHeld=>?_
   clear hK K
   try simp only [zz]
   refine tn 9 11 1023 1 ?_
   simp only [zz]
   refine tn 10 11 2047 0 ?_
   simp only [zz]
   refine zn ?_ _
   (try go_wp2)
   refine bodyPost_ret (v:=.tuple #[.pointer (some ⟨_,0,none⟩),.int .i64 0]) (by simp [results,Tryz.results5,go_sem];rfl) rfl ?_
   exact⟨_,_,rfl,FN.out.fin ⟨W_,o_,p_,m_,q_,r_,l_,s_,y_,k_⟩ (by simp),rfl,rfl,rfl,fun j hj=>Nat.le_trans hsW ((FN.out.A rfl).blk j hj).1,⟨Nat.le_trans hsW (FN.out.ge (by simp)),Nat.le_trans hsW (FN.out.M rfl).2,Nat.le_trans hsW (FN.out.N rfl).2⟩,below_call HB.out (below_call HB1.out (below_call FN.out.bl (below1 _ _)))⟩
  refine AllReadyH.cons rfl (fun K hK=>?_) AllReadyH.nil
  obtain⟨U17,hr17,m17⟩:=n14.out.addI
  (try simp only [World.size_alloc,dr_size,al_drew] at hr17)
  have n17:=hid m17
  clear m17
  go_simp
  refine zk hK 11 59 6 (HLd.out _ n17.out.bl) fun hHeld=>?_
  clear hK K
  try simp only [zz]
  refine tn 6 11 123 5 ?_
  simp only [zz]
  refine zr 2 fun K hK=>?_
  obtain⟨a18,c18,U18,hr18,m18⟩:=n17.out.addA HWs.out hn
  have n18:=hid m18
  clear m18
  refine wp_app (.const (.slice none 0 0)) (.tmp 13) 24 rfl _ _ rfl rfl _ U18 hr18 ?_
  refine zk hK 11 127 4 (HLd.out _ n18.out.bl) fun hHeld=>?_
  clear hK K
  try simp only [zz]
  refine tn 7 11 255 3 ?_
  simp only [zz]
  refine zr 8 fun K hK=>?_
  have FN:=n18
  go_simp
  refine zk hK 11 511 2 (HLd.out _ (below_call n18.out.bl (below1 _ _))) fun hHeld=>?_
  clear hK K
  try simp only [zz]
  refine tn 9 11 1023 1 ?_
  simp only [zz]
  refine tn 10 11 2047 0 ?_
  simp only [zz]
  refine zn ?_ _
  (try go_wp2)
  refine bodyPost_ret (v:=.tuple #[.pointer (some ⟨_,0,none⟩),.int .i64 0]) (by simp [results,Tryz.results5,go_sem];rfl) rfl ?_
  exact⟨_,_,rfl,FN.out.fin ⟨W_,o_,p_,m_,q_,r_,l_,s_,y_,k_⟩ (by simp),rfl,rfl,rfl,fun j hj=>Nat.le_trans hsW ((FN.out.A rfl).blk j hj).1,⟨Nat.le_trans hsW (FN.out.ge (by simp)),Nat.le_trans hsW (FN.out.M rfl).2,Nat.le_trans hsW (FN.out.N rfl).2⟩,below_call HB.out (below_call HB1.out (below_call FN.out.bl (below1 _ _)))⟩
 refine AllReadyH.cons rfl (fun K hK=>?_) AllReadyH.nil
 have n19:=hid n0.out.addN
 (try simp only [World.size_alloc,dr_size] at n19)
 go_simp
 refine zk hK 11 19 8 (HLd.out _ n19.out.bl) fun hHeld=>?_
 clear hK K
 try simp only [zz]
 refine wpAnyH_ready (rs:=[2,3,5]) (by kernel_rfl) (by simp) ?_
 refine AllReadyH.cons rfl (fun K hK=>?_) ?_
 ·obtain⟨a20,c20,U20,hr20,m20⟩:=n19.out.addA HWs.out hn
  have n20:=hid m20
  clear m20
  refine wp_app (.const (.slice none 0 0)) (.tmp 13) 24 rfl _ _ rfl rfl _ U20 hr20 ?_
  refine zk hK 11 23 7 (HLd.out _ n20.out.bl) fun hHeld=>?_
  clear hK K
  try simp only [zz]
  refine wpAnyH_ready (rs:=[3,5]) (by kernel_rfl) (by simp) ?_
  refine AllReadyH.cons rfl (fun K hK=>?_) ?_
  ·have n21:=hid n20.out.addM
   (try simp only [World.size_alloc,dr_size] at n21)
   go_simp
   refine zk hK 11 31 6 (HLd.out _ n21.out.bl) fun hHeld=>?_
   clear hK K
   try simp only [zz]
   refine zr 5 fun K hK=>?_
   obtain⟨U22,hr22,m22⟩:=n21.out.addI
   (try simp only [World.size_alloc,dr_size,al_drew] at hr22)
   have n22:=hid m22
   clear m22
   go_simp
   refine zk hK 11 63 5 (HLd.out _ n22.out.bl) fun hHeld=>?_
   clear hK K
   try simp only [zz]
   refine tn 6 11 127 4 ?_
   simp only [zz]
   refine tn 7 11 255 3 ?_
   simp only [zz]
   refine zr 8 fun K hK=>?_
   have FN:=n22
   go_simp
   refine zk hK 11 511 2 (HLd.out _ (below_call n22.out.bl (below1 _ _))) fun hHeld=>?_
   clear hK K
   try simp only [zz]
   refine tn 9 11 1023 1 ?_
   simp only [zz]
   refine tn 10 11 2047 0 ?_
   simp only [zz]
   refine zn ?_ _
   (try go_wp2)
   refine bodyPost_ret (v:=.tuple #[.pointer (some ⟨_,0,none⟩),.int .i64 0]) (by simp [results,Tryz.results5,go_sem];rfl) rfl ?_
   exact⟨_,_,rfl,FN.out.fin ⟨W_,o_,p_,m_,q_,r_,l_,s_,y_,k_⟩ (by simp),rfl,rfl,rfl,fun j hj=>Nat.le_trans hsW ((FN.out.A rfl).blk j hj).1,⟨Nat.le_trans hsW (FN.out.ge (by simp)),Nat.le_trans hsW (FN.out.M rfl).2,Nat.le_trans hsW (FN.out.N rfl).2⟩,below_call HB.out (below_call HB1.out (below_call FN.out.bl (below1 _ _)))⟩
  refine AllReadyH.cons rfl (fun K hK=>?_) AllReadyH.nil
  obtain⟨U23,hr23,m23⟩:=n20.out.addI
  (try simp only [World.size_alloc,dr_size,al_drew] at hr23)
  have n23:=hid m23
  clear m23
  go_simp
  refine zk hK 11 55 6 (HLd.out _ n23.out.bl) fun hHeld=>?_
  clear hK K
  try simp only [zz]
  refine tn 6 11 119 5 ?_
  simp only [zz]
  refine zr 3 fun K hK=>?_
  have n24:=hid n23.out.addM
  (try simp only [World.size_alloc,dr_size] at n24)
  go_simp
  refine zk hK 11 127 4 (HLd.out _ n24.out.bl) fun hHeld=>?_
  clear hK K
  try simp only [zz]
  refine tn 7 11 255 3 ?_
  simp only [zz]
  refine zr 8 fun K hK=>?_
  have FN:=n24
  go_simp
  refine zk hK 11 511 2 (HLd.out _ (below_call n24.out.bl (below1 _ _))) fun hHeld=>?_
  clear hK K
  try simp only [zz]
  refine tn 9 11 1023 1 ?_
  simp only [zz]
  refine tn 10 11 2047 0 ?_
  simp only [zz]
  refine zn ?_ _
  (try go_wp2)
  refine bodyPost_ret (v:=.tuple #[.pointer (some ⟨_,0,none⟩),.int .i64 0]) (by simp [results,Tryz.results5,go_sem];rfl) rfl ?_
  exact⟨_,_,rfl,FN.out.fin ⟨W_,o_,p_,m_,q_,r_,l_,s_,y_,k_⟩ (by simp),rfl,rfl,rfl,fun j hj=>Nat.le_trans hsW ((FN.out.A rfl).blk j hj).1,⟨Nat.le_trans hsW (FN.out.ge (by simp)),Nat.le_trans hsW (FN.out.M rfl).2,Nat.le_trans hsW (FN.out.N rfl).2⟩,below_call HB.out (below_call HB1.out (below_call FN.out.bl (below1 _ _)))⟩
 refine AllReadyH.cons rfl (fun K hK=>?_) ?_
 ·have n25:=hid n19.out.addM
  (try simp only [World.size_alloc,dr_size] at n25)
  go_simp
  refine zk hK 11 27 7 (HLd.out _ n25.out.bl) fun hHeld=>?_
  clear hK K
  try simp only [zz]
  refine wpAnyH_ready (rs:=[2,5]) (by kernel_rfl) (by simp) ?_
  refine AllReadyH.cons rfl (fun K hK=>?_) ?_
  ·obtain⟨a26,c26,U26,hr26,m26⟩:=n25.out.addA HWs.out hn
   have n26:=hid m26
   clear m26
   refine wp_app (.const (.slice none 0 0)) (.tmp 13) 24 rfl _ _ rfl rfl _ U26 hr26 ?_
   refine zk hK 11 31 6 (HLd.out _ n26.out.bl) fun hHeld=>?_
   clear hK K
   try simp only [zz]
   refine zr 5 fun K hK=>?_
   obtain⟨U27,hr27,m27⟩:=n26.out.addI
   (try simp only [World.size_alloc,dr_size,al_drew] at hr27)
   have n27:=hid m27
   clear m27
   go_simp
   refine zk hK 11 63 5 (HLd.out _ n27.out.bl) fun hHeld=>?_
   clear hK K
   try simp only [zz]
   refine tn 6 11 127 4 ?_
   simp only [zz]
   refine tn 7 11 255 3 ?_
   simp only [zz]
   refine zr 8 fun K hK=>?_
   have FN:=n27
   go_simp
   refine zk hK 11 511 2 (HLd.out _ (below_call n27.out.bl (below1 _ _))) fun hHeld=>?_
   clear hK K
   try simp only [zz]
   refine tn 9 11 1023 1 ?_
   simp only [zz]
   refine tn 10 11 2047 0 ?_
   simp only [zz]
   refine zn ?_ _
   (try go_wp2)
   refine bodyPost_ret (v:=.tuple #[.pointer (some ⟨_,0,none⟩),.int .i64 0]) (by simp [results,Tryz.results5,go_sem];rfl) rfl ?_
   exact⟨_,_,rfl,FN.out.fin ⟨W_,o_,p_,m_,q_,r_,l_,s_,y_,k_⟩ (by simp),rfl,rfl,rfl,fun j hj=>Nat.le_trans hsW ((FN.out.A rfl).blk j hj).1,⟨Nat.le_trans hsW (FN.out.ge (by simp)),Nat.le_trans hsW (FN.out.M rfl).2,Nat.le_trans hsW (FN.out.N rfl).2⟩,below_call HB.out (below_call HB1.out (below_call FN.out.bl (below1 _ _)))⟩
  refine AllReadyH.cons rfl (fun K hK=>?_) AllReadyH.nil
  obtain⟨U28,hr28,m28⟩:=n25.out.addI
  (try simp only [World.size_alloc,dr_size,al_drew] at hr28)
  have n28:=hid m28
  clear m28
  go_simp
  refine zk hK 11 59 6 (HLd.out _ n28.out.bl) fun hHeld=>?_
  clear hK K
  try simp only [zz]
  refine tn 6 11 123 5 ?_
  simp only [zz]
  refine zr 2 fun K hK=>?_
  obtain⟨a29,c29,U29,hr29,m29⟩:=n28.out.addA HWs.out hn
  have n29:=hid m29
  clear m29
  refine wp_app (.const (.slice none 0 0)) (.tmp 13) 24 rfl _ _ rfl rfl _ U29 hr29 ?_
  refine zk hK 11 127 4 (HLd.out _ n29.out.bl) fun hHeld=>?_
  clear hK K
  try simp only [zz]
  refine tn 7 11 255 3 ?_
  simp only [zz]
  refine zr 8 fun K hK=>?_
  have FN:=n29
  go_simp
  refine zk hK 11 511 2 (HLd.out _ (below_call n29.out.bl (below1 _ _))) fun hHeld=>?_
  clear hK K
  try simp only [zz]
  refine tn 9 11 1023 1 ?_
  simp only [zz]
  refine tn 10 11 2047 0 ?_
  simp only [zz]
  refine zn ?_ _
  (try go_wp2)
  refine bodyPost_ret (v:=.tuple #[.pointer (some ⟨_,0,none⟩),.int .i64 0]) (by simp [results,Tryz.results5,go_sem];rfl) rfl ?_
  exact⟨_,_,rfl,FN.out.fin ⟨W_,o_,p_,m_,q_,r_,l_,s_,y_,k_⟩ (by simp),rfl,rfl,rfl,fun j hj=>Nat.le_trans hsW ((FN.out.A rfl).blk j hj).1,⟨Nat.le_trans hsW (FN.out.ge (by simp)),Nat.le_trans hsW (FN.out.M rfl).2,Nat.le_trans hsW (FN.out.N rfl).2⟩,below_call HB.out (below_call HB1.out (below_call FN.out.bl (below1 _ _)))⟩
 refine AllReadyH.cons rfl (fun K hK=>?_) AllReadyH.nil
 obtain⟨U30,hr30,m30⟩:=n19.out.addI
 (try simp only [World.size_alloc,dr_size,al_drew] at hr30)
 have n30:=hid m30
 clear m30
 go_simp
 refine zk hK 11 51 7 (HLd.out _ n30.out.bl) fun hHeld=>?_
 clear hK K
 try simp only [zz]
 refine tn 6 11 115 6 ?_
 simp only [zz]
 refine wpAnyH_ready (rs:=[2,3]) (by kernel_rfl) (by simp) ?_
 refine AllReadyH.cons rfl (fun K hK=>?_) ?_
 ·obtain⟨a31,c31,U31,hr31,m31⟩:=n30.out.addA HWs.out hn
  have n31:=hid m31
  clear m31
  refine wp_app (.const (.slice none 0 0)) (.tmp 13) 24 rfl _ _ rfl rfl _ U31 hr31 ?_
  refine zk hK 11 119 5 (HLd.out _ n31.out.bl) fun hHeld=>?_
  clear hK K
  try simp only [zz]
  refine zr 3 fun K hK=>?_
  have n32:=hid n31.out.addM
  (try simp only [World.size_alloc,dr_size] at n32)
  go_simp
  refine zk hK 11 127 4 (HLd.out _ n32.out.bl) fun hHeld=>?_
  clear hK K
  try simp only [zz]
  refine tn 7 11 255 3 ?_
  simp only [zz]
  refine zr 8 fun K hK=>?_
  have FN:=n32
  go_simp
  refine zk hK 11 511 2 (HLd.out _ (below_call n32.out.bl (below1 _ _))) fun hHeld=>?_
  clear hK K
  try simp only [zz]
  refine tn 9 11 1023 1 ?_
  simp only [zz]
  refine tn 10 11 2047 0 ?_
  simp only [zz]
  refine zn ?_ _
  (try go_wp2)
  refine bodyPost_ret (v:=.tuple #[.pointer (some ⟨_,0,none⟩),.int .i64 0]) (by simp [results,Tryz.results5,go_sem];rfl) rfl ?_
  exact⟨_,_,rfl,FN.out.fin ⟨W_,o_,p_,m_,q_,r_,l_,s_,y_,k_⟩ (by simp),rfl,rfl,rfl,fun j hj=>Nat.le_trans hsW ((FN.out.A rfl).blk j hj).1,⟨Nat.le_trans hsW (FN.out.ge (by simp)),Nat.le_trans hsW (FN.out.M rfl).2,Nat.le_trans hsW (FN.out.N rfl).2⟩,below_call HB.out (below_call HB1.out (below_call FN.out.bl (below1 _ _)))⟩
 refine AllReadyH.cons rfl (fun K hK=>?_) AllReadyH.nil
 have n33:=hid n30.out.addM
 (try simp only [World.size_alloc,dr_size] at n33)
 go_simp
 refine zk hK 11 123 5 (HLd.out _ n33.out.bl) fun hHeld=>?_
 clear hK K
 try simp only [zz]
 refine zr 2 fun K hK=>?_
 obtain⟨a34,c34,U34,hr34,m34⟩:=n33.out.addA HWs.out hn
 have n34:=hid m34
 clear m34
 refine wp_app (.const (.slice none 0 0)) (.tmp 13) 24 rfl _ _ rfl rfl _ U34 hr34 ?_
 refine zk hK 11 127 4 (HLd.out _ n34.out.bl) fun hHeld=>?_
 clear hK K
 try simp only [zz]
 refine tn 7 11 255 3 ?_
 simp only [zz]
 refine zr 8 fun K hK=>?_
 have FN:=n34
 go_simp
 refine zk hK 11 511 2 (HLd.out _ (below_call n34.out.bl (below1 _ _))) fun hHeld=>?_
 clear hK K
 try simp only [zz]
 refine tn 9 11 1023 1 ?_
 simp only [zz]
 refine tn 10 11 2047 0 ?_
 simp only [zz]
 refine zn ?_ _
 (try go_wp2)
 refine bodyPost_ret (v:=.tuple #[.pointer (some ⟨_,0,none⟩),.int .i64 0]) (by simp [results,Tryz.results5,go_sem];rfl) rfl ?_
 exact⟨_,_,rfl,FN.out.fin ⟨W_,o_,p_,m_,q_,r_,l_,s_,y_,k_⟩ (by simp),rfl,rfl,rfl,fun j hj=>Nat.le_trans hsW ((FN.out.A rfl).blk j hj).1,⟨Nat.le_trans hsW (FN.out.ge (by simp)),Nat.le_trans hsW (FN.out.M rfl).2,Nat.le_trans hsW (FN.out.N rfl).2⟩,below_call HB.out (below_call HB1.out (below_call FN.out.bl (below1 _ _)))⟩
end Go.Proofs.YtffmodpgddecnaaGreat.V.E
