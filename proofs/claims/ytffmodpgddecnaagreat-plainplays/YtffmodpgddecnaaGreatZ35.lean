import Derived.Test.YtffmodpgddecnaaGreatZ34
set_option linter.unusedVariables false
set_option linter.unusedSimpArgs false
namespace Go.Proofs.YtffmodpgddecnaaGreat.V.E
open Go.RowKit Go.Maps
open Go.Proofs.YtffmodpgddecnaaGreat.H (B64 Cp)
open Go.Proofs.YtffmodpgddecnaaGreat.M (okI atC pickE pickL)
section
variable {w w':World}{base:Nat}{M:Mh}{r:Rm}{a1:Option Addr}{c1:Nat}{Q1:List Ev}{a2:Option Addr}{c2:Nat}{a3:Option Addr}{c3:Nat}{Q3:List Ev}
theorem era_ne {α:Type}{K:List α}{i x:Nat}{c:α}(h:K[i]?=some c)(hx:i≠x):(K.take (i+1)).eraseIdx x=(K.take i).eraseIdx x++[c]:=by
 have hl:=(List.getElem?_eq_some_iff.1 h).1
 have e:K.take (i+1)=K.take i++[c]:=by rw [List.take_add_one,h];rfl
 have el:(K.take i).length=i:=by rw [List.length_take];omega
 rw [e]
 by_cases h1:x<i
 ·rw [List.eraseIdx_append_of_lt_length (by rw [el];exact h1)]
 ·rw [List.eraseIdx_append_of_length_le (by rw [el];omega),el,List.eraseIdx_of_length_le (by simp;omega),List.eraseIdx_of_length_le (by rw [el];omega)]
theorem era_eq {α:Type}{K:List α}{x:Nat}{c:α}(h:K[x]?=some c):(K.take (x+1)).eraseIdx x=(K.take x).eraseIdx x:=by
 have hl:=(List.getElem?_eq_some_iff.1 h).1
 have e:K.take (x+1)=K.take x++[c]:=by rw [List.take_add_one,h];rfl
 have el:(K.take x).length=x:=by rw [List.length_take];omega
 have e9:(K.take x).eraseIdx x=K.take x:=List.eraseIdx_of_length_le (by rw [el];omega)
 rw [e,e9,List.eraseIdx_append_of_length_le (by rw [el];omega),el,Nat.sub_self]
 simp
def rmK (r:Rm)(pi:Nat)(pv:Int×List Cp)(x:Int):Rep×Rm:=if (pv.2.length:Int)≤x then (rep 15,r) else (rep 0,{ r with P:=r.P.set pi (pv.1,pv.2.eraseIdx x.toNat) })
def exK (r:Rm)(pi:Nat):Rep×Rm:=(rep 0,{ r with P:=r.P.eraseIdx pi })
def RvR (W:World)(K:List Cp)(x:Nat)(v6 v7:Value)(U:World):Prop:=∃(i:Nat) (a:Option Addr) (n c:Nat),v6=.slice a n c∧v7=.int .i64 (i:Int)∧i≤K.length∧n≤i∧Hid (n=((K.take i).eraseIdx x).length)∧Hid (Ow U W.heap.size 38 3 a n c (caps ((K.take i).eraseIdx x)))∧Hid (Below W.heap.size W U)
def RxR (W:World)(Q:List Ev)(x:Nat)(v6 v7:Value)(U:World):Prop:=∃(i:Nat) (a:Option Addr) (n c:Nat),v6=.slice a n c∧v7=.int .i64 (i:Int)∧i≤Q.length∧n≤i∧Hid (n=((Q.take i).eraseIdx x).length)∧Hid (Ow U W.heap.size 65 2 a n c (evs ((Q.take i).eraseIdx x)))∧Hid (Below W.heap.size W U)
set_option maxRecDepth 100000 in
set_option maxHeartbeats 4000000 in
theorem rdo_remove (h:Mx w base M r a1 c1 Q1 a2 c2 a3 c3 Q3)(hbs:base≤w.heap.size)(hf:RF M.p r)(hcf:M.C.may=true){cl:R.Cl}{dd gg:R.Sl}(hi:R.Is w cl dd gg)(hgf:Fl w gg.a (ints cl.gifts))(hfm:R.fm cl=true)(hop:cl.op=8){pi:Nat}{pv:Int×List Cp}(hix:ixF (isP cl.by_) r.P=(pi:Int))(hpi:r.P[pi]?=some pv):Calls Tryz.prog 8 #[.pointer (some ⟨M.b,0,none⟩),.agg (R.cC cl dd gg).toArray] w (RmP w base M (MxN M a1 Q1 a2 a3 Q3) (rmK r pi pv cl.index)):=by
 obtain⟨W,hW⟩:∃W,W=(w.alloc (Obj.cells (R.cC cl dd gg).toArray 45)).alloc z6:=⟨_,rfl⟩
 have hB:Below w.heap.size w W:=by rw [hW];exact below2 _ _ _
 have hXc:R.Bx W w.heap.size (R.cC cl dd gg):=by rw [hW];exact R.Bx.later (below1 _ _) (R.Bx.new w (R.cC cl dd gg) 45)
 have hZ:Zr W (w.heap.size+1):=by rw [hW];have:=Zr.new (w.alloc (Obj.cells (R.cC cl dd gg).toArray 45));simpa using this
 have HP0:=hid (Pg.start h hB hZ (Nat.le_succ _))
 have HN:Hid (∀j,MxN M a1 Q1 a2 a3 Q3 j→j<w.heap.size):=fun j hj=>(h.rng j hj).2
 have HD:=hid h.dl
 have HW:=hid hW
 have HB:=hid hB
 have HX:=hid h
 have HBs:=hid hbs
 have HXc:=hid hXc
 have HF:=hid hf
 have HCf:=hid hcf
 have HIs:=hid hi
 have HFm:=hid hfm
 have HPi:=hid hpi
 have HLd:=hid (ldC hXc)
 have HIc:=hid (ris_any (w:=W) (cl:=cl) (dd:=dd) (gg:=gg) (by have:=hi.data.len;omega) (by have:=hi.gifts.len;omega) (hgf.later hB))
 rw [hfm] at HIc
 have HPr:Hid (∀U:World,Below W.heap.size W U→Calls Tryz.prog 19 #[.pointer (some ⟨M.b,0,none⟩),.int .i64 cl.by_] U fun e w'=>e=.returned (.int .i64 (pi:Int))∧Below U.heap.size U w'):=fun U hU=>by
  have:=rproc_any (h.mr.later (below_call hB hU)) cl.by_
  rw [hix] at this
  exact this
 have hC:∀U:World,Below W.heap.size W U→U.cell? ⟨w.heap.size,0,none⟩=some (.int .i64 8)∧U.cell? ⟨w.heap.size,1,none⟩=some (.int .i64 cl.by_)∧U.cell? ⟨w.heap.size,2,none⟩=some (.int .i64 cl.size):=fun U hU=>by
  have hx:=R.Bx.later hU hXc
  exact⟨by rw [←hop];exact hx.cell 0 rfl,hx.cell 1 rfl,hx.cell 2 rfl⟩
 have HC:=hid hC
 have hd0:decide ((pi:Int)<0)=false:=decide_eq_false (by omega)
 obtain⟨Qq,hQ⟩:∃Qq,Qq=rmK r pi pv cl.index:=⟨_,rfl⟩
 rw [←hQ]
 have HQ:=hid hQ
 clear h hbs hf hcf hi hgf hfm hW hB hZ hXc hC hix hpi hQ
 go_enter Tryz.func8,Tryz.ntmps8
 go_upto_region 1 with fail
 rw [←HW.out]
 go_upto_region 3 with (first|((with_reducible refine R.ld_arm HLd.out ?_ ?_);(· rfl))|(go_at_call 17;refine HIc.out.mono ?_;rintro e w1 ⟨rfl,hb1⟩;have HB1:=hid hb1;clear hb1))
 obtain⟨z0,z1,-⟩:=HC.out w1 HB1.out
 go_upto_region 6 with (first|(go_at_call 19;refine (HPr.out w1 HB1.out).mono ?_;rintro e w2 ⟨rfl,hb2⟩;have HB2:=hid (below_call HB1.out hb2);clear hb2))
 clear z0 z1 hd0 HB1
 obtain⟨z0,-,z2⟩:=HC.out w2 HB2.out
 have HP2:=hid (HP0.out.later HB2.out)
 have HLd2:=hid (ldC (R.Bx.later HB2.out HXc.out))
 have hbs2:base≤w2.heap.size:=Nat.le_trans HBs.out HP2.out.bt.size
 obtain⟨e3,he3,he3m,he3i,he3v,he3l⟩:=key_at HX.out.pk HPi.out
 have hpn:=(List.getElem?_eq_some_iff.1 HPi.out).1
 obtain⟨g3,hg3,hgc⟩:=Ow.at_ HX.out.ps.row (by omega)
 have hg31:w.cell? ⟨g3,pi*2+1,none⟩=some (.slice e3.a e3.len e3.cap):=hgc _ _ (evs_at Q3 pi e3 he3 1 (by omega))
 obtain⟨nP,hnP⟩:∃n,n=r.P.length:=⟨_,rfl⟩
 obtain⟨la,hla⟩:∃la,la=e3.a:=⟨_,rfl⟩
 obtain⟨lc,hlc⟩:∃lc,lc=e3.cap:=⟨_,rfl⟩
 obtain⟨ln,hln⟩:∃ln,ln=pv.2.length:=⟨_,rfl⟩
 have he3l2:e3.len=ln:=by rw [he3l,hln];rfl
 rw [←hla,←hlc,he3l2] at hg31
 have hOl:=HX.out.ps.each e3 he3m
 rw [←hla,←hlc,he3l2,he3v] at hOl
 have hOl:Ow w base 38 3 la ln lc (caps pv.2):=hOl
 have HOl:=hid hOl
 have hB2:=below_call HB.out HB2.out
 have m14:w2.cell? ⟨M.b,14,none⟩=some (.slice (some ⟨g3,0,none⟩) nP c3):=by rw [hnP,←hg3];exact (R.Bx.later hB2 HX.out.box).cell 14 rfl
 have p31:w2.cell? ⟨g3,pi*2+1,none⟩=some (.slice la ln lc):=cell_later hB2 hg31
 have hpl:ln≤32:=by rw [hln];exact HF.out.pl pv (List.mem_of_getElem? HPi.out)
 have hpi2:(pi:Int)<(nP:Int):=by omega
 have h0pi:(0:Int)≤(pi:Int):=by omega
 have HnP:=hid hnP
 have Hln:=hid hln
 have Hhg3:=hid hg3
 have HE3:=hid he3
 have HP31:=hid hg31
 have Hm14:Hid (∀U:World,Below w2.heap.size w2 U→U.cell? ⟨M.b,14,none⟩=some (.slice (some ⟨g3,0,none⟩) nP c3)∧U.cell? ⟨g3,pi*2+1,none⟩=some (.slice la ln lc)∧U.cell? ⟨w.heap.size,11,none⟩=some (.int .i64 cl.index)∧Fl U la (caps pv.2)):=fun U hU=>⟨cell_later hU m14,cell_later hU p31,(R.Bx.later (below_call HB2.out hU) HXc.out).cell 11 rfl,Fl.of (Ow.later hOl (below_call hB2 hU)) (by rw [hln];exact caps_len3 pv.2)⟩
 obtain⟨-,-,z11,-⟩:=Hm14.out w2 (Below.refl _ _)
 have hx0:0≤cl.index:=by have h9:=HFm.out;unfold R.fm R.inB R.wi at h9;simp only [Bool.and_eq_true,decide_eq_true_eq] at h9;omega
 clear hla hlc he3 he3m he3i he3v he3l hgc hg31 he3l2 hOl hB2 hpn z2 hnP hln hg3
 obtain⟨x,hx⟩:∃x:Nat,cl.index=(x:Int):=⟨cl.index.toNat,by omega⟩
 rw [hx] at z11 Hm14
 have HQ:Hid (Qq=if (ln:Int)≤(x:Int) then (rep 15,r) else (rep 0,{ r with P:=r.P.set pi (pv.1,pv.2.eraseIdx x) })):=by
  unfold Hid
  rw [HQ.out]
  unfold rmK
  rw [←Hln.out,hx,Int.toNat_natCast]
 clear hx hx0
 by_cases h1:ln≤x
 ·obtain rfl:Qq=(rep 15,r):=by rw [HQ.out,if_pos (by omega)]
  have hd1:decide ((x:Int)≥(ln:Int))=true:=decide_eq_true (by omega)
  have hd1n:decide (ln≤x)=true:=decide_eq_true h1
  clear h1
  go_upto_region 25 with fail
  go_quiet (fail)
  obtain⟨v3,hv3⟩:∃v3,v3=w2.drewN nq:=⟨_,rfl⟩
  have HEv:=hid (HP2.out.later (V:=v3) (by rw [hv3];exact below_drewN (Below.refl _ _) _)).e
  rw [←hv3]
  clear hv3
  have HR_:=hid (rrefused_any 15 v3)
  go_wp2_with (first|(go_at_call 18;refine HR_.out.mono ?_;rintro e w9 ⟨rfl,hb9⟩;have HE9:=hid (HEv.out.later hb9);have HZ9:=hid HE9.out.z;have HS9:=hid (HZ9.out.st (rep 15) none 0 0);have HL9:=hid (HZ9.out.lv (rep 15) none 0 0);clear hb9)|((with_reducible refine st_arm HS9.out ?_ ?_ ?_);(· rfl);(· rfl)))
  exact bodyPost_ret (v:=rpV (rep 15) none 0 0) (by simp [results,Tryz.results8,asAddr,HL9.out]) rfl (HE9.out.fin (Nat.le_succ _) HN.out HD.out (rep 15) rfl)
 have HQ:=hid (HQ.out.trans (if_neg (by omega)))
 have hd1:decide ((x:Int)≥(ln:Int))=false:=decide_eq_false (by omega)
 have hd1n:decide (ln≤x)=false:=decide_eq_false h1
 clear h1
 go_upto_region 25 with fail
 go_quiet (fail)
 obtain⟨v3,hv3⟩:∃v3,v3=w2.drewN nq:=⟨_,rfl⟩
 have HB3:Hid (Below w2.heap.size w2 v3):=by rw [hv3];exact below_drewN (Below.refl _ _) _
 rw [←hv3]
 clear hv3 m14 p31 z11 z0
 go_upto_region 28 with fail
 clear hd1 hd1n
 go_loopw [6,7] (RvR w2 pv.2 x) (fun _ v _=>pv.2.length - S.ivN v)
 case atStart=>exact⟨0,none,0,0,rfl,rfl,Nat.zero_le _,Nat.le_refl _,hid (by simp),hid (by simp [caps];exact Ow.nil _ _ _ _),HB3⟩
 case round =>
  clear HB3
  obtain⟨j,a,m,c,rfl,rfl,hj,hmj,HNt,HOt,HB4⟩:=hrel
  rename World=>U
  have hl2:=Hln.out
  obtain⟨m14,p31,z11,hfl⟩:=Hm14.out U HB4.out
  by_cases hlt:j<pv.2.length
  ·have hd:decide ((j:Int)<(ln:Int))=true:=decide_eq_true (by omega)
   have hlt2:(j:Int)<(ln:Int):=by omega
   have h0j:(0:Int)≤(j:Int):=by omega
   obtain⟨q,hq⟩:∃q,pv.2[j]?=some q:=⟨_,List.getElem?_eq_getElem hlt⟩
   obtain⟨gl,hgl,hqc⟩:=hfl (by rw [caps_len3];omega)
   rw [hgl] at p31
   have q0:U.cell? ⟨gl,j*3,none⟩=some (.int .i64 q.1):=hqc _ _ (caps_at pv.2 j q hq 0 (by omega))
   have q1:U.cell? ⟨gl,j*3+1,none⟩=some (.int .u64 (q.2.1:Int)):=hqc _ _ (caps_at pv.2 j q hq 1 (by omega))
   have q2:U.cell? ⟨gl,j*3+2,none⟩=some (.int .u64 (q.2.2:Int)):=hqc _ _ (caps_at pv.2 j q hq 2 (by omega))
   by_cases he:j=x
   ·subst he
    have heb:((j:Int) != (j:Int))=false:=by simp
    have HX2:Hid ((pv.2.take (j+1)).eraseIdx j=(pv.2.take j).eraseIdx j):=era_eq hq
    clear hqc hq hl2 hgl
    go_wp2
    exact⟨⟨j+1,a,m,c,rfl,rfl,by omega,by omega,by rw [HX2.out];exact HNt,by rw [HX2.out];exact HOt,HB4⟩,by simp [S.ivN];omega⟩
   ·have heb:((j:Int) != (x:Int))=true:=by simp;omega
    have hebn:(j==x)=false:=by simpa using he
    have HX2:Hid ((pv.2.take (j+1)).eraseIdx x=(pv.2.take j).eraseIdx x++[q]):=era_ne hq he
    obtain⟨a',c',w7,hrun,hO7,hB7⟩:=row_app 63 38 _ 3 24 Tryz.underlying63 infoEC rfl (by decide) (by decide) (by decide) HOt.out HB4.out.size (by omega) (encC q) rfl (by simp [encC,Value.oneCell'])
    simp only [encC] at hrun
    have HRUN:=hid hrun
    have HO7:=hid hO7
    have HB7:=hid (But.below HB4.out hB7 (fun j hj=>(HOt.out.blk j hj).1))
    clear hrun hO7 hB7 he hqc hq hl2 hgl
    go_wp2_with (first|(at_builtin;refine wpList_append_known rfl _ _ 63 rfl _ _ rfl rfl _ w7 HRUN.out ?_))
    refine⟨⟨j+1,a',m+1,c',rfl,rfl,by omega,by omega,?_,?_,HB7⟩,by simp [S.ivN];omega⟩
    ·unfold Hid
     rw [HX2.out,List.length_append,←HNt.out]
     rfl
    ·unfold Hid
     rw [HX2.out,capA]
     have:caps [q]=encC q:=by simp [caps]
     rw [this]
     exact HO7.out
  ·have hd:decide ((j:Int)<(ln:Int))=false:=decide_eq_false (by omega)
   have hdn:decide (j<ln)=false:=decide_eq_false (by omega)
   have hjj:j=pv.2.length:=by omega
   have hN2:m=(pv.2.eraseIdx x).length:=by have h9:=HNt.out;rw [hjj,List.take_length] at h9;exact h9
   have hO2:=HOt.out
   rw [hjj,List.take_length,hN2] at hO2
   have Pu:=HP2.out.later HB4.out
   have hlt9:=HP2.out.z.lt
   obtain⟨X9,hb9,hn9⟩:=Mx.setL Pu.x HE3.out HPi.out Hhg3.out (pv.2.eraseIdx x) (hO2.mono hbs2) (fun k hk=>Mx.new HX.out (by have:=(hO2.blk k hk).1;have:=HP2.out.bt.size;omega))
   have P9:=Pg.go2 Pu X9 hb9 (fun k hk=>.inr (.inr (.inr (.inl ⟨_,Hhg3.out,hk.symm⟩)))) (fun k hk=>(hn9 k hk).elim .inl (fun e=>.inr (by have:=(hO2.blk k e).1;omega)))
   rw [←hN2] at P9
   have HP9:=hid P9
   have HS9:=hid (HP9.out.z.st (rep 0) none 0 0)
   have HL9:=hid (HP9.out.z.lv (rep 0) none 0 0)
   have f31:U.frozen? ⟨g3,pi*2+1,none⟩=false:=by
    have h9:=Pu.x.ps.row
    rw [Hhg3.out] at h9
    exact h9.fr _
   clear Pu X9 hb9 hn9 P9 hO2 hN2 hjj HNt HOt hj hl2 hlt hfl
   go_wp2_with (first|((with_reducible refine st_arm HS9.out ?_ ?_ ?_);(· rfl);(· rfl)))
   obtain rfl:Qq=_:=HQ.out
   exact bodyPost_ret (v:=rpV (rep 0) none 0 0) (by simp [results,Tryz.results8,asAddr,HL9.out]) rfl (HP9.out.e.fin (Nat.le_succ _) HN.out HD.out (rep 0) rfl)
set_option maxRecDepth 100000 in
set_option maxHeartbeats 4000000 in
theorem rdo_exit (h:Mx w base M r a1 c1 Q1 a2 c2 a3 c3 Q3)(hbs:base≤w.heap.size)(hf:RF M.p r)(hcf:M.C.may=true){cl:R.Cl}{dd gg:R.Sl}(hi:R.Is w cl dd gg)(hgf:Fl w gg.a (ints cl.gifts))(hfm:R.fm cl=true)(hop:cl.op=10){pi:Nat}{pv:Int×List Cp}(hix:ixF (isP cl.by_) r.P=(pi:Int))(hpi:r.P[pi]?=some pv):Calls Tryz.prog 8 #[.pointer (some ⟨M.b,0,none⟩),.agg (R.cC cl dd gg).toArray] w (RmP w base M (MxN M a1 Q1 a2 a3 Q3) (exK r pi)):=by
 obtain⟨W,hW⟩:∃W,W=(w.alloc (Obj.cells (R.cC cl dd gg).toArray 45)).alloc z6:=⟨_,rfl⟩
 have hB:Below w.heap.size w W:=by rw [hW];exact below2 _ _ _
 have hXc:R.Bx W w.heap.size (R.cC cl dd gg):=by rw [hW];exact R.Bx.later (below1 _ _) (R.Bx.new w (R.cC cl dd gg) 45)
 have hZ:Zr W (w.heap.size+1):=by rw [hW];have:=Zr.new (w.alloc (Obj.cells (R.cC cl dd gg).toArray 45));simpa using this
 have HP0:=hid (Pg.start h hB hZ (Nat.le_succ _))
 have HN:Hid (∀j,MxN M a1 Q1 a2 a3 Q3 j→j<w.heap.size):=fun j hj=>(h.rng j hj).2
 have HD:=hid h.dl
 have HW:=hid hW
 have HB:=hid hB
 have HX:=hid h
 have HBs:=hid hbs
 have HXc:=hid hXc
 have HF:=hid hf
 have HCf:=hid hcf
 have HIs:=hid hi
 have HFm:=hid hfm
 have HPi:=hid hpi
 have HLd:=hid (ldC hXc)
 have HIc:=hid (ris_any (w:=W) (cl:=cl) (dd:=dd) (gg:=gg) (by have:=hi.data.len;omega) (by have:=hi.gifts.len;omega) (hgf.later hB))
 rw [hfm] at HIc
 have HPr:Hid (∀U:World,Below W.heap.size W U→Calls Tryz.prog 19 #[.pointer (some ⟨M.b,0,none⟩),.int .i64 cl.by_] U fun e w'=>e=.returned (.int .i64 (pi:Int))∧Below U.heap.size U w'):=fun U hU=>by
  have:=rproc_any (h.mr.later (below_call hB hU)) cl.by_
  rw [hix] at this
  exact this
 have hC:∀U:World,Below W.heap.size W U→U.cell? ⟨w.heap.size,0,none⟩=some (.int .i64 10)∧U.cell? ⟨w.heap.size,1,none⟩=some (.int .i64 cl.by_)∧U.cell? ⟨w.heap.size,2,none⟩=some (.int .i64 cl.size):=fun U hU=>by
  have hx:=R.Bx.later hU hXc
  exact⟨by rw [←hop];exact hx.cell 0 rfl,hx.cell 1 rfl,hx.cell 2 rfl⟩
 have HC:=hid hC
 have hd0:decide ((pi:Int)<0)=false:=decide_eq_false (by omega)
 obtain⟨Qq,hQ⟩:∃Qq,Qq=exK r pi:=⟨_,rfl⟩
 rw [←hQ]
 have HQ:=hid hQ
 clear h hbs hf hcf hi hgf hfm hW hB hZ hXc hC hix hpi hQ
 go_enter Tryz.func8,Tryz.ntmps8
 go_upto_region 1 with fail
 rw [←HW.out]
 go_upto_region 3 with (first|((with_reducible refine R.ld_arm HLd.out ?_ ?_);(· rfl))|(go_at_call 17;refine HIc.out.mono ?_;rintro e w1 ⟨rfl,hb1⟩;have HB1:=hid hb1;clear hb1))
 obtain⟨z0,z1,-⟩:=HC.out w1 HB1.out
 go_upto_region 6 with (first|(go_at_call 19;refine (HPr.out w1 HB1.out).mono ?_;rintro e w2 ⟨rfl,hb2⟩;have HB2:=hid (below_call HB1.out hb2);clear hb2))
 clear z0 z1 hd0 HB1
 obtain⟨z0,-,z2⟩:=HC.out w2 HB2.out
 have HP2:=hid (HP0.out.later HB2.out)
 have HLd2:=hid (ldC (R.Bx.later HB2.out HXc.out))
 have hbs2:base≤w2.heap.size:=Nat.le_trans HBs.out HP2.out.bt.size
 obtain⟨nP,hnP⟩:∃n,n=r.P.length:=⟨_,rfl⟩
 have hpn:=(List.getElem?_eq_some_iff.1 HPi.out).1
 have hql:Q3.length=r.P.length:=HX.out.ps.len
 have hsP:=HF.out.P
 obtain⟨g3,hg3,hgc⟩:=Ow.at_ HX.out.ps.row (by omega)
 have hB2:=below_call HB.out HB2.out
 have HnP:=hid hnP
 have HQl:=hid hql
 have Hm14:Hid (∀U:World,Below w2.heap.size w2 U→U.cell? ⟨M.b,14,none⟩=some (.slice (some ⟨g3,0,none⟩) nP c3)∧Fl U (some ⟨g3,0,none⟩) (evs Q3)):=fun U hU=>⟨by rw [hnP,←hg3];exact (R.Bx.later (below_call hB2 hU) HX.out.box).cell 14 rfl,by rw [←hg3];exact Fl.of (Ow.later HX.out.ps.row (below_call hB2 hU)) (by rw [evs_len,hql])⟩
 have HQ2:Hid (Qq=(rep 0,{ r with P:=r.P.eraseIdx pi })):=HQ.out
 clear hgc hB2 z2 hg3
 go_upto_region 38 with fail
 clear z0 hnP hql
 go_loopw [8,9] (RxR w2 Q3 pi) (fun _ v _=>Q3.length - S.ivN v)
 case atStart=>exact⟨0,none,0,0,rfl,rfl,Nat.zero_le _,Nat.le_refl _,hid (by simp),hid (by simp [evs];exact Ow.nil _ _ _ _),hid (Below.refl _ _)⟩
 case round =>
  obtain⟨j,a,m,c,rfl,rfl,hj,hmj,HNt,HOt,HB4⟩:=hrel
  rename World=>U
  have hl2:=HQl.out
  have hl3:=HnP.out
  obtain⟨m14,hfl⟩:=Hm14.out U HB4.out
  by_cases hlt:j<Q3.length
  ·have hd:decide ((j:Int)<(nP:Int))=true:=decide_eq_true (by omega)
   have hj9:j<64:=by omega
   have hlt2:(j:Int)<(nP:Int):=by omega
   have h0j:(0:Int)≤(j:Int):=by omega
   obtain⟨q,hq⟩:∃q,Q3[j]?=some q:=⟨_,List.getElem?_eq_getElem hlt⟩
   obtain⟨gl,hgl,hqc⟩:=hfl (by rw [evs_len];omega)
   have hgl2:gl=g3:=by cases hgl;rfl
   subst hgl2
   have q0:U.cell? ⟨gl,j*2,none⟩=some (.int .i64 q.id):=hqc _ _ (evs_at Q3 j q hq 0 (by omega))
   have q1:U.cell? ⟨gl,j*2+1,none⟩=some (.slice q.a q.len q.cap):=hqc _ _ (evs_at Q3 j q hq 1 (by omega))
   by_cases he:j=pi
   ·subst he
    have heb:((j:Int) != (j:Int))=false:=by simp
    have HX2:Hid ((Q3.take (j+1)).eraseIdx j=(Q3.take j).eraseIdx j):=era_eq hq
    clear hqc hq hl2 hl3 hgl
    go_wp2
    exact⟨⟨j+1,a,m,c,rfl,rfl,by omega,by omega,by rw [HX2.out];exact HNt,by rw [HX2.out];exact HOt,HB4⟩,by simp [S.ivN];omega⟩
   ·have heb:((j:Int) != (pi:Int))=true:=by simp;omega
    have hebn:(j==pi)=false:=by simpa using he
    have HX2:Hid ((Q3.take (j+1)).eraseIdx pi=(Q3.take j).eraseIdx pi++[q]):=era_ne hq he
    obtain⟨a',c',w7,hrun,hO7,hB7⟩:=row_app 51 65 _ 2 32 Tryz.underlying51 info59 rfl (by decide) (by decide) (by decide) HOt.out HB4.out.size (by omega) q.c rfl (fun u hu=>by simp only [Ev.c,List.mem_cons,List.not_mem_nil,or_false] at hu;rcases hu with rfl|rfl<;>rfl)
    simp only [Ev.c] at hrun
    have HRUN:=hid hrun
    have HO7:=hid hO7
    have HB7:=hid (But.below HB4.out hB7 (fun j hj=>(HOt.out.blk j hj).1))
    clear hrun hO7 hB7 he hqc hq hl2 hl3 hgl
    go_wp2_with (first|(at_builtin;refine wpList_append_known rfl _ _ 51 rfl _ _ rfl rfl _ w7 HRUN.out ?_))
    refine⟨⟨j+1,a',m+1,c',rfl,rfl,by omega,by omega,?_,?_,HB7⟩,by simp [S.ivN];omega⟩
    ·unfold Hid
     rw [HX2.out,List.length_append,←HNt.out]
     rfl
    ·unfold Hid
     rw [HX2.out,evs_app]
     exact HO7.out
  ·have hd:decide ((j:Int)<(nP:Int))=false:=decide_eq_false (by omega)
   have hdn:decide (j<nP)=false:=decide_eq_false (by omega)
   have hjj:j=Q3.length:=by omega
   have hN2:m=(Q3.eraseIdx pi).length:=by have h9:=HNt.out;rw [hjj,List.take_length] at h9;exact h9
   have hN3:m=(r.P.eraseIdx pi).length:=by rw [hN2,List.length_eraseIdx,List.length_eraseIdx,hl2]
   have hO2:=HOt.out
   rw [hjj,List.take_length] at hO2
   have Pu:=HP2.out.later HB4.out
   have hlt9:=HP2.out.z.lt
   have hbX:But (fun k=>k=M.b) U (U.setCell ⟨M.b,14,none⟩ (.slice a m c)):=But.setCell (S:=fun k=>k=M.b) (But.refl _ _) (p:=⟨M.b,14,none⟩) rfl _
   have hsub:(Q3.eraseIdx pi).Sublist Q3:=List.eraseIdx_sublist ..
   have hTw:Two U base 65 38 3 a m c (Q3.eraseIdx pi):=⟨hO2.mono hbs2,hN2.symm,fun o ho=>Pu.x.ps.each o (hsub.subset ho),Pu.x.ps.ap.sublist hsub,fun o ho k h1 h2=>by
    have:=((HP2.out.x.ps.each o (hsub.subset ho)).blk k h1).2
    have:=(hO2.blk k h2).1
    omega⟩
   have hnew:∀k,Two.B a (Q3.eraseIdx pi) k→Two.B a3 Q3 k∨w2.heap.size≤k:=fun k hk=>by
    rcases hk with hk|⟨o,ho,hk⟩
    ·exact .inr (hO2.blk k hk).1
    ·exact .inl (.inr ⟨o,hsub.subset ho,hk⟩)
   rw [hN3] at hTw hbX
   obtain⟨X9,hb9⟩:=Pu.x.prow (P:=r.P.eraseIdx pi) (V:=U) (But.refl _ _) hbX (by
    exact Bx.put Pu.x.box 14 (by simp [moL,Cf.L]) (.slice a (r.P.eraseIdx pi).length c)) hTw (by
    rw [List.eraseIdx_eq_take_drop_succ,List.eraseIdx_eq_take_drop_succ,List.map_append,List.map_append,List.map_take,List.map_drop,List.map_take,List.map_drop,HX.out.pk]) (fun k hk=>(hnew k hk).elim .inl (fun e=>.inr (Mx.new HX.out (by have:=HP2.out.bt.size;omega)))) (by rw [←hN3];omega)
   have P9:=Pg.go2 Pu X9 hb9 (fun k hk=>hk.elim (fun e=>.inl e) (fun e=>.inr (.inr (.inr e)))) (fun k hk=>by
    rcases hk with e|e|e|e
    ·exact .inl (.inl e)
    ·exact .inl (.inr (.inl e))
    ·exact .inl (.inr (.inr (.inl e)))
    ·exact (hnew k e).elim (fun e=>.inl (.inr (.inr (.inr e)))) (fun e=>.inr (by omega)))
   rw [←hN3] at P9
   have HP9:=hid P9
   have HS9:=hid (HP9.out.z.st (rep 0) none 0 0)
   have HL9:=hid (HP9.out.z.lv (rep 0) none 0 0)
   have f14:=Pu.x.fz 14 (by omega)
   clear Pu X9 hb9 P9 hO2 hN2 hN3 hjj HNt HOt hj hl2 hl3 hlt hfl hTw hnew hbX hsub
   go_wp2_with (first|((with_reducible refine st_arm HS9.out ?_ ?_ ?_);(· rfl);(· rfl)))
   obtain rfl:Qq=_:=HQ2.out
   exact bodyPost_ret (v:=rpV (rep 0) none 0 0) (by simp [results,Tryz.results8,asAddr,HL9.out]) rfl (HP9.out.e.fin (Nat.le_succ _) HN.out HD.out (rep 0) rfl)
end
end Go.Proofs.YtffmodpgddecnaaGreat.V.E
