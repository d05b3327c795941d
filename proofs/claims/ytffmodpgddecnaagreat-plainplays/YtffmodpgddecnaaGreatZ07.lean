import Derived.Test.YtffmodpgddecnaaGreatZ06
set_option linter.unusedVariables false
set_option linter.unusedSimpArgs false
namespace Go.Proofs.YtffmodpgddecnaaGreat.V
open Go.RowKit
open Go.Proofs.YtffmodpgddecnaaGreat.H (B64 Cp)
section
variable {w w':World}{M:Mh}{r:Rm}{a1:Option Addr}{c1:Nat}{Q1:List Ev}{a2:Option Addr}{c2:Nat}{a3:Option Addr}{c3:Nat}{Q3:List Ev}
theorem liv_ix (T:List Hl)(c:Cp):(ixF (isT c) T=-1∧liv T c=none)∨∃(i:Nat) (h:Hl),ixF (isT c) T=(i:Int)∧T[i]?=some h∧liv T c=some h:=by
 cases hf:T.findIdx? (isT c) with
 | none =>
  refine .inl ⟨by unfold ixF;rw [hf],?_⟩
  unfold liv
  rw [List.find?_eq_none]
  intro x hx hd
  have:=List.findIdx?_eq_none_iff.1 hf x hx
  unfold isT at this
  rw [this] at hd
  cases hd
 | some i =>
  obtain⟨hl,hp,hn⟩:=List.findIdx?_eq_some_iff_getElem.1 hf
  refine .inr ⟨i,T[i],by unfold ixF;rw [hf],List.getElem?_eq_getElem hl,?_⟩
  unfold liv
  rw [List.find?_eq_some_iff_getElem]
  refine⟨hp,i,hl,rfl,fun j hj=>?_⟩
  have:=hn j hj
  unfold isT at this
  simpa using this
theorem bit_any {q need:Int}(hr:1≤q∧q≤31)(hn:need=1∨need=2∨need=4∨need=8∨need=16):(bits .and .i64 q need != 0)=partB need q:=by
 have key:∀k:Fin 31,(bits .and .i64 ((k.1:Int)+1) 1 != 0)=partB 1 ((k.1:Int)+1)∧(bits .and .i64 ((k.1:Int)+1) 2 != 0)=partB 2 ((k.1:Int)+1)∧(bits .and .i64 ((k.1:Int)+1) 4 != 0)=partB 4 ((k.1:Int)+1)∧(bits .and .i64 ((k.1:Int)+1) 8 != 0)=partB 8 ((k.1:Int)+1)∧(bits .and .i64 ((k.1:Int)+1) 16 != 0)=partB 16 ((k.1:Int)+1):=by decide +kernel
 have e:q=(((q - 1).toNat:Nat):Int)+1:=by omega
 have:=key ⟨(q - 1).toNat,by omega⟩
 rw [e]
 rcases hn with rfl|rfl|rfl|rfl|rfl
 ·exact this.1
 ·exact this.2.1
 ·exact this.2.2.1
 ·exact this.2.2.2.1
 ·exact this.2.2.2.2
theorem bit_zero {q need:Int}(hr:1≤q∧q≤31)(hn:need=1∨need=2∨need=4∨need=8∨need=16):(bits .and .i64 q need==0)=!partB need q:=by
 rw [←bit_any hr hn]
 simp [bne]
def GtR (w:World)(T:List Hl)(need o:Int)(K:List Cp)(v10 v11:Value)(U:World):Prop:=∃(i:Nat) (e:Int),v10=.int .i64 e∧v11=.int .i64 (i:Int)∧i≤K.length∧Hid ((L.namG (rGiv T need) o K 3).2=(L.namG (rGiv T need) o (K.drop i) e).2)∧Hid (Below w.heap.size w U)
set_option maxRecDepth 100000 in
set_option maxHeartbeats 4000000 in
theorem rgate_any (h:Mr w M r a1 c1 Q1 a2 c2 a3 c3 Q3)(hv:∀x∈r.T,1≤x.r∧x.r≤31){cl:R.Cl}{dd gg:R.Sl}{need:Int}(hn:need=1∨need=2){a:Option Addr}{cap:Nat}{K:List Cp}(hK:Fl w a (caps K))(hKl:K.length≤1048576) :
  Calls Tryz.prog 43 #[.pointer (some ⟨M.b,0,none⟩),.agg (R.cC cl dd gg).toArray,.int .i64 need,.slice a K.length cap] w fun e w'=>e=.returned (.int .i64 (rMay r.T cl.given K (cpO cl) need))∧Below w.heap.size w w':=by
 obtain⟨W,hW⟩:∃W,W=w.alloc (Obj.cells (R.cC cl dd gg).toArray 45):=⟨_,rfl⟩
 have HB0:Hid (Below w.heap.size w W):=by rw [hW];exact below1 _ _
 have HX:Hid (R.Bx W w.heap.size (R.cC cl dd gg)):=by rw [hW];exact R.Bx.new w _ _
 have HM:=hid (h.later HB0.out)
 have HF:=hid (hK.later HB0.out)
 have HV:=hid hv
 have HNe:Hid (need=1∨need=2∨need=4∨need=8∨need=16):=hn.elim .inl (fun h=>.inr (.inl h))
 have hpl:=h.sm.2.1
 have HLv:Hid (∀U,Below W.heap.size W U→∀c:Cp,Calls Tryz.prog 40 #[.pointer (some ⟨M.b,0,none⟩),.agg #[.int .i64 c.1,.int .u64 (c.2.1:Int),.int .u64 (c.2.2:Int)]] U fun e w'=>e=.returned (.int .i64 (ixF (isT c) r.T))∧Below U.heap.size U w'):=fun U hU c=>rlive_any ((h.later HB0.out).later hU) c
 have HW:=hid hW
 have x6:=HX.out.cell 6 rfl
 have x3:=HX.out.cell 3 rfl
 have x4:=HX.out.cell 4 rfl
 have x5:=HX.out.cell 5 rfl
 obtain⟨gv,hgv⟩:∃gv,gv=cl.given:=⟨_,rfl⟩
 rw [←hgv] at x6
 rw [←hgv]
 clear h hW hv hn hK hgv
 cases gv with
 | true =>
  have HR:Hid (rMay r.T true K (cpO cl) need=rGiv r.T need (cpO cl)):=rfl
  rw [HR.out]
  rcases liv_ix r.T (cpO cl) with ⟨h1,h2⟩|⟨i,q,h1,h2,h3⟩
  ·have HL:=hid (HLv.out W (Below.refl _ _) (cpO cl))
   rw [h1] at HL
   have HG:Hid (rGiv r.T need (cpO cl)=3):=by unfold Hid rGiv;rw [h2]
   clear h1 h2 HLv
   go_enter Tryz.func43,Tryz.ntmps43
   go_upto_region 1 with fail
   have hW:=HW.out
   rw [←hW]
   clear hW HW
   go_wp2_with (first|(go_at_call 40;refine HL.out.mono ?_;rintro e w1 ⟨rfl,hb1⟩;have HB1:=hid hb1;clear hb1))
   go_ret
   exact⟨by rw [HG.out];exact ret_int rfl,below_call HB0.out HB1.out⟩
  ·have HL:=hid (HLv.out W (Below.refl _ _) (cpO cl))
   rw [h1] at HL
   have hi:=(List.getElem?_eq_some_iff.1 h2).1
   have HQ:=hid h2
   have hb:=bit_zero (HV.out q (List.mem_of_getElem? h2)) HNe.out
   obtain⟨pb,hpb⟩:∃pb,pb=partB need q.r:=⟨_,rfl⟩
   rw [←hpb] at hb
   have HG:Hid (rGiv r.T need (cpO cl)=if pb=false then 4 else 0):=by unfold Hid rGiv;rw [h3,hpb]
   obtain⟨qr,hqr⟩:∃qr,qr=q.r:=⟨_,rfl⟩
   rw [←hqr] at hb
   have HQr:=hid hqr
   clear h1 h2 h3 HLv hpb hqr
   go_enter Tryz.func43,Tryz.ntmps43
   go_upto_region 1 with fail
   have hW:=HW.out
   rw [←hW]
   clear hW HW
   go_upto_region 3 with (first|(go_at_call 40;refine HL.out.mono ?_;rintro e w1 ⟨rfl,hb1⟩;have HB1:=hid hb1;clear hb1))
   have g:=HM.out.later HB1.out
   have m4:=g.box.cell 13 rfl
   obtain⟨gt,rfl,hqc⟩:=hl_cells g.t HQ.out
   have q5:=hqc 5 _ rfl
   rw [←HQr.out] at q5
   clear g hqc x3 x4 x5 x6
   cases pb with
   | true =>
    go_wp2
    go_ret
    exact⟨by rw [HG.out];exact ret_int rfl,below_call HB0.out HB1.out⟩
   | false =>
    go_wp2
    go_ret
    exact⟨by rw [HG.out];exact ret_int rfl,below_call HB0.out HB1.out⟩
 | false =>
  have HR:Hid (rMay r.T false K (cpO cl) need=(L.namG (rGiv r.T need) cl.obj K 3).2):=rfl
  rw [HR.out]
  go_enter Tryz.func43,Tryz.ntmps43
  go_upto_region 1 with fail
  have hW:=HW.out
  rw [←hW]
  clear hW HW
  go_upto_region 10 with fail
  clear x3 x4 x5 x6
  go_loopw [10,11] (GtR W r.T need cl.obj K) (fun _ v _=>K.length - S.ivN v)
  case atStart=>exact⟨0,3,rfl,rfl,Nat.zero_le _,hid rfl,hid (Below.refl _ _)⟩
  case round =>
   obtain⟨i,e,rfl,rfl,hi,HN,HB⟩:=hrel
   by_cases hlt:i<K.length
   ·have hd:decide ((i:Int)<(K.length:Int))=true:=decide_eq_true (by omega)
    obtain⟨c,hc⟩:∃c,K[i]?=some c:=⟨_,List.getElem?_eq_getElem hlt⟩
    have x3:=(R.Bx.later HB.out HX.out).cell 3 rfl
    obtain⟨gk,rfl,hr⟩:=(HF.out.later HB.out) (by rw [caps_len3];omega)
    have k0:wr.cell? ⟨gk,i*3,none⟩=some (.int .i64 c.1):=hr _ _ (caps_at K i c hc 0 (by omega))
    have k1:wr.cell? ⟨gk,i*3+1,none⟩=some (.int .u64 (c.2.1:Int)):=hr _ _ (caps_at K i c hc 1 (by omega))
    have k2:wr.cell? ⟨gk,i*3+2,none⟩=some (.int .u64 (c.2.2:Int)):=hr _ _ (caps_at K i c hc 2 (by omega))
    have hstep:=L.namG_step (g:=rGiv r.T need) (o:=cl.obj) hc e
    clear hr hc
    by_cases ho:c.1=cl.obj
    ·have hob:(c.1 != cl.obj)=false:=by simpa using ho
     rw [if_neg (by simpa using ho)] at hstep
     have HSt:=hid hstep
     go_upto_region 12 with fail
     go_quiet (fail)
     rcases liv_ix r.T c with ⟨h1,h2⟩|⟨j,q,h1,h2,h3⟩
     ·have HG:Hid (rGiv r.T need c=3):=by unfold Hid rGiv;rw [h2]
      have HN2:Hid ((L.namG (rGiv r.T need) cl.obj K 3).2=(L.namG (rGiv r.T need) cl.obj (K.drop (i+1)) e).2):=by
       have h9:=HSt.out
       rw [HG.out,if_neg (by decide),if_neg (by decide)] at h9
       unfold Hid
       rw [HN.out,h9]
      have HL:=hid (fun U hU=>HLv.out U hU c)
      rw [h1] at HL
      clear h1 h2 ho hstep HSt
      go_upto_region 14 with (first|(go_at_call 40;refine (HL.out _ (below_drewN HB.out _)).mono ?_;rintro e' w1 ⟨rfl,hb1⟩;have HB1:Hid (Below W.heap.size W w1):=below_call (below_drewN HB.out _) hb1;clear hb1))
      go_wp2
      exact⟨⟨i+1,e,rfl,rfl,by omega,HN2,HB1⟩,by simp [S.ivN];omega⟩
     ·have hj:=(List.getElem?_eq_some_iff.1 h2).1
      have HQ:=hid h2
      have hb:=bit_any (HV.out q (List.mem_of_getElem? h2)) HNe.out
      obtain⟨pb,hpb⟩:∃pb,pb=partB need q.r:=⟨_,rfl⟩
      rw [←hpb] at hb
      have HG:Hid (rGiv r.T need c=if pb=false then 4 else 0):=by unfold Hid rGiv;rw [h3,hpb]
      obtain⟨qr,hqr⟩:∃qr,qr=q.r:=⟨_,rfl⟩
      rw [←hqr] at hb
      have HQr:=hid hqr
      have HL:=hid (fun U hU=>HLv.out U hU c)
      rw [h1] at HL
      clear h1 h2 h3 hpb hqr ho hstep
      go_upto_region 14 with (first|(go_at_call 40;refine (HL.out _ (below_drewN HB.out _)).mono ?_;rintro e' w1 ⟨rfl,hb1⟩;have HB1:Hid (Below W.heap.size W w1):=below_call (below_drewN HB.out _) hb1;clear hb1))
      have g:=HM.out.later HB1.out
      have m4:=g.box.cell 13 rfl
      obtain⟨gt,rfl,hqc⟩:=hl_cells g.t HQ.out
      have q5:=hqc 5 _ rfl
      rw [←HQr.out] at q5
      clear g hqc x3 k0 k1 k2
      cases pb with
      | true =>
       have HN2:Hid ((L.namG (rGiv r.T need) cl.obj K 3).2=0):=by
        have h9:=HSt.out
        rw [HG.out,if_pos (by decide)] at h9
        unfold Hid
        rw [HN.out,h9]
       go_wp2
       go_ret
       exact⟨by rw [HN2.out];exact ret_int rfl,below_call HB0.out HB1.out⟩
      | false =>
       have HN2:Hid ((L.namG (rGiv r.T need) cl.obj K 3).2=(L.namG (rGiv r.T need) cl.obj (K.drop (i+1)) 4).2):=by
        have h9:=HSt.out
        rw [HG.out,if_neg (by decide),if_pos (by decide)] at h9
        unfold Hid
        rw [HN.out,h9]
       go_wp2
       exact⟨⟨i+1,4,rfl,rfl,by omega,HN2,HB1⟩,by simp [S.ivN];omega⟩
    ·have hob:(c.1 != cl.obj)=true:=by simpa using ho
     rw [if_pos (by simpa using ho)] at hstep
     have HN2:Hid ((L.namG (rGiv r.T need) cl.obj K 3).2=(L.namG (rGiv r.T need) cl.obj (K.drop (i+1)) e).2):=by
      unfold Hid
      rw [HN.out,hstep]
     clear ho hstep
     go_upto_region 12 with fail
     go_quiet (fail)
     go_wp2
     exact⟨⟨i+1,e,rfl,rfl,by omega,HN2,hid (below_drewN HB.out _)⟩,by simp [S.ivN];omega⟩
   ·have hii:i=K.length:=by omega
    have hd:decide ((i:Int)<(K.length:Int))=false:=decide_eq_false (by omega)
    have HN2:Hid ((L.namG (rGiv r.T need) cl.obj K 3).2=e):=by
     have h9:=HN.out
     rw [hii,List.drop_length] at h9
     exact h9
    clear hii hi
    go_wp2
    go_ret
    exact⟨by rw [HN2.out];exact ret_int rfl,below_call HB0.out HB.out⟩
end
end Go.Proofs.YtffmodpgddecnaaGreat.V
namespace Go.Proofs.YtffmodpgddecnaaGreat.V
open Go.RowKit
open Go.Proofs.YtffmodpgddecnaaGreat.H (B64 Cp)
def MxN (M:Mh)(a1:Option Addr)(Q1:List Ev)(a2 a3:Option Addr)(Q3:List Ev)(j:Nat):Prop:=j=M.b∨Two.B a1 Q1 j∨Blk a2 j∨Two.B a3 Q3 j
structure Mx (w:World)(base:Nat)(M:Mh)(r:Rm)(a1:Option Addr)(c1:Nat)(Q1:List Ev)(a2:Option Addr)(c2:Nat)(a3:Option Addr)(c3:Nat)(Q3:List Ev):Prop where
 box:R.Bx w M.b (moL M r a1 c1 a2 c2 a3 c3)
 dr:D.Ws w M.da M.dn M.dc M.f
 os:Two w base 80 5 1 a1 r.V.length c1 Q1
 ok:Q1.map Ev.key=r.V.map obK
 ts:Ow w base 91 6 a2 r.T.length c2 (hls r.T)
 ps:Two w base 65 38 3 a3 r.P.length c3 Q3
 pk:Q3.map Ev.key=r.P.map plK
 s12:∀j,Two.B a1 Q1 j→¬Blk a2 j
 s13:∀j,Two.B a1 Q1 j→¬Two.B a3 Q3 j
 s23:∀j,Blk a2 j→¬Two.B a3 Q3 j
 nb:∀j,Two.B a1 Q1 j∨Blk a2 j∨Two.B a3 Q3 j→j≠M.b
 nd:∀j,Blk M.da j→¬MxN M a1 Q1 a2 a3 Q3 j
 dl:∀j,Blk M.da j→j<w.heap.size
 lo:base≤M.b
 sm:r.V.length≤2048∧r.T.length≤2048∧r.P.length≤2048
section
variable {w w':World}{base:Nat}{M:Mh}{r:Rm}{a1:Option Addr}{c1:Nat}{Q1:List Ev}{a2:Option Addr}{c2:Nat}{a3:Option Addr}{c3:Nat}{Q3:List Ev}
theorem Mx.mr (h:Mx w base M r a1 c1 Q1 a2 c2 a3 c3 Q3):Mr w M r a1 c1 Q1 a2 c2 a3 c3 Q3 :=
 ⟨h.box,Fl.of h.os.row (by rw [evs_len,h.os.len]),h.ok,Fl.of h.ts (by rw [hls_len]),Fl.of h.ps.row (by rw [evs_len,h.ps.len]),h.pk,by have:=h.sm;omega⟩
theorem ws_but {S:Nat→Prop}{a:Option Addr}{n cap:Nat}{f:Nat→Nat}(h:D.Ws w a n cap f)(hb:But S w w')(hn:∀j,Blk a j→¬S j):D.Ws w' a n cap f :=
 ⟨h.cap_,h.none_,fun x hx j u hu=>cell_but hb (h.cells x hx j u hu) (by rw [add_block];exact hn _ ⟨x,hx,rfl⟩),h.small⟩
theorem Mx.but {S:Nat→Prop}(h:Mx w base M r a1 c1 Q1 a2 c2 a3 c3 Q3)(hb:But S w w')(hS:∀j,MxN M a1 Q1 a2 a3 Q3 j→¬S j)(hd:∀j,Blk M.da j→¬S j):Mx w' base M r a1 c1 Q1 a2 c2 a3 c3 Q3 :=
 ⟨R.Bx.but hb h.box (hS _ (.inl rfl)),ws_but h.dr hb hd,h.os.but hb (fun j hj=>hS j (.inr (.inl hj))),h.ok,h.ts.but hb (fun j hj=>hS j (.inr (.inr (.inl hj)))),h.ps.but hb (fun j hj=>hS j (.inr (.inr (.inr hj)))),h.pk,h.s12,h.s13,h.s23,h.nb,h.nd,fun j hj=>Nat.lt_of_lt_of_le (h.dl j hj) hb.size,h.lo,h.sm⟩
theorem Mx.later (h:Mx w base M r a1 c1 Q1 a2 c2 a3 c3 Q3)(hb:Below w.heap.size w w'):Mx w' base M r a1 c1 Q1 a2 c2 a3 c3 Q3:=h.but (S:=fun _=>False) (But.of hb) (fun _ _ h=>h) (fun _ _ h=>h)
theorem Mx.set (h:Mx w base M r a1 c1 Q1 a2 c2 a3 c3 Q3)(k:Nat)(hk:k<18)(v:Value){r':Rm}(e:(moL M r a1 c1 a2 c2 a3 c3).set k v=moL M r' a1 c1 a2 c2 a3 c3)(eV:r'.V=r.V)(eT:r'.T=r.T)(eP:r'.P=r.P):Mx (w.setCell ⟨M.b,k,none⟩ v) base M r' a1 c1 Q1 a2 c2 a3 c3 Q3:=by
 have hb:But (fun j=>j=M.b) w (w.setCell ⟨M.b,k,none⟩ v):=But.setCell (S:=fun j=>j=M.b) (But.refl _ _) (p:=⟨M.b,k,none⟩) rfl v
 refine⟨?_,ws_but h.dr hb (fun j hj e=>h.nd j hj (.inl e)),?_,by rw [eV];exact h.ok,?_,?_,by rw [eP];exact h.pk,h.s12,h.s13,h.s23,h.nb,h.nd,fun j hj=>Nat.lt_of_lt_of_le (h.dl j hj) hb.size,h.lo,by rw [eV,eT,eP];exact h.sm⟩
 ·rw [←e]
  exact Bx.put h.box k (by simp [moL,Cf.L];omega) v
 ·rw [eV]
  exact h.os.but hb (fun j hj e=>h.nb j (.inl hj) e)
 ·rw [eT]
  exact h.ts.but hb (fun j hj e=>h.nb j (.inr (.inl hj)) e)
 ·rw [eP]
  exact h.ps.but hb (fun j hj e=>h.nb j (.inr (.inr hj)) e)
theorem Mx.setT (h:Mx w base M r a1 c1 Q1 a2 c2 a3 c3 Q3)(t:Nat):Mx (w.setCell ⟨M.b,11,none⟩ (.int .i64 (t:Int))) base M { r with t:=t } a1 c1 Q1 a2 c2 a3 c3 Q3:=h.set 11 (by omega) _ rfl rfl rfl rfl
theorem Mx.setX (h:Mx w base M r a1 c1 Q1 a2 c2 a3 c3 Q3)(x:Int):Mx (w.setCell ⟨M.b,15,none⟩ (.int .i64 x)) base M { r with nx:=x } a1 c1 Q1 a2 c2 a3 c3 Q3:=h.set 15 (by omega) _ rfl rfl rfl rfl
theorem Mx.setP (h:Mx w base M r a1 c1 Q1 a2 c2 a3 c3 Q3)(x:Int):Mx (w.setCell ⟨M.b,16,none⟩ (.int .i64 x)) base M { r with px:=x } a1 c1 Q1 a2 c2 a3 c3 Q3:=h.set 16 (by omega) _ rfl rfl rfl rfl
theorem Mx.setN (h:Mx w base M r a1 c1 Q1 a2 c2 a3 c3 Q3)(x:Int):Mx (w.setCell ⟨M.b,17,none⟩ (.int .i64 x)) base M { r with nn:=x } a1 c1 Q1 a2 c2 a3 c3 Q3:=h.set 17 (by omega) _ rfl rfl rfl rfl
end
end Go.Proofs.YtffmodpgddecnaaGreat.V
namespace Go.Proofs.YtffmodpgddecnaaGreat.V
open Go.RowKit
open Go.Proofs.YtffmodpgddecnaaGreat.H (B64 Cp)
section
variable {w w':World}{base:Nat}{M:Mh}{r:Rm}{a1:Option Addr}{c1:Nat}{Q1:List Ev}{a2:Option Addr}{c2:Nat}{a3:Option Addr}{c3:Nat}{Q3:List Ev}
theorem infoH:(Tryz.prog.info? 91).map (fun i=>(i.zero,i.size,i.bytes))=some (some (.agg #[.int .i64 0,.int .i64 0,.int .i64 0,.int .u64 0,.int .u64 0,.int .i64 0]),6,48):=by kernel_rfl
theorem row_app (t E:TypeId)(z:Value)(k by_:Nat)(ht:Tryz.prog.underlying t=some (.slice E))(hinf:(Tryz.prog.info? E).map (fun i=>(i.zero,i.size,i.bytes))=some (some z,k,by_))(hzs:z.cells.size=k)(hk:0<k)(hby:0<by_)(hby2:by_≤1024)
  {U:World} {b:Nat} {a:Option Addr} {n cap:Nat} {L:List Value} (h:Ow U b E k a n cap L) (hb:b≤U.heap.size) (hn:n≤2048) (N:List Value) (hN:N.length=k) (h1:∀u∈N,u.oneCell'=true) :
  ∃a' c' w3,(Builtin.append_ #[t,t] t #[.slice a n cap,.slice (some ⟨U.heap.size,0,none⟩) 1 1]).run Tryz.prog (U.alloc (Obj.cells N.toArray E))=.ok (.slice a' (n+1) c') w3∧Ow w3 b E k a' (n+1) c' (L++N)∧But (Blk a) U w3:=by
 have hcr:=Cr.lit U E N h1
 rw [hN] at hcr
 obtain⟨a',c',w3,hrun,hO3,hG0⟩:=append_k t E z k by_ ht hinf hzs hk hby (h.later (below1 U (Obj.cells N.toArray E))) hcr (by simp;omega) (by
  have:(n+1)*by_≤2049*1024:=Nat.mul_le_mul (by omega) hby2
  omega)
 exact⟨a',c',w3,hrun,hO3,(hG0.pre (below1 U (Obj.cells N.toArray E))).but⟩
def fQ (id:Int)(Q:List Ev):List Ev:=Q.filter (fun o=>decide (o.id≠id))
def fT (id:Int)(T:List Hl):List Hl:=T.filter (fun x=>decide (x.c.1≠id))
theorem fil_keep {α:Type}{P:α→Bool}{L:List α}{i:Nat}{x:α}(h:L[i]?=some x)(hx:P x=true):(L.take (i+1)).filter P=(L.take i).filter P++[x]:=by
 obtain⟨hl,e⟩:=List.getElem?_eq_some_iff.1 h
 rw [List.take_succ_eq_append_getElem hl,List.filter_append,e]
 simp [hx]
theorem fil_drop {α:Type}{P:α→Bool}{L:List α}{i:Nat}{x:α}(h:L[i]?=some x)(hx:P x=false):(L.take (i+1)).filter P=(L.take i).filter P:=by
 obtain⟨hl,e⟩:=List.getElem?_eq_some_iff.1 h
 rw [List.take_succ_eq_append_getElem hl,List.filter_append,e]
 simp [hx]
theorem fQ_key:∀(Q:List Ev) (V:List (Int×List Nat)) (id:Int),Q.map Ev.key=V.map obK→(fQ id Q).map Ev.key=(noV V id).map obK
 | [],[],id,h=>rfl
 | [],v::V,id,h=>by simp at h
 | q::Q,[],id,h=>by simp at h
 | q::Q,v::V,id,h=>by
  simp only [List.map_cons,List.cons.injEq] at h
  have ih:=fQ_key Q V id h.2
  have e:q.id=v.1:=congrArg Prod.fst h.1
  unfold fQ noV at ih ⊢
  by_cases hh:v.1=id
  ·rw [List.filter_cons_of_neg (by simp [e,hh]),List.filter_cons_of_neg (by simp [hh])]
   exact ih
  ·rw [List.filter_cons_of_pos (by simp [e,hh]),List.filter_cons_of_pos (by simp [hh]),List.map_cons,List.map_cons,h.1,ih]
theorem evs_app (Q:List Ev)(o:Ev):evs (Q++[o])=evs Q++o.c:=by simp [evs]
theorem hls_app (T:List Hl)(o:Hl):hls (T++[o])=hls T++hlC o:=by simp [hls]
theorem Mx.rows (h:Mx w base M r a1 c1 Q1 a2 c2 a3 c3 Q3)(hbs:base≤w.heap.size){U V:World}{Q:List Ev}{T:List Hl}{W:List (Int×List Nat)}{a:Option Addr}{c:Nat}{b:Option Addr}{d:Nat}(hU:Below w.heap.size w U)(hV:Below U.heap.size U V)(ho:Ow U w.heap.size 80 2 a W.length c (evs Q))(hQ:∀o∈Q,o∈Q1)(hQp:Q.Sublist Q1)(hk:Q.map Ev.key=W.map obK)(ht:Ow V U.heap.size 91 6 b T.length d (hls T))(hT:T.length≤2048) :
  Mx ((V.setCell ⟨M.b,12,none⟩ (.slice a W.length c)).setCell ⟨M.b,13,none⟩ (.slice b T.length d)) base M { r with V:=W,T:=T } a c Q b d a3 c3 Q3∧But (fun j=>j=M.b) w ((V.setCell ⟨M.b,12,none⟩ (.slice a W.length c)).setCell ⟨M.b,13,none⟩ (.slice b T.length d)):=by
 have hMb:M.b<w.heap.size:=World.block_lt_of_cell? _ _ (h.box.cell 0 (v:=.int .i64 _) rfl)
 have hs1:=hU.size
 have hs2:=hV.size
 have hb1:But (fun j=>j=M.b) V ((V.setCell ⟨M.b,12,none⟩ (.slice a W.length c)).setCell ⟨M.b,13,none⟩ (.slice b T.length d)):=But.setCell (S:=fun j=>j=M.b) (But.setCell (S:=fun j=>j=M.b) (But.refl _ _) (p:=⟨M.b,12,none⟩) rfl _) (p:=⟨M.b,13,none⟩) rfl _
 have hwV:Below w.heap.size w V:=below_call hU hV
 have hall:But (fun j=>j=M.b) w ((V.setCell ⟨M.b,12,none⟩ (.slice a W.length c)).setCell ⟨M.b,13,none⟩ (.slice b T.length d)):=(But.of hwV).trans hb1
 have hWl:W.length=Q.length:=by have:=congrArg List.length hk;simpa using this.symm
 have hQl:Q.length≤2048:=Nat.le_trans hQp.length_le (by have:=congrArg List.length h.ok;simp at this;have:=h.sm.1;omega)
 refine⟨⟨?_,ws_but h.dr hall (fun j hj e=>h.nd j hj (.inl e)),⟨?_,hWl.symm,?_,?_,?_⟩,hk,?_,?_,h.pk,?_,?_,?_,?_,?_,?_,h.lo,⟨by simp only;omega,hT,h.sm.2.2⟩⟩,hall⟩
 ·exact Bx.put (Bx.put (R.Bx.later hwV h.box) 12 (by simp [moL,Cf.L]) (.slice a W.length c)) 13 (by simp [moL,Cf.L]) (.slice b T.length d)
 ·exact ((ho.mono hbs).later hV).but hb1 (fun j hj e=>by have:=(ho.blk j hj).1;omega)
 ·intro o hO
  exact (h.os.each o (hQ o hO)).but hall (fun j hj e=>h.nb j (.inl (.inr ⟨o,hQ o hO,hj⟩)) e)
 ·exact h.os.ap.sublist hQp
 ·intro o hO j h1 h2
  have:=((h.os.each o (hQ o hO)).blk j h1).2
  have:=(ho.blk j h2).1
  omega
 ·exact (ht.mono (Nat.le_trans hbs hs1)).but hb1 (fun j hj e=>by have:=(ht.blk j hj).1;omega)
 ·exact h.ps.but hall (fun j hj e=>h.nb j (.inr (.inr hj)) e)
 ·intro j h1 h2
  have:=(ht.blk j h2).1
  rcases h1 with h1|⟨o,hO,h1⟩
  ·have:=(ho.blk j h1).2
   omega
  ·have:=((h.os.each o (hQ o hO)).blk j h1).2
   omega
 ·intro j h1 h2
  have:=(h.ps.blk j h2).2
  rcases h1 with h1|⟨o,hO,h1⟩
  ·have:=(ho.blk j h1).1
   omega
  ·exact h.s13 j (.inr ⟨o,hQ o hO,h1⟩) h2
 ·intro j h1 h2
  have:=(ht.blk j h1).1
  have:=(h.ps.blk j h2).2
  omega
 ·intro j hj e
  rcases hj with (h1|⟨o,hO,h1⟩)|h1|h1
  ·have:=(ho.blk j h1).1
   omega
  ·exact h.nb j (.inl (.inr ⟨o,hQ o hO,h1⟩)) e
  ·have:=(ht.blk j h1).1
   omega
  ·exact h.nb j (.inr (.inr h1)) e
 ·intro j hj hm
  have:=h.dl j hj
  rcases hm with e|(h1|⟨o,hO,h1⟩)|h1|h1
  ·exact h.nd j hj (.inl e)
  ·have:=(ho.blk j h1).1
   omega
  ·exact h.nd j hj (.inr (.inl (.inr ⟨o,hQ o hO,h1⟩)))
  ·have:=(ht.blk j h1).1
   omega
  ·exact h.nd j hj (.inr (.inr (.inr h1)))
 ·exact fun j hj=>Nat.lt_of_lt_of_le (h.dl j hj) hall.size
end
end Go.Proofs.YtffmodpgddecnaaGreat.V
namespace Go.Proofs.YtffmodpgddecnaaGreat.V
open Go.RowKit
open Go.Proofs.YtffmodpgddecnaaGreat.H (B64 Cp)
section
variable {w w':World}{base:Nat}{M:Mh}{r:Rm}{a1:Option Addr}{c1:Nat}{Q1:List Ev}{a2:Option Addr}{c2:Nat}{a3:Option Addr}{c3:Nat}{Q3:List Ev}
def WoR (w:World)(id:Int)(Q:List Ev)(v4 v5:Value)(U:World):Prop:=∃(i:Nat) (a:Option Addr) (n c:Nat),v4=.slice a n c∧v5=.int .i64 (i:Int)∧i≤Q.length∧n≤i∧Hid (n=(fQ id (Q.take i)).length)∧Hid (Ow U w.heap.size 80 2 a n c (evs (fQ id (Q.take i))))∧Hid (Below w.heap.size w U)
def WtR (w:World)(id:Int)(T:List Hl)(v4 v5:Value)(U:World):Prop:=∃(i:Nat) (a:Option Addr) (n c:Nat),v4=.slice a n c∧v5=.int .i64 (i:Int)∧i≤T.length∧n≤i∧Hid (n=(fT id (T.take i)).length)∧Hid (Ow U w.heap.size 91 6 a n c (hls (fT id (T.take i))))∧Hid (Below w.heap.size w U)
set_option maxRecDepth 100000 in
set_option maxHeartbeats 4000000 in
theorem rwithout_any (h:Mx w base M r a1 c1 Q1 a2 c2 a3 c3 Q3)(hbs:base≤w.heap.size)(id:Int):Calls Tryz.prog 41 #[.pointer (some ⟨M.b,0,none⟩),.int .i64 id] w fun e w'=>∃a c b d,e=.returned (.tuple #[])∧Mx w' base M { r with V:=noV r.V id,T:=fT id r.T } a c (fQ id Q1) b d a3 c3 Q3∧But (fun j=>j=M.b) w w'∧(∀j,MxN M a (fQ id Q1) b a3 Q3 j→MxN M a1 Q1 a2 a3 Q3 j∨w.heap.size≤j):=by
 have HM:=hid h
 have HBs:=hid hbs
 have hQl:Q1.length=r.V.length:=by have:=congrArg List.length h.ok;simpa using this
 have hsV:=h.sm.1
 have hsT:=h.sm.2.1
 have hsQ:Q1.length≤2048:=by omega
 obtain⟨nV,hnV⟩:∃nV,nV=r.V.length:=⟨_,rfl⟩
 have HnV:=hid hnV
 have HQl:=hid hQl
 clear h hbs hnV hQl
 go_enter Tryz.func41,Tryz.ntmps41
 go_upto_region 2 with fail
 go_loopw [4,5] (WoR w id Q1) (fun _ v _=>Q1.length - S.ivN v)
 case atStart=>exact⟨0,none,0,0,rfl,rfl,Nat.zero_le _,Nat.le_refl _,hid rfl,hid (Ow.nil _ _ _ _),hid (Below.refl _ _)⟩
 case round =>
  obtain⟨i,a,n,c,rfl,rfl,hi,hni,HN,HO,HB⟩:=hrel
  have m3:=(R.Bx.later HB.out HM.out.box).cell 12 rfl
  rw [←HnV.out] at m3
  by_cases hlt:i<Q1.length
  ·have hd:decide ((i:Int)<(nV:Int))=true:=decide_eq_true (by have:=HnV.out;have:=HQl.out;omega)
   have hlv:i<nV:=by have:=HnV.out;have:=HQl.out;omega
   obtain⟨q,hq⟩:∃q,Q1[i]?=some q:=⟨_,List.getElem?_eq_getElem hlt⟩
   have hlen0:0<(evs Q1).length:=by rw [evs_len];omega
   obtain⟨gq,hga,hqc⟩:=(HM.out.mr.later HB.out).o hlen0
   rw [hga] at m3
   have q0:wr.cell? ⟨gq,i*2,none⟩=some (.int .i64 q.id):=hqc _ _ (evs_at Q1 i q hq 0 (by omega))
   have q1:wr.cell? ⟨gq,i*2+1,none⟩=some (.slice q.a q.len q.cap):=hqc _ _ (evs_at Q1 i q hq 1 (by omega))
   have HQ:=hid hq
   clear hqc hq hlen0 hga
   by_cases he:q.id=id
   ·have heb:(q.id != id)=false:=by simpa using he
    have HX:Hid (fQ id (Q1.take (i+1))=fQ id (Q1.take i)):=fil_drop HQ.out (by simp [he])
    clear he
    go_wp2
    exact⟨⟨i+1,a,n,c,rfl,rfl,by omega,by omega,by rw [HX.out];exact HN,by rw [HX.out];exact HO,HB⟩,by simp [S.ivN];omega⟩
   ·have heb:(q.id != id)=true:=by simpa using he
    have HX:Hid (fQ id (Q1.take (i+1))=fQ id (Q1.take i)++[q]):=fil_keep HQ.out (by simp [he])
    obtain⟨a',c',w7,hrun,hO7,hB7⟩:=row_app 49 80 _ 2 32 Tryz.underlying49 info63 rfl (by decide) (by decide) (by decide) HO.out HB.out.size (by have:=HQl.out;omega) q.c rfl (fun u hu=>by simp only [Ev.c,List.mem_cons,List.not_mem_nil,or_false] at hu;rcases hu with rfl|rfl<;>rfl)
    simp only [Ev.c] at hrun
    have HRUN:=hid hrun
    have HO7:=hid hO7
    have HB7:Hid (Below w.heap.size w w7):=But.below HB.out hB7 (fun j hj=>(HO.out.blk j hj).1)
    clear hrun hO7 hB7 he
    go_wp2_with (first|(at_builtin;refine wpList_append_known rfl _ _ 49 rfl _ _ rfl rfl _ w7 HRUN.out ?_))
    refine⟨⟨i+1,a',n+1,c',rfl,rfl,by omega,by omega,?_,?_,HB7⟩,by simp [S.ivN];omega⟩
    ·unfold Hid
     rw [HX.out,List.length_append,←HN.out]
     rfl
    ·unfold Hid
     rw [HX.out,evs_app]
     exact HO7.out
  ·have hjj:i=Q1.length:=by omega
   have hd:decide ((i:Int)<(nV:Int))=false:=decide_eq_false (by have:=HnV.out;have:=HQl.out;omega)
   have hd2:decide (i<nV)=false:=decide_eq_false (by have:=HnV.out;have:=HQl.out;omega)
   have HN1:Hid (n=(fQ id Q1).length):=by have h9:=HN.out;rw [hjj,List.take_length] at h9;exact h9
   have HO1:Hid (Ow wr w.heap.size 80 2 a n c (evs (fQ id Q1))):=by have h9:=HO.out;rw [hjj,List.take_length] at h9;exact h9
   clear hjj HN HO
   go_upto_region 8 with fail
   clear m3 hd hd2
   have HB1:=HB
   clear HB
   go_loopw [6,7] (WtR wr id r.T) (fun _ v _=>r.T.length - S.ivN v)
   case atStart=>exact⟨0,none,0,0,rfl,rfl,Nat.zero_le _,Nat.le_refl _,hid rfl,hid (Ow.nil _ _ _ _),hid (Below.refl _ _)⟩
   case round =>
    obtain⟨j,b,m,d,rfl,rfl,hj,hmj,HNt,HOt,HB⟩:=hrel
    have hwV:=hid (below_call HB1.out HB.out)
    have m4:=(R.Bx.later hwV.out HM.out.box).cell 13 rfl
    by_cases hlt:j<r.T.length
    ·have hd:decide ((j:Int)<(r.T.length:Int))=true:=decide_eq_true (by omega)
     obtain⟨q,hq⟩:∃q,r.T[j]?=some q:=⟨_,List.getElem?_eq_getElem hlt⟩
     obtain⟨gt,hga,hqc⟩:=hl_cells (HM.out.mr.later hwV.out).t hq
     rw [hga] at m4
     have q0:wr.cell? ⟨gt,j*6,none⟩=some (.int .i64 q.no):=hqc 0 _ rfl
     have q1:=hqc 1 _ rfl
     have q2:=hqc 2 _ rfl
     have q3:=hqc 3 _ rfl
     have q4:=hqc 4 _ rfl
     have q5:=hqc 5 _ rfl
     have HQ:=hid hq
     clear hqc hq hga
     by_cases he:q.c.1=id
     ·have heb:(q.c.1 != id)=false:=by simpa using he
      have HX:Hid (fT id (r.T.take (j+1))=fT id (r.T.take j)):=fil_drop HQ.out (by simp [he])
      clear he
      go_wp2
      exact⟨⟨j+1,b,m,d,rfl,rfl,by omega,by omega,by rw [HX.out];exact HNt,by rw [HX.out];exact HOt,HB⟩,by simp [S.ivN];omega⟩
     ·have heb:(q.c.1 != id)=true:=by simpa using he
      have HX:Hid (fT id (r.T.take (j+1))=fT id (r.T.take j)++[q]):=fil_keep HQ.out (by simp [he])
      obtain⟨b',d',w7,hrun,hO7,hB7⟩:=row_app 66 91 _ 6 48 Tryz.underlying66 infoH rfl (by decide) (by decide) (by decide) HOt.out HB.out.size (by omega) (hlC q) rfl (fun u hu=>by simp only [hlC,List.mem_cons,List.not_mem_nil,or_false] at hu;rcases hu with rfl|rfl|rfl|rfl|rfl|rfl<;>rfl)
      simp only [hlC] at hrun
      have HRUN:=hid hrun
      have HO7:=hid hO7
      have HB7:=hid (But.below HB.out hB7 (fun j hj=>(HOt.out.blk j hj).1))
      clear hrun hO7 hB7 he
      go_wp2_with (first|(at_builtin;refine wpList_append_known rfl _ _ 66 rfl _ _ rfl rfl _ w7 HRUN.out ?_))
      refine⟨⟨j+1,b',m+1,d',rfl,rfl,by omega,by omega,?_,?_,HB7⟩,by simp [S.ivN];omega⟩
      ·unfold Hid
       rw [HX.out,List.length_append,←HNt.out]
       rfl
      ·unfold Hid
       rw [HX.out,hls_app]
       exact HO7.out
    ·have hjj:j=r.T.length:=by omega
     have hd:decide ((j:Int)<(r.T.length:Int))=false:=decide_eq_false (by omega)
     have HN2:Hid (m=(fT id r.T).length):=by have h9:=HNt.out;rw [hjj,List.take_length] at h9;exact h9
     have hO2:=HOt.out
     rw [hjj,List.take_length,HN2.out] at hO2
     have hk:=fQ_key Q1 r.V id HM.out.ok
     have hW:n=(noV r.V id).length:=by rw [HN1.out];have:=congrArg List.length hk;simpa using this
     have hO1:=HO1.out
     rw [hW] at hO1
     have HF:=hid (HM.out.rows HBs.out HB1.out HB.out hO1 (fun o ho=>(List.mem_filter.1 ho).1) List.filter_sublist hk hO2 (Nat.le_trans (List.length_filter_le _ _) HM.out.sm.2.1))
     rw [←hW,←HN2.out] at HF
     have HNn:Hid (∀j,MxN M a (fQ id Q1) b a3 Q3 j→MxN M a1 Q1 a2 a3 Q3 j∨w.heap.size≤j):=fun j hj=>by
      rcases hj with e|hj|hj|hj
      ·exact .inl (.inl e)
      ·rcases hj with hj|⟨o,ho,hj⟩
       ·exact .inr (hO1.blk j hj).1
       ·exact .inl (.inr (.inl (.inr ⟨o,(List.mem_filter.1 ho).1,hj⟩)))
      ·exact .inr (Nat.le_trans HB1.out.size (hO2.blk j hj).1)
      ·exact .inl (.inr (.inr (.inr hj)))
     clear hjj HNt HOt hO2 hk hW hO1
     have m12:=(R.Bx.later hwV.out HM.out.box).cell 12 rfl
     have f12:wr.frozen? ⟨M.b,12,none⟩=false:=by have:=((R.Bx.later hwV.out HM.out.box).there 12 (by simp [moL,Cf.L])).2;rwa [Nat.zero_add] at this
     have f13:wr.frozen? ⟨M.b,13,none⟩=false:=by have:=((R.Bx.later hwV.out HM.out.box).there 13 (by simp [moL,Cf.L])).2;rwa [Nat.zero_add] at this
     go_wp2
     go_end0
     exact⟨a,c,b,d,rfl,HF.out.1,HF.out.2,HNn.out⟩
end
end Go.Proofs.YtffmodpgddecnaaGreat.V
namespace Go.Proofs.YtffmodpgddecnaaGreat.V
open Go.RowKit
open Go.Proofs.YtffmodpgddecnaaGreat.H (B64 Cp)
section
variable {w w':World}{base:Nat}{M:Mh}{r:Rm}{a1:Option Addr}{c1:Nat}{Q1:List Ev}{a2:Option Addr}{c2:Nat}{a3:Option Addr}{c3:Nat}{Q3:List Ev}
theorem Mx.lt (h:Mx w base M r a1 c1 Q1 a2 c2 a3 c3 Q3):M.b<w.heap.size:=World.block_lt_of_cell? _ _ (h.box.cell 0 (v:=.int .i64 _) rfl)
theorem Mx.toks (h:Mx w base M r a1 c1 Q1 a2 c2 a3 c3 Q3){V:World}{T:List Hl}{b:Option Addr}{d:Nat}(hV:But (Blk a2) w V)(ht:Ow V base 91 6 b T.length d (hls T))(hb:∀j,Blk b j→Blk a2 j∨w.heap.size≤j)(hT:T.length≤2048) :
  Mx (V.setCell ⟨M.b,13,none⟩ (.slice b T.length d)) base M { r with T:=T } a1 c1 Q1 b d a3 c3 Q3∧But (fun j=>j=M.b∨Blk a2 j) w (V.setCell ⟨M.b,13,none⟩ (.slice b T.length d)):=by
 have hMb:=h.lt
 have hb1:But (fun j=>j=M.b) V (V.setCell ⟨M.b,13,none⟩ (.slice b T.length d)):=But.setCell (S:=fun j=>j=M.b) (But.refl _ _) (p:=⟨M.b,13,none⟩) rfl _
 have hall:But (fun j=>j=M.b∨Blk a2 j) w (V.setCell ⟨M.b,13,none⟩ (.slice b T.length d)):=(hV.mono (fun j hj=>.inr hj)).trans (hb1.mono (fun j hj=>.inl hj))
 refine⟨⟨?_,ws_but h.dr hall (fun j hj e=>?_),?_,h.ok,?_,?_,h.pk,?_,h.s13,?_,?_,?_,?_,h.lo,⟨h.sm.1,hT,h.sm.2.2⟩⟩,hall⟩
 ·exact Bx.put (R.Bx.but hV h.box (fun hj=>h.nb _ (.inr (.inl hj)) rfl)) 13 (by simp [moL,Cf.L]) (.slice b T.length d)
 ·rcases e with e|e
  ·exact h.nd j hj (.inl e)
  ·exact h.nd j hj (.inr (.inr (.inl e)))
 ·refine h.os.but hall (fun j hj e=>?_)
  rcases e with e|e
  ·exact h.nb j (.inl hj) e
  ·exact h.s12 j hj e
 ·refine ht.but hb1 (fun j hj e=>?_)
  rcases hb j hj with h1|h1
  ·exact h.nb j (.inr (.inl h1)) e
  ·omega
 ·refine h.ps.but hall (fun j hj e=>?_)
  rcases e with e|e
  ·exact h.nb j (.inr (.inr hj)) e
  ·exact h.s23 j e hj
 ·intro j h1 h2
  rcases hb j h2 with h3|h3
  ·exact h.s12 j h1 h3
  ·have:=(h.os.blk j h1).2
   omega
 ·intro j h1 h2
  rcases hb j h1 with h3|h3
  ·exact h.s23 j h3 h2
  ·have:=(h.ps.blk j h2).2
   omega
 ·intro j hj e
  rcases hj with h1|h1|h1
  ·exact h.nb j (.inl h1) e
  ·rcases hb j h1 with h3|h3
   ·exact h.nb j (.inr (.inl h3)) e
   ·omega
  ·exact h.nb j (.inr (.inr h1)) e
 ·intro j hj hm
  have:=h.dl j hj
  rcases hm with e|h1|h1|h1
  ·exact h.nd j hj (.inl e)
  ·exact h.nd j hj (.inr (.inl h1))
  ·rcases hb j h1 with h3|h3
   ·exact h.nd j hj (.inr (.inr (.inl h3)))
   ·omega
  ·exact h.nd j hj (.inr (.inr (.inr h1)))
 ·exact fun j hj=>Nat.lt_of_lt_of_le (h.dl j hj) hall.size
end
end Go.Proofs.YtffmodpgddecnaaGreat.V
namespace Go.Proofs.YtffmodpgddecnaaGreat.V
open Go.RowKit
open Go.Proofs.YtffmodpgddecnaaGreat.H (B64 Cp)
section
variable {w w':World}{base E ty k:Nat}{a:Option Addr}{n cap:Nat}{Q:List Ev}
theorem Two.snoc2 (t:TypeId)(z:Value)(by_:Nat)(ht:Tryz.prog.underlying t=some (.slice E))(hinf:(Tryz.prog.info? E).map (fun i=>(i.zero,i.size,i.bytes))=some (some z,2,by_))(hzs:z.cells.size=2)(hby:0<by_)(hby2:by_≤1024)
  {U U':World} (h:Two U base E ty k a n cap Q) (hb:base≤U.heap.size) (hU:Below U.heap.size U U') (o:Ev) (ho:Ow U' U.heap.size ty k o.a o.len o.cap o.vs) (hn:n≤2048) :
  ∃a' c' w3,(Builtin.append_ #[t,t] t #[.slice a n cap,.slice (some ⟨U'.heap.size,0,none⟩) 1 1]).run Tryz.prog (U'.alloc (Obj.cells o.c.toArray E))=.ok (.slice a' (n+1) c') w3∧Two w3 base E ty k a' (n+1) c' (Q++[o])∧But (Blk a) U w3∧(∀j,Blk a' j→Blk a j∨U.heap.size≤j):=by
 have h':=h.later hU
 have hcr:=Cr.lit U' E o.c (fun u hu=>by simp only [Ev.c,List.mem_cons,List.not_mem_nil,or_false] at hu;rcases hu with rfl|rfl<;>rfl)
 obtain⟨a',c',w3,hrun,hO3,hG0⟩:=append_k t E z 2 by_ ht hinf hzs (by omega) hby (h'.row.later (below1 U' (Obj.cells o.c.toArray E))) hcr (by have:=hU.size;simp;omega) (by
  have:(n+1)*by_≤2049*1024:=Nat.mul_le_mul (by omega) hby2
  omega)
 have hG:=hG0.pre (below1 U' (Obj.cells o.c.toArray E))
 have hob:=fun j hj=>ho.blk j hj
 have hna:∀j,Blk a j→¬Blk o.a j:=fun j h1 h2=>by have:=(h.row.blk j h1).2;have:=(hob j h2).1;omega
 refine⟨a',c',w3,hrun,⟨?_,by simp [h.len],?_,?_,?_⟩,(But.of hU).trans hG.but,fun j hj=>?_⟩
 rotate_left 4
 ·rcases hG.on j hj with h3|h3
  ·exact .inl h3
  ·exact .inr (Nat.le_trans hU.size h3)
 ·have e:evs (Q++[o])=evs Q++o.c:=by simp [evs]
  rw [e]
  exact hO3
 ·intro p hp
  rcases List.mem_append.1 hp with hp|hp
  ·exact (h'.each p hp).but hG.but (fun j hj hj2=>h.top p hp j hj hj2)
  ·rw [List.mem_singleton.1 hp]
   exact (ho.mono hb).but hG.but (fun j hj hj2=>hna j hj2 hj)
 ·rw [List.pairwise_append]
  refine⟨h.ap,List.pairwise_singleton _ _,fun p hp q hq j h1 h2=>?_⟩
  rw [List.mem_singleton.1 hq] at h2
  have:=((h.each p hp).blk j h1).2
  have:=(hob j h2).1
  omega
 ·intro p hp j h1 h2
  rcases hG.on j h2 with h3|h3
  ·rcases List.mem_append.1 hp with hp|hp
   ·exact h.top p hp j h1 h3
   ·rw [List.mem_singleton.1 hp] at h1
    exact hna j h3 h1
  ·rcases List.mem_append.1 hp with hp|hp
   ·have:=((h.each p hp).blk j h1).2
    have:=hU.size
    omega
   ·rw [List.mem_singleton.1 hp] at h1
    have:=(hob j h1).2
    omega
end
section
variable {w w':World}{base:Nat}{M:Mh}{r:Rm}{a1:Option Addr}{c1:Nat}{Q1:List Ev}{a2:Option Addr}{c2:Nat}{a3:Option Addr}{c3:Nat}{Q3:List Ev}
theorem Mx.obj1 (h:Mx w base M r a1 c1 Q1 a2 c2 a3 c3 Q3)(hbs:base≤w.heap.size){U:World}(hU:Below w.heap.size w U)(v:Int×List Nat){ao:Option Addr}{co:Nat}(ho:Ow U w.heap.size 5 1 ao v.2.length co (S.u8s v.2))(hV:r.V.length<2048):∃b d w3,(Builtin.append_ #[49,49] 49 #[.slice a1 r.V.length c1,.slice (some ⟨U.heap.size,0,none⟩) 1 1]).run Tryz.prog (U.alloc (Obj.cells #[.int .i64 v.1,.slice ao v.2.length co] 80))=.ok (.slice b (r.V.length+1) d) w3 ∧
  Mx (w3.setCell ⟨M.b,12,none⟩ (.slice b (r.V.length+1) d)) base M { r with V:=r.V++[v] } b d (Q1++[⟨v.1,S.u8s v.2,v.2.length,ao,co⟩]) a2 c2 a3 c3 Q3∧But (fun j=>j=M.b∨Blk a1 j) w (w3.setCell ⟨M.b,12,none⟩ (.slice b (r.V.length+1) d)):=by
 have hMb:=h.lt
 obtain⟨b,d,w3,hrun,hT3,hB3,hon⟩:=Two.snoc2 49 _ 32 Tryz.underlying49 info63 rfl (by decide) (by decide) h.os hbs hU ⟨v.1,S.u8s v.2,v.2.length,ao,co⟩ ho (by omega)
 have hb1:But (fun j=>j=M.b) w3 (w3.setCell ⟨M.b,12,none⟩ (.slice b (r.V.length+1) d)):=But.setCell (S:=fun j=>j=M.b) (But.refl _ _) (p:=⟨M.b,12,none⟩) rfl _
 have hall:But (fun j=>j=M.b∨Blk a1 j) w (w3.setCell ⟨M.b,12,none⟩ (.slice b (r.V.length+1) d)):=(hB3.mono (fun j hj=>.inr hj)).trans (hb1.mono (fun j hj=>.inl hj))
 have hN:∀j,Two.B b (Q1++[⟨v.1,S.u8s v.2,v.2.length,ao,co⟩]) j→Two.B a1 Q1 j∨w.heap.size≤j:=fun j hj=>by
  rcases hj with hj|⟨o,hO,hj⟩
  ·rcases hon j hj with h1|h1
   ·exact .inl (.inl h1)
   ·exact .inr h1
  ·rcases List.mem_append.1 hO with hO|hO
   ·exact .inl (.inr ⟨o,hO,hj⟩)
   ·rw [List.mem_singleton.1 hO] at hj
    exact .inr (ho.blk j hj).1
 have hl:r.V.length+1=(r.V++[v]).length:=by simp
 refine⟨b,d,w3,hrun,⟨?_,ws_but h.dr hall (fun j hj e=>?_),?_,?_,?_,?_,h.pk,?_,?_,h.s23,?_,?_,?_,h.lo,⟨by simp;omega,h.sm.2⟩⟩,hall⟩
 ·have:=Bx.put (R.Bx.but hB3 h.box (fun hj=>h.nb _ (.inl (.inl hj)) rfl)) 12 (by simp [moL,Cf.L]) (.slice b (r.V.length+1) d)
  rw [hl] at this ⊢
  exact this
 ·rcases e with e|e
  ·exact h.nd j hj (.inl e)
  ·exact h.nd j hj (.inr (.inl (.inl e)))
 ·rw [←hl]
  refine hT3.but hb1 (fun j hj e=>?_)
  rcases hN j hj with h1|h1
  ·exact h.nb j (.inl h1) e
  ·omega
 ·rw [List.map_append,List.map_append,h.ok]
  rfl
 ·refine h.ts.but hall (fun j hj e=>?_)
  rcases e with e|e
  ·exact h.nb j (.inr (.inl hj)) e
  ·exact h.s12 j (.inl e) hj
 ·refine h.ps.but hall (fun j hj e=>?_)
  rcases e with e|e
  ·exact h.nb j (.inr (.inr hj)) e
  ·exact h.s13 j (.inl e) hj
 ·intro j h1 h2
  rcases hN j h1 with h3|h3
  ·exact h.s12 j h3 h2
  ·have:=(h.ts.blk j h2).2
   omega
 ·intro j h1 h2
  rcases hN j h1 with h3|h3
  ·exact h.s13 j h3 h2
  ·have:=(h.ps.blk j h2).2
   omega
 ·intro j hj e
  rcases hj with h1|h1|h1
  ·rcases hN j h1 with h3|h3
   ·exact h.nb j (.inl h3) e
   ·omega
  ·exact h.nb j (.inr (.inl h1)) e
  ·exact h.nb j (.inr (.inr h1)) e
 ·intro j hj hm
  have:=h.dl j hj
  rcases hm with e|h1|h1|h1
  ·exact h.nd j hj (.inl e)
  ·rcases hN j h1 with h3|h3
   ·exact h.nd j hj (.inr (.inl h3))
   ·omega
  ·exact h.nd j hj (.inr (.inr (.inl h1)))
  ·exact h.nd j hj (.inr (.inr (.inr h1)))
 ·exact fun j hj=>Nat.lt_of_lt_of_le (h.dl j hj) hall.size
end
end Go.Proofs.YtffmodpgddecnaaGreat.V
namespace Go.Proofs.YtffmodpgddecnaaGreat.V
open Go.RowKit
open Go.Proofs.YtffmodpgddecnaaGreat.H (B64 Cp)
section
variable {w w':World}
def WiR (w:World)(s:ByteArray)(x:Int)(v:Value)(U:World):Prop:=∃i:Nat,v=.int .i64 (i:Int)∧i≤s.size∧Hid (∀j (hj:j<s.size),j<i→((s[j]).toNat:Int)≠x)∧Hid (w=U)
def wiB (s:ByteArray)(x:Int):Bool:=s.data.toList.any (fun b=>decide ((b.toNat:Int)=x))
set_option maxRecDepth 100000 in
set_option maxHeartbeats 1000000 in
theorem rwith_any (s:ByteArray)(hs:s.size≤1000)(x:Int)(w:World):Calls Tryz.prog 63 #[.string s,.int .u8 x] w fun e w'=>e=.returned (.bool (wiB s x))∧w'=w:=by
 go_enter Tryz.func63,Tryz.ntmps63
 go_upto_region 2 with fail
 go_loopw [5] (WiR w s x) (fun v _=>s.size - S.ivN v)
 case atStart=>exact⟨0,rfl,Nat.zero_le _,hid (fun j hj h=>by omega),hid rfl⟩
 case round =>
  obtain⟨i,rfl,hi,HN,HB⟩:=hrel
  have hU:=HB.out
  subst hU
  by_cases hlt:i<s.size
  ·have hd:decide ((i:Int)<(s.size:Int))=true:=decide_eq_true (by omega)
   by_cases he:((s[i]).toNat:Int)=x
   ·have heb:(((s[i]).toNat:Int)==x)=true:=by simp [he]
    have HX:Hid (wiB s x=true):=by
     unfold Hid wiB
     rw [List.any_eq_true]
     exact⟨s[i],Array.getElem_mem_toList ..,decide_eq_true he⟩
    clear he
    go_wp2
    go_ret
    exact⟨by rw [HX.out];exact ret_bool rfl,rfl⟩
   ·have heb:(((s[i]).toNat:Int)==x)=false:=by simpa using he
    have HX:Hid (∀j (hj:j<s.size),j<i+1→((s[j]).toNat:Int)≠x):=fun j hj h=>by
     by_cases e:j=i
     ·subst e;exact he
     ·exact HN.out j hj (by omega)
    clear he
    go_wp2
    exact⟨⟨i+1,rfl,by omega,HX,hid rfl⟩,by simp [S.ivN];omega⟩
  ·have hd:decide ((i:Int)<(s.size:Int))=false:=decide_eq_false (by omega)
   have HX:Hid (wiB s x=false):=by
    unfold Hid wiB
    rw [List.any_eq_false]
    intro b hb
    obtain⟨j,hj,e⟩:=List.getElem_of_mem hb
    have hj2:j<s.size:=by simpa using hj
    have:=HN.out j hj2 (by omega)
    rw [decide_eq_true_eq]
    intro e2
    exact this (by rw [←e2,←e];rfl)
   clear hi
   go_wp2
   go_ret
   exact⟨by rw [HX.out];exact ret_bool rfl,rfl⟩
end
end Go.Proofs.YtffmodpgddecnaaGreat.V
namespace Go.Proofs.YtffmodpgddecnaaGreat.V
open Go.RowKit
open Go.Proofs.YtffmodpgddecnaaGreat.H (B64 Cp)
section
variable {w w':World}
def zrB (s:ByteArray)(cl:R.Cl):Bool:=(wiB s 115||decide (cl.size=0))&&(wiB s 99||decide (cpO cl=(0,0,0)))&&(wiB s 103||decide (cl.given=false))&&(wiB s 114||decide (cl.rights=0))&&(wiB s 111||decide (cl.off=0))&&(wiB s 110||decide (cl.n=0))&&(wiB s 100||decide (cl.data.length=0))&&(wiB s 105||decide (cl.index=0))&&(wiB s 102||decide (cl.gifts.length=0))
end
end Go.Proofs.YtffmodpgddecnaaGreat.V
namespace Go.Proofs.YtffmodpgddecnaaGreat.V
open Go.RowKit
open Go.Proofs.YtffmodpgddecnaaGreat.H (B64 Cp)
section
variable {w w':World}
set_option maxRecDepth 100000 in
set_option maxHeartbeats 8000000 in
theorem rzero_s {cl:R.Cl}{dd gg:R.Sl}(hd:dd.n=cl.data.length)(hg:gg.n=cl.gifts.length)(w:World):Calls Tryz.prog 38 #[.agg (R.cC cl dd gg).toArray,.string ⟨#[115]⟩] w fun e w'=>e=.returned (.bool (zrB ⟨#[115]⟩ cl))∧Below w.heap.size w w':=by
 obtain⟨W,hW⟩:∃W,W=w.alloc (Obj.cells (R.cC cl dd gg).toArray 45):=⟨_,rfl⟩
 have HB:Hid (Below w.heap.size w W):=by rw [hW];exact below1 _ _
 have HX:Hid (R.Bx W w.heap.size (R.cC cl dd gg)):=by rw [hW];exact R.Bx.new w _ _
 have HW:=hid hW
 have x2:=HX.out.cell 2 rfl
 have x3:=HX.out.cell 3 rfl
 have x4:=HX.out.cell 4 rfl
 have x5:=HX.out.cell 5 rfl
 have x6:=HX.out.cell 6 rfl
 have x7:=HX.out.cell 7 rfl
 have x8:=HX.out.cell 8 rfl
 have x9:=HX.out.cell 9 rfl
 have x10:=HX.out.cell 10 rfl
 have x11:=HX.out.cell 11 rfl
 have x12:=HX.out.cell 12 rfl
 have hdv:dd.v=.slice dd.a cl.data.length dd.c:=by unfold R.Sl.v;rw [hd]
 have hgv:gg.v=.slice gg.a cl.gifts.length gg.c:=by unfold R.Sl.v;rw [hg]
 rw [hdv] at x10
 rw [hgv] at x12
 obtain⟨e,he⟩:∃e,e=decide (cpO cl=(0,0,0)):=⟨_,rfl⟩
 have heq:∀U:World,(binOp .eql 38 (.agg #[.int .i64 cl.obj,.int .u64 (cl.hi:Int),.int .u64 (cl.lo:Int)]) (.agg #[.int .i64 0,.int .u64 0,.int .u64 0])).run Tryz.prog U=.ok (.bool e) U:=fun U=>by rw [he];exact K.eqlCp (cpO cl) (0,0,0) U
 have W115:wiB ⟨#[115]⟩ 115=true:=by decide
 have W99:wiB ⟨#[115]⟩ 99=false:=by decide
 have W103:wiB ⟨#[115]⟩ 103=false:=by decide
 have W114:wiB ⟨#[115]⟩ 114=false:=by decide
 have W111:wiB ⟨#[115]⟩ 111=false:=by decide
 have W110:wiB ⟨#[115]⟩ 110=false:=by decide
 have W100:wiB ⟨#[115]⟩ 100=false:=by decide
 have W105:wiB ⟨#[115]⟩ 105=false:=by decide
 have W102:wiB ⟨#[115]⟩ 102=false:=by decide
 clear hd hg hW hdv hgv
 by_cases h_c:cpO cl=(0,0,0)
 rotate_left
 ·have b_c:e=false:=by rw [he];exact decide_eq_false h_c
  rw [b_c] at heq
  have E:Hid (zrB ⟨#[115]⟩ cl=false):=by unfold Hid zrB;simp [W115,W99,W103,W114,W111,W110,W100,W105,W102,h_c]
  clear h_c he
  go_enter Tryz.func38,Tryz.ntmps38
  go_upto_region 1 with fail
  have hW:=HW.out
  rw [←hW]
  clear hW HW
  simp only [List.append]
  go_wp2_with (first|(go_at_call 63;refine (rwith_any _ (by decide) _ _).mono ?_;rintro e9 w9 ⟨rfl,hw9⟩;obtain rfl:=hw9.symm;clear hw9;simp only [W115,W99,W103,W114,W111,W110,W100,W105,W102]))
  go_ret
  exact⟨by rw [E.out];exact ret_bool rfl,HB.out⟩
 have b_c:e=true:=by rw [he];exact decide_eq_true h_c
 rw [b_c] at heq
 by_cases h_g:cl.given=false
 rotate_left
 ·have k_g:cl.given=true:=by simpa using h_g
  rw [k_g] at x6
  have E:Hid (zrB ⟨#[115]⟩ cl=false):=by unfold Hid zrB;simp [W115,W99,W103,W114,W111,W110,W100,W105,W102,h_c,k_g]
  clear h_c k_g he
  go_enter Tryz.func38,Tryz.ntmps38
  go_upto_region 1 with fail
  have hW:=HW.out
  rw [←hW]
  clear hW HW
  simp only [List.append]
  go_wp2_with (first|(go_at_call 63;refine (rwith_any _ (by decide) _ _).mono ?_;rintro e9 w9 ⟨rfl,hw9⟩;obtain rfl:=hw9.symm;clear hw9;simp only [W115,W99,W103,W114,W111,W110,W100,W105,W102]))
  go_ret
  exact⟨by rw [E.out];exact ret_bool rfl,HB.out⟩
 rw [h_g] at x6
 by_cases h_r:cl.rights=0
 rotate_left
 ·have b_r:(cl.rights==0)=false:=by rw [beq_eq_false_iff_ne];omega
  have E:Hid (zrB ⟨#[115]⟩ cl=false):=by unfold Hid zrB;simp [W115,W99,W103,W114,W111,W110,W100,W105,W102,h_c,h_g,h_r]
  clear h_c h_g h_r he
  go_enter Tryz.func38,Tryz.ntmps38
  go_upto_region 1 with fail
  have hW:=HW.out
  rw [←hW]
  clear hW HW
  simp only [List.append]
  go_wp2_with (first|(go_at_call 63;refine (rwith_any _ (by decide) _ _).mono ?_;rintro e9 w9 ⟨rfl,hw9⟩;obtain rfl:=hw9.symm;clear hw9;simp only [W115,W99,W103,W114,W111,W110,W100,W105,W102]))
  go_ret
  exact⟨by rw [E.out];exact ret_bool rfl,HB.out⟩
 have b_r:(cl.rights==0)=true:=by simp [h_r]
 by_cases h_o:cl.off=0
 rotate_left
 ·have b_o:(cl.off==0)=false:=by rw [beq_eq_false_iff_ne];omega
  have E:Hid (zrB ⟨#[115]⟩ cl=false):=by unfold Hid zrB;simp [W115,W99,W103,W114,W111,W110,W100,W105,W102,h_c,h_g,h_r,h_o]
  clear h_c h_g h_r h_o he
  go_enter Tryz.func38,Tryz.ntmps38
  go_upto_region 1 with fail
  have hW:=HW.out
  rw [←hW]
  clear hW HW
  simp only [List.append]
  go_wp2_with (first|(go_at_call 63;refine (rwith_any _ (by decide) _ _).mono ?_;rintro e9 w9 ⟨rfl,hw9⟩;obtain rfl:=hw9.symm;clear hw9;simp only [W115,W99,W103,W114,W111,W110,W100,W105,W102]))
  go_ret
  exact⟨by rw [E.out];exact ret_bool rfl,HB.out⟩
 have b_o:(cl.off==0)=true:=by simp [h_o]
 by_cases h_n:cl.n=0
 rotate_left
 ·have b_n:(cl.n==0)=false:=by rw [beq_eq_false_iff_ne];omega
  have E:Hid (zrB ⟨#[115]⟩ cl=false):=by unfold Hid zrB;simp [W115,W99,W103,W114,W111,W110,W100,W105,W102,h_c,h_g,h_r,h_o,h_n]
  clear h_c h_g h_r h_o h_n he
  go_enter Tryz.func38,Tryz.ntmps38
  go_upto_region 1 with fail
  have hW:=HW.out
  rw [←hW]
  clear hW HW
  simp only [List.append]
  go_wp2_with (first|(go_at_call 63;refine (rwith_any _ (by decide) _ _).mono ?_;rintro e9 w9 ⟨rfl,hw9⟩;obtain rfl:=hw9.symm;clear hw9;simp only [W115,W99,W103,W114,W111,W110,W100,W105,W102]))
  go_ret
  exact⟨by rw [E.out];exact ret_bool rfl,HB.out⟩
 have b_n:(cl.n==0)=true:=by simp [h_n]
 by_cases h_d:cl.data.length=0
 rotate_left
 ·have b_d:((cl.data.length:Int)==0)=false:=by rw [beq_eq_false_iff_ne];omega
  have E:Hid (zrB ⟨#[115]⟩ cl=false):=by unfold Hid zrB;simp [W115,W99,W103,W114,W111,W110,W100,W105,W102,h_c,h_g,h_r,h_o,h_n,h_d]
  clear h_c h_g h_r h_o h_n h_d he
  go_enter Tryz.func38,Tryz.ntmps38
  go_upto_region 1 with fail
  have hW:=HW.out
  rw [←hW]
  clear hW HW
  simp only [List.append]
  go_wp2_with (first|(go_at_call 63;refine (rwith_any _ (by decide) _ _).mono ?_;rintro e9 w9 ⟨rfl,hw9⟩;obtain rfl:=hw9.symm;clear hw9;simp only [W115,W99,W103,W114,W111,W110,W100,W105,W102]))
  go_ret
  exact⟨by rw [E.out];exact ret_bool rfl,HB.out⟩
 have b_d:((cl.data.length:Int)==0)=true:=by simp [h_d]
 by_cases h_i:cl.index=0
 rotate_left
 ·have b_i:(cl.index==0)=false:=by rw [beq_eq_false_iff_ne];omega
  have E:Hid (zrB ⟨#[115]⟩ cl=false):=by unfold Hid zrB;simp [W115,W99,W103,W114,W111,W110,W100,W105,W102,h_c,h_g,h_r,h_o,h_n,h_d,h_i]
  clear h_c h_g h_r h_o h_n h_d h_i he
  go_enter Tryz.func38,Tryz.ntmps38
  go_upto_region 1 with fail
  have hW:=HW.out
  rw [←hW]
  clear hW HW
  simp only [List.append]
  go_wp2_with (first|(go_at_call 63;refine (rwith_any _ (by decide) _ _).mono ?_;rintro e9 w9 ⟨rfl,hw9⟩;obtain rfl:=hw9.symm;clear hw9;simp only [W115,W99,W103,W114,W111,W110,W100,W105,W102]))
  go_ret
  exact⟨by rw [E.out];exact ret_bool rfl,HB.out⟩
 have b_i:(cl.index==0)=true:=by simp [h_i]
 by_cases h_f:cl.gifts.length=0
 rotate_left
 ·have b_f:((cl.gifts.length:Int)==0)=false:=by rw [beq_eq_false_iff_ne];omega
  have E:Hid (zrB ⟨#[115]⟩ cl=false):=by unfold Hid zrB;simp [W115,W99,W103,W114,W111,W110,W100,W105,W102,h_c,h_g,h_r,h_o,h_n,h_d,h_i,h_f]
  clear h_c h_g h_r h_o h_n h_d h_i h_f he
  go_enter Tryz.func38,Tryz.ntmps38
  go_upto_region 1 with fail
  have hW:=HW.out
  rw [←hW]
  clear hW HW
  simp only [List.append]
  go_wp2_with (first|(go_at_call 63;refine (rwith_any _ (by decide) _ _).mono ?_;rintro e9 w9 ⟨rfl,hw9⟩;obtain rfl:=hw9.symm;clear hw9;simp only [W115,W99,W103,W114,W111,W110,W100,W105,W102]))
  go_ret
  exact⟨by rw [E.out];exact ret_bool rfl,HB.out⟩
 have b_f:((cl.gifts.length:Int)==0)=true:=by simp [h_f]
 have E:Hid (zrB ⟨#[115]⟩ cl=true):=by unfold Hid zrB;simp [W115,W99,W103,W114,W111,W110,W100,W105,W102,h_c,h_g,h_r,h_o,h_n,h_d,h_i,h_f]
 clear h_c h_g h_r h_o h_n h_d h_i h_f he
 go_enter Tryz.func38,Tryz.ntmps38
 go_upto_region 1 with fail
 have hW:=HW.out
 rw [←hW]
 clear hW HW
 simp only [List.append]
 go_wp2_with (first|(go_at_call 63;refine (rwith_any _ (by decide) _ _).mono ?_;rintro e9 w9 ⟨rfl,hw9⟩;obtain rfl:=hw9.symm;clear hw9;simp only [W115,W99,W103,W114,W111,W110,W100,W105,W102]))
 go_ret
 exact⟨by rw [E.out];exact ret_bool rfl,HB.out⟩
end
end Go.Proofs.YtffmodpgddecnaaGreat.V
