import Derived.Test.YtffmodpgddecnaaGreatZ17
set_option linter.unusedVariables false
set_option linter.unusedSimpArgs false
namespace Go.Proofs.YtffmodpgddecnaaGreat.V.E
open Go.RowKit Go.Maps
open Go.Proofs.YtffmodpgddecnaaGreat.H (B64 Cp)
section
variable {w w' V w2 W w1:World}{h:Hm}{q x:Pl}{N N':Nat→Prop}{Es:List En}{Ls:List Ln}{c:R.Cl}{dd gg:R.Sl}
theorem did_out {b:Nat}{rr:Rep×Pl}{e1:Ending}(k0:Md w h q N Es Ls)(hB:Below w.heap.size w W)(hb:w.heap.size≤b)(hbW:b<W.heap.size)(kd:DidP W h N rr e1 w1):∃a n c,e1=.returned (rpV rr.1 a n c)∧But h.B W w1∧DidP w h N rr (.returned (rpV rr.1 a n c)) (w1.setCells b 0 (rpL rr.1 a n c)):=by
 obtain⟨a,n,c,N',he,hO,⟨Es',Ls',hM⟩,hw,hn⟩:=kd
 have g1:=k0.glt
 have g2:=k0.olt
 have g3:=k0.llt
 have hnb:¬N' b:=fun e=>by
  rcases hw.2 _ e with h1|h1
  ·exact k0.new hb h1
  ·omega
 have hf:=did_fin hM ((WentP.later (N:=N) (h:=h) hB).trans hw) hb hnb ⟨by omega,by omega,by omega⟩ (rpL rr.1 a n c)
 have hb9:But (·=b) w1 (w1.setCells b 0 (rpL rr.1 a n c)):=R.setCells_but (S:=(·=b)) rfl _ 0 (But.refl _ _)
 exact⟨a,n,c,he,hw.1,a,n,c,N',rfl,(Own.but hb9 hO (fun j hj e=>by have:=hO.blk j hj;omega)).mono hB.size,⟨_,_,hf.1⟩,hf.2,hn⟩
structure Att (c:R.Cl)(dd gg:R.Sl):Prop where
 ob:S.i64ok c.obj
 by_:S.i64ok c.by_
 op:1≤c.op∧c.op≤10
 dl:dd.n≤65536
 ix:0≤c.index∧c.index≤65535
 gl:gg.n≤255
 gp:∀g∈c.gifts,0≤g
set_option maxRecDepth 100000 in
set_option maxHeartbeats 4000000 in
theorem attempt_any (k:Md w h q N Es Ls)(hf:Fit h.p q)(hcf:h.cf.may=true)(hi:R.Is w c dd gg)(ha:Att c dd gg)(hh:haX q.X c.by_=true):Calls Tryz.prog 30 #[.pointer (some ⟨h.g,0,none⟩),.agg (R.cC c dd gg).toArray] w (DidP w h N (pDeed h.p q c)):=by
 obtain⟨hob,hby,hop,hdl,hix,hgl,hgp⟩:=ha
 obtain⟨W,hW⟩:∃W,W=(w.alloc (Obj.cells (R.cC c dd gg).toArray 45)).alloc z6:=⟨_,rfl⟩
 have hB:Below w.heap.size w W:=by rw [hW];exact below2 _ _ _
 have hX:R.Bx W w.heap.size (R.cC c dd gg):=by rw [hW];exact R.Bx.later (below1 _ _) (R.Bx.new w (R.cC c dd gg) 45)
 have hZ:Zr W (w.heap.size+1):=by rw [hW];have:=Zr.new (w.alloc (Obj.cells (R.cC c dd gg).toArray 45));simpa using this
 have k1:=k.later hB
 have hi1:=hi.later hB
 have HLd:=hid (ldC hX)
 have x0:=hX.cell 0 rfl
 have x1:=hX.cell 1 rfl
 have x2:=hX.cell 2 rfl
 have x3:=hX.cell 3 rfl
 have x4:=hX.cell 4 rfl
 have x5:=hX.cell 5 rfl
 have x7:=hX.cell 7 rfl
 have x11:=hX.cell 11 rfl
 have x12:=hX.cell 12 rfl
 have hbW:w.heap.size+1<W.heap.size:=hZ.lt
 have hnB:¬h.B (w.heap.size+1):=fun e=>by
  have g1:=k.glt
  have g2:=k.olt
  have g3:=k.llt
  rcases e with e|e|e<;>omega
 have HK0:=hid k
 have HB:=hid hB
 have HW:=hid hW
 have HZ:=hid hZ
 have HNB:=hid hnB
 obtain⟨rr,hR⟩:∃rr,rr=pDeed h.p q c:=⟨_,rfl⟩
 rw [←hR]
 unfold pDeed at hR
 clear hB hX hZ hW hnB
 have hcs:c.op=1∨c.op=2∨c.op=3∨c.op=4∨c.op=5∨c.op=6∨c.op=7∨c.op=8∨c.op=9∨c.op=10:=by omega
 rcases hcs with hk|hcs
 ·rw [hk] at x0 hR
  rw [if_pos rfl] at hR
  have HD:=hid (create_any k1 hf hcf c.size)
  rw [←hR] at HD
  clear hR hk k k1 hi hi1 hf hcf hh hob hby hop hdl hix hgl hgp
  go_enter Tryz.func30,Tryz.ntmps30
  go_upto_region 1 with fail
  rw [←HW.out]
  go_wp2_with (first|((with_reducible refine R.ld_arm HLd.out ?_ ?_);(· rfl))|(go_at_call 50;refine HD.out.mono ?_;intro e1 w1 hd1;obtain⟨a9,n9,c9,rfl,hbt,hfin⟩:=did_out HK0.out HB.out (Nat.le_succ _) hbW hd1;have HZ9:=hid (HZ.out.but hbt HNB.out);have HS9:=hid (HZ9.out.st rr.1 a9 n9 c9);have HL9:=hid (HZ9.out.lv rr.1 a9 n9 c9);have HFin:=hid hfin;clear hd1 hbt hfin)|((with_reducible refine st_arm HS9.out ?_ ?_ ?_);(· rfl);(· rfl)))
  exact bodyPost_ret (v:=rpV rr.1 a9 n9 c9) (by simp [results,Tryz.results30,asAddr,HL9.out]) rfl HFin.out
 rcases hcs with hk|hcs
 ·rw [hk] at x0 hR
  rw [if_neg (by decide)] at hR
  rw [if_pos rfl] at hR
  have HD:=hid (destroy_any k1 hf (cpO c) hob)
  rw [←hR] at HD
  unfold cpO cV at HD
  simp only at HD
  clear hR hk k k1 hi hi1 hf hcf hh hob hby hop hdl hix hgl hgp
  go_enter Tryz.func30,Tryz.ntmps30
  go_upto_region 1 with fail
  rw [←HW.out]
  go_wp2_with (first|((with_reducible refine R.ld_arm HLd.out ?_ ?_);(· rfl))|(go_at_call 51;refine HD.out.mono ?_;intro e1 w1 hd1;obtain⟨a9,n9,c9,rfl,hbt,hfin⟩:=did_out HK0.out HB.out (Nat.le_succ _) hbW hd1;have HZ9:=hid (HZ.out.but hbt HNB.out);have HS9:=hid (HZ9.out.st rr.1 a9 n9 c9);have HL9:=hid (HZ9.out.lv rr.1 a9 n9 c9);have HFin:=hid hfin;clear hd1 hbt hfin)|((with_reducible refine st_arm HS9.out ?_ ?_ ?_);(· rfl);(· rfl)))
  exact bodyPost_ret (v:=rpV rr.1 a9 n9 c9) (by simp [results,Tryz.results30,asAddr,HL9.out]) rfl HFin.out
 rcases hcs with hk|hcs
 ·rw [hk] at x0 hR
  rw [if_neg (by decide)] at hR
  rw [if_neg (by decide)] at hR
  rw [if_pos rfl] at hR
  have HD:=hid (derive_any k1 hf hcf (cpO c) c.rights hob)
  rw [←hR] at HD
  unfold cpO cV at HD
  simp only at HD
  clear hR hk k k1 hi hi1 hf hcf hh hob hby hop hdl hix hgl hgp
  go_enter Tryz.func30,Tryz.ntmps30
  go_upto_region 1 with fail
  rw [←HW.out]
  go_wp2_with (first|((with_reducible refine R.ld_arm HLd.out ?_ ?_);(· rfl))|(go_at_call 52;refine HD.out.mono ?_;intro e1 w1 hd1;obtain⟨a9,n9,c9,rfl,hbt,hfin⟩:=did_out HK0.out HB.out (Nat.le_succ _) hbW hd1;have HZ9:=hid (HZ.out.but hbt HNB.out);have HS9:=hid (HZ9.out.st rr.1 a9 n9 c9);have HL9:=hid (HZ9.out.lv rr.1 a9 n9 c9);have HFin:=hid hfin;clear hd1 hbt hfin)|((with_reducible refine st_arm HS9.out ?_ ?_ ?_);(· rfl);(· rfl)))
  exact bodyPost_ret (v:=rpV rr.1 a9 n9 c9) (by simp [results,Tryz.results30,asAddr,HL9.out]) rfl HFin.out
 rcases hcs with hk|hcs
 ·rw [hk] at x0 hR
  rw [if_neg (by decide)] at hR
  rw [if_neg (by decide)] at hR
  rw [if_neg (by decide)] at hR
  rw [if_pos rfl] at hR
  have HD:=hid (revoke_any k1 hf (cpO c) hob)
  rw [←hR] at HD
  unfold cpO cV at HD
  simp only at HD
  clear hR hk k k1 hi hi1 hf hcf hh hob hby hop hdl hix hgl hgp
  go_enter Tryz.func30,Tryz.ntmps30
  go_upto_region 1 with fail
  rw [←HW.out]
  go_wp2_with (first|((with_reducible refine R.ld_arm HLd.out ?_ ?_);(· rfl))|(go_at_call 53;refine HD.out.mono ?_;intro e1 w1 hd1;obtain⟨a9,n9,c9,rfl,hbt,hfin⟩:=did_out HK0.out HB.out (Nat.le_succ _) hbW hd1;have HZ9:=hid (HZ.out.but hbt HNB.out);have HS9:=hid (HZ9.out.st rr.1 a9 n9 c9);have HL9:=hid (HZ9.out.lv rr.1 a9 n9 c9);have HFin:=hid hfin;clear hd1 hbt hfin)|((with_reducible refine st_arm HS9.out ?_ ?_ ?_);(· rfl);(· rfl)))
  exact bodyPost_ret (v:=rpV rr.1 a9 n9 c9) (by simp [results,Tryz.results30,asAddr,HL9.out]) rfl HFin.out
 rcases hcs with hk|hcs
 ·rw [hk] at x0 hR
  rw [if_neg (by decide)] at hR
  rw [if_neg (by decide)] at hR
  rw [if_neg (by decide)] at hR
  rw [if_neg (by decide)] at hR
  rw [if_pos rfl] at hR
  have HD:=hid (read_any k1 hf hi1 hob hby)
  rw [←hR] at HD
  clear hR hk k k1 hi hi1 hf hcf hh hob hby hop hdl hix hgl hgp
  go_enter Tryz.func30,Tryz.ntmps30
  go_upto_region 1 with fail
  rw [←HW.out]
  go_wp2_with (first|((with_reducible refine R.ld_arm HLd.out ?_ ?_);(· rfl))|(go_at_call 54;refine HD.out.mono ?_;intro e1 w1 hd1;obtain⟨a9,n9,c9,rfl,hbt,hfin⟩:=did_out HK0.out HB.out (Nat.le_succ _) hbW hd1;have HZ9:=hid (HZ.out.but hbt HNB.out);have HS9:=hid (HZ9.out.st rr.1 a9 n9 c9);have HL9:=hid (HZ9.out.lv rr.1 a9 n9 c9);have HFin:=hid hfin;clear hd1 hbt hfin)|((with_reducible refine st_arm HS9.out ?_ ?_ ?_);(· rfl);(· rfl)))
  exact bodyPost_ret (v:=rpV rr.1 a9 n9 c9) (by simp [results,Tryz.results30,asAddr,HL9.out]) rfl HFin.out
 rcases hcs with hk|hcs
 ·rw [hk] at x0 hR
  rw [if_neg (by decide)] at hR
  rw [if_neg (by decide)] at hR
  rw [if_neg (by decide)] at hR
  rw [if_neg (by decide)] at hR
  rw [if_neg (by decide)] at hR
  rw [if_pos rfl] at hR
  have HD:=hid (write_any k1 hf hi1 hob hby hdl)
  rw [←hR] at HD
  clear hR hk k k1 hi hi1 hf hcf hh hob hby hop hdl hix hgl hgp
  go_enter Tryz.func30,Tryz.ntmps30
  go_upto_region 1 with fail
  rw [←HW.out]
  go_wp2_with (first|((with_reducible refine R.ld_arm HLd.out ?_ ?_);(· rfl))|(go_at_call 55;refine HD.out.mono ?_;intro e1 w1 hd1;obtain⟨a9,n9,c9,rfl,hbt,hfin⟩:=did_out HK0.out HB.out (Nat.le_succ _) hbW hd1;have HZ9:=hid (HZ.out.but hbt HNB.out);have HS9:=hid (HZ9.out.st rr.1 a9 n9 c9);have HL9:=hid (HZ9.out.lv rr.1 a9 n9 c9);have HFin:=hid hfin;clear hd1 hbt hfin)|((with_reducible refine st_arm HS9.out ?_ ?_ ?_);(· rfl);(· rfl)))
  exact bodyPost_ret (v:=rpV rr.1 a9 n9 c9) (by simp [results,Tryz.results30,asAddr,HL9.out]) rfl HFin.out
 rcases hcs with hk|hcs
 ·rw [hk] at x0 hR
  rw [if_neg (by decide)] at hR
  rw [if_neg (by decide)] at hR
  rw [if_neg (by decide)] at hR
  rw [if_neg (by decide)] at hR
  rw [if_neg (by decide)] at hR
  rw [if_neg (by decide)] at hR
  rw [if_pos rfl] at hR
  have HD:=hid (add_any k1 hf hcf c.by_ hby hh (cpO c) ⟨hi.hi,hi.lo⟩)
  rw [←hR] at HD
  unfold cpO cV at HD
  simp only at HD
  clear hR hk k k1 hi hi1 hf hcf hh hob hby hop hdl hix hgl hgp
  go_enter Tryz.func30,Tryz.ntmps30
  go_upto_region 1 with fail
  rw [←HW.out]
  go_wp2_with (first|((with_reducible refine R.ld_arm HLd.out ?_ ?_);(· rfl))|(go_at_call 56;refine HD.out.mono ?_;intro e1 w1 hd1;obtain⟨a9,n9,c9,rfl,hbt,hfin⟩:=did_out HK0.out HB.out (Nat.le_succ _) hbW hd1;have HZ9:=hid (HZ.out.but hbt HNB.out);have HS9:=hid (HZ9.out.st rr.1 a9 n9 c9);have HL9:=hid (HZ9.out.lv rr.1 a9 n9 c9);have HFin:=hid hfin;clear hd1 hbt hfin)|((with_reducible refine st_arm HS9.out ?_ ?_ ?_);(· rfl);(· rfl)))
  exact bodyPost_ret (v:=rpV rr.1 a9 n9 c9) (by simp [results,Tryz.results30,asAddr,HL9.out]) rfl HFin.out
 rcases hcs with hk|hcs
 ·rw [hk] at x0 hR
  rw [if_neg (by decide)] at hR
  rw [if_neg (by decide)] at hR
  rw [if_neg (by decide)] at hR
  rw [if_neg (by decide)] at hR
  rw [if_neg (by decide)] at hR
  rw [if_neg (by decide)] at hR
  rw [if_neg (by decide)] at hR
  rw [if_pos rfl] at hR
  obtain⟨ix,hixe⟩:∃ix:Nat,c.index=(ix:Int):=⟨c.index.toNat,by omega⟩
  have hixn:ix≤65536:=by omega
  rw [hixe] at hR x11
  have HD:=hid (remove_any k1 hf c.by_ hby hh ix hixn)
  rw [←hR] at HD
  clear hR hk k k1 hi hi1 hf hcf hh hob hby hop hdl hix hgl hgp
  go_enter Tryz.func30,Tryz.ntmps30
  go_upto_region 1 with fail
  rw [←HW.out]
  go_wp2_with (first|((with_reducible refine R.ld_arm HLd.out ?_ ?_);(· rfl))|(go_at_call 57;refine HD.out.mono ?_;intro e1 w1 hd1;obtain⟨a9,n9,c9,rfl,hbt,hfin⟩:=did_out HK0.out HB.out (Nat.le_succ _) hbW hd1;have HZ9:=hid (HZ.out.but hbt HNB.out);have HS9:=hid (HZ9.out.st rr.1 a9 n9 c9);have HL9:=hid (HZ9.out.lv rr.1 a9 n9 c9);have HFin:=hid hfin;clear hd1 hbt hfin)|((with_reducible refine st_arm HS9.out ?_ ?_ ?_);(· rfl);(· rfl)))
  exact bodyPost_ret (v:=rpV rr.1 a9 n9 c9) (by simp [results,Tryz.results30,asAddr,HL9.out]) rfl HFin.out
 rcases hcs with hk|hcs
 ·rw [hk] at x0 hR
  rw [if_neg (by decide)] at hR
  rw [if_neg (by decide)] at hR
  rw [if_neg (by decide)] at hR
  rw [if_neg (by decide)] at hR
  rw [if_neg (by decide)] at hR
  rw [if_neg (by decide)] at hR
  rw [if_neg (by decide)] at hR
  rw [if_neg (by decide)] at hR
  rw [if_pos rfl] at hR
  have HD:=hid (spawn_any k1 hf c.by_ hby hi1.gifts hgl hgp)
  rw [←hR] at HD
  clear hR hk k k1 hi hi1 hf hcf hh hob hby hop hdl hix hgl hgp
  go_enter Tryz.func30,Tryz.ntmps30
  go_upto_region 1 with fail
  rw [←HW.out]
  go_wp2_with (first|((with_reducible refine R.ld_arm HLd.out ?_ ?_);(· rfl))|(go_at_call 58;refine HD.out.mono ?_;intro e1 w1 hd1;obtain⟨a9,n9,c9,rfl,hbt,hfin⟩:=did_out HK0.out HB.out (Nat.le_succ _) hbW hd1;have HZ9:=hid (HZ.out.but hbt HNB.out);have HS9:=hid (HZ9.out.st rr.1 a9 n9 c9);have HL9:=hid (HZ9.out.lv rr.1 a9 n9 c9);have HFin:=hid hfin;clear hd1 hbt hfin)|((with_reducible refine st_arm HS9.out ?_ ?_ ?_);(· rfl);(· rfl)))
  exact bodyPost_ret (v:=rpV rr.1 a9 n9 c9) (by simp [results,Tryz.results30,asAddr,HL9.out]) rfl HFin.out
 ·have hk:=hcs
  rw [hk] at x0 hR
  rw [if_neg (by decide)] at hR
  rw [if_neg (by decide)] at hR
  rw [if_neg (by decide)] at hR
  rw [if_neg (by decide)] at hR
  rw [if_neg (by decide)] at hR
  rw [if_neg (by decide)] at hR
  rw [if_neg (by decide)] at hR
  rw [if_neg (by decide)] at hR
  rw [if_neg (by decide)] at hR
  have HD:=hid (exit_any k1 c.by_ hby)
  rw [←hR] at HD
  clear hR hk k k1 hi hi1 hf hcf hh hob hby hop hdl hix hgl hgp
  go_enter Tryz.func30,Tryz.ntmps30
  go_upto_region 1 with fail
  rw [←HW.out]
  go_wp2_with (first|((with_reducible refine R.ld_arm HLd.out ?_ ?_);(· rfl))|(go_at_call 59;refine HD.out.mono ?_;intro e1 w1 hd1;obtain⟨a9,n9,c9,rfl,hbt,hfin⟩:=did_out HK0.out HB.out (Nat.le_succ _) hbW hd1;have HZ9:=hid (HZ.out.but hbt HNB.out);have HS9:=hid (HZ9.out.st rr.1 a9 n9 c9);have HL9:=hid (HZ9.out.lv rr.1 a9 n9 c9);have HFin:=hid hfin;clear hd1 hbt hfin)|((with_reducible refine st_arm HS9.out ?_ ?_ ?_);(· rfl);(· rfl)))
  exact bodyPost_ret (v:=rpV rr.1 a9 n9 c9) (by simp [results,Tryz.results30,asAddr,HL9.out]) rfl HFin.out
end
end Go.Proofs.YtffmodpgddecnaaGreat.V.E
namespace Go.Proofs.YtffmodpgddecnaaGreat.V.E
open Go.RowKit Go.Maps
open Go.Proofs.YtffmodpgddecnaaGreat.H (B64 Cp)
open Go.Proofs.YtffmodpgddecnaaGreat.R (wi sgB gfB inB wmB)
theorem all_take (G:List Int)(i:Nat)(h:i<G.length)(f:Int→Bool):(G.take (i+1)).all f=((G.take i).all f&&f G[i]):=by
 rw [List.take_succ_eq_append_getElem h,List.all_append]
 simp
set_option maxRecDepth 100000 in
set_option maxHeartbeats 4000000 in
theorem areGifts_any (a:Option Addr)(n cap:Nat)(G:List Int)(w:World)(h:R.RI w a n cap G):Calls Tryz.prog 65 #[.slice a n cap] w fun e w'=>e=.returned (.bool (gfB G))∧w'=w:=by
 have hlen:=h.len
 by_cases hl:n≤255
 ·have hd:decide ((n:Int)>255)=false:=by simp;omega
  have hd2:decide ((255:Int)<(n:Int))=false:=by simp;omega
  have E:Hid (gfB G=G.all (fun g=>wi g 0 65535)):=by unfold Hid gfB;rw [decide_eq_true (by omega),Bool.true_and]
  have H:Hid (R.RI w a n cap G):=h
  have HL:Hid (G.length=n):=hlen
  clear h hlen
  go_enter Tryz.func65,Tryz.ntmps65
  go_wp2
  go_loop [10] (fun t=>∃i:Nat,i≤n∧t=.int .i64 (i:Int)∧(G.take i).all (fun g=>wi g 0 65535)=true) (fun t=>n - (intOf t).toNat)
  case atStart=>exact⟨0,by omega,rfl,by simp⟩
  case round =>
   obtain⟨i,hi,rfl,ht⟩:=hrel
   have HT:Hid ((G.take i).all (fun g=>wi g 0 65535)=true):=ht
   clear ht
   have ei:IntKind.i64.wrap ((i:Int)+1)=(i:Int)+1:=by rw [IntKind.wrap_i64];omega
   by_cases hlt:i<n
   ·have hdi:decide ((i:Int)<(n:Int))=true:=by simp;omega
    obtain⟨b,o,rfl,hc⟩:=H.out.plain (by omega)
    have hiG:i<G.length:=by have:=HL.out;omega
    have hcell:=hc i hiG
    have HA:Hid _:=all_take G i hiG (fun g=>wi g 0 65535)
    have HG:Hid (G[i]∈G):=List.getElem_mem hiG
    generalize G[i]=x at hcell HA HG
    clear hc
    by_cases hx:wi x 0 65535=true
    ·have HA2:Hid ((G.take (i+1)).all (fun g=>wi g 0 65535)=true):=by have:=HA.out;unfold Hid;rw [this,HT.out];simpa using hx
     clear HA HG
     go_wp2_with (first|(go_at_call 36;refine (within_any x 0 65535 _).mono ?_;rintro e w1 ⟨rfl,rfl⟩;rw [hx]))
     exact⟨⟨i+1,by omega,by go_num,HA2.out⟩,by simp [intOf];omega⟩
    ·have hx':wi x 0 65535=false:=by simpa using hx
     have E2:Hid (gfB G=false):=by
      unfold Hid
      rw [E.out,List.all_eq_false]
      exact⟨x,HG.out,by rw [hx'];simp⟩
     clear HA HG hx
     go_wp2_with (first|(go_at_call 36;refine (within_any x 0 65535 _).mono ?_;rintro e w1 ⟨rfl,rfl⟩;rw [hx']))
     go_ret
     exact⟨ret_bool E2.out.symm,rfl⟩
   ·obtain rfl:i=n:=by omega
    have E2:Hid (gfB G=true):=by
     have:=HT.out
     rw [List.take_of_length_le (by have:=HL.out;omega)] at this
     unfold Hid
     rw [E.out,this]
    go_wp2
    go_ret
    exact⟨ret_bool E2.out.symm,rfl⟩
 ·have hd:decide ((n:Int)>255)=true:=by simp;omega
  have hd2:decide ((255:Int)<(n:Int))=true:=by simp;omega
  have E:Hid (gfB G=false):=by unfold Hid gfB;rw [decide_eq_false (by omega),Bool.false_and]
  clear h hlen
  go_enter Tryz.func65,Tryz.ntmps65
  go_wp2
  go_ret
  exact⟨ret_bool E.out.symm,rfl⟩
set_option maxRecDepth 100000 in
theorem ws8:∀x1 x2 x3 x4 x5 x6 x7 x8:Bool,(x1=false)∨(x1=true∧x2=false)∨(x1=true∧x2=true∧x3=false)∨(x1=true∧x2=true∧x3=true∧x4=false)∨(x1=true∧x2=true∧x3=true∧x4=true∧x5=false)∨(x1=true∧x2=true∧x3=true∧x4=true∧x5=true∧x6=false)∨(x1=true∧x2=true∧x3=true∧x4=true∧x5=true∧x6=true∧x7=false)∨(x1=true∧x2=true∧x3=true∧x4=true∧x5=true∧x6=true∧x7=true∧x8=false)∨(x1=true∧x2=true∧x3=true∧x4=true∧x5=true∧x6=true∧x7=true∧x8=true):=by rintro (_|_) (_|_) (_|_) (_|_) (_|_) (_|_) (_|_) (_|_)<;>simp
def ibB (cl:R.Cl):Bool:=sgB cl.size&&sgB cl.off&&sgB cl.n&&wi cl.obj 0 4611686018427387904&&wi cl.rights 0 255&&decide (cl.data.length≤1025)&&wi cl.index 0 65535&&gfB cl.gifts
set_option maxRecDepth 100000 in
set_option maxHeartbeats 4000000 in
theorem inBounds_any {cl:R.Cl}{dd gg:R.Sl}{w:World}(h:R.Is w cl dd gg):Calls Tryz.prog 45 #[.agg (R.cC cl dd gg).toArray] w fun e w'=>e=.returned (.bool (ibB cl))∧Below w.heap.size w w':=by
 obtain⟨op,by_,size,obj,hi,lo,given,rights,off,n,data,index,gifts⟩:=cl
 obtain⟨da,dn,dc⟩:=dd
 obtain⟨ga,gn,gc⟩:=gg
 have hdl:data.length=dn:=h.data.len
 have HG:Hid (∀o,R.RI (w.alloc o) ga gn gc gifts):=fun o=>h.gifts.later (below1 _ _)
 have HD:decide (data.length≤1025)=decide ((dn:Int)≤1025):=by rw [hdl,Bool.eq_iff_iff];simp only [decide_eq_true_eq];omega
 unfold ibB
 simp only [HD]
 clear h hdl HD
 obtain⟨x1,F1⟩:∃x,sgB size=x:=⟨_,rfl⟩
 obtain⟨x2,F2⟩:∃x,sgB off=x:=⟨_,rfl⟩
 obtain⟨x3,F3⟩:∃x,sgB n=x:=⟨_,rfl⟩
 obtain⟨x4,F4⟩:∃x,wi obj 0 4611686018427387904=x:=⟨_,rfl⟩
 obtain⟨x5,F5⟩:∃x,wi rights 0 255=x:=⟨_,rfl⟩
 obtain⟨x6,F6⟩:∃x,decide ((dn:Int)≤1025)=x:=⟨_,rfl⟩
 obtain⟨x7,F7⟩:∃x,wi index 0 65535=x:=⟨_,rfl⟩
 obtain⟨x8,F8⟩:∃x,gfB gifts=x:=⟨_,rfl⟩
 rw [F1,F2,F3,F4,F5,F6,F7,F8]
 obtain⟨r,hr⟩:∃r,r=(x1&&x2&&x3&&x4&&x5&&x6&&x7&&x8):=⟨_,rfl⟩
 rw [←hr]
 have HR:=hid hr
 clear hr
 unfold R.cC R.Sl.v
 rcases ws8 x1 x2 x3 x4 x5 x6 x7 x8 with rfl|⟨rfl,rfl⟩|⟨rfl,rfl,rfl⟩|⟨rfl,rfl,rfl,rfl⟩|⟨rfl,rfl,rfl,rfl,rfl⟩|⟨rfl,rfl,rfl,rfl,rfl,rfl⟩|⟨rfl,rfl,rfl,rfl,rfl,rfl,rfl⟩|⟨rfl,rfl,rfl,rfl,rfl,rfl,rfl,rfl⟩|⟨rfl,rfl,rfl,rfl,rfl,rfl,rfl,rfl⟩
 all_goals
  go_enter Tryz.func45,Tryz.ntmps45
  go_wp2_with (first|(go_at_call 36;refine (within_any _ _ _ _).mono ?_;rintro e w1 ⟨rfl,rfl⟩;simp only [F1,F2,F3,F4,F5,F6,F7,F8])|(go_at_call 64;refine (is32_any _ _).mono ?_;rintro e w1 ⟨rfl,rfl⟩;simp only [F1,F2,F3,F4,F5,F6,F7,F8])|(go_at_call 65;refine (areGifts_any _ _ _ gifts _ (HG.out _)).mono ?_;rintro e w1 ⟨rfl,rfl⟩;simp only [F1,F2,F3,F4,F5,F6,F7,F8]))
  go_ret
  exact⟨ret_bool (by have:=HR.out;simpa using this.symm),below1 _ _⟩
end Go.Proofs.YtffmodpgddecnaaGreat.V.E
namespace Go.Proofs.YtffmodpgddecnaaGreat.V.E
open Go.RowKit Go.Maps
open Go.Proofs.YtffmodpgddecnaaGreat.H (B64 Cp)
def ouB (cl:R.Cl):Bool:=(decide (cl.size=0)||decide (cl.op=1))&&(decide ((cl.obj,cl.hi,cl.lo)=((0,0,0):Cp))||ucB cl.op)&&(!cl.given||mvB cl.op)&&(decide (cl.rights=0)||decide (cl.op=3))&&(decide (cl.off=0)||mvB cl.op)&&(decide (cl.n=0)||decide (cl.op=5))&&(decide (cl.data.length=0)||decide (cl.op=6))&&(decide (cl.index=0)||decide (cl.op=8))&&(decide (cl.gifts.length=0)||decide (cl.op=9))
theorem beq_dec (a b:Int):decide (a=b)=(a==b):=Bool.eq_iff_iff.2 (by simp)
theorem nat_dec (a:Nat):decide (a=0)=((a:Int)==0):=Bool.eq_iff_iff.2 (by simp)
end Go.Proofs.YtffmodpgddecnaaGreat.V.E
namespace Go.Proofs.YtffmodpgddecnaaGreat.V.E
open Go.RowKit Go.Maps
open Go.Proofs.YtffmodpgddecnaaGreat.H (B64 Cp)
set_option maxRecDepth 1000000 in
set_option maxHeartbeats 4000000 in
theorem wo0:∀x1 x2 x3 x4 x5 x6 x7 x8 x9:Bool,(x1=false)∨(x1=true∧x2=false)∨(x1=true∧x2=true∧x3=false)∨(x1=true∧x2=true∧x3=true∧x4=false)∨(x1=true∧x2=true∧x3=true∧x4=true∧x5=false)∨(x1=true∧x2=true∧x3=true∧x4=true∧x5=true∧x6=false)∨(x1=true∧x2=true∧x3=true∧x4=true∧x5=true∧x6=true∧x7=false)∨(x1=true∧x2=true∧x3=true∧x4=true∧x5=true∧x6=true∧x7=true∧x8=false)∨(x1=true∧x2=true∧x3=true∧x4=true∧x5=true∧x6=true∧x7=true∧x8=true∧x9=false)∨(x1=true∧x2=true∧x3=true∧x4=true∧x5=true∧x6=true∧x7=true∧x8=true∧x9=true):=by rintro (_|_) (_|_) (_|_) (_|_) (_|_) (_|_) (_|_) (_|_) (_|_)<;>simp
set_option maxRecDepth 100000 in
set_option maxHeartbeats 40000000 in
theorem onlyUsed_0 {cl:R.Cl}{dd gg:R.Sl}{w:World}(h:R.Is w cl dd gg)(ho:cl.op=10):Calls Tryz.prog 46 #[.agg (R.cC cl dd gg).toArray] w fun e w'=>e=.returned (.bool (ouB cl))∧Below w.heap.size w w':=by
 obtain⟨op,by_,size,obj,hi,lo,given,rights,off,n,data,index,gifts⟩:=cl
 obtain⟨da,dn,dc⟩:=dd
 obtain⟨ga,gn,gc⟩:=gg
 have hdl:data.length=dn:=h.data.len
 have hgl:gifts.length=gn:=h.gifts.len
 simp only at ho
 have D1:(op==1)=false:=by subst ho;decide
 have D4:(op==3)=false:=by subst ho;decide
 have D5:(op==5)=false:=by subst ho;decide
 have D6:(op==6)=false:=by subst ho;decide
 have D7:(op==8)=false:=by subst ho;decide
 have D8:(op==9)=false:=by subst ho;decide
 have UC:ucB op=false:=by subst ho;decide
 have MV:mvB op=false:=by subst ho;decide
 unfold ouB
 simp only [beq_dec,hdl,hgl,nat_dec,D1,D4,D5,D6,D7,D8,UC,MV]
 obtain⟨x1,F1⟩:∃x,(size==0)=x:=⟨_,rfl⟩
 obtain⟨x4,F4⟩:∃x,(rights==0)=x:=⟨_,rfl⟩
 obtain⟨x5,F5⟩:∃x,(off==0)=x:=⟨_,rfl⟩
 obtain⟨x6,F6⟩:∃x,(n==0)=x:=⟨_,rfl⟩
 obtain⟨x7,F7⟩:∃x,((dn:Int)==0)=x:=⟨_,rfl⟩
 obtain⟨x8,F8⟩:∃x,(index==0)=x:=⟨_,rfl⟩
 obtain⟨x9,F9⟩:∃x,((gn:Int)==0)=x:=⟨_,rfl⟩
 obtain⟨x2,F2⟩:∃x,decide ((obj,hi,lo)=((0,0,0):Cp))=x:=⟨_,rfl⟩
 obtain⟨x3,hx3⟩:∃x,given=!x:=⟨!given,by simp⟩
 subst hx3
 have F3:(!!x3)=x3:=by simp
 have heq:∀U:World,(binOp .eql 38 (.agg #[.int .i64 obj,.int .u64 (hi:Int),.int .u64 (lo:Int)]) (.agg #[.int .i64 0,.int .u64 0,.int .u64 0])).run Tryz.prog U=.ok (.bool x2) U:=fun U=>by rw [←F2];exact K.eqlCp (obj,hi,lo) (0,0,0) U
 rw [F1,F2,F3,F4,F5,F6,F7,F8,F9]
 obtain⟨r,hr⟩:∃r,r=((x1||false)&&(x2||false)&&(x3||false)&&(x4||false)&&(x5||false)&&(x6||false)&&(x7||false)&&(x8||false)&&(x9||false)):=⟨_,rfl⟩
 rw [←hr]
 have HR:=hid hr
 clear hr hdl hgl h ho F2 F3
 unfold R.cC R.Sl.v
 rcases wo0 x1 x2 x3 x4 x5 x6 x7 x8 x9 with rfl|⟨rfl,rfl⟩|⟨rfl,rfl,rfl⟩|⟨rfl,rfl,rfl,rfl⟩|⟨rfl,rfl,rfl,rfl,rfl⟩|⟨rfl,rfl,rfl,rfl,rfl,rfl⟩|⟨rfl,rfl,rfl,rfl,rfl,rfl,rfl⟩|⟨rfl,rfl,rfl,rfl,rfl,rfl,rfl,rfl⟩|⟨rfl,rfl,rfl,rfl,rfl,rfl,rfl,rfl,rfl⟩|⟨rfl,rfl,rfl,rfl,rfl,rfl,rfl,rfl,rfl⟩
 all_goals
  go_enter Tryz.func46,Tryz.ntmps46
  go_upto_region 1 with fail
  simp only [List.append]
  go_wp2_with (first|(go_at_call 66;refine (usesCap_any _ _).mono ?_;rintro e w1 ⟨rfl,rfl⟩;simp only [UC])|(go_at_call 67;refine (isMove_any _ _).mono ?_;rintro e w1 ⟨rfl,rfl⟩;simp only [MV]))
  go_ret
  exact⟨ret_bool (by have:=HR.out;simpa using this.symm),below1 _ _⟩
end Go.Proofs.YtffmodpgddecnaaGreat.V.E
namespace Go.Proofs.YtffmodpgddecnaaGreat.V.E
open Go.RowKit Go.Maps
open Go.Proofs.YtffmodpgddecnaaGreat.H (B64 Cp)
set_option maxRecDepth 1000000 in
set_option maxHeartbeats 4000000 in
theorem wo1:∀x1 x2 x3 x4 x5 x6 x7 x8 x9:Bool,(x1=false∧x2=false)∨(x1=false∧x2=true∧x3=false)∨(x1=false∧x2=true∧x3=true∧x4=false)∨(x1=false∧x2=true∧x3=true∧x4=true∧x5=false)∨(x1=false∧x2=true∧x3=true∧x4=true∧x5=true∧x6=false)∨(x1=false∧x2=true∧x3=true∧x4=true∧x5=true∧x6=true∧x7=false)∨(x1=false∧x2=true∧x3=true∧x4=true∧x5=true∧x6=true∧x7=true∧x8=false)∨(x1=false∧x2=true∧x3=true∧x4=true∧x5=true∧x6=true∧x7=true∧x8=true∧x9=false)∨(x1=false∧x2=true∧x3=true∧x4=true∧x5=true∧x6=true∧x7=true∧x8=true∧x9=true)∨(x1=true∧x2=false)∨(x1=true∧x2=true∧x3=false)∨(x1=true∧x2=true∧x3=true∧x4=false)∨(x1=true∧x2=true∧x3=true∧x4=true∧x5=false)∨(x1=true∧x2=true∧x3=true∧x4=true∧x5=true∧x6=false)∨(x1=true∧x2=true∧x3=true∧x4=true∧x5=true∧x6=true∧x7=false)∨(x1=true∧x2=true∧x3=true∧x4=true∧x5=true∧x6=true∧x7=true∧x8=false)∨(x1=true∧x2=true∧x3=true∧x4=true∧x5=true∧x6=true∧x7=true∧x8=true∧x9=false)∨(x1=true∧x2=true∧x3=true∧x4=true∧x5=true∧x6=true∧x7=true∧x8=true∧x9=true):=by rintro (_|_) (_|_) (_|_) (_|_) (_|_) (_|_) (_|_) (_|_) (_|_)<;>simp
set_option maxRecDepth 100000 in
set_option maxHeartbeats 40000000 in
theorem onlyUsed_1 {cl:R.Cl}{dd gg:R.Sl}{w:World}(h:R.Is w cl dd gg)(ho:cl.op=1):Calls Tryz.prog 46 #[.agg (R.cC cl dd gg).toArray] w fun e w'=>e=.returned (.bool (ouB cl))∧Below w.heap.size w w':=by
 obtain⟨op,by_,size,obj,hi,lo,given,rights,off,n,data,index,gifts⟩:=cl
 obtain⟨da,dn,dc⟩:=dd
 obtain⟨ga,gn,gc⟩:=gg
 have hdl:data.length=dn:=h.data.len
 have hgl:gifts.length=gn:=h.gifts.len
 simp only at ho
 have D1:(op==1)=true:=by subst ho;decide
 have D4:(op==3)=false:=by subst ho;decide
 have D5:(op==5)=false:=by subst ho;decide
 have D6:(op==6)=false:=by subst ho;decide
 have D7:(op==8)=false:=by subst ho;decide
 have D8:(op==9)=false:=by subst ho;decide
 have UC:ucB op=false:=by subst ho;decide
 have MV:mvB op=false:=by subst ho;decide
 unfold ouB
 simp only [beq_dec,hdl,hgl,nat_dec,D1,D4,D5,D6,D7,D8,UC,MV]
 obtain⟨x1,F1⟩:∃x,(size==0)=x:=⟨_,rfl⟩
 obtain⟨x4,F4⟩:∃x,(rights==0)=x:=⟨_,rfl⟩
 obtain⟨x5,F5⟩:∃x,(off==0)=x:=⟨_,rfl⟩
 obtain⟨x6,F6⟩:∃x,(n==0)=x:=⟨_,rfl⟩
 obtain⟨x7,F7⟩:∃x,((dn:Int)==0)=x:=⟨_,rfl⟩
 obtain⟨x8,F8⟩:∃x,(index==0)=x:=⟨_,rfl⟩
 obtain⟨x9,F9⟩:∃x,((gn:Int)==0)=x:=⟨_,rfl⟩
 obtain⟨x2,F2⟩:∃x,decide ((obj,hi,lo)=((0,0,0):Cp))=x:=⟨_,rfl⟩
 obtain⟨x3,hx3⟩:∃x,given=!x:=⟨!given,by simp⟩
 subst hx3
 have F3:(!!x3)=x3:=by simp
 have heq:∀U:World,(binOp .eql 38 (.agg #[.int .i64 obj,.int .u64 (hi:Int),.int .u64 (lo:Int)]) (.agg #[.int .i64 0,.int .u64 0,.int .u64 0])).run Tryz.prog U=.ok (.bool x2) U:=fun U=>by rw [←F2];exact K.eqlCp (obj,hi,lo) (0,0,0) U
 rw [F1,F2,F3,F4,F5,F6,F7,F8,F9]
 obtain⟨r,hr⟩:∃r,r=((x1||true)&&(x2||false)&&(x3||false)&&(x4||false)&&(x5||false)&&(x6||false)&&(x7||false)&&(x8||false)&&(x9||false)):=⟨_,rfl⟩
 rw [←hr]
 have HR:=hid hr
 clear hr hdl hgl h ho F2 F3
 unfold R.cC R.Sl.v
 rcases wo1 x1 x2 x3 x4 x5 x6 x7 x8 x9 with ⟨rfl,rfl⟩|⟨rfl,rfl,rfl⟩|⟨rfl,rfl,rfl,rfl⟩|⟨rfl,rfl,rfl,rfl,rfl⟩|⟨rfl,rfl,rfl,rfl,rfl,rfl⟩|⟨rfl,rfl,rfl,rfl,rfl,rfl,rfl⟩|⟨rfl,rfl,rfl,rfl,rfl,rfl,rfl,rfl⟩|⟨rfl,rfl,rfl,rfl,rfl,rfl,rfl,rfl,rfl⟩|⟨rfl,rfl,rfl,rfl,rfl,rfl,rfl,rfl,rfl⟩|⟨rfl,rfl⟩|⟨rfl,rfl,rfl⟩|⟨rfl,rfl,rfl,rfl⟩|⟨rfl,rfl,rfl,rfl,rfl⟩|⟨rfl,rfl,rfl,rfl,rfl,rfl⟩|⟨rfl,rfl,rfl,rfl,rfl,rfl,rfl⟩|⟨rfl,rfl,rfl,rfl,rfl,rfl,rfl,rfl⟩|⟨rfl,rfl,rfl,rfl,rfl,rfl,rfl,rfl,rfl⟩|⟨rfl,rfl,rfl,rfl,rfl,rfl,rfl,rfl,rfl⟩
 all_goals
  go_enter Tryz.func46,Tryz.ntmps46
  go_upto_region 1 with fail
  simp only [List.append]
  go_wp2_with (first|(go_at_call 66;refine (usesCap_any _ _).mono ?_;rintro e w1 ⟨rfl,rfl⟩;simp only [UC])|(go_at_call 67;refine (isMove_any _ _).mono ?_;rintro e w1 ⟨rfl,rfl⟩;simp only [MV]))
  go_ret
  exact⟨ret_bool (by have:=HR.out;simpa using this.symm),below1 _ _⟩
end Go.Proofs.YtffmodpgddecnaaGreat.V.E
namespace Go.Proofs.YtffmodpgddecnaaGreat.V.E
open Go.RowKit Go.Maps
open Go.Proofs.YtffmodpgddecnaaGreat.H (B64 Cp)
set_option maxRecDepth 1000000 in
set_option maxHeartbeats 4000000 in
theorem wo2:∀x1 x2 x3 x4 x5 x6 x7 x8 x9:Bool,(x1=false)∨(x1=true∧x2=false∧x3=false)∨(x1=true∧x2=false∧x3=true∧x4=false)∨(x1=true∧x2=false∧x3=true∧x4=true∧x5=false)∨(x1=true∧x2=false∧x3=true∧x4=true∧x5=true∧x6=false)∨(x1=true∧x2=false∧x3=true∧x4=true∧x5=true∧x6=true∧x7=false)∨(x1=true∧x2=false∧x3=true∧x4=true∧x5=true∧x6=true∧x7=true∧x8=false)∨(x1=true∧x2=false∧x3=true∧x4=true∧x5=true∧x6=true∧x7=true∧x8=true∧x9=false)∨(x1=true∧x2=false∧x3=true∧x4=true∧x5=true∧x6=true∧x7=true∧x8=true∧x9=true)∨(x1=true∧x2=true∧x3=false)∨(x1=true∧x2=true∧x3=true∧x4=false)∨(x1=true∧x2=true∧x3=true∧x4=true∧x5=false)∨(x1=true∧x2=true∧x3=true∧x4=true∧x5=true∧x6=false)∨(x1=true∧x2=true∧x3=true∧x4=true∧x5=true∧x6=true∧x7=false)∨(x1=true∧x2=true∧x3=true∧x4=true∧x5=true∧x6=true∧x7=true∧x8=false)∨(x1=true∧x2=true∧x3=true∧x4=true∧x5=true∧x6=true∧x7=true∧x8=true∧x9=false)∨(x1=true∧x2=true∧x3=true∧x4=true∧x5=true∧x6=true∧x7=true∧x8=true∧x9=true):=by rintro (_|_) (_|_) (_|_) (_|_) (_|_) (_|_) (_|_) (_|_) (_|_)<;>simp
set_option maxRecDepth 100000 in
set_option maxHeartbeats 40000000 in
theorem onlyUsed_2 {cl:R.Cl}{dd gg:R.Sl}{w:World}(h:R.Is w cl dd gg)(ho:cl.op=2∨cl.op=4∨cl.op=7):Calls Tryz.prog 46 #[.agg (R.cC cl dd gg).toArray] w fun e w'=>e=.returned (.bool (ouB cl))∧Below w.heap.size w w':=by
 obtain⟨op,by_,size,obj,hi,lo,given,rights,off,n,data,index,gifts⟩:=cl
 obtain⟨da,dn,dc⟩:=dd
 obtain⟨ga,gn,gc⟩:=gg
 have hdl:data.length=dn:=h.data.len
 have hgl:gifts.length=gn:=h.gifts.len
 simp only at ho
 have D1:(op==1)=false:=by rcases ho with rfl|rfl|rfl<;>decide
 have D4:(op==3)=false:=by rcases ho with rfl|rfl|rfl<;>decide
 have D5:(op==5)=false:=by rcases ho with rfl|rfl|rfl<;>decide
 have D6:(op==6)=false:=by rcases ho with rfl|rfl|rfl<;>decide
 have D7:(op==8)=false:=by rcases ho with rfl|rfl|rfl<;>decide
 have D8:(op==9)=false:=by rcases ho with rfl|rfl|rfl<;>decide
 have UC:ucB op=true:=by rcases ho with rfl|rfl|rfl<;>decide
 have MV:mvB op=false:=by rcases ho with rfl|rfl|rfl<;>decide
 unfold ouB
 simp only [beq_dec,hdl,hgl,nat_dec,D1,D4,D5,D6,D7,D8,UC,MV]
 obtain⟨x1,F1⟩:∃x,(size==0)=x:=⟨_,rfl⟩
 obtain⟨x4,F4⟩:∃x,(rights==0)=x:=⟨_,rfl⟩
 obtain⟨x5,F5⟩:∃x,(off==0)=x:=⟨_,rfl⟩
 obtain⟨x6,F6⟩:∃x,(n==0)=x:=⟨_,rfl⟩
 obtain⟨x7,F7⟩:∃x,((dn:Int)==0)=x:=⟨_,rfl⟩
 obtain⟨x8,F8⟩:∃x,(index==0)=x:=⟨_,rfl⟩
 obtain⟨x9,F9⟩:∃x,((gn:Int)==0)=x:=⟨_,rfl⟩
 obtain⟨x2,F2⟩:∃x,decide ((obj,hi,lo)=((0,0,0):Cp))=x:=⟨_,rfl⟩
 obtain⟨x3,hx3⟩:∃x,given=!x:=⟨!given,by simp⟩
 subst hx3
 have F3:(!!x3)=x3:=by simp
 have heq:∀U:World,(binOp .eql 38 (.agg #[.int .i64 obj,.int .u64 (hi:Int),.int .u64 (lo:Int)]) (.agg #[.int .i64 0,.int .u64 0,.int .u64 0])).run Tryz.prog U=.ok (.bool x2) U:=fun U=>by rw [←F2];exact K.eqlCp (obj,hi,lo) (0,0,0) U
 rw [F1,F2,F3,F4,F5,F6,F7,F8,F9]
 obtain⟨r,hr⟩:∃r,r=((x1||false)&&(x2||true)&&(x3||false)&&(x4||false)&&(x5||false)&&(x6||false)&&(x7||false)&&(x8||false)&&(x9||false)):=⟨_,rfl⟩
 rw [←hr]
 have HR:=hid hr
 clear hr hdl hgl h ho F2 F3
 unfold R.cC R.Sl.v
 rcases wo2 x1 x2 x3 x4 x5 x6 x7 x8 x9 with rfl|⟨rfl,rfl,rfl⟩|⟨rfl,rfl,rfl,rfl⟩|⟨rfl,rfl,rfl,rfl,rfl⟩|⟨rfl,rfl,rfl,rfl,rfl,rfl⟩|⟨rfl,rfl,rfl,rfl,rfl,rfl,rfl⟩|⟨rfl,rfl,rfl,rfl,rfl,rfl,rfl,rfl⟩|⟨rfl,rfl,rfl,rfl,rfl,rfl,rfl,rfl,rfl⟩|⟨rfl,rfl,rfl,rfl,rfl,rfl,rfl,rfl,rfl⟩|⟨rfl,rfl,rfl⟩|⟨rfl,rfl,rfl,rfl⟩|⟨rfl,rfl,rfl,rfl,rfl⟩|⟨rfl,rfl,rfl,rfl,rfl,rfl⟩|⟨rfl,rfl,rfl,rfl,rfl,rfl,rfl⟩|⟨rfl,rfl,rfl,rfl,rfl,rfl,rfl,rfl⟩|⟨rfl,rfl,rfl,rfl,rfl,rfl,rfl,rfl,rfl⟩|⟨rfl,rfl,rfl,rfl,rfl,rfl,rfl,rfl,rfl⟩
 all_goals
  go_enter Tryz.func46,Tryz.ntmps46
  go_upto_region 1 with fail
  simp only [List.append]
  go_wp2_with (first|(go_at_call 66;refine (usesCap_any _ _).mono ?_;rintro e w1 ⟨rfl,rfl⟩;simp only [UC])|(go_at_call 67;refine (isMove_any _ _).mono ?_;rintro e w1 ⟨rfl,rfl⟩;simp only [MV]))
  go_ret
  exact⟨ret_bool (by have:=HR.out;simpa using this.symm),below1 _ _⟩
end Go.Proofs.YtffmodpgddecnaaGreat.V.E
namespace Go.Proofs.YtffmodpgddecnaaGreat.V.E
open Go.RowKit Go.Maps
open Go.Proofs.YtffmodpgddecnaaGreat.H (B64 Cp)
set_option maxRecDepth 1000000 in
set_option maxHeartbeats 4000000 in
theorem wo3:∀x1 x2 x3 x4 x5 x6 x7 x8 x9:Bool,(x1=false)∨(x1=true∧x2=false∧x3=false)∨(x1=true∧x2=false∧x3=true∧x4=false∧x5=false)∨(x1=true∧x2=false∧x3=true∧x4=false∧x5=true∧x6=false)∨(x1=true∧x2=false∧x3=true∧x4=false∧x5=true∧x6=true∧x7=false)∨(x1=true∧x2=false∧x3=true∧x4=false∧x5=true∧x6=true∧x7=true∧x8=false)∨(x1=true∧x2=false∧x3=true∧x4=false∧x5=true∧x6=true∧x7=true∧x8=true∧x9=false)∨(x1=true∧x2=false∧x3=true∧x4=false∧x5=true∧x6=true∧x7=true∧x8=true∧x9=true)∨(x1=true∧x2=false∧x3=true∧x4=true∧x5=false)∨(x1=true∧x2=false∧x3=true∧x4=true∧x5=true∧x6=false)∨(x1=true∧x2=false∧x3=true∧x4=true∧x5=true∧x6=true∧x7=false)∨(x1=true∧x2=false∧x3=true∧x4=true∧x5=true∧x6=true∧x7=true∧x8=false)∨(x1=true∧x2=false∧x3=true∧x4=true∧x5=true∧x6=true∧x7=true∧x8=true∧x9=false)∨(x1=true∧x2=false∧x3=true∧x4=true∧x5=true∧x6=true∧x7=true∧x8=true∧x9=true)∨(x1=true∧x2=true∧x3=false)∨(x1=true∧x2=true∧x3=true∧x4=false∧x5=false)∨(x1=true∧x2=true∧x3=true∧x4=false∧x5=true∧x6=false)∨(x1=true∧x2=true∧x3=true∧x4=false∧x5=true∧x6=true∧x7=false)∨(x1=true∧x2=true∧x3=true∧x4=false∧x5=true∧x6=true∧x7=true∧x8=false)∨(x1=true∧x2=true∧x3=true∧x4=false∧x5=true∧x6=true∧x7=true∧x8=true∧x9=false)∨(x1=true∧x2=true∧x3=true∧x4=false∧x5=true∧x6=true∧x7=true∧x8=true∧x9=true)∨(x1=true∧x2=true∧x3=true∧x4=true∧x5=false)∨(x1=true∧x2=true∧x3=true∧x4=true∧x5=true∧x6=false)∨(x1=true∧x2=true∧x3=true∧x4=true∧x5=true∧x6=true∧x7=false)∨(x1=true∧x2=true∧x3=true∧x4=true∧x5=true∧x6=true∧x7=true∧x8=false)∨(x1=true∧x2=true∧x3=true∧x4=true∧x5=true∧x6=true∧x7=true∧x8=true∧x9=false)∨(x1=true∧x2=true∧x3=true∧x4=true∧x5=true∧x6=true∧x7=true∧x8=true∧x9=true):=by rintro (_|_) (_|_) (_|_) (_|_) (_|_) (_|_) (_|_) (_|_) (_|_)<;>simp
set_option maxRecDepth 100000 in
set_option maxHeartbeats 40000000 in
theorem onlyUsed_3 {cl:R.Cl}{dd gg:R.Sl}{w:World}(h:R.Is w cl dd gg)(ho:cl.op=3):Calls Tryz.prog 46 #[.agg (R.cC cl dd gg).toArray] w fun e w'=>e=.returned (.bool (ouB cl))∧Below w.heap.size w w':=by
 obtain⟨op,by_,size,obj,hi,lo,given,rights,off,n,data,index,gifts⟩:=cl
 obtain⟨da,dn,dc⟩:=dd
 obtain⟨ga,gn,gc⟩:=gg
 have hdl:data.length=dn:=h.data.len
 have hgl:gifts.length=gn:=h.gifts.len
 simp only at ho
 have D1:(op==1)=false:=by subst ho;decide
 have D4:(op==3)=true:=by subst ho;decide
 have D5:(op==5)=false:=by subst ho;decide
 have D6:(op==6)=false:=by subst ho;decide
 have D7:(op==8)=false:=by subst ho;decide
 have D8:(op==9)=false:=by subst ho;decide
 have UC:ucB op=true:=by subst ho;decide
 have MV:mvB op=false:=by subst ho;decide
 unfold ouB
 simp only [beq_dec,hdl,hgl,nat_dec,D1,D4,D5,D6,D7,D8,UC,MV]
 obtain⟨x1,F1⟩:∃x,(size==0)=x:=⟨_,rfl⟩
 obtain⟨x4,F4⟩:∃x,(rights==0)=x:=⟨_,rfl⟩
 obtain⟨x5,F5⟩:∃x,(off==0)=x:=⟨_,rfl⟩
 obtain⟨x6,F6⟩:∃x,(n==0)=x:=⟨_,rfl⟩
 obtain⟨x7,F7⟩:∃x,((dn:Int)==0)=x:=⟨_,rfl⟩
 obtain⟨x8,F8⟩:∃x,(index==0)=x:=⟨_,rfl⟩
 obtain⟨x9,F9⟩:∃x,((gn:Int)==0)=x:=⟨_,rfl⟩
 obtain⟨x2,F2⟩:∃x,decide ((obj,hi,lo)=((0,0,0):Cp))=x:=⟨_,rfl⟩
 obtain⟨x3,hx3⟩:∃x,given=!x:=⟨!given,by simp⟩
 subst hx3
 have F3:(!!x3)=x3:=by simp
 have heq:∀U:World,(binOp .eql 38 (.agg #[.int .i64 obj,.int .u64 (hi:Int),.int .u64 (lo:Int)]) (.agg #[.int .i64 0,.int .u64 0,.int .u64 0])).run Tryz.prog U=.ok (.bool x2) U:=fun U=>by rw [←F2];exact K.eqlCp (obj,hi,lo) (0,0,0) U
 rw [F1,F2,F3,F4,F5,F6,F7,F8,F9]
 obtain⟨r,hr⟩:∃r,r=((x1||false)&&(x2||true)&&(x3||false)&&(x4||true)&&(x5||false)&&(x6||false)&&(x7||false)&&(x8||false)&&(x9||false)):=⟨_,rfl⟩
 rw [←hr]
 have HR:=hid hr
 clear hr hdl hgl h ho F2 F3
 unfold R.cC R.Sl.v
 rcases wo3 x1 x2 x3 x4 x5 x6 x7 x8 x9 with rfl|⟨rfl,rfl,rfl⟩|⟨rfl,rfl,rfl,rfl,rfl⟩|⟨rfl,rfl,rfl,rfl,rfl,rfl⟩|⟨rfl,rfl,rfl,rfl,rfl,rfl,rfl⟩|⟨rfl,rfl,rfl,rfl,rfl,rfl,rfl,rfl⟩|⟨rfl,rfl,rfl,rfl,rfl,rfl,rfl,rfl,rfl⟩|⟨rfl,rfl,rfl,rfl,rfl,rfl,rfl,rfl,rfl⟩|⟨rfl,rfl,rfl,rfl,rfl⟩|⟨rfl,rfl,rfl,rfl,rfl,rfl⟩|⟨rfl,rfl,rfl,rfl,rfl,rfl,rfl⟩|⟨rfl,rfl,rfl,rfl,rfl,rfl,rfl,rfl⟩|⟨rfl,rfl,rfl,rfl,rfl,rfl,rfl,rfl,rfl⟩|⟨rfl,rfl,rfl,rfl,rfl,rfl,rfl,rfl,rfl⟩|⟨rfl,rfl,rfl⟩|⟨rfl,rfl,rfl,rfl,rfl⟩|⟨rfl,rfl,rfl,rfl,rfl,rfl⟩|⟨rfl,rfl,rfl,rfl,rfl,rfl,rfl⟩|⟨rfl,rfl,rfl,rfl,rfl,rfl,rfl,rfl⟩|⟨rfl,rfl,rfl,rfl,rfl,rfl,rfl,rfl,rfl⟩|⟨rfl,rfl,rfl,rfl,rfl,rfl,rfl,rfl,rfl⟩|⟨rfl,rfl,rfl,rfl,rfl⟩|⟨rfl,rfl,rfl,rfl,rfl,rfl⟩|⟨rfl,rfl,rfl,rfl,rfl,rfl,rfl⟩|⟨rfl,rfl,rfl,rfl,rfl,rfl,rfl,rfl⟩|⟨rfl,rfl,rfl,rfl,rfl,rfl,rfl,rfl,rfl⟩|⟨rfl,rfl,rfl,rfl,rfl,rfl,rfl,rfl,rfl⟩
 all_goals
  go_enter Tryz.func46,Tryz.ntmps46
  go_upto_region 1 with fail
  simp only [List.append]
  go_wp2_with (first|(go_at_call 66;refine (usesCap_any _ _).mono ?_;rintro e w1 ⟨rfl,rfl⟩;simp only [UC])|(go_at_call 67;refine (isMove_any _ _).mono ?_;rintro e w1 ⟨rfl,rfl⟩;simp only [MV]))
  go_ret
  exact⟨ret_bool (by have:=HR.out;simpa using this.symm),below1 _ _⟩
end Go.Proofs.YtffmodpgddecnaaGreat.V.E
