import Derived.Lib.AppendZeros
import Derived.Test.YtffmodpgddecnaaGreatZ12
set_option linter.unusedVariables false
set_option linter.unusedSimpArgs false
namespace Go.Proofs.YtffmodpgddecnaaGreat.V.E
open Go.RowKit Go.Maps
open Go.Proofs.YtffmodpgddecnaaGreat.H (B64 Cp)
section
variable {w w' V w2:World}{h:Hm}{q x:Pl}{N N':Nat→Prop}{Es:List En}{Ls:List Ln}
theorem did_fin {b:Nat}(k:Md V h x N' Es Ls)(hw:WentP w h N V N')(hb:w.heap.size≤b)(hn:¬N' b)(h1:b≠h.g∧b≠h.bo∧b≠h.bl)(L:List Value):Md (V.setCells b 0 L) h x N' Es Ls∧WentP w h N (V.setCells b 0 L) N':=by
 have hb9:But (·=b) V (V.setCells b 0 L):=R.setCells_but (S:=(·=b)) rfl _ 0 (But.refl _ _)
 exact⟨k.but hb9 (fun j hj e=>hn (e ▸ hj)) (fun e=>h1.1 e.symm) (fun e=>h1.2.1 e.symm) (fun e=>h1.2.2 e.symm),hw.1.comp hb9 (fun i e=>.inr (by omega)),hw.2⟩
theorem refuse_fin {b:Nat}(k:Md w h q N Es Ls)(kV:Md V h x N Es Ls)(hw:WentP w h N V N)(hb2:Below V.heap.size V w2)(hb:w.heap.size≤b)(r:Rep)(hr:r.data=[]):DidP w h N (r,x) (.returned (rpV r none 0 0)) (w2.setCells b 0 (rpL r none 0 0)):=by
 have g1:=k.glt
 have g2:=k.olt
 have g3:=k.llt
 have:=did_fin (kV.later hb2) (hw.trans (WentP.later hb2)) hb (k.new hb) ⟨by omega,by omega,by omega⟩ (rpL r none 0 0)
 exact DidP.plain rfl hr ⟨_,_,this.1⟩ this.2
theorem went_g (hb:But (·=h.g) w w'):WentP w h N w' N:=⟨hb.mono (fun k e=>.inl e),fun _ h=>.inl h⟩
theorem went_o (hb:But (·=h.bo) w w'):WentP w h N w' N:=⟨hb.mono (fun k e=>.inr (.inl e)),fun _ h=>.inl h⟩
theorem make_bytes (n:Nat)(hn:n≤4096):∃Z:Array Value,(∀W:World,(Instr.makeSlice 39 (.int .i64 (n:Int)) (.int .i64 (n:Int))).run Tryz.prog W=.ok (.slice (some ⟨W.heap.size,0,none⟩) n n) (W.alloc (.cells Z 5)))∧∀W:World,Ow (W.alloc (.cells Z 5)) W.heap.size 5 1 (some ⟨W.heap.size,0,none⟩) n n (S.u8s (List.replicate n 0)):=by
 obtain⟨i,hi,hz0,hz1,hz2⟩:=info_parts S.info5
 refine⟨madeCells (Value.int .u8 0).cells n,fun W=>?_,fun W=>?_⟩
 ·have hr:=run_make (P:=Tryz.prog) W 39 5 i _ Tryz.underlying39 hi hz0 .i64 .i64 (n:Int) (n:Int) (by omega) (by omega) (by rw [hz2];omega) (by omega)
  simp only [Int.toNat_natCast,hz1,Nat.mul_one] at hr
  exact hr
 ·refine⟨by simp [S.u8s],.inr ⟨W.heap.size,n,madeCells (Value.int .u8 0).cells n,rfl,Nat.le_refl _,heap_alloc_new W _,Nat.le_refl _,by unfold maxLen;omega,by rw [size_madeCells,Nat.mul_one],?_⟩⟩
  simp only [Nat.mul_one]
  rw [List.take_of_length_le (by simp [madeCells])]
  apply List.ext_getElem
  ·simp [madeCells,S.u8s]
  ·intro i h1 h2
   simp [madeCells,S.u8s,Value.cells,Nat.mod_one]
theorem Ow.lit (W:World)(e:TypeId)(M:List Value)(k n:Nat)(hM:M.length=n*k)(hn:n≤1024):Ow (W.alloc (.cells M.toArray e)) W.heap.size e k (some ⟨W.heap.size,0,none⟩) n n M :=
 ⟨hM,.inr ⟨W.heap.size,n,M.toArray,rfl,Nat.le_refl _,heap_alloc_new W _,Nat.le_refl _,by unfold maxLen;omega,by simp [hM],by simp only [List.toList_toArray];exact List.take_of_length_le (by omega)⟩⟩
theorem Ow.blk1 {base e k g n c:Nat}{L:List Value}{j:Nat}(hj:Blk (some ⟨g,0,none⟩) j):j=g:=by
 obtain⟨x,hx,rfl⟩:=hj
 cases hx
 rfl
theorem went_ne {e:En}(kV:Md V h q N Es Ls)(hb:Below w.heap.size w V)(hb2:But (·=h.bo) V w')(he:∀j,Blk e.ba j∨Blk e.ta j→w.heap.size≤j):WentP w h N w' (NE N e) :=
 ⟨((But.of hb).trans hb2).mono (fun k e=>.inr (.inl e)),fun k hk=>hk.elim .inl (fun a=>.inr (he k a))⟩
set_option maxRecDepth 100000 in
set_option maxHeartbeats 4000000 in
theorem create_any (k:Md w h q N Es Ls)(hf:Fit h.p q)(hcf:h.cf.may=true)(size:Int):Calls Tryz.prog 50 #[.pointer (some ⟨h.g,0,none⟩),.int .i64 size] w (DidP w h N (pCre h.p q size)):=by
 obtain⟨W,hW⟩:∃W,W=w.alloc z6:=⟨_,rfl⟩
 have hB:Below w.heap.size w W:=by rw [hW];exact below1 _ _
 have hZ:Zr W w.heap.size:=by rw [hW];exact Zr.new w
 have k1:=k.later hB
 have HRo:=hid (room_any k1 hf hcf size)
 have hW1:=(Cf.may_iff.1 hcf).1
 have HK0:=hid k
 have HK:=hid k1
 have HB:=hid hB
 have HW:=hid hW
 have HZ:=hid hZ
 have hgl:=k.glt
 unfold pCre
 by_cases h1:rmE h.p q size≠0
 ·rw [if_pos h1]
  obtain⟨c,hc⟩:∃c,c=rmE h.p q size:=⟨_,rfl⟩
  rw [←hc] at HRo h1 ⊢
  have hd:(c != 0)=true:=by simp [h1]
  clear k k1 hB hZ hW hc h1 hf hcf
  go_enter Tryz.func50,Tryz.ntmps50
  go_upto_region 1 with fail
  rw [←HW.out]
  go_upto_region 3 with (first|(go_at_call 68;refine HRo.out.mono ?_;rintro e w1 ⟨rfl,hb1⟩;have HB1:=hid hb1;clear hb1))
  have HR_:=hid (refused_any c w1)
  have HZ1:=hid (HZ.out.later HB1.out)
  go_wp2_with (first|(go_at_call 28;refine HR_.out.mono ?_;rintro e w2 ⟨rfl,hb2⟩;have HB2:=hid hb2;have HZ9:=hid (HZ1.out.later HB2.out);have HS9:=hid (HZ9.out.st (rep c) none 0 0);have HL9:=hid (HZ9.out.lv (rep c) none 0 0);clear hb2)|((with_reducible refine st_arm HS9.out ?_ ?_ ?_);(· rfl);(· rfl)))
  exact bodyPost_ret (v:=rpV (rep c) none 0 0) (by simp [results,Tryz.results50,asAddr,HL9.out]) rfl (refuse_fin HK0.out (HK.out.later HB1.out) (WentP.later (below_call HB.out HB1.out)) HB2.out (Nat.le_refl _) (rep c) rfl)
 have h1:rmE h.p q size=0:=by simpa using h1
 rw [if_neg (by rw [h1];simp)]
 rw [h1] at HRo
 by_cases h2:h.p.n≤q.t
 ·rw [if_pos h2]
  have ht:q.t=h.n:=Nat.le_antisymm hf.le h2
  clear k k1 hB hZ hW h1 h2 hf hcf
  go_enter Tryz.func50,Tryz.ntmps50
  go_upto_region 1 with fail
  rw [←HW.out]
  go_upto_region 4 with (first|(go_at_call 68;refine HRo.out.mono ?_;rintro e w1 ⟨rfl,hb1⟩;have HB1:=hid hb1;clear hb1))
  have HDr:=hid (draw_no (HK.out.later HB1.out) ht)
  go_upto_region 6 with (first|(go_at_call 69;refine HDr.out.mono ?_;rintro e w2 ⟨rfl,hb2⟩;have HB2:=hid hb2;clear hb2))
  obtain⟨U1,hU1⟩:∃U1,U1=w2.alloc (.cells #[.int .u64 0,.int .u64 0] 36):=⟨_,rfl⟩
  have hb1:=below_call (below_call HB1.out HB2.out) (show Below w2.heap.size w2 U1 by rw [hU1];exact below1 _ _)
  rw [←hU1]
  have HBU:=hid hb1
  have HR_:=hid (refused_any 11 U1)
  have HZ1:=hid (HZ.out.later hb1)
  clear hb1 hU1
  go_wp2_with (first|(go_at_call 28;refine HR_.out.mono ?_;rintro e w3 ⟨rfl,hb3⟩;have HB3:=hid hb3;have HZ9:=hid (HZ1.out.later HB3.out);have HS9:=hid (HZ9.out.st (rep 11) none 0 0);have HL9:=hid (HZ9.out.lv (rep 11) none 0 0);clear hb3)|((with_reducible refine st_arm HS9.out ?_ ?_ ?_);(· rfl);(· rfl)))
  exact bodyPost_ret (v:=rpV (rep 11) none 0 0) (by simp [results,Tryz.results50,asAddr,HL9.out]) rfl (refuse_fin HK0.out (HK.out.later HBU.out) (WentP.later (below_call HB.out HBU.out)) HB3.out (Nat.le_refl _) (rep 11) rfl)
 rw [if_neg h2]
 have ht:q.t<h.n:=Nat.lt_of_not_le h2
 have hsz:0≤size∧size≤4096:=by
  unfold rmE S.mayV at h1
  by_cases h3:size<0∨4096<size
  ·rw [if_pos h3] at h1;simp at h1
  ·omega
 obtain⟨sz,hs⟩:∃sz:Nat,size=(sz:Int):=⟨size.toNat,by omega⟩
 subst hs
 rw [Int.toNat_natCast]
 obtain⟨Z,hmk,hZow⟩:=make_bytes sz (by omega)
 obtain⟨M,hM⟩:∃M,M=h.p.c q.t:=⟨_,rfl⟩
 rw [←hM]
 have hnx:=hf.nx
 have hno:=hf.no
 have hrm:=hf.rm
 have HM:=hid hM
 have HZow:=hid hZow
 have HNo:=hid hno
 have hn49:=hf.n
 clear k k1 hB hZ hW h1 h2 hf hcf hM hZow hno
 go_enter Tryz.func50,Tryz.ntmps50
 go_upto_region 1 with fail
 rw [←HW.out]
 go_upto_region 4 with (first|(go_at_call 68;refine HRo.out.mono ?_;rintro e w1 ⟨rfl,hb1⟩;have HB1:=hid hb1;clear hb1))
 have HDr:=hid (draw_ok (HK.out.later HB1.out) ht hn49 hW1.1)
 rw [←HM.out] at HDr
 obtain⟨mh,hmh⟩:∃mh,mh=M / B64:=⟨_,rfl⟩
 obtain⟨ml,hml⟩:∃ml,ml=M%B64:=⟨_,rfl⟩
 have hhi:D.hiI M=(mh:Int):=by rw [hmh];rfl
 have hlo:D.loI M=(ml:Int):=by rw [hml];rfl
 rw [hhi,hlo] at HDr
 have HMh:=hid hmh
 have HMl:=hid hml
 clear hhi hlo hmh hml
 go_upto_region 5 with (first|(go_at_call 69;refine HDr.out.mono ?_;rintro e w2 ⟨rfl,k2,hb2⟩;have HK2:=hid k2;have HB2:=hid hb2;clear k2 hb2))
 obtain⟨U1,hU1⟩:∃U1,U1=w2.alloc (.cells #[.int .u64 (mh:Int),.int .u64 (ml:Int)] 36):=⟨_,rfl⟩
 have hb1:Below w2.heap.size w2 U1:=by rw [hU1];exact below1 _ _
 have c0:U1.cell? ⟨w2.heap.size,0,none⟩=some (.int .u64 (mh:Int)):=by rw [hU1];simp [go_sem]
 have c1:U1.cell? ⟨w2.heap.size,1,none⟩=some (.int .u64 (ml:Int)):=by rw [hU1];simp [go_sem]
 rw [←hU1]
 have kU:=HK2.out.later hb1
 have x14:=kU.cell 14 rfl
 have f14:=kU.fz 14 (by omega)
 simp only at x14
 have hwn:wrap64 (q.nx+1)=q.nx+1:=by unfold wrap64;omega
 obtain⟨U2,hU2⟩:∃U2,U2=U1.setCell ⟨h.g,14,none⟩ (.int .i64 (q.nx+1)):=⟨_,rfl⟩
 have hb12:But (·=h.g) U1 U2:=by rw [hU2];exact (But.refl (·=h.g) U1).setCell (p:=⟨h.g,14,none⟩) rfl _
 have kU2:Md U2 h { q with t:=q.t+1,nx:=q.nx+1 } N Es Ls:=by
  rw [hU2]
  exact kU.setG (q':={ q with t:=q.t+1,nx:=q.nx+1 }) rfl rfl 14 _ (by omega) rfl
 have HK3:=hid kU2
 have hgb:h.g≠w2.heap.size:=by have:=HK2.out.glt;omega
 have d0:=cell_but hb12 c0 (fun e=>hgb e.symm)
 have d1:=cell_but hb12 c1 (fun e=>hgb e.symm)
 have HBt:Hid (But (·=h.g) w U2):=(((But.of (below_call HB.out HB1.out)).trans HB2.out).call hb1).trans hb12
 have HZ2:=hid (((HZ.out.later HB1.out).but HB2.out (by omega)).later hb1 |>.but hb12 (by omega))
 have HU2:=hid hU2
 clear hU1 hU2 kU hb1 hb12 kU2
 go_upto_region 9 with fail
 rw [←HU2.out]
 clear c0 c1 x14 f14
 have H0:Hid (∀U:World,Below U2.heap.size U2 U→U.cell? ⟨h.g,12,none⟩=some (.map (some h.bo))∧U.cell? ⟨w2.heap.size,0,none⟩=some (.int .u64 (mh:Int))∧U.cell? ⟨w2.heap.size,1,none⟩=some (.int .u64 (ml:Int))):=fun U hU=>⟨(HK3.out.later hU).cell 12 rfl,cell_later hU d0,cell_later hU d1⟩
 obtain⟨tk,htk⟩:∃tk:Tn,tk=⟨mh,ml,31,0,0⟩:=⟨_,rfl⟩
 have hnewid:∀y∈Es,y.id<q.nx:=fun y hy=>by
  have:=HNo.out y.o (by rw [←HK0.out.oe];exact List.mem_map_of_mem hy)
  exact this.2
 have hlen:Es.length≤1024:=by rw [HK0.out.lenO];omega
 have hix:S.i64ok q.nx:=by unfold S.i64ok;omega
 have g1:=HK3.out.glt
 have g2:=HK3.out.olt
 have g3:=HK3.out.llt
 have hTn:tns [tk]=[.int .u64 (mh:Int),.int .u64 (ml:Int),.int .i64 31,.int .u64 0,.int .u64 0]:=by rw [htk];simp [tns,Tn.c]
 obtain⟨VA,hVA⟩:∃V,V=((U2.alloc (Obj.cells Z 5)).alloc (Obj.cells #[.int .u64 (mh:Int),.int .u64 (ml:Int),.int .i64 31,.int .u64 0,.int .u64 0] 88)).drew:=⟨_,rfl⟩
 have hbA:Below U2.heap.size U2 VA:=by rw [hVA];exact (below2 _ _ _).drew
 obtain⟨VB,hVB⟩:∃V,V=((U2.alloc (Obj.cells #[.int .u64 (mh:Int),.int .u64 (ml:Int),.int .i64 31,.int .u64 0,.int .u64 0] 88)).alloc (Obj.cells Z 5)).drew:=⟨_,rfl⟩
 have hbB:Below U2.heap.size U2 VB:=by rw [hVB];exact (below2 _ _ _).drew
 have keA:Ew VA h ⟨q.nx,List.replicate sz 0,some ⟨U2.heap.size,0,none⟩,sz,[tk],some ⟨U2.heap.size+1,0,none⟩,1⟩:=by
  refine⟨?_,?_,fun j hj=>?_,fun j hj=>?_⟩
  ·have:=Ow.mono (((HZow.out U2).later (below1 _ _)).later (w':=VA) (by rw [hVA];exact (Below.refl _ _).drew)) (Nat.zero_le _)
   simpa using this
  ·have:=Ow.mono ((Ow.lit (U2.alloc (Obj.cells Z 5)) 88 (tns [tk]) 5 1 (by rw [hTn];rfl) (by omega)).later (w':=VA) (by rw [hVA,hTn];exact (Below.refl _ _).drew)) (Nat.zero_le _)
   simpa using this
  ·have:=Ow.blk1 (base:=0) (e:=0) (k:=0) (n:=0) (c:=0) (L:=[]) hj;omega
  ·have:=Ow.blk1 (base:=0) (e:=0) (k:=0) (n:=0) (c:=0) (L:=[]) hj;omega
 have keB:Ew VB h ⟨q.nx,List.replicate sz 0,some ⟨U2.heap.size+1,0,none⟩,sz,[tk],some ⟨U2.heap.size,0,none⟩,1⟩:=by
  refine⟨?_,?_,fun j hj=>?_,fun j hj=>?_⟩
  ·have:=Ow.mono ((HZow.out (U2.alloc (Obj.cells #[.int .u64 (mh:Int),.int .u64 (ml:Int),.int .i64 31,.int .u64 0,.int .u64 0] 88))).later (w':=VB) (by rw [hVB];exact (Below.refl _ _).drew)) (Nat.zero_le _)
   simpa using this
  ·have:=Ow.mono (((Ow.lit U2 88 (tns [tk]) 5 1 (by rw [hTn];rfl) (by omega)).later (below1 _ (Obj.cells Z 5))).later (w':=VB) (by rw [hVB,hTn];exact (Below.refl _ _).drew)) (Nat.zero_le _)
   simpa using this
  ·have:=Ow.blk1 (base:=0) (e:=0) (k:=0) (n:=0) (c:=0) (L:=[]) hj;omega
  ·have:=Ow.blk1 (base:=0) (e:=0) (k:=0) (n:=0) (c:=0) (L:=[]) hj;omega
 obtain⟨wA,hrA,kA,hb2A,-⟩:=(HK3.out.later hbA).addO _ hix hnewid hlen keA
 obtain⟨wB,hrB,kB,hb2B,-⟩:=(HK3.out.later hbB).addO _ hix hnewid hlen keB
 simp only [En.val,List.length_replicate,List.length_singleton] at hrA hrB
 have HMA:=hid kA
 have HMB:=hid kB
 have HWA:=hid (went_ne (N:=N) (e:=⟨q.nx,List.replicate sz 0,some ⟨U2.heap.size,0,none⟩,sz,[tk],some ⟨U2.heap.size+1,0,none⟩,1⟩) (HK3.out.later hbA) hbA hb2A (fun j hj=>by rcases hj with hj|hj<;>(have:=Ow.blk1 (base:=0) (e:=0) (k:=0) (n:=0) (c:=0) (L:=[]) hj;omega)))
 have HWB:=hid (went_ne (N:=N) (e:=⟨q.nx,List.replicate sz 0,some ⟨U2.heap.size+1,0,none⟩,sz,[tk],some ⟨U2.heap.size,0,none⟩,1⟩) (HK3.out.later hbB) hbB hb2B (fun j hj=>by rcases hj with hj|hj<;>(have:=Ow.blk1 (base:=0) (e:=0) (k:=0) (n:=0) (c:=0) (L:=[]) hj;omega)))
 have hob:w2.heap.size≠h.bo:=by have:=HK2.out.olt;omega
 have HSA:Hid (wA.cell? ⟨h.g,12,none⟩=some (.map (some h.bo))∧wA.cell? ⟨w2.heap.size,0,none⟩=some (.int .u64 (mh:Int))∧wA.cell? ⟨w2.heap.size,1,none⟩=some (.int .u64 (ml:Int))):=⟨kA.cell 12 rfl,cell_but hb2A (cell_later hbA d0) hob,cell_but hb2A (cell_later hbA d1) hob⟩
 have HSB:Hid (wB.cell? ⟨h.g,12,none⟩=some (.map (some h.bo))∧wB.cell? ⟨w2.heap.size,0,none⟩=some (.int .u64 (mh:Int))∧wB.cell? ⟨w2.heap.size,1,none⟩=some (.int .u64 (ml:Int))):=⟨kB.cell 12 rfl,cell_but hb2B (cell_later hbB d0) hob,cell_but hb2B (cell_later hbB d1) hob⟩
 rw [hVA] at hrA
 rw [hVB] at hrB
 have HTk:=hid htk
 have hszU:w.heap.size<U2.heap.size:=HZ2.out.lt
 have HD0:=hid d0
 have HD1:=hid d1
 clear kA kB hb2A hb2B keA keB hbA hbB hVA hVB hTn htk hnewid
 go_cut [40] (fun v40 U=>v40=.int .i64 q.nx∧Hid (∃N' Es',Md U h { q with t:=q.t+1,O:=q.O++[(q.nx,⟨List.replicate sz 0,[tk]⟩)],nx:=q.nx+1 } N' Es' Ls∧WentP U2 h N U N'))
 case first =>
  go_region_held3 (fun U=>U.cell? ⟨h.g,12,none⟩=some (.map (some h.bo))∧U.cell? ⟨w2.heap.size,0,none⟩=some (.int .u64 (mh:Int))∧U.cell? ⟨w2.heap.size,1,none⟩=some (.int .u64 (ml:Int))) (first|exact HSA.out|exact HSB.out|exact H0.out _ (Below.refl _ _).drew|exact H0.out _ (below1 _ _).drew|exact H0.out _ (below1 _ _)|exact H0.out _ (below2 _ _ _)|exact H0.out _ (below2 _ _ _).drew) (fail)
  all_goals (try go_wp2)
  all_goals go_meet
  all_goals first|exact⟨rfl,_,_,HMA.out,HWA.out⟩|exact⟨rfl,_,_,HMB.out,HWB.out⟩
 case rest =>
 rename World=>v
 obtain⟨rfl,HX⟩:=hcut
 obtain⟨N',Es',kv,hw⟩:=HX.out
 have HKv:=hid kv
 have HWv:Hid (WentP w h N v N'):=(went_g HBt.out).trans hw
 have hnb:¬N' w.heap.size:=fun e=>by
  rcases hw.2 _ e with h1|h1
  ·exact HK0.out.new (Nat.le_refl _) h1
  ·omega
 have HNb:=hid hnb
 have HZv:=hid (HZ2.out.but hw.1 (fun e=>by
  have a1:=HK0.out.glt
  have a2:=HK0.out.olt
  have a3:=HK0.out.llt
  rcases e with e|e|e<;>omega))
 have hnB:¬h.B w2.heap.size:=fun e=>by
  have a1:=HK2.out.glt
  have a2:=HK2.out.olt
  have a3:=HK2.out.llt
  rcases e with e|e|e<;>omega
 have e0:=cell_but hw.1 d0 hnB
 have e1:=cell_but hw.1 d1 hnB
 have HS9:=hid (HZv.out.st ⟨0,(q.nx,mh,ml),[],0⟩ none 0 0)
 have HL9:=hid (HZv.out.lv ⟨0,(q.nx,mh,ml),[],0⟩ none 0 0)
 clear kv hw hnb HX hrA hrB d0 d1 hmk
 go_wp2_with (first|((with_reducible refine st_arm HS9.out ?_ ?_ ?_);(· rfl);(· rfl)))
 refine bodyPost_ret (v:=rpV ⟨0,(q.nx,mh,ml),[],0⟩ none 0 0) (by simp [results,Tryz.results50,asAddr,HL9.out]) rfl ?_
 have hfin:=did_fin HKv.out HWv.out (Nat.le_refl _) HNb.out ⟨by have:=HK0.out.glt;omega,by have:=HK0.out.olt;omega,by have:=HK0.out.llt;omega⟩ (rpL ⟨0,(q.nx,mh,ml),[],0⟩ none 0 0)
 have hcap:D.cap q.nx M=(q.nx,mh,ml):=by rw [HMh.out,HMl.out];rfl
 rw [hcap,←HMh.out,←HMl.out]
 rw [HTk.out] at hfin
 exact DidP.plain rfl rfl ⟨_,_,hfin.1⟩ hfin.2
end
end Go.Proofs.YtffmodpgddecnaaGreat.V.E
namespace Go.Proofs.YtffmodpgddecnaaGreat.V.E
open Go.RowKit Go.Maps
open Go.Proofs.YtffmodpgddecnaaGreat.H (B64 Cp)
section
variable {w w' V:World}
structure Sx where
 a:Option Addr
 n:Nat
 c:Nat
 M:List Value
def sxN (L:List Sx):Nat:=(L.map Sx.n).sum
def sxM (L:List Sx):List Value:=(L.map Sx.M).flatten
theorem sx_take (L:List Sx)(i:Nat)(s:Sx)(h:L[i]?=some s):sxN (L.take (i+1))=sxN (L.take i)+s.n∧sxM (L.take (i+1))=sxM (L.take i)++s.M:=by
 obtain⟨hi,hs⟩:=List.getElem?_eq_some_iff.1 h
 rw [List.take_succ_eq_append_getElem hi,hs]
 unfold sxN sxM
 simp
theorem sxN_le (L:List Sx)(i:Nat):sxN (L.take i)≤sxN L:=by
 unfold sxN
 conv=>rhs;rw [←List.take_append_drop i L]
 rw [List.map_append,List.sum_append]
 omega
structure Sxs (w:World)(k p:Nat)(L:List Sx):Prop where
 cell:∀i s,L[i]?=some s→w.cell? ⟨p,i,none⟩=some (.slice s.a s.n s.c)
 cr:∀s∈L,Cr w k s.a s.n s.c s.M
theorem cr_later {k:Nat}{a:Option Addr}{n c:Nat}{M:List Value}(h:Cr w k a n c M)(hb:Below w.heap.size w w'):Cr w' k a n c M:=⟨h.len,h.none_,fun x hx j u hu=>cell_later hb (h.cells x hx j u hu),h.one⟩
theorem ow_cr {base e k:Nat}{a:Option Addr}{n cap:Nat}{L:List Value}(h:Ow w base e k a n cap L)(h1:∀u∈L,u.oneCell'=true):Cr w k a n cap L:=by
 refine⟨h.1,fun ha=>?_,fun x hx j u hu=>?_,h1⟩
 ·rcases h.2 with ⟨h2,h3⟩|⟨g,c,cur,hv,_⟩
  ·simp only [Value.slice.injEq] at h2;omega
  ·subst ha;simp at hv
 ·have:=Ow.rv h
  rcases h.2 with ⟨h2,h3⟩|⟨g,c,cur,hv,_⟩
  ·subst hx;simp at h2
  ·subst hx
   simp only [Value.slice.injEq,Option.some.injEq] at hv
   obtain⟨rfl,_⟩:=hv
   rw [addr_add0]
   exact this g rfl j u hu
theorem Sxs.later {k p:Nat}{L:List Sx}(h:Sxs w k p L)(hb:Below w.heap.size w w'):Sxs w' k p L:=⟨fun i s hs=>cell_later hb (h.cell i s hs),fun s hs=>cr_later (h.cr s hs) hb⟩
theorem infoET:(Tryz.prog.info? 88).map (fun i=>(i.zero,i.size,i.bytes))=some (some (Value.agg #[.int .u64 0,.int .u64 0,.int .i64 0,.int .u64 0,.int .u64 0]),5,40):=by kernel_rfl
set_option maxRecDepth 100000 in
set_option maxHeartbeats 4000000 in
theorem growT_none (w:World):Calls Tryz.prog 92 #[.slice none 0 0,.int .i64 0] w fun e w'=>e=.returned (.slice none 0 0)∧Below w.heap.size w w':=by
 go_enter Tryz.func92,Tryz.ntmps92
 go_wp2
 go_ret
 exact⟨rfl,Below.refl _ _⟩
set_option maxRecDepth 100000 in
set_option maxHeartbeats 4000000 in
theorem growT_some (n:Nat)(h0:0<n)(hn:n≤1048576)(w:World):Calls Tryz.prog 92 #[.slice none 0 0,.int .i64 (n:Int)] w fun e w'=>∃c,e=.returned (.slice (some ⟨w.heap.size,0,none⟩) 0 c)∧Ow w' w.heap.size 88 5 (some ⟨w.heap.size,0,none⟩) 0 c []∧Below w.heap.size w w':=by
 obtain⟨i,hi,hz0,hz1,hz2⟩:=info_parts infoET
 have happ:=Lib.run_append_nil_zeros (P:=Tryz.prog) w 83 3 83 88 i _ .i64 .i64 Tryz.underlying83 Tryz.underlying3 hi hz0 n h0 (by rw [hz1];omega) (by omega) (by rw [hz2];omega)
 obtain⟨c,hc⟩:∃c,c=grownCap w n 0 88:=⟨_,rfl⟩
 obtain⟨W,hW⟩:∃W,W=w.drew.alloc (.cells (Builtin.zeroCells (Value.agg #[.int .u64 0,.int .u64 0,.int .i64 0,.int .u64 0,.int .u64 0]).cells n++Builtin.zeroCells (Value.agg #[.int .u64 0,.int .u64 0,.int .i64 0,.int .u64 0,.int .u64 0]).cells (grownCap w n 0 88 - n)) 88):=⟨_,rfl⟩
 rw [←hW,←hc] at happ
 have hcn:n≤c:=by rw [hc];exact grownCap_ge _ _ _ _
 have HO:Hid (Ow W w.heap.size 88 5 (some ⟨w.heap.size,0,none⟩) 0 c []):=by
  refine⟨by simp,.inr ⟨w.heap.size,c,_,rfl,Nat.le_refl _,by rw [hW];exact heap_alloc_new w.drew _,by omega,by rw [hc];exact grownCap_le_maxLen _ _ _ _ (by unfold maxLen;omega),?_,by simp⟩⟩
  rw [←hc]
  simp only [Array.size_append,size_zeroCells,Value.cells]
  simp only [List.size_toArray,List.length_cons,List.length_nil]
  omega
 have HB:Hid (Below w.heap.size w W):=by rw [hW];exact ((Below.refl _ _).drew).alloc (by simp) _
 have HA:=hid happ
 have hn0:(0:Int)<(n:Int):=by omega
 have hd1:decide ((n:Int)<0)=false:=decide_eq_false (by omega)
 have hd2:decide ((n:Int)>0)=true:=decide_eq_true (by omega)
 have hw0:wrap64 (n:Int)=(n:Int):=by unfold wrap64;omega
 clear happ hW hc hi hz0 hz1 hz2
 go_enter Tryz.func92,Tryz.ntmps92
 go_wp2_with (first|(at_builtin;refine Lib.wpList_append_run _ rfl _ _ _ _ rfl _ _ rfl rfl _ _ HA.out ?_))
 go_ret
 exact⟨c,rfl,HO.out,HB.out⟩
theorem growT_any (n:Nat)(hn:n≤1048576)(w:World):Calls Tryz.prog 92 #[.slice none 0 0,.int .i64 (n:Int)] w fun e w'=>∃a c,e=.returned (.slice a 0 c)∧Ow w' w.heap.size 88 5 a 0 c []∧Below w.heap.size w w':=by
 by_cases h0:0<n
 ·refine (growT_some n h0 hn w).mono ?_
  rintro e w' ⟨c,he,ho,hb⟩
  exact⟨_,c,he,ho,hb⟩
 ·obtain rfl:n=0:=by omega
  refine (growT_none w).mono ?_
  rintro e w' ⟨he,hb⟩
  exact⟨none,0,he,Ow.nil _ _ _ _,hb⟩
def CnT (w:World)(L:List Sx)(v3 v11:Value)(U:World):Prop:=∃i:Nat,v3=.int .i64 (sxN (L.take i):Int)∧v11=.int .i64 (i:Int)∧i≤L.length∧U=w
def CoT (W:World)(L:List Sx)(v6 v27:Value)(U:World):Prop:=∃(i:Nat) (a:Option Addr) (c:Nat),v6=.slice a (sxN (L.take i)) c∧v27=.int .i64 (i:Int)∧i≤L.length∧Ow U W.heap.size 88 5 a (sxN (L.take i)) c (sxM (L.take i))∧Below W.heap.size W U
set_option maxRecDepth 100000 in
set_option maxHeartbeats 4000000 in
theorem concatT_any {p c0:Nat}{L:List Sx}(h:Sxs w 5 p L)(hl:L.length≤8)(hn:sxN L≤65536):Calls Tryz.prog 73 #[.slice (some ⟨p,0,none⟩) L.length c0] w fun e w'=>∃a c,e=.returned (.slice a (sxN L) c)∧Ow w' w.heap.size 88 5 a (sxN L) c (sxM L)∧Below w.heap.size w w':=by
 obtain⟨m,hm⟩:∃m,m=L.length:=⟨_,rfl⟩
 rw [←hm] at hl ⊢
 have HM:=hid hm
 have H:=hid h
 clear h hm
 go_enter Tryz.func73,Tryz.ntmps73
 go_upto_region 3 with fail
 try go_frame
 go_loopw [3,11] (CnT w L) (fun _ v _=>m - (intOf v).toNat)
 case atStart=>exact⟨0,rfl,rfl,by omega,rfl⟩
 case round =>
  obtain⟨i,rfl,rfl,hi,hU⟩:=hrel
  rename World=>U
  subst hU
  have hmL:=HM.out
  have hle:=sxN_le L i
  by_cases hx:i<m
  ·have hd:decide ((i:Int)<(m:Int))=true:=decide_eq_true (by omega)
   obtain⟨s,hs⟩:∃s,L[i]?=some s:=⟨L[i]'(by omega),List.getElem?_eq_getElem (by omega)⟩
   have x0:=H.out.cell i s hs
   obtain⟨e1,e2⟩:=sx_take L i s hs
   have hle1:=sxN_le L (i+1)
   rw [e1] at hle1
   have hw1:wrap64 ((sxN (L.take i):Int)+(s.n:Int))=(sxN (L.take i):Int)+(s.n:Int):=by unfold wrap64;omega
   have hwi:wrap64 ((i:Int)+1)=(i:Int)+1:=by unfold wrap64;omega
   have HN:Hid (CnT U L (.int .i64 ((sxN (L.take i):Int)+(s.n:Int))) (.int .i64 ((i:Int)+1)) U):=⟨i+1,by rw [e1];simp,by simp,by omega,rfl⟩
   have hii:(i:Int)<(m:Int):=by omega
   have hd2:decide ((sxN (L.take i):Int)+(s.n:Int)<0)=false:=decide_eq_false (by omega)
   obtain⟨z,hz⟩:∃z,z=sxN (L.take i):=⟨_,rfl⟩
   rw [←hz] at hle hle1 hw1 HN hd2
   rw [←hz]
   clear hs e1 e2 hmL hz
   go_wp2
   refine⟨?_,by simp [intOf];omega⟩
   exact HN.out
  ·have hz:L.take i=L:=List.take_of_length_le (by omega)
   obtain⟨z,hz2⟩:∃z,z=sxN L:=⟨_,rfl⟩
   rw [hz,←hz2] at hle ⊢
   have hd:decide ((i:Int)<(m:Int))=false:=decide_eq_false (by omega)
   have him:i=m:=by omega
   have HZ2:=hid hz2
   rw [←hz2] at hn
   have HG:=hid (growT_any z (by omega) U)
   clear hz hmL hz2
   go_upto_region 11 with (first|(go_at_call 92;refine HG.out.mono ?_;rintro e w1 ⟨a1,c1,rfl,hO1,hb1⟩;have HO1:=hid hO1;have HB1:=hid hb1;clear hO1 hb1))
   try go_frame
   go_loopw [6,27] (CoT U L) (fun _ v _=>m - (intOf v).toNat)
   case atStart=>exact⟨0,a1,c1,rfl,rfl,by omega,HO1.out,HB1.out⟩
   case round =>
    obtain⟨j,a2,c2,rfl,rfl,hj,hO2,hb2⟩:=hrel
    rename World=>Y
    have HO2:=hid hO2
    have HB2:=hid hb2
    have hmL:=HM.out
    have hle2:=sxN_le L j
    clear hO2 hb2
    by_cases hy:j<m
    ·have hd3:decide ((j:Int)<(m:Int))=true:=decide_eq_true (by omega)
     obtain⟨s,hs⟩:∃s,L[j]?=some s:=⟨L[j]'(by omega),List.getElem?_eq_getElem (by omega)⟩
     have x0:=cell_later HB2.out (H.out.cell j s hs)
     obtain⟨e1,e2⟩:=sx_take L j s hs
     have hle1:=sxN_le L (j+1)
     rw [e1] at hle1
     have hz3:=HZ2.out
     obtain⟨a3,c3,w3,hrun,hO3,hG3⟩:=append_k 83 88 _ 5 40 Tryz.underlying83 infoET rfl (by omega) (by omega) HO2.out (cr_later (H.out.cr s (List.mem_of_getElem? hs)) HB2.out) HB2.out.size (by omega)
     have hb3:Below U.heap.size U w3:=But.below HB2.out hG3.but (fun k hk=>(Ow.blk HO2.out k hk).1)
     rw [←e1,←e2] at hO3
     rw [←e1] at hrun
     have hwj:wrap64 ((j:Int)+1)=(j:Int)+1:=by unfold wrap64;omega
     have HN:Hid (CoT U L (.slice a3 (sxN (L.take (j+1))) c3) (.int .i64 ((j:Int)+1)) w3):=⟨j+1,a3,c3,rfl,by simp,by omega,hO3,hb3⟩
     have HA:=hid hrun
     have hjj:(j:Int)<(m:Int):=by omega
     clear hs e1 e2 hmL hrun hO3 hG3 hb3 hz3
     go_wp2_with (first|(at_builtin;refine wpList_append_known rfl _ _ 83 rfl _ _ rfl rfl _ _ HA.out ?_))
     refine⟨?_,by simp [intOf];omega⟩
     exact HN.out
    ·have hz9:L.take j=L:=List.take_of_length_le (by omega)
     have hd3:decide ((j:Int)<(m:Int))=false:=decide_eq_false (by omega)
     have HE:Hid (Ow Y U.heap.size 88 5 a2 (sxN L) c2 (sxM L)):=by have:=HO2.out;rw [hz9] at this;exact this
     rw [hz9]
     have hjm:j=m:=by omega
     clear hz9 hmL
     go_wp2
     go_ret
     exact⟨a2,c2,rfl,HE.out,HB2.out⟩
theorem infoEB:(Tryz.prog.info? 5).map (fun i=>(i.zero,i.size,i.bytes))=some (some (Value.int .u8 0),1,1):=by kernel_rfl
set_option maxRecDepth 100000 in
set_option maxHeartbeats 4000000 in
theorem growB_none (w:World):Calls Tryz.prog 94 #[.slice none 0 0,.int .i64 0] w fun e w'=>e=.returned (.slice none 0 0)∧Below w.heap.size w w':=by
 go_enter Tryz.func94,Tryz.ntmps94
 go_wp2
 go_ret
 exact⟨rfl,Below.refl _ _⟩
set_option maxRecDepth 100000 in
set_option maxHeartbeats 4000000 in
theorem growB_some (n:Nat)(h0:0<n)(hn:n≤1048576)(w:World):Calls Tryz.prog 94 #[.slice none 0 0,.int .i64 (n:Int)] w fun e w'=>∃c,e=.returned (.slice (some ⟨w.heap.size,0,none⟩) 0 c)∧Ow w' w.heap.size 5 1 (some ⟨w.heap.size,0,none⟩) 0 c []∧Below w.heap.size w w':=by
 obtain⟨i,hi,hz0,hz1,hz2⟩:=info_parts infoEB
 have happ:=Lib.run_append_nil_zeros (P:=Tryz.prog) w 39 3 39 5 i _ .i64 .i64 Tryz.underlying39 Tryz.underlying3 hi hz0 n h0 (by rw [hz1];omega) (by omega) (by rw [hz2];omega)
 obtain⟨c,hc⟩:∃c,c=grownCap w n 0 5:=⟨_,rfl⟩
 obtain⟨W,hW⟩:∃W,W=w.drew.alloc (.cells (Builtin.zeroCells (Value.int .u8 0).cells n++Builtin.zeroCells (Value.int .u8 0).cells (grownCap w n 0 5 - n)) 5):=⟨_,rfl⟩
 rw [←hW,←hc] at happ
 have hcn:n≤c:=by rw [hc];exact grownCap_ge _ _ _ _
 have HO:Hid (Ow W w.heap.size 5 1 (some ⟨w.heap.size,0,none⟩) 0 c []):=by
  refine⟨by simp,.inr ⟨w.heap.size,c,_,rfl,Nat.le_refl _,by rw [hW];exact heap_alloc_new w.drew _,by omega,by rw [hc];exact grownCap_le_maxLen _ _ _ _ (by unfold maxLen;omega),?_,by simp⟩⟩
  rw [←hc]
  simp only [Array.size_append,size_zeroCells,Value.cells]
  simp only [List.size_toArray,List.length_cons,List.length_nil]
  omega
 have HB:Hid (Below w.heap.size w W):=by rw [hW];exact ((Below.refl _ _).drew).alloc (by simp) _
 have HA:=hid happ
 have hn0:(0:Int)<(n:Int):=by omega
 have hd1:decide ((n:Int)<0)=false:=decide_eq_false (by omega)
 have hd2:decide ((n:Int)>0)=true:=decide_eq_true (by omega)
 have hw0:wrap64 (n:Int)=(n:Int):=by unfold wrap64;omega
 clear happ hW hc hi hz0 hz1 hz2
 go_enter Tryz.func94,Tryz.ntmps94
 go_wp2_with (first|(at_builtin;refine Lib.wpList_append_run _ rfl _ _ _ _ rfl _ _ rfl rfl _ _ HA.out ?_))
 go_ret
 exact⟨c,rfl,HO.out,HB.out⟩
theorem growB_any (n:Nat)(hn:n≤1048576)(w:World):Calls Tryz.prog 94 #[.slice none 0 0,.int .i64 (n:Int)] w fun e w'=>∃a c,e=.returned (.slice a 0 c)∧Ow w' w.heap.size 5 1 a 0 c []∧Below w.heap.size w w':=by
 by_cases h0:0<n
 ·refine (growB_some n h0 hn w).mono ?_
  rintro e w' ⟨c,he,ho,hb⟩
  exact⟨_,c,he,ho,hb⟩
 ·obtain rfl:n=0:=by omega
  refine (growB_none w).mono ?_
  rintro e w' ⟨he,hb⟩
  exact⟨none,0,he,Ow.nil _ _ _ _,hb⟩
def CnB (w:World)(L:List Sx)(v3 v11:Value)(U:World):Prop:=∃i:Nat,v3=.int .i64 (sxN (L.take i):Int)∧v11=.int .i64 (i:Int)∧i≤L.length∧U=w
def CoB (W:World)(L:List Sx)(v6 v27:Value)(U:World):Prop:=∃(i:Nat) (a:Option Addr) (c:Nat),v6=.slice a (sxN (L.take i)) c∧v27=.int .i64 (i:Int)∧i≤L.length∧Ow U W.heap.size 5 1 a (sxN (L.take i)) c (sxM (L.take i))∧Below W.heap.size W U
set_option maxRecDepth 100000 in
set_option maxHeartbeats 4000000 in
theorem concatB_any {p c0:Nat}{L:List Sx}(h:Sxs w 1 p L)(hl:L.length≤8)(hn:sxN L≤65536):Calls Tryz.prog 77 #[.slice (some ⟨p,0,none⟩) L.length c0] w fun e w'=>∃a c,e=.returned (.slice a (sxN L) c)∧Ow w' w.heap.size 5 1 a (sxN L) c (sxM L)∧Below w.heap.size w w':=by
 obtain⟨m,hm⟩:∃m,m=L.length:=⟨_,rfl⟩
 rw [←hm] at hl ⊢
 have HM:=hid hm
 have H:=hid h
 clear h hm
 go_enter Tryz.func77,Tryz.ntmps77
 go_upto_region 3 with fail
 try go_frame
 go_loopw [3,11] (CnB w L) (fun _ v _=>m - (intOf v).toNat)
 case atStart=>exact⟨0,rfl,rfl,by omega,rfl⟩
 case round =>
  obtain⟨i,rfl,rfl,hi,hU⟩:=hrel
  rename World=>U
  subst hU
  have hmL:=HM.out
  have hle:=sxN_le L i
  by_cases hx:i<m
  ·have hd:decide ((i:Int)<(m:Int))=true:=decide_eq_true (by omega)
   obtain⟨s,hs⟩:∃s,L[i]?=some s:=⟨L[i]'(by omega),List.getElem?_eq_getElem (by omega)⟩
   have x0:=H.out.cell i s hs
   obtain⟨e1,e2⟩:=sx_take L i s hs
   have hle1:=sxN_le L (i+1)
   rw [e1] at hle1
   have hw1:wrap64 ((sxN (L.take i):Int)+(s.n:Int))=(sxN (L.take i):Int)+(s.n:Int):=by unfold wrap64;omega
   have hwi:wrap64 ((i:Int)+1)=(i:Int)+1:=by unfold wrap64;omega
   have HN:Hid (CnB U L (.int .i64 ((sxN (L.take i):Int)+(s.n:Int))) (.int .i64 ((i:Int)+1)) U):=⟨i+1,by rw [e1];simp,by simp,by omega,rfl⟩
   have hii:(i:Int)<(m:Int):=by omega
   have hd2:decide ((sxN (L.take i):Int)+(s.n:Int)<0)=false:=decide_eq_false (by omega)
   obtain⟨z,hz⟩:∃z,z=sxN (L.take i):=⟨_,rfl⟩
   rw [←hz] at hle hle1 hw1 HN hd2
   rw [←hz]
   clear hs e1 e2 hmL hz
   go_wp2
   refine⟨?_,by simp [intOf];omega⟩
   exact HN.out
  ·have hz:L.take i=L:=List.take_of_length_le (by omega)
   obtain⟨z,hz2⟩:∃z,z=sxN L:=⟨_,rfl⟩
   rw [hz,←hz2] at hle ⊢
   have hd:decide ((i:Int)<(m:Int))=false:=decide_eq_false (by omega)
   have him:i=m:=by omega
   have HZ2:=hid hz2
   rw [←hz2] at hn
   have HG:=hid (growB_any z (by omega) U)
   clear hz hmL hz2
   go_upto_region 11 with (first|(go_at_call 94;refine HG.out.mono ?_;rintro e w1 ⟨a1,c1,rfl,hO1,hb1⟩;have HO1:=hid hO1;have HB1:=hid hb1;clear hO1 hb1))
   try go_frame
   go_loopw [6,27] (CoB U L) (fun _ v _=>m - (intOf v).toNat)
   case atStart=>exact⟨0,a1,c1,rfl,rfl,by omega,HO1.out,HB1.out⟩
   case round =>
    obtain⟨j,a2,c2,rfl,rfl,hj,hO2,hb2⟩:=hrel
    rename World=>Y
    have HO2:=hid hO2
    have HB2:=hid hb2
    have hmL:=HM.out
    have hle2:=sxN_le L j
    clear hO2 hb2
    by_cases hy:j<m
    ·have hd3:decide ((j:Int)<(m:Int))=true:=decide_eq_true (by omega)
     obtain⟨s,hs⟩:∃s,L[j]?=some s:=⟨L[j]'(by omega),List.getElem?_eq_getElem (by omega)⟩
     have x0:=cell_later HB2.out (H.out.cell j s hs)
     obtain⟨e1,e2⟩:=sx_take L j s hs
     have hle1:=sxN_le L (j+1)
     rw [e1] at hle1
     have hz3:=HZ2.out
     obtain⟨a3,c3,w3,hrun,hO3,hG3⟩:=append_k 39 5 _ 1 1 Tryz.underlying39 infoEB rfl (by omega) (by omega) HO2.out (cr_later (H.out.cr s (List.mem_of_getElem? hs)) HB2.out) HB2.out.size (by omega)
     have hb3:Below U.heap.size U w3:=But.below HB2.out hG3.but (fun k hk=>(Ow.blk HO2.out k hk).1)
     rw [←e1,←e2] at hO3
     rw [←e1] at hrun
     have hwj:wrap64 ((j:Int)+1)=(j:Int)+1:=by unfold wrap64;omega
     have HN:Hid (CoB U L (.slice a3 (sxN (L.take (j+1))) c3) (.int .i64 ((j:Int)+1)) w3):=⟨j+1,a3,c3,rfl,by simp,by omega,hO3,hb3⟩
     have HA:=hid hrun
     have hjj:(j:Int)<(m:Int):=by omega
     clear hs e1 e2 hmL hrun hO3 hG3 hb3 hz3
     go_wp2_with (first|(at_builtin;refine wpList_append_known rfl _ _ 39 rfl _ _ rfl rfl _ _ HA.out ?_))
     refine⟨?_,by simp [intOf];omega⟩
     exact HN.out
    ·have hz9:L.take j=L:=List.take_of_length_le (by omega)
     have hd3:decide ((j:Int)<(m:Int))=false:=decide_eq_false (by omega)
     have HE:Hid (Ow Y U.heap.size 5 1 a2 (sxN L) c2 (sxM L)):=by have:=HO2.out;rw [hz9] at this;exact this
     rw [hz9]
     have hjm:j=m:=by omega
     clear hz9 hmL
     go_wp2
     go_ret
     exact⟨a2,c2,rfl,HE.out,HB2.out⟩
theorem infoEC:(Tryz.prog.info? 38).map (fun i=>(i.zero,i.size,i.bytes))=some (some (Value.agg #[.int .i64 0,.int .u64 0,.int .u64 0]),3,24):=by kernel_rfl
set_option maxRecDepth 100000 in
set_option maxHeartbeats 4000000 in
theorem growC_none (w:World):Calls Tryz.prog 95 #[.slice none 0 0,.int .i64 0] w fun e w'=>e=.returned (.slice none 0 0)∧Below w.heap.size w w':=by
 go_enter Tryz.func95,Tryz.ntmps95
 go_wp2
 go_ret
 exact⟨rfl,Below.refl _ _⟩
set_option maxRecDepth 100000 in
set_option maxHeartbeats 4000000 in
theorem growC_some (n:Nat)(h0:0<n)(hn:n≤1048576)(w:World):Calls Tryz.prog 95 #[.slice none 0 0,.int .i64 (n:Int)] w fun e w'=>∃c,e=.returned (.slice (some ⟨w.heap.size,0,none⟩) 0 c)∧Ow w' w.heap.size 38 3 (some ⟨w.heap.size,0,none⟩) 0 c []∧Below w.heap.size w w':=by
 obtain⟨i,hi,hz0,hz1,hz2⟩:=info_parts infoEC
 have happ:=Lib.run_append_nil_zeros (P:=Tryz.prog) w 63 3 63 38 i _ .i64 .i64 Tryz.underlying63 Tryz.underlying3 hi hz0 n h0 (by rw [hz1];omega) (by omega) (by rw [hz2];omega)
 obtain⟨c,hc⟩:∃c,c=grownCap w n 0 38:=⟨_,rfl⟩
 obtain⟨W,hW⟩:∃W,W=w.drew.alloc (.cells (Builtin.zeroCells (Value.agg #[.int .i64 0,.int .u64 0,.int .u64 0]).cells n++Builtin.zeroCells (Value.agg #[.int .i64 0,.int .u64 0,.int .u64 0]).cells (grownCap w n 0 38 - n)) 38):=⟨_,rfl⟩
 rw [←hW,←hc] at happ
 have hcn:n≤c:=by rw [hc];exact grownCap_ge _ _ _ _
 have HO:Hid (Ow W w.heap.size 38 3 (some ⟨w.heap.size,0,none⟩) 0 c []):=by
  refine⟨by simp,.inr ⟨w.heap.size,c,_,rfl,Nat.le_refl _,by rw [hW];exact heap_alloc_new w.drew _,by omega,by rw [hc];exact grownCap_le_maxLen _ _ _ _ (by unfold maxLen;omega),?_,by simp⟩⟩
  rw [←hc]
  simp only [Array.size_append,size_zeroCells,Value.cells]
  simp only [List.size_toArray,List.length_cons,List.length_nil]
  omega
 have HB:Hid (Below w.heap.size w W):=by rw [hW];exact ((Below.refl _ _).drew).alloc (by simp) _
 have HA:=hid happ
 have hn0:(0:Int)<(n:Int):=by omega
 have hd1:decide ((n:Int)<0)=false:=decide_eq_false (by omega)
 have hd2:decide ((n:Int)>0)=true:=decide_eq_true (by omega)
 have hw0:wrap64 (n:Int)=(n:Int):=by unfold wrap64;omega
 clear happ hW hc hi hz0 hz1 hz2
 go_enter Tryz.func95,Tryz.ntmps95
 go_wp2_with (first|(at_builtin;refine Lib.wpList_append_run _ rfl _ _ _ _ rfl _ _ rfl rfl _ _ HA.out ?_))
 go_ret
 exact⟨c,rfl,HO.out,HB.out⟩
theorem growC_any (n:Nat)(hn:n≤1048576)(w:World):Calls Tryz.prog 95 #[.slice none 0 0,.int .i64 (n:Int)] w fun e w'=>∃a c,e=.returned (.slice a 0 c)∧Ow w' w.heap.size 38 3 a 0 c []∧Below w.heap.size w w':=by
 by_cases h0:0<n
 ·refine (growC_some n h0 hn w).mono ?_
  rintro e w' ⟨c,he,ho,hb⟩
  exact⟨_,c,he,ho,hb⟩
 ·obtain rfl:n=0:=by omega
  refine (growC_none w).mono ?_
  rintro e w' ⟨he,hb⟩
  exact⟨none,0,he,Ow.nil _ _ _ _,hb⟩
def CnC (w:World)(L:List Sx)(v3 v11:Value)(U:World):Prop:=∃i:Nat,v3=.int .i64 (sxN (L.take i):Int)∧v11=.int .i64 (i:Int)∧i≤L.length∧U=w
def CoC (W:World)(L:List Sx)(v6 v27:Value)(U:World):Prop:=∃(i:Nat) (a:Option Addr) (c:Nat),v6=.slice a (sxN (L.take i)) c∧v27=.int .i64 (i:Int)∧i≤L.length∧Ow U W.heap.size 38 3 a (sxN (L.take i)) c (sxM (L.take i))∧Below W.heap.size W U
set_option maxRecDepth 100000 in
set_option maxHeartbeats 4000000 in
theorem concatC_any {p c0:Nat}{L:List Sx}(h:Sxs w 3 p L)(hl:L.length≤8)(hn:sxN L≤65536):Calls Tryz.prog 79 #[.slice (some ⟨p,0,none⟩) L.length c0] w fun e w'=>∃a c,e=.returned (.slice a (sxN L) c)∧Ow w' w.heap.size 38 3 a (sxN L) c (sxM L)∧Below w.heap.size w w':=by
 obtain⟨m,hm⟩:∃m,m=L.length:=⟨_,rfl⟩
 rw [←hm] at hl ⊢
 have HM:=hid hm
 have H:=hid h
 clear h hm
 go_enter Tryz.func79,Tryz.ntmps79
 go_upto_region 3 with fail
 try go_frame
 go_loopw [3,11] (CnC w L) (fun _ v _=>m - (intOf v).toNat)
 case atStart=>exact⟨0,rfl,rfl,by omega,rfl⟩
 case round =>
  obtain⟨i,rfl,rfl,hi,hU⟩:=hrel
  rename World=>U
  subst hU
  have hmL:=HM.out
  have hle:=sxN_le L i
  by_cases hx:i<m
  ·have hd:decide ((i:Int)<(m:Int))=true:=decide_eq_true (by omega)
   obtain⟨s,hs⟩:∃s,L[i]?=some s:=⟨L[i]'(by omega),List.getElem?_eq_getElem (by omega)⟩
   have x0:=H.out.cell i s hs
   obtain⟨e1,e2⟩:=sx_take L i s hs
   have hle1:=sxN_le L (i+1)
   rw [e1] at hle1
   have hw1:wrap64 ((sxN (L.take i):Int)+(s.n:Int))=(sxN (L.take i):Int)+(s.n:Int):=by unfold wrap64;omega
   have hwi:wrap64 ((i:Int)+1)=(i:Int)+1:=by unfold wrap64;omega
   have HN:Hid (CnC U L (.int .i64 ((sxN (L.take i):Int)+(s.n:Int))) (.int .i64 ((i:Int)+1)) U):=⟨i+1,by rw [e1];simp,by simp,by omega,rfl⟩
   have hii:(i:Int)<(m:Int):=by omega
   have hd2:decide ((sxN (L.take i):Int)+(s.n:Int)<0)=false:=decide_eq_false (by omega)
   obtain⟨z,hz⟩:∃z,z=sxN (L.take i):=⟨_,rfl⟩
   rw [←hz] at hle hle1 hw1 HN hd2
   rw [←hz]
   clear hs e1 e2 hmL hz
   go_wp2
   refine⟨?_,by simp [intOf];omega⟩
   exact HN.out
  ·have hz:L.take i=L:=List.take_of_length_le (by omega)
   obtain⟨z,hz2⟩:∃z,z=sxN L:=⟨_,rfl⟩
   rw [hz,←hz2] at hle ⊢
   have hd:decide ((i:Int)<(m:Int))=false:=decide_eq_false (by omega)
   have him:i=m:=by omega
   have HZ2:=hid hz2
   rw [←hz2] at hn
   have HG:=hid (growC_any z (by omega) U)
   clear hz hmL hz2
   go_upto_region 11 with (first|(go_at_call 95;refine HG.out.mono ?_;rintro e w1 ⟨a1,c1,rfl,hO1,hb1⟩;have HO1:=hid hO1;have HB1:=hid hb1;clear hO1 hb1))
   try go_frame
   go_loopw [6,27] (CoC U L) (fun _ v _=>m - (intOf v).toNat)
   case atStart=>exact⟨0,a1,c1,rfl,rfl,by omega,HO1.out,HB1.out⟩
   case round =>
    obtain⟨j,a2,c2,rfl,rfl,hj,hO2,hb2⟩:=hrel
    rename World=>Y
    have HO2:=hid hO2
    have HB2:=hid hb2
    have hmL:=HM.out
    have hle2:=sxN_le L j
    clear hO2 hb2
    by_cases hy:j<m
    ·have hd3:decide ((j:Int)<(m:Int))=true:=decide_eq_true (by omega)
     obtain⟨s,hs⟩:∃s,L[j]?=some s:=⟨L[j]'(by omega),List.getElem?_eq_getElem (by omega)⟩
     have x0:=cell_later HB2.out (H.out.cell j s hs)
     obtain⟨e1,e2⟩:=sx_take L j s hs
     have hle1:=sxN_le L (j+1)
     rw [e1] at hle1
     have hz3:=HZ2.out
     obtain⟨a3,c3,w3,hrun,hO3,hG3⟩:=append_k 63 38 _ 3 24 Tryz.underlying63 infoEC rfl (by omega) (by omega) HO2.out (cr_later (H.out.cr s (List.mem_of_getElem? hs)) HB2.out) HB2.out.size (by omega)
     have hb3:Below U.heap.size U w3:=But.below HB2.out hG3.but (fun k hk=>(Ow.blk HO2.out k hk).1)
     rw [←e1,←e2] at hO3
     rw [←e1] at hrun
     have hwj:wrap64 ((j:Int)+1)=(j:Int)+1:=by unfold wrap64;omega
     have HN:Hid (CoC U L (.slice a3 (sxN (L.take (j+1))) c3) (.int .i64 ((j:Int)+1)) w3):=⟨j+1,a3,c3,rfl,by simp,by omega,hO3,hb3⟩
     have HA:=hid hrun
     have hjj:(j:Int)<(m:Int):=by omega
     clear hs e1 e2 hmL hrun hO3 hG3 hb3 hz3
     go_wp2_with (first|(at_builtin;refine wpList_append_known rfl _ _ 63 rfl _ _ rfl rfl _ _ HA.out ?_))
     refine⟨?_,by simp [intOf];omega⟩
     exact HN.out
    ·have hz9:L.take j=L:=List.take_of_length_le (by omega)
     have hd3:decide ((j:Int)<(m:Int))=false:=decide_eq_false (by omega)
     have HE:Hid (Ow Y U.heap.size 38 3 a2 (sxN L) c2 (sxM L)):=by have:=HO2.out;rw [hz9] at this;exact this
     rw [hz9]
     have hjm:j=m:=by omega
     clear hz9 hmL
     go_wp2
     go_ret
     exact⟨a2,c2,rfl,HE.out,HB2.out⟩
end
end Go.Proofs.YtffmodpgddecnaaGreat.V.E
namespace Go.Proofs.YtffmodpgddecnaaGreat.V.E
open Go.RowKit Go.Maps
open Go.Proofs.YtffmodpgddecnaaGreat.H (B64 Cp)
section
variable {w w' V w2:World}{h:Hm}{q x:Pl}{N N':Nat→Prop}{Es:List En}{Ls:List Ln}
theorem del_arm {P:Program}{w w':World}{ops:Array Oper}{rest:List Oper}{a:Act}{Q:Exit→Act→World→Prop}{tt:TypeId}{ps:String}{af}{t k:TypeId}{x y:Operand}{p v:Value}
  (hr:(Builtin.delete_ #[t,k] tt #[p,v]).run P w=.ok (.tuple #[]) w') (hx:a.eval x=p) (hy:a.eval y=v) (h:wpList P ops Q rest a w') :
  wpList P ops Q ({ dst:=none,op:=.call { callee:=.builtin .delete,args:=#[x,y],argTypes:=#[t,k] },type:=tt,pos:=ps,after:=af,guard:=none }::rest) a w:=by
 refine wpList_plain rfl fun K hK=>?_
 unfold Oper.wp
 simp [execOp,resolve,invoke,builtin,hx,hy,hr,Result.andThen]
 exact hK _ _ h
theorem went_l (hb:But (·=h.bl) w w'):WentP w h N w' N:=⟨hb.mono (fun k e=>.inr (.inr e)),fun _ h=>.inl h⟩
theorem done_fin {b:Nat}(k0:Md w h q N Es Ls){Es':List En}{Ls':List Ln}(kV:Md V h x N' Es' Ls')(hw:WentP w h N V N')(hb:w.heap.size≤b)(hn:¬N' b)(r:Rep)(hr:r.data=[]):DidP w h N (r,x) (.returned (rpV r none 0 0)) (V.setCells b 0 (rpL r none 0 0)):=by
 have g1:=k0.glt
 have g2:=k0.olt
 have g3:=k0.llt
 have:=did_fin kV hw hb hn ⟨by omega,by omega,by omega⟩ (rpL r none 0 0)
 exact DidP.plain rfl hr ⟨_,_,this.1⟩ this.2
set_option maxRecDepth 100000 in
set_option maxHeartbeats 4000000 in
theorem exit_any (k:Md w h q N Es Ls)(by_:Int)(hby:S.i64ok by_):Calls Tryz.prog 59 #[.pointer (some ⟨h.g,0,none⟩),.int .i64 by_] w (DidP w h N (pExi q by_)):=by
 obtain⟨W,hW⟩:∃W,W=w.alloc z6:=⟨_,rfl⟩
 have hB:Below w.heap.size w W:=by rw [hW];exact below1 _ _
 have hZ:Zr W w.heap.size:=by rw [hW];exact Zr.new w
 have k1:=k.later hB
 have x13:=k1.cell 13 rfl
 obtain⟨V,hr,kV,hbV⟩:=k1.dropX by_ hby 0
 have hlt:=k.llt
 have HZ:=hid (hZ.but hbV (by omega))
 have HS9:=hid (HZ.out.st (rep 0) none 0 0)
 have HL9:=hid (HZ.out.lv (rep 0) none 0 0)
 have HD:=hid hr
 have HK0:=hid k
 have HKV:=hid kV
 have HWV:Hid (WentP w h N V N):=(WentP.later hB).trans (went_l hbV)
 have HW:=hid hW
 have hgl:=k.glt
 clear k k1 hB hZ hW hr kV hbV
 unfold pExi
 go_enter Tryz.func59,Tryz.ntmps59
 go_upto_region 1 with fail
 rw [←HW.out]
 go_wp2_with (first|((with_reducible refine del_arm HD.out ?_ ?_ ?_);(· rfl);(· rfl))|((with_reducible refine st_arm HS9.out ?_ ?_ ?_);(· rfl);(· rfl)))
 exact bodyPost_ret (v:=rpV (rep 0) none 0 0) (by simp [results,Tryz.results59,asAddr,HL9.out]) rfl (done_fin HK0.out HKV.out HWV.out (Nat.le_refl _) (HK0.out.new (Nat.le_refl _)) (rep 0) rfl)
set_option maxRecDepth 100000 in
set_option maxHeartbeats 4000000 in
theorem destroy_any (k:Md w h q N Es Ls)(hf:Fit h.p q)(c:Cp)(hc:S.i64ok c.1):Calls Tryz.prog 51 #[.pointer (some ⟨h.g,0,none⟩),cV c] w (DidP w h N (pDes q c)):=by
 have hl:(tkO q.O c.1).length≤1024:=by have:=tk_le q.O c.1;have:=hf.mo;omega
 obtain⟨W,hW⟩:∃W,W=(w.alloc (cO c)).alloc z6:=⟨_,rfl⟩
 have hB:Below w.heap.size w W:=by rw [hW];exact below2 _ _ _
 have hZ:Zr W (w.heap.size+1):=by rw [hW];have:=Zr.new (w.alloc (cO c));simpa using this
 have hC:Cc3 W w.heap.size c:=by rw [hW];exact (Cc3.new w c).later (below1 _ _)
 have k1:=k.later hB
 have HGv:=hid (given_any k1 c 16 hc hl)
 obtain⟨y0,y1,y2⟩:=hC
 have HC:=hid (Cc3.mk y0 y1 y2)
 have hgl:=k.glt
 have HK0:=hid k
 have HK:=hid k1
 have HB:=hid hB
 have HW:=hid hW
 have HZ:=hid hZ
 unfold pDes
 obtain⟨t,ht⟩:∃t,t=gvT q.O 16 c:=⟨_,rfl⟩
 rw [←ht] at HGv
 by_cases h1:giv q.O 16 c≠0
 ·rw [if_pos h1]
  obtain⟨e,he⟩:∃e,e=giv q.O 16 c:=⟨_,rfl⟩
  rw [←he] at HGv h1 ⊢
  have hd:(e != 0)=true:=by simp [h1]
  clear k k1 hB hZ hW hc hl ht he h1 hf
  go_enter Tryz.func51,Tryz.ntmps51
  go_upto_region 1 with fail
  rw [←HW.out]
  go_upto_region 3 with (first|(go_at_call 70;refine HGv.out.mono ?_;rintro e w1 ⟨rfl,hb1⟩;have HB1:=hid hb1;clear hb1))
  obtain⟨U1,hU_⟩:∃U_,U_=w1.alloc (.cells #[.int .u64 (t.hi:Int),.int .u64 (t.lo:Int),.int .i64 t.r,.int .u64 (t.uh:Int),.int .u64 (t.ul:Int)] 88):=⟨_,rfl⟩
  have hb_:=below_call HB1.out (show Below w1.heap.size w1 U1 by rw [hU_];exact below1 _ _)
  rw [←hU_]
  have HBU:=hid hb_
  have HZ1:=hid (HZ.out.later hb_)
  clear hb_ hU_
  have HR_:=hid (refused_any e U1)
  go_wp2_with (first|(go_at_call 28;refine HR_.out.mono ?_;rintro e_ w3 ⟨rfl,hb3⟩;have HB3:=hid hb3;have HZ9:=hid (HZ1.out.later HB3.out);have HS9:=hid (HZ9.out.st (rep e) none 0 0);have HL9:=hid (HZ9.out.lv (rep e) none 0 0);clear hb3)|((with_reducible refine st_arm HS9.out ?_ ?_ ?_);(· rfl);(· rfl)))
  exact bodyPost_ret (v:=rpV (rep e) none 0 0) (by simp [results,Tryz.results51,asAddr,HL9.out]) rfl (refuse_fin HK0.out (HK.out.later HBU.out) (WentP.later (below_call HB.out HBU.out)) HB3.out (Nat.le_succ _) (rep e) rfl)
 have h1:giv q.O 16 c=0:=by simpa using h1
 rw [if_neg (by rw [h1];simp)]
 rw [h1] at HGv
 clear k k1 hB hZ hW hl ht h1 hf
 go_enter Tryz.func51,Tryz.ntmps51
 go_upto_region 1 with fail
 rw [←HW.out]
 go_upto_region 4 with (first|(go_at_call 70;refine HGv.out.mono ?_;rintro e w1 ⟨rfl,hb1⟩;have HB1:=hid hb1;clear hb1))
 obtain⟨U1,hU_⟩:∃U_,U_=w1.alloc (.cells #[.int .u64 (t.hi:Int),.int .u64 (t.lo:Int),.int .i64 t.r,.int .u64 (t.uh:Int),.int .u64 (t.ul:Int)] 88):=⟨_,rfl⟩
 have hb_:=below_call HB1.out (show Below w1.heap.size w1 U1 by rw [hU_];exact below1 _ _)
 rw [←hU_]
 have HBU:=hid hb_
 have HZ1:=hid (HZ.out.later hb_)
 clear hb_ hU_
 have kU:=HK.out.later HBU.out
 obtain⟨V,hr,kV,hbV⟩:=(kU.later (Below.refl U1.heap.size U1).drew).dropO c.1 hc 0
 have HCU:=hid (HC.out.later HBU.out)
 have hsz:w.heap.size<U1.heap.size:=World.block_lt_of_cell? _ _ HCU.out.c0
 have hol:=HK0.out.olt
 have HS:Hid (U1.drew.cell? ⟨h.g,12,none⟩=some (.map (some h.bo))∧U1.drew.cell? ⟨w.heap.size,0,none⟩=some (.int .i64 c.1)):=⟨kU.cell 12 rfl,HCU.out.c0⟩
 have HS2:Hid (V.cell? ⟨h.g,12,none⟩=some (.map (some h.bo))∧V.cell? ⟨w.heap.size,0,none⟩=some (.int .i64 c.1)):=⟨kV.cell 12 rfl,cell_but hbV HS.out.2 (by simp only;omega)⟩
 have HKV:=hid kV
 have HWV:Hid (WentP w h N V N):=(WentP.later (below_call HB.out HBU.out)).trans ((WentP.later (Below.refl U1.heap.size U1).drew).trans (went_o hbV))
 have HZV:=hid ((HZ1.out.later (Below.refl U1.heap.size U1).drew).but hbV (by omega))
 have HS9:=hid (HZV.out.st (rep 0) none 0 0)
 have HL9:=hid (HZV.out.lv (rep 0) none 0 0)
 clear kU kV hbV y0 y1 y2
 go_cut [22] (fun v22 U=>v22=.int .i64 c.1∧U=V)
 case first =>
  go_region_held3 (fun U=>U.cell? ⟨h.g,12,none⟩=some (.map (some h.bo))∧U.cell? ⟨w.heap.size,0,none⟩=some (.int .i64 c.1)) (first|exact HS.out|exact HS2.out) (fail)
  all_goals (try go_wp2)
  all_goals go_meet
  all_goals exact⟨rfl,rfl⟩
 case rest =>
 obtain⟨rfl,hVe⟩:=hcut
 subst hVe
 go_wp2_with (first|((with_reducible refine st_arm HS9.out ?_ ?_ ?_);(· rfl);(· rfl)))
 exact bodyPost_ret (v:=rpV (rep 0) none 0 0) (by simp [results,Tryz.results51,asAddr,HL9.out]) rfl (done_fin HK0.out HKV.out HWV.out (Nat.le_succ _) (HK0.out.new (Nat.le_succ _)) (rep 0) rfl)
end
end Go.Proofs.YtffmodpgddecnaaGreat.V.E
