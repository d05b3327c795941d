import Derived.Test.YtfmhdimaijimlaaGreatDoorG16
set_option linter.unusedVariables false
set_option linter.unusedSimpArgs false
set_option maxRecDepth 1000000
set_option maxHeartbeats 8000000
namespace Go.Proofs.YtfmhdimaijimlaaGreatDoor.D
open Go.RowKit
open Go.Proofs.YtfmhdimaijimlaaGreatDoor.H (B64 Cp)
theorem mchild_any {w:World}{H:Hd}{s:Sta}(h:Tri w H s)(hf:Fit H.toPar s)(c:Cp)(r:Int)(ho:(Lit.int .i64 c.1).wf=true)(hw:c.2.1<B64∧c.2.2<B64) :
  Calls Tryz.prog 159 #[makV H,cpV c,.int .i64 r] w (Made w H (childA H.toPar s c r)):=by
 obtain⟨o,hi,lo⟩:=c
 obtain⟨w0,hw0⟩:∃w0,w0=(((w.alloc (Obj.cells #[.pointer (some ⟨H.g,0,none⟩),.pointer (some ⟨H.A.g,0,none⟩),.pointer (some ⟨H.qg,0,none⟩)] 250)).alloc (Obj.cells #[.int .i64 o,.int .u64 (hi:Int),.int .u64 (lo:Int)] 38)).alloc (Obj.cells #[.int .i64 r] 3)).alloc (Obj.cells #[.int .i64 0,.int .u64 0,.int .u64 0] 38):=⟨_,rfl⟩
 have hB0:Below w.heap.size w w0:=by rw [hw0];exact ((below2 _ _ _).alloc (by simp;omega) _).alloc (by simp;omega) _
 have hmk:Mk w0 w.heap.size H:=by rw [hw0];exact⟨by simp [go_sem],by simp [go_sem],by simp [go_sem]⟩
 have hcw:Cw w0 (w.heap.size+1) (o,hi,lo):=by rw [hw0];exact⟨by simp [go_sem],by simp [go_sem],by simp [go_sem]⟩
 have hrr:w0.cell? ⟨w.heap.size+1+1,0,none⟩=some (.int .i64 r):=by rw [hw0];simp [go_sem]
 have hz:Zc w0 (w.heap.size+1+1+1):=by rw [hw0];exact⟨⟨by simp [go_sem],by simp [go_sem]⟩,⟨by simp [go_sem],by simp [go_sem]⟩,⟨by simp [go_sem],by simp [go_sem]⟩⟩
 have hs0:w0.heap.size=w.heap.size+1+1+1+1:=by rw [hw0];simp
 have hlt:=h.old
 have hwr:∀k,H.Wr k→k<w.heap.size:=fun k hk=>hlt k (Hd.wr_all hk)
 have HM:Hid (∀U,But H.Wr w0 U→Mk U w.heap.size H∧Cw U (w.heap.size+1) (o,hi,lo)∧U.cell? ⟨w.heap.size+1+1,0,none⟩=some (.int .i64 r)∧Zc U (w.heap.size+1+1+1)):=fun U hU=>⟨hmk.but hU (fun e=>by have:=hwr _ e;omega),hcw.but hU (fun e=>by have:=hwr _ e;omega),cb_ hU hrr (fun e=>by have:=hwr _ e;simp at this;omega),hz.but hU (fun e=>by have:=hwr _ e;omega)⟩
 obtain⟨x0,x1,x2⟩:=hmk
 obtain⟨y0,y1,y2⟩:=hcw
 have HO:=hid hlt
 have HT:=hid (h.later hB0)
 have HB0:=hid hB0
 have HS0:=hid hs0
 rw [childA_eq]
 by_cases hn:(srcN s (o,hi,lo) r).2=0
 ·rw [if_neg (by simp [hn])]
  obtain⟨k1,k2,k3⟩:=srcN_ok hn
  obtain⟨g1,g2⟩:=found h.cat.inv k1
  have HSr:=hid (source_any (h.later hB0) (o,hi,lo) r hw)
  rw [hn,k3] at HSr
  obtain⟨m,hm⟩:∃m,m=findN s.X s.l (o,hi,lo):=⟨_,rfl⟩
  rw [←hm] at HSr
  rw [←hm]
  obtain⟨R,hR⟩:∃R,R=tokR H.toPar s o (childD H.toPar s o) m r:=⟨_,rfl⟩
  have HTk:Hid (∀(U:World) (nb:Nat),Below w.heap.size w U→Mk U w.heap.size H→U.cell? ⟨w.heap.size+1,0,none⟩=some (.int .i64 o)→U.cell? ⟨w.heap.size+1+1,0,none⟩=some (.int .i64 r)→U.cell? ⟨nb,0,none⟩=some (.int .i64 m)→w.heap.size≤nb→Calls Tryz.prog 191 #[makV H,.int .i64 o,.func (.func 203) #[] #[.pointer (some ⟨w.heap.size,0,none⟩),.pointer (some ⟨w.heap.size+1,0,none⟩)],.func (.func 205) #[] #[.pointer (some ⟨w.heap.size,0,none⟩),.pointer (some ⟨nb,0,none⟩),.pointer (some ⟨w.heap.size+1+1,0,none⟩)]] U (Made U H R)):=fun U nb hU hmU hcU hrU hnU hnb=>by
   rw [hR]
   refine tokenC (h.later hU) o ho (childD H.toPar s o) ⟨(low s.l:Int),0,s.X.set (low s.l) (cap o (childD H.toPar s o).1,r),s.l++[((low s.l:Int),m)]⟩ w.heap.size (w.heap.size+1) nb (w.heap.size+1+1) (fun V hV=>draw58 ((h.later hU).later hV) hf.cs (hmU.later hV) o (cell_later hV hcU)) (fun hm2 hD=>⟨rfl,fun V hV hT=>?_⟩)
   have hg:∀k,w.heap.size≤k→¬k=H.g:=fun k hk e=>by have:=hwr k (.inl e);omega
   have:=enter60 hT (hmU.but hV (hg _ (Nat.le_refl _))) m r (cb_ hV hnU (hg _ hnb)) (cb_ hV hrU (hg _ (by simp;omega))) (cap o (childD H.toPar s o).1) (half_lt (drawR_small hf.cs))
   rwa [show childR H.mo s.X s.l m (cap o (childD H.toPar s o).1) r=_ from childR_ok hf hm2 (childD_new hf hD) (by rw [hm];exact g1) (by rw [hm];unfold ob;rw [g2]) (by rw [hm];exact k2)] at this
  rw [←hR]
  unfold makV at HTk HSr ⊢
  have hnil:∀st,errO st 0=.nilIface:=fun st=>rfl
  simp only [hnil] at HSr
  clear h hB0 hlt hwr hf hm hR hz hrr hs0 hn k1 k2 k3 g1 g2 hnil
  go_enter Tryz.func159,Tryz.ntmps159
  go_upto_region 1 with fail
  rw [←hw0]
  clear hw0
  have hrr:=(HM.out w0 (But.refl _ _)).2.2.1
  go_upto_region 2 with (first
   | (go_at_call 202;refine HSr.out.mono ?_;rintro e w2 ⟨⟨st0,rfl⟩,hb2⟩;have HB2:=hid (bc HB0.out hb2);have HC2:=hid hb2;clear hb2))
  obtain⟨w3,hw3⟩:∃w3,w3=w2.alloc (Obj.cells #[.int .i64 m] 3):=⟨_,rfl⟩
  have hB3:Below w2.heap.size w2 w3:=by rw [hw3];exact below1 _ _
  have hn3:w3.cell? ⟨w2.heap.size,0,none⟩=some (.int .i64 m):=by rw [hw3];simp [go_sem]
  have HC3:=hid (But.of (S:=H.Wr) (bc HC2.out hB3))
  have HK3:=hid (bc HB2.out hB3)
  have HN3:=hid hn3
  have HG3:=hid HB2.out.size
  obtain⟨⟨p0,p1,p2⟩,⟨q0,q1,q2⟩,q3,_⟩:=HM.out w3 HC3.out
  rw [←hw3]
  clear hw3 hB3 hn3
  go_upto_region 5 with fail
  go_wp2_with (first
   | (go_at_call 191;refine (HTk.out w3 w2.heap.size HK3.out (HM.out w3 HC3.out).1 q0 q3 HN3.out HG3.out).mono ?_;rintro e w4 ⟨⟨st,rfl⟩,ht4,hb4⟩;have HT4:=hid ht4;have HB4:=hid (HC3.out.trans hb4);obtain⟨⟨v0,f0⟩,⟨v1,f1⟩,⟨v2,f2⟩⟩:=(HM.out w4 HB4.out).2.2.2;clear ht4 hb4))
  have HQ:=hid (three_set v0 v1 v2 (.int .i64 R.c.1) (.int .u64 (R.c.2.1:Int)) (.int .u64 (R.c.2.2:Int)))
  obtain⟨hf1,hf2⟩:=Made.put (w1:=w) (b:=w.heap.size+1+1+1) HT4.out ((But.of HB0.out).trans HB4.out) HO.out (by omega) R.c
  exact bodyPost_ret (v:=.tuple #[.agg #[.int .i64 R.c.1,.int .u64 (R.c.2.1:Int),.int .u64 (R.c.2.2:Int)],errO st R.code]) (by simp [results,Tryz.results159,go_sem,HQ.out.1,HQ.out.2.1,HQ.out.2.2]) rfl ⟨⟨st,rfl⟩,hf1,hf2⟩
 ·rw [if_pos hn]
  have HSr:=hid (source_any (h.later hB0) (o,hi,lo) r hw)
  obtain⟨m,hm⟩:∃m,m=(srcN s (o,hi,lo) r).2:=⟨_,rfl⟩
  obtain⟨m1,hm1⟩:∃m,m=(srcN s (o,hi,lo) r).1:=⟨_,rfl⟩
  rw [←hm] at HSr hn
  rw [←hm1] at HSr
  rw [←hm]
  have HMn:=hid hn
  simp only [errO_ne hn] at HSr
  unfold errV at HSr
  unfold makV at HSr ⊢
  clear h hB0 hlt hwr hf hm hm1 hz hrr hs0 hn
  go_enter Tryz.func159,Tryz.ntmps159
  go_upto_region 1 with fail
  rw [←hw0]
  clear hw0
  have hrr:=(HM.out w0 (But.refl _ _)).2.2.1
  go_upto_region 2 with (first
   | (go_at_call 202;refine HSr.out.mono ?_;rintro e w2 ⟨⟨st0,rfl⟩,hb2⟩;have HB2:=hid (bc HB0.out hb2);have HC2:=hid hb2;clear hb2))
  obtain⟨w3,hw3⟩:∃w3,w3=w2.alloc (Obj.cells #[.int .i64 m1] 3):=⟨_,rfl⟩
  have hB3:Below w2.heap.size w2 w3:=by rw [hw3];exact below1 _ _
  have HC3:=hid (But.of (S:=H.Wr) (bc HC2.out hB3))
  have HT3:=hid (HT.out.later (bc HC2.out hB3))
  obtain⟨⟨v0,f0⟩,⟨v1,f1⟩,⟨v2,f2⟩⟩:=(HM.out w3 HC3.out).2.2.2
  rw [←hw3]
  clear hw3 hB3
  go_wp2
  have HQ:=hid (three_set v0 v1 v2 (.int .i64 0) (.int .u64 0) (.int .u64 0))
  obtain⟨hf1,hf2⟩:=Made.put (w1:=w) (b:=w.heap.size+1+1+1) HT3.out ((But.of HB0.out).trans HC3.out) HO.out (by omega) (0,0,0)
  exact bodyPost_ret (v:=.tuple #[.agg #[.int .i64 0,.int .u64 0,.int .u64 0],errV st0 m]) (by simp [results,Tryz.results159,go_sem,HQ.out.1,HQ.out.2.1,HQ.out.2.2];rfl) rfl ⟨⟨st0,by rw [show (no s m).code=m from rfl,errO_ne HMn.out];rfl⟩,hf1,hf2⟩
def Gave (w:World)(H:Hd)(R:Ans)(e:Ending)(w':World):Prop :=
 e=.returned (.tuple #[cpV R.c,.int .i64 R.code])∧Tri w' H R.s∧But H.Wr w w'
theorem root_any {w:World}{H:Hd}{s:Sta}(h:Tri w H s)(hf:Fit H.toPar s)(o:Int)(ho:(Lit.int .i64 o).wf=true) :
  Calls Tryz.prog 104 #[.pointer (some ⟨H.g,0,none⟩),.pointer (some ⟨H.A.g,0,none⟩),.pointer (some ⟨H.qg,0,none⟩),.int .i64 o] w (Gave w H (rootA H.toPar s o)):=by
 have hB0:=below1 w (Obj.cells #[.int .i64 0,.int .u64 0,.int .u64 0] 38)
 have hz:=Zc.mk_ w
 have hlt:=h.old
 have hwr:∀k,H.Wr k→k<w.heap.size:=fun k hk=>hlt k (Hd.wr_all hk)
 have HZ:Hid (∀U,But H.Wr (w.alloc (Obj.cells #[.int .i64 0,.int .u64 0,.int .u64 0] 38)) U→Zc U w.heap.size):=fun U hU=>hz.but hU (fun e=>by have:=hwr _ e;omega)
 have HO:=hid hlt
 have HB0:=hid hB0
 have HK:=hid (mroot_any (h.later hB0) hf o ho)
 unfold makV at HK
 generalize rootA H.toPar s o=R at *
 clear h hB0 hz hlt hwr hf
 go_enter Tryz.func104,Tryz.ntmps104
 go_upto_region 2 with (first
  | (go_at_call 152;refine HK.out.mono ?_;rintro e w2 ⟨⟨st,rfl⟩,ht2,hb2⟩;have HT2:=hid ht2;have HB2:=hid hb2;clear ht2 hb2))
 obtain⟨v,hv⟩:∃v,v=w2.alloc (Obj.cells #[.int .i64 R.c.1,.int .u64 (R.c.2.1:Int),.int .u64 (R.c.2.2:Int)] 38):=⟨_,rfl⟩
 have hBv:Below w2.heap.size w2 v:=by rw [hv];exact below1 _ _
 have hcw:Cw v w2.heap.size R.c:=by rw [hv];exact⟨by simp [go_sem],by simp [go_sem],by simp [go_sem]⟩
 have hs2:w.heap.size<w2.heap.size:=by have:=HB2.out.size;simp at this;omega
 have HTv:=hid (HT2.out.later hBv)
 have HBv:=hid (HB2.out.call hBv)
 have HN:=hid (fun (U:World) (hU:Below v.heap.size v U)=>number_any st R.code U (HTv.out.laid.later hU))
 have HL:Hid (∀U,Below v.heap.size v U→Zc U w.heap.size):=fun U hU=>HZ.out U (HBv.out.call hU)
 have HS:Hid (∀U,But (·=w.heap.size) v U→(U.cell? ⟨w2.heap.size,0,none⟩=some (.int .i64 R.c.1)∧U.cell? ⟨w2.heap.size,1,none⟩=some (.int .u64 (R.c.2.1:Int))∧U.cell? ⟨w2.heap.size,2,none⟩=some (.int .u64 (R.c.2.2:Int)))∧But (·=w.heap.size) v U):=fun U hU=>by
  obtain⟨q0,q1,q2⟩:=hcw.but hU (fun e=>by omega)
  exact⟨⟨q0,q1,q2⟩,hU⟩
 rw [←hv]
 clear hv hBv hcw hs2
 go_region_held3 (fun U=>(U.cell? ⟨w2.heap.size,0,none⟩=some (.int .i64 R.c.1)∧U.cell? ⟨w2.heap.size,1,none⟩=some (.int .u64 (R.c.2.1:Int))∧U.cell? ⟨w2.heap.size,2,none⟩=some (.int .u64 (R.c.2.2:Int)))∧But (·=w.heap.size) v U) (first|exact HS.out _ (But.of (Below.refl _ _).drew)|exact HS.out _ ((And.right (by assumption):But (·=w.heap.size) v v.drew).call hb9)|exact HS.out _ ((((And.right (by assumption):But (·=w.heap.size) v w9).own _ _).own _ _).own _ _)) (first|(go_at_call 153;refine (HN.out _ (Below.refl _ _).drew).mono ?_;rintro e w9 ⟨rfl,hb9⟩;have HB9:=hid (bc (Below.refl v.heap.size v).drew hb9);obtain⟨⟨v0,f0⟩,⟨v1,f1⟩,⟨v2,f2⟩⟩:=HL.out w9 HB9.out))
 go_wp2
 have HQ:=hid (three_set v0 v1 v2 (.int .i64 R.c.1) (.int .u64 (R.c.2.1:Int)) (.int .u64 (R.c.2.2:Int)))
 obtain⟨hf1,hf2⟩:=Made.put (w1:=w) (b:=w.heap.size) (HTv.out.later HB9.out) (((But.of HB0.out).trans HBv.out).call HB9.out) HO.out (Nat.le_refl _) R.c
 exact bodyPost_ret (v:=.tuple #[.agg #[.int .i64 R.c.1,.int .u64 (R.c.2.1:Int),.int .u64 (R.c.2.2:Int)],.int .i64 R.code]) (by simp [results,Tryz.results104,go_sem,HQ.out.1,HQ.out.2.1,HQ.out.2.2]) rfl ⟨rfl,hf1,hf2⟩
theorem dchild_any {w:World}{H:Hd}{s:Sta}(h:Tri w H s)(hf:Fit H.toPar s)(c:Cp)(r:Int)(ho:(Lit.int .i64 c.1).wf=true)(hw:c.2.1<B64∧c.2.2<B64) :
  Calls Tryz.prog 108 #[.pointer (some ⟨H.g,0,none⟩),.pointer (some ⟨H.A.g,0,none⟩),.pointer (some ⟨H.qg,0,none⟩),cpV c,.int .i64 r] w (Gave w H (childA H.toPar s c r)):=by
 obtain⟨o,hi,lo⟩:=c
 obtain⟨w0,hw0⟩:∃w0,w0=(w.alloc (Obj.cells #[.int .i64 o,.int .u64 (hi:Int),.int .u64 (lo:Int)] 38)).alloc (Obj.cells #[.int .i64 0,.int .u64 0,.int .u64 0] 38):=⟨_,rfl⟩
 have hB0:Below w.heap.size w w0:=by rw [hw0];exact below2 _ _ _
 have x0:w0.cell? ⟨w.heap.size,0,none⟩=some (.int .i64 o):=by rw [hw0];simp [go_sem]
 have x1:w0.cell? ⟨w.heap.size,1,none⟩=some (.int .u64 (hi:Int)):=by rw [hw0];simp [go_sem]
 have x2:w0.cell? ⟨w.heap.size,2,none⟩=some (.int .u64 (lo:Int)):=by rw [hw0];simp [go_sem]
 have hz:Zc w0 (w.heap.size+1):=by rw [hw0];exact⟨⟨by simp [go_sem],by simp [go_sem]⟩,⟨by simp [go_sem],by simp [go_sem]⟩,⟨by simp [go_sem],by simp [go_sem]⟩⟩
 have hs0:w0.heap.size=w.heap.size+1+1:=by rw [hw0];simp
 have hlt:=h.old
 have hwr:∀k,H.Wr k→k<w.heap.size:=fun k hk=>hlt k (Hd.wr_all hk)
 have HZ:Hid (∀U,But H.Wr w0 U→Zc U (w.heap.size+1)):=fun U hU=>hz.but hU (fun e=>by have:=hwr _ e;omega)
 have HO:=hid hlt
 have HB0:=hid hB0
 have HS0:=hid hs0
 have HK:=hid (mchild_any (h.later hB0) hf (o,hi,lo) r ho hw)
 unfold makV at HK
 generalize childA H.toPar s (o,hi,lo) r=R at *
 clear h hB0 hz hlt hwr hf hs0
 go_enter Tryz.func108,Tryz.ntmps108
 go_upto_region 1 with fail
 rw [←hw0]
 clear hw0
 go_upto_region 2 with (first
  | (go_at_call 159;refine HK.out.mono ?_;rintro e w2 ⟨⟨st,rfl⟩,ht2,hb2⟩;have HT2:=hid ht2;have HB2:=hid hb2;clear ht2 hb2))
 obtain⟨v,hv⟩:∃v,v=w2.alloc (Obj.cells #[.int .i64 R.c.1,.int .u64 (R.c.2.1:Int),.int .u64 (R.c.2.2:Int)] 38):=⟨_,rfl⟩
 have hBv:Below w2.heap.size w2 v:=by rw [hv];exact below1 _ _
 have hcw:Cw v w2.heap.size R.c:=by rw [hv];exact⟨by simp [go_sem],by simp [go_sem],by simp [go_sem]⟩
 have hs2:w.heap.size+1<w2.heap.size:=by have:=HB2.out.size;have:=HS0.out;omega
 have HTv:=hid (HT2.out.later hBv)
 have HBv:=hid (HB2.out.call hBv)
 have HN:=hid (fun (U:World) (hU:Below v.heap.size v U)=>number_any st R.code U (HTv.out.laid.later hU))
 have HL:Hid (∀U,Below v.heap.size v U→Zc U (w.heap.size+1)):=fun U hU=>HZ.out U (HBv.out.call hU)
 have HS:Hid (∀U,But (·=w.heap.size+1) v U→(U.cell? ⟨w2.heap.size,0,none⟩=some (.int .i64 R.c.1)∧U.cell? ⟨w2.heap.size,1,none⟩=some (.int .u64 (R.c.2.1:Int))∧U.cell? ⟨w2.heap.size,2,none⟩=some (.int .u64 (R.c.2.2:Int)))∧But (·=w.heap.size+1) v U):=fun U hU=>by
  obtain⟨q0,q1,q2⟩:=hcw.but hU (fun e=>by omega)
  exact⟨⟨q0,q1,q2⟩,hU⟩
 rw [←hv]
 clear hv hBv hcw hs2
 go_region_held3 (fun U=>(U.cell? ⟨w2.heap.size,0,none⟩=some (.int .i64 R.c.1)∧U.cell? ⟨w2.heap.size,1,none⟩=some (.int .u64 (R.c.2.1:Int))∧U.cell? ⟨w2.heap.size,2,none⟩=some (.int .u64 (R.c.2.2:Int)))∧But (·=w.heap.size+1) v U) (first|exact HS.out _ (But.of (Below.refl _ _).drew)|exact HS.out _ ((And.right (by assumption):But (·=w.heap.size+1) v v.drew).call hb9)|exact HS.out _ ((((And.right (by assumption):But (·=w.heap.size+1) v w9).own _ _).own _ _).own _ _)) (first|(go_at_call 153;refine (HN.out _ (Below.refl _ _).drew).mono ?_;rintro e w9 ⟨rfl,hb9⟩;have HB9:=hid (bc (Below.refl v.heap.size v).drew hb9);obtain⟨⟨v0,f0⟩,⟨v1,f1⟩,⟨v2,f2⟩⟩:=HL.out w9 HB9.out))
 go_wp2
 have HQ:=hid (three_set v0 v1 v2 (.int .i64 R.c.1) (.int .u64 (R.c.2.1:Int)) (.int .u64 (R.c.2.2:Int)))
 obtain⟨hf1,hf2⟩:=Made.put (w1:=w) (b:=w.heap.size+1) (HTv.out.later HB9.out) (((But.of HB0.out).trans HBv.out).call HB9.out) HO.out (by omega) R.c
 exact bodyPost_ret (v:=.tuple #[.agg #[.int .i64 R.c.1,.int .u64 (R.c.2.1:Int),.int .u64 (R.c.2.2:Int)],.int .i64 R.code]) (by simp [results,Tryz.results108,go_sem,HQ.out.1,HQ.out.2.1,HQ.out.2.2]) rfl ⟨rfl,hf1,hf2⟩
end Go.Proofs.YtfmhdimaijimlaaGreatDoor.D
