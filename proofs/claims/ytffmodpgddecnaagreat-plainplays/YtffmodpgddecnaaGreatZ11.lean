import Derived.Test.YtffmodpgddecnaaGreatZ10
set_option linter.unusedVariables false
set_option linter.unusedSimpArgs false
namespace Go.Proofs.YtffmodpgddecnaaGreat.V.E
open Go.RowKit Go.Maps
open Go.Proofs.YtffmodpgddecnaaGreat.H (B64 Cp)
section
variable {w w':World}{h:Hm}{q:Pl}{N:Nat→Prop}{Es:List En}{Ls:List Ln}
abbrev z16:List Value:=[.int .i64 0,.int .i64 0,.int .i64 0,.int .i64 0,.int .i64 0,.int .i64 0,.int .i64 0,.int .i64 0,.int .i64 0,.int .i64 0,.slice none 0 0,.int .i64 0,.map none,.map none,.int .i64 0,.int .i64 0]
theorem info70:(Tryz.prog.info? 61).map (·.size)=some 16:=by kernel_rfl
theorem L_len (h:Hm)(q:Pl):(h.L q).length=16:=by simp [Hm.L,Cf.L]
theorem L_one (h:Hm)(q:Pl):∀v∈h.L q,v.oneCell'=true:=by simp [Hm.L,Cf.L,Value.oneCell']
theorem Bx.st70 {b:Nat}{L M:List Value}(k:R.Bx w b L)(hl:L.length=16)(hM:M.length=16)(h1:∀v∈M,v.oneCell'=true):(Instr.storeAt 61 (.pointer (some ⟨b,0,none⟩)) (.agg M.toArray)).run Tryz.prog w=.ok () (w.setCells b 0 M):=by
 have:=R.stc (L:=M) (show w.there b 0 16 by rw [←hl];exact k.there) hM h1
 simp [Instr.storeAt,storeVar,Instr.sureAddr,Value.cells,hM,this,Result.andThen]
theorem Bx.ld70 {b:Nat}{L:List Value}(k:R.Bx w b L)(hl:L.length=16):(Instr.loadAt 61 (.pointer (some ⟨b,0,none⟩))).run Tryz.prog w=.ok (.agg L.toArray) w:=by
 have:=run_loadVar_mid (P:=Tryz.prog) w b 0 61 L _ k.range Tryz.underlying61 rfl (by rw [info70,hl])
 simp [Instr.loadAt,Instr.sureAddr,this]
set_option maxRecDepth 100000 in
set_option maxHeartbeats 4000000 in
theorem refused_any (c:Int)(w:World):Calls Tryz.prog 28 #[.int .i64 c] w fun e w'=>e=.returned (rpV (rep c) none 0 0)∧Below w.heap.size w w':=by
 have hst:=(Zr.new w).st (rep c) none 0 0
 have hlv:=(Zr.new w).lv (rep c) none 0 0
 have HB:Hid (Below w.heap.size w ((w.alloc z6).setCells w.heap.size 0 (rpL (rep c) none 0 0))):=But.below (below1 _ _) (R.setCells_but (S:=(·=w.heap.size)) rfl _ 0 (But.refl _ _)) (fun k e=>by omega)
 have HS:=hid hst
 have HL:=hid hlv
 clear hst hlv
 go_enter Tryz.func28,Tryz.ntmps28
 go_wp2_with (first|((with_reducible refine st_arm HS.out ?_ ?_ ?_);(· rfl);(· rfl)))
 exact bodyPost_ret (v:=rpV (rep c) none 0 0) (by simp [results,Tryz.results28,asAddr,HL.out]) rfl ⟨rfl,HB.out⟩
theorem Md.rise (k:Md w h q N Es Ls){p:Pm}(hf:Fit p q):Ris (Es.map En.v)∧Ris (Ls.map Ln.v):=by
 have h1:=hf.ro
 have h2:=hf.rx
 rw [←k.oe] at h1
 rw [←k.le] at h2
 unfold Ris
 rw [List.pairwise_map] at h1 h2 ⊢
 rw [List.pairwise_map]
 exact⟨h1,h2⟩
theorem Md.lenO (k:Md w h q N Es Ls):Es.length=q.O.length:=by rw [←k.oe,List.length_map]
theorem Md.lenX (k:Md w h q N Es Ls):Ls.length=q.X.length:=by rw [←k.le,List.length_map]
set_option maxRecDepth 100000 in
set_option maxHeartbeats 4000000 in
theorem copied_any (k:Md w h q N Es Ls){p:Pm}(hf:Fit p q) :
  Calls Tryz.prog 29 #[.pointer (some ⟨h.g,0,none⟩)] w fun e w'=>∃g' bo' bl',e=.returned (.pointer (some ⟨g',0,none⟩))∧Md w' { h with g:=g',bo:=bo',bl:=bl' } q N Es Ls∧(w.heap.size≤g'∧w.heap.size≤bo'∧w.heap.size≤bl')∧Below w.heap.size w w':=by
 obtain⟨hr1,hr2⟩:=k.rise hf
 have hn1:Es.length≤1024:=by rw [k.lenO];have:=hf.rm;omega
 have hn2:Ls.length≤1024:=by rw [k.lenX];have:=hf.pm;omega
 have HLd:=hid (Bx.ld70 k.bx (L_len h q))
 obtain⟨W0,hW0⟩:∃W0,W0=w.alloc (.cells z16.toArray 61):=⟨_,rfl⟩
 have hX0:R.Bx W0 w.heap.size z16:=by rw [hW0];exact R.Bx.new w z16 _
 have hB0:Below w.heap.size w W0:=by rw [hW0];exact below1 _ _
 have HSt:=hid (Bx.st70 (M:=h.L q) hX0 rfl (L_len h q) (L_one h q))
 obtain⟨W1,hW1⟩:∃W1,W1=W0.setCells w.heap.size 0 (h.L q):=⟨_,rfl⟩
 have hX1:R.Bx W1 w.heap.size (h.L q):=by rw [hW1];exact hX0.set (by rw [L_len];rfl)
 have hB1:Below w.heap.size w W1:=But.below hB0 (by rw [hW1];exact R.setCells_but (S:=(·=w.heap.size)) rfl _ 0 (But.refl _ _)) (fun k e=>by omega)
 rw [←hW1,hW0] at HSt
 have k1:=k.later hB1
 have x12:=k1.cell 12 rfl
 have HC1:=hid (copyO_any k1.mo hr1 hn1)
 have HW0:=hid hW0
 have HK:=hid k
 have HK1:=hid k1
 have HX1:=hid hX1
 have HB1:=hid hB1
 have hgl:=k.glt
 have HR2:=hid hr2
 clear k k1 hX0 hB0 hW0 hW1 hX1 hB1 hr1 hr2
 go_enter Tryz.func29,Tryz.ntmps29
 go_upto_region 2 with (first|((with_reducible refine R.ld_arm HLd.out ?_ ?_);(· rfl))|((with_reducible refine st_arm HSt.out ?_ ?_ ?_);(· rfl);(· rfl)))
 go_upto_region 3 with (first|(go_at_call 48;refine HC1.out.mono ?_;rintro e w2 ⟨b1,rfl,hM1,hlo1,hb2⟩;have HX2:=hid (R.Bx.later hb2 HX1.out);have y12:=HX2.out.cell 12 rfl;have z12:=Bx.fz HX2.out 12 (by rw [L_len];omega);have HM1:=hid hM1;have HB2:=hid hb2;have HL1:=hid hlo1;clear hM1 hb2 hlo1))
 obtain⟨W3,hW3⟩:∃W3,W3=w2.setCell ⟨w.heap.size,12,none⟩ (.map (some b1)):=⟨_,rfl⟩
 rw [←hW3]
 have hb3:But (·=w.heap.size) w2 W3:=by rw [hW3];exact (But.refl (·=w.heap.size) w2).setCell (p:=⟨w.heap.size,12,none⟩) rfl _
 have hX3:R.Bx W3 w.heap.size ((h.L q).set 12 (.map (some b1))):=by rw [hW3];exact Bx.put HX2.out 12 (by rw [L_len];omega) _
 have hB2:=below_call HB1.out HB2.out
 have hB3:=But.below hB2 hb3 (fun k e=>by omega)
 have hM3:=HM1.out.but hb3 (by have:=HL1.out;have:=HB1.out.size;have:=HX1.out.lt (by rw [L_len];omega);omega)
 have k3:=HK.out.later hB3
 have x13:=k3.cell 13 rfl
 have HC2:=hid (copyX_any k3.ml HR2.out hn2)
 have HX3:=hid hX3
 have HB3:=hid hB3
 have HM3:=hid hM3
 clear hW3 hb3 hX3 hB2 hB3 hM3 k3 y12 z12 x12
 go_upto_region 4 with (first|(go_at_call 49;refine HC2.out.mono ?_;rintro e w4 ⟨b2,rfl,hM2,hlo2,hb4⟩;have HX4:=hid (R.Bx.later hb4 HX3.out);have y13:=HX4.out.cell 13 (v:=.map (some h.bl)) (by rw [List.getElem?_set_ne (by omega)];rfl);have z13:=Bx.fz HX4.out 13 (by rw [List.length_set,L_len];omega);have HM2:=hid hM2;have HB4:=hid hb4;have HL2:=hid hlo2;clear hM2 hb4 hlo2))
 go_wp2
 go_ret
 obtain⟨W5,hW5⟩:∃W5,W5=w4.setCell ⟨w.heap.size,13,none⟩ (.map (some b2)):=⟨_,rfl⟩
 rw [←hW5]
 have hb5:But (·=w.heap.size) w4 W5:=by rw [hW5];exact (But.refl (·=w.heap.size) w4).setCell (p:=⟨w.heap.size,13,none⟩) rfl _
 have hX5:R.Bx W5 w.heap.size (((h.L q).set 12 (.map (some b1))).set 13 (.map (some b2))):=by rw [hW5];exact Bx.put HX4.out 13 (by rw [List.length_set,L_len];omega) _
 have hB4:=below_call HB3.out HB4.out
 have hB5:=But.below hB4 hb5 (fun k e=>by omega)
 have l1:=HL1.out
 have l2:=HL2.out
 have s1:=HB1.out.size
 have s3:=HB3.out.size
 have g1:=HX1.out.lt (by rw [L_len];omega)
 have hlt3:=HM3.out.lt
 have hxlt:=HX3.out.lt (by rw [List.length_set,L_len];omega)
 have k5:=HK.out.later hB5
 refine⟨w.heap.size,b1,b2,rfl,⟨hX5,k5.ws,(HM3.out.later HB4.out).but hb5 (by omega),HM2.out.but hb5 (by omega),k5.oe,k5.le,k5.er,k5.lr,k5.na,HK.out.new (Nat.le_refl _),HK.out.new (show w.heap.size≤b1 by omega),HK.out.new (show w.heap.size≤b2 by omega),by simp only;omega,k5.lt⟩,⟨Nat.le_refl _,by omega,by omega⟩,hB5⟩
def smO (f:En→Nat)(Es:List En)(left:Lit→Bool):Nat:=((Es.filter (fun e=>goneP left e.id)).map f).sum
theorem filter_v (Es:List En)(p:Int→Bool):(Es.map En.v).filter (fun e=>p e.1)=(Es.filter (fun e=>p e.id)).map En.v:=by
 rw [List.filter_map]
 rfl
theorem smO_start (f:En→Nat)(Es:List En):smO f Es (has (mapV (Es.map En.v)))=0:=by
 unfold smO
 have h1:=goneP_start (Es.map En.v)
 rw [filter_v,List.map_eq_nil_iff] at h1
 rw [h1]
 rfl
theorem smO_end (f:En→Nat)(Es:List En){left:Lit→Bool}(h:∀kl,left kl=false):smO f Es left=(Es.map f).sum:=by
 unfold smO
 rw [List.filter_eq_self.2 (fun e _=>by unfold goneP;rw [h];rfl)]
theorem smO_le (f:En→Nat)(Es:List En)(left:Lit→Bool):smO f Es left≤(Es.map f).sum:=by
 unfold smO
 induction Es with
 | nil=>simp
 | cons y r ih =>
  by_cases hy:goneP left y.id=true
  ·rw [List.filter_cons_of_pos (p:=fun e:En=>goneP left e.id) hy];simp only [List.map_cons,List.sum_cons];omega
  ·rw [List.filter_cons_of_neg (p:=fun e:En=>goneP left e.id) hy];simp only [List.map_cons,List.sum_cons];omega
theorem smO_step (f:En→Nat)(left:Lit→Bool):∀{Es:List En},Ris (Es.map En.v)→∀{x:Int} {e:En},e∈Es→e.id=x→goneP left x=false→smO f Es (fun z=>left z&&!z.sameKey (.int .i64 x))=smO f Es left+f e
 | [],_,_,_,h,_,_=>by cases h
 | y::r,hr,x,e,he,hx,hg=>by
  have h1:=(List.pairwise_cons.1 hr).1
  have h2:=(List.pairwise_cons.1 hr).2
  have hstep:=goneP_step left x
  unfold smO
  rcases List.mem_cons.1 he with e1|he
  ·subst e1
   rw [List.filter_cons_of_pos (by rw [hstep,hx];simp),List.filter_cons_of_neg (by rw [hx,hg];simp)]
   have e2:r.filter (fun e=>goneP (fun z=>left z&&!z.sameKey (.int .i64 x)) e.id)=r.filter (fun e=>goneP left e.id):=List.filter_congr fun z hz=>by
    have:=h1 _ (List.mem_map_of_mem (f:=En.v) hz)
    simp only [En.v] at this
    rw [hstep,decide_eq_false (by omega)];simp
   rw [e2]
   simp only [List.map_cons,List.sum_cons]
   omega
  ·have h3:=h1 _ (List.mem_map_of_mem (f:=En.v) he)
   simp only [En.v] at h3
   have ih:=smO_step f left h2 he hx hg
   unfold smO at ih
   have hy:goneP (fun z=>left z&&!z.sameKey (.int .i64 x)) y.id=goneP left y.id:=by rw [hstep,decide_eq_false (by omega)];simp
   cases hg2:goneP left y.id with
   | true =>
    rw [List.filter_cons_of_pos (by rw [hy,hg2]),List.filter_cons_of_pos (by rw [hg2])]
    simp only [List.map_cons,List.sum_cons]
    omega
   | false=>rw [List.filter_cons_of_neg (by rw [hy,hg2];simp),List.filter_cons_of_neg (by rw [hg2];simp)];exact ih
def SmRel (f:En→Nat)(w:World)(b r:Nat)(Es:List En)(v:Value)(w':World):Prop :=
 ∃left cnt,v=.int .i64 (smO f Es left:Int)∧Rg w' b r (Es.map En.v) left cnt∧Below w.heap.size w w'
def lenB (e:En):Nat:=S.needN e.b.length
def lenT (e:En):Nat:=e.T.length
set_option maxRecDepth 100000 in
set_option maxHeartbeats 4000000 in
theorem pages_any (k:Md w h q N Es Ls){p:Pm}(hf:Fit p q)(hmax:(Es.map lenB).sum≤1048576)(hb:∀e∈Es,e.b.length≤4096) :
  Calls Tryz.prog 85 #[.pointer (some ⟨h.g,0,none⟩)] w fun e w'=>e=.returned (.int .i64 ((Es.map lenB).sum:Int))∧Below w.heap.size w w':=by
 have HR:=hid (k.rise hf).1
 have hown:=k.mo
 have hol:=k.olt
 have x12:=k.cell 12 rfl
 clear k hf
 go_enter Tryz.func85,Tryz.ntmps85
 go_upto_region 3 with (first|(at_range;refine wpList_range_own _ rfl _ 58 rfl 3 85 ikey Tryz.underlying58 _ h.bo _ _ rfl hown ?_;intro w0 hrg0 hg0 hs0;clear hs0))
 go_frame
 go_loopw [3] (SmRel lenB w h.bo w.heap.size Es) (fun _ wr=>wr.rangeLeft h.bo w.heap.size)
 case atStart=>exact⟨_,_,by rw [smO_start];rfl,hrg0,below_grown (Below.refl _ _) hg0 (fun k hk=>by cases hk)⟩
 case round =>
  clear hrg0 hg0 hown x12
  obtain⟨left,cnt,rfl,hrg,hbel⟩:=hrel
  have HB:=hid hbel
  have HS:=hid (smO_le lenB Es left)
  clear hbel
  go_wp2_with (first|(at_next;refine wpList_next_held rfl _ rfl h.bo w.heap.size _ _ _ rfl hrg ?_ ?_))
  ·intro hl0
   have HL:=hid hl0
   clear hl0
   go_wp2
   go_ret
   exact⟨ret_int (by rw [smO_end _ _ HL.out]),HB.out⟩
  ·intro x v w1 cnt1 hx hgx hlk hrg1 hlt hb1 hs1 hen
   have hm:w1.rangeLeft h.bo w.heap.size<wr.rangeLeft h.bo w.heap.size:=by rw [hrg1.left_eq,hrg.left_eq];exact hlt
   obtain⟨e,he,hid_,rfl⟩:=En.of hlk
   have hst:=smO_step lenB left HR.out he hid_ hgx
   have hle:=smO_le lenB Es (fun z=>left z&&!z.sameKey (.int .i64 x))
   have hB1:=But.below HB.out hb1 (fun k e=>by omega)
   obtain⟨W2,hW2⟩:∃W2,W2=w1.alloc (Obj.cells #[.slice e.ba e.b.length e.bc,.slice e.ta e.T.length e.tc] 85):=⟨_,rfl⟩
   have hBl2:Below w1.heap.size w1 W2:=by rw [hW2];exact below1 _ _
   have hrg2:Rg W2 h.bo w.heap.size (Es.map En.v) (fun z=>left z&&!z.sameKey (.int .i64 x)) cnt1:=ranges_but (B:=fun _=>False) hrg1 (But.of hBl2) (fun h=>h) (fun h=>h)
   have HN:Hid (SmRel lenB w h.bo w.heap.size Es (.int .i64 ((smO lenB Es left:Int)+(S.needN e.b.length:Int))) W2):=⟨_,_,by rw [hst];rfl,hrg2,below_call hB1 hBl2⟩
   have hm2:W2.rangeLeft h.bo w.heap.size<wr.rangeLeft h.bo w.heap.size:=by rw [hrg2.left_eq,←hrg1.left_eq];exact hm
   have hw:wrap64 ((smO lenB Es left:Int)+(S.needN e.b.length:Int))=(smO lenB Es left:Int)+(S.needN e.b.length:Int):=by
    rw [hst] at hle
    have h0:(S.needN e.b.length:Int)=(lenB e:Int):=rfl
    rw [h0]
    unfold wrap64;omega
   have HWW:=hid hw
   have HM2:=hid hm2
   rw [hW2] at HN HM2
   have HPg:=hid (pagesOf_any e.b.length (hb e he))
   clear hw hm hm2 hst hle hB1 hBl2 hrg2 hrg1 hrg hb1 hs1 hlk hlt hgx hid_ hW2 he
   go_wp2_with (first|(go_at_call 86;refine (HPg.out _).mono ?_;rintro e9 w9 ⟨rfl,hw9⟩;obtain rfl:=hw9.symm;clear hw9))
   refine⟨?_,HM2.out⟩
   rw [HWW.out]
   exact HN.out
set_option maxRecDepth 100000 in
set_option maxHeartbeats 4000000 in
theorem live_any (k:Md w h q N Es Ls){p:Pm}(hf:Fit p q)(hmax:(Es.map lenT).sum≤1048576) :
  Calls Tryz.prog 87 #[.pointer (some ⟨h.g,0,none⟩)] w fun e w'=>e=.returned (.int .i64 ((Es.map lenT).sum:Int))∧Below w.heap.size w w':=by
 have HR:=hid (k.rise hf).1
 have hown:=k.mo
 have hol:=k.olt
 have x12:=k.cell 12 rfl
 clear k hf
 go_enter Tryz.func87,Tryz.ntmps87
 go_upto_region 3 with (first|(at_range;refine wpList_range_own _ rfl _ 58 rfl 3 85 ikey Tryz.underlying58 _ h.bo _ _ rfl hown ?_;intro w0 hrg0 hg0 hs0;clear hs0))
 go_frame
 go_loopw [3] (SmRel lenT w h.bo w.heap.size Es) (fun _ wr=>wr.rangeLeft h.bo w.heap.size)
 case atStart=>exact⟨_,_,by rw [smO_start];rfl,hrg0,below_grown (Below.refl _ _) hg0 (fun k hk=>by cases hk)⟩
 case round =>
  clear hrg0 hg0 hown x12
  obtain⟨left,cnt,rfl,hrg,hbel⟩:=hrel
  have HB:=hid hbel
  have HS:=hid (smO_le lenT Es left)
  clear hbel
  go_wp2_with (first|(at_next;refine wpList_next_held rfl _ rfl h.bo w.heap.size _ _ _ rfl hrg ?_ ?_))
  ·intro hl0
   have HL:=hid hl0
   clear hl0
   go_wp2
   go_ret
   exact⟨ret_int (by rw [smO_end _ _ HL.out]),HB.out⟩
  ·intro x v w1 cnt1 hx hgx hlk hrg1 hlt hb1 hs1 hen
   have hm:w1.rangeLeft h.bo w.heap.size<wr.rangeLeft h.bo w.heap.size:=by rw [hrg1.left_eq,hrg.left_eq];exact hlt
   obtain⟨e,he,hid_,rfl⟩:=En.of hlk
   have hst:=smO_step lenT left HR.out he hid_ hgx
   have hle:=smO_le lenT Es (fun z=>left z&&!z.sameKey (.int .i64 x))
   have hB1:=But.below HB.out hb1 (fun k e=>by omega)
   obtain⟨W2,hW2⟩:∃W2,W2=w1.alloc (Obj.cells #[.slice e.ba e.b.length e.bc,.slice e.ta e.T.length e.tc] 85):=⟨_,rfl⟩
   have hBl2:Below w1.heap.size w1 W2:=by rw [hW2];exact below1 _ _
   have hrg2:Rg W2 h.bo w.heap.size (Es.map En.v) (fun z=>left z&&!z.sameKey (.int .i64 x)) cnt1:=ranges_but (B:=fun _=>False) hrg1 (But.of hBl2) (fun h=>h) (fun h=>h)
   have HN:Hid (SmRel lenT w h.bo w.heap.size Es (.int .i64 ((smO lenT Es left:Int)+(e.T.length:Int))) W2):=⟨_,_,by rw [hst];rfl,hrg2,below_call hB1 hBl2⟩
   have hm2:W2.rangeLeft h.bo w.heap.size<wr.rangeLeft h.bo w.heap.size:=by rw [hrg2.left_eq,←hrg1.left_eq];exact hm
   have hw:wrap64 ((smO lenT Es left:Int)+(e.T.length:Int))=(smO lenT Es left:Int)+(e.T.length:Int):=by
    rw [hst] at hle
    have h0:(e.T.length:Int)=(lenT e:Int):=rfl
    rw [h0]
    unfold wrap64;omega
   have HWW:=hid hw
   have HM2:=hid hm2
   rw [hW2] at HN HM2
   clear hw hm hm2 hst hle hB1 hBl2 hrg2 hrg1 hrg hb1 hs1 hlk hlt hgx hid_ hW2 he
   go_wp2
   refine⟨?_,HM2.out⟩
   rw [HWW.out]
   exact HN.out
end
end Go.Proofs.YtffmodpgddecnaaGreat.V.E
namespace Go.Proofs.YtffmodpgddecnaaGreat.V.E
open Go.RowKit Go.Maps
open Go.Proofs.YtffmodpgddecnaaGreat.H (B64 Cp)
section
variable {w w':World}{h:Hm}{q:Pl}{N:Nat→Prop}{Es:List En}{Ls:List Ln}
abbrev zW:Obj:=.cells #[.int .u64 0,.int .u64 0] 36
theorem info38:(Tryz.prog.info? 36).map (·.size)=some 2:=by kernel_rfl
theorem lv38 {b:Nat}{x y:Value}(h1:w.cell? ⟨b,0,none⟩=some x)(h2:w.cell? ⟨b,1,none⟩=some y):(loadVar 36 ⟨b,0,none⟩).run Tryz.prog w=.ok (.agg #[x,y]) w :=
 run_loadVar_mid (P:=Tryz.prog) w b 0 36 [x,y] _ (fun j v hv=>by
  match j,hv with
  | 0,hv=>simp at hv;subst hv;exact h1
  | 1,hv=>simp at hv;subst hv;exact h2) Tryz.underlying36 rfl (by rw [info38];rfl)
set_option maxRecDepth 100000 in
set_option maxHeartbeats 4000000 in
theorem draw_no (k:Md w h q N Es Ls)(ht:q.t=h.n):Calls Tryz.prog 69 #[.pointer (some ⟨h.g,0,none⟩)] w fun e w'=>e=.returned (.tuple #[.agg #[.int .u64 0,.int .u64 0],.int .i64 11])∧Below w.heap.size w w':=by
 have k1:=k.later (below1 w zW)
 have x10:=k1.cell 10 rfl
 have x11:=k1.cell 11 rfl
 rw [ht] at x11
 have hgl:=k.glt
 clear k1 k ht
 go_enter Tryz.func69,Tryz.ntmps69
 go_upto_region 1 with fail
 go_quiet (fail)
 go_wp2
 exact bodyPost_ret (v:=.tuple #[.agg #[.int .u64 0,.int .u64 0],.int .i64 11]) (by simp [results,Tryz.results69,go_sem]) rfl ⟨rfl,(((below_drewN (below1 _ _) _).setCell (Nat.le_refl _) _).setCell (Nat.le_refl _) _)⟩
set_option maxRecDepth 100000 in
set_option maxHeartbeats 4000000 in
theorem draw_ok (k:Md w h q N Es Ls)(ht:q.t<h.n)(hn:h.n≤4096)(hW:1≤h.cf.W):Calls Tryz.prog 69 #[.pointer (some ⟨h.g,0,none⟩)] w fun e w'=>e=.returned (.tuple #[.agg #[.int .u64 (D.hiI (h.p.c q.t)),.int .u64 (D.loI (h.p.c q.t))],.int .i64 0])∧Md w' h { q with t:=q.t+1 } N Es Ls∧But (·=h.g) w w':=by
 obtain⟨W,hW0⟩:∃W,W=w.alloc zW:=⟨_,rfl⟩
 have hB:Below w.heap.size w W:=by rw [hW0];exact below1 _ _
 have k1:=k.later hB
 have hzc:Lies W ⟨w.heap.size,0,none⟩ (.int .u64 0)∧Lies W ⟨w.heap.size,1,none⟩ (.int .u64 0):=by rw [hW0];exact⟨⟨by simp [go_sem],by simp [go_sem]⟩,⟨by simp [go_sem],by simp [go_sem]⟩⟩
 obtain⟨b,o,ha,hc⟩:∃b o,h.aw=some ⟨b,o,none⟩∧∀U:World,Below W.heap.size W U→U.cell? ⟨b,o+q.t*2,none⟩=some (.int .u64 (D.hiI (h.f q.t)))∧U.cell? ⟨b,o+q.t*2+1,none⟩=some (.int .u64 (D.loI (h.f q.t))):=by
  obtain⟨b,o,ha,hw⟩:=k1.ws.plain (by omega)
  have:=hw q.t ht
  exact⟨b,o,ha,fun U hU=>⟨cell_later hU this.1,cell_later hU this.2⟩⟩
 have hv:D.IsV (D.hiI (h.f q.t)) (D.loI (h.f q.t)) (h.f q.t):=D.isV (k1.ws.small q.t)
 have HC:Hid (∀U:World,Calls Tryz.prog 88 #[.agg #[.int .u64 (D.hiI (h.f q.t)),.int .u64 (D.loI (h.f q.t))],.int .i64 h.cf.W] U fun e w'=>e=.returned (.agg #[.int .u64 (D.hiI (h.p.c q.t)),.int .u64 (D.loI (h.p.c q.t))])∧Below U.heap.size U w'):=fun U=>by
  refine (D.cut_any _ _ (h.f q.t) h.cf.W U hv).mono ?_
  rintro e w' ⟨c,d,rfl,hcd,hb⟩
  exact⟨by rw [hcd.hi,hcd.lo];rfl,hb⟩
 have H0:Hid (∀U:World,Below W.heap.size W U→U.cell? ⟨h.g,10,none⟩=some (.slice (some ⟨b,o,none⟩) h.n h.cw)∧U.cell? ⟨h.g,11,none⟩=some (.int .i64 (q.t:Int))∧U.cell? ⟨h.g,0,none⟩=some (.int .i64 h.cf.W)∧U.cell? ⟨b,o+q.t*2,none⟩=some (.int .u64 (D.hiI (h.f q.t)))∧U.cell? ⟨b,o+q.t*2+1,none⟩=some (.int .u64 (D.loI (h.f q.t)))∧Below W.heap.size W U):=fun U hU=>by
  have kU:=k1.later hU
  have x10:=kU.cell 10 rfl
  rw [ha] at x10
  exact⟨x10,kU.cell 11 rfl,kU.cell 0 rfl,(hc U hU).1,(hc U hU).2,hU⟩
 have x0:=H0.out W (Below.refl _ _)
 obtain⟨x10,x11,xw,-,-,-⟩:=x0
 have HK:=hid k1
 have HZ:=hid hzc
 have HB:=hid hB
 have HW:=hid hW0
 have hgl:=k.glt
 have HSz:Hid (W.heap.size=w.heap.size+1):=by rw [hW0];simp [Hid]
 have HN0:Hid (¬N w.heap.size):=k.new (Nat.le_refl _)
 have HOl:Hid (h.bo<w.heap.size∧h.bl<w.heap.size):=⟨k.olt,k.llt⟩
 have hd:((q.t:Int)==(h.n:Int))=false:=by rw [beq_eq_false_iff_ne];omega
 have hlt:(q.t:Int)<(h.n:Int):=by omega
 have h0t:(0:Int)≤(q.t:Int):=by omega
 generalize D.hiI (h.f q.t)=fh at *
 generalize D.loI (h.f q.t)=fl at *
 generalize D.hiI (h.p.c q.t)=ch at *
 generalize D.loI (h.p.c q.t)=cl at *
 clear k k1 hB hW0 hc ha hv hzc
 go_enter Tryz.func69,Tryz.ntmps69
 go_upto_region 1 with fail
 rw [←HW.out]
 go_quiet (fail)
 obtain⟨W1,hW1⟩:∃W1,W1=W.drewN nq:=⟨_,rfl⟩
 have HQ:Hid (Below W.heap.size W W1):=by rw [hW1];exact below_drewN (Below.refl _ _) _
 have HQs:Hid (W1.heap.size=W.heap.size):=by rw [hW1];rfl
 rw [←hW1]
 clear hW1 x10 x11 xw
 go_upto_region 3 with fail
 go_cut [4] (fun v U=>∃p,v=.pointer (some ⟨p,0,none⟩)∧U.cell? ⟨p,0,none⟩=some (.int .u64 ch)∧U.cell? ⟨p,1,none⟩=some (.int .u64 cl)∧W.heap.size≤p∧Below W.heap.size W U)
 case first =>
  go_region_held3 (fun U=>U.cell? ⟨h.g,10,none⟩=some (.slice (some ⟨b,o,none⟩) h.n h.cw)∧U.cell? ⟨h.g,11,none⟩=some (.int .i64 (q.t:Int))∧U.cell? ⟨h.g,0,none⟩=some (.int .i64 h.cf.W)∧U.cell? ⟨b,o+q.t*2,none⟩=some (.int .u64 fh)∧U.cell? ⟨b,o+q.t*2+1,none⟩=some (.int .u64 fl)∧Below W.heap.size W U) (first|exact H0.out _ HQ.out.drew|exact H0.out _ (below_call HQ.out (below1 _ _)).drew|exact H0.out _ HB2.out|exact H0.out _ (below_call HB2.out (below1 _ _))|exact H0.out _ (Below.setCell (Below.setCell HB2.out (Nat.le_of_eq HQs.out.symm) _) (Nat.le_of_eq HQs.out.symm) _)) (first
   | (go_at_call 88;(with_reducible refine (HC.out (W1.alloc zW).drew).mono ?_);rintro e w2 ⟨rfl,hb2⟩;have HB2:Hid (Below W.heap.size W w2):=below_call (below_call HQ.out (below1 W1 zW)).drew hb2;have l0:=(Lies.later hb2 (show Lies (W1.alloc zW).drew ⟨W1.heap.size,0,none⟩ (.int .u64 0) from ⟨by simp [go_sem],by simp [go_sem]⟩));have l1:=(Lies.later hb2 (show Lies (W1.alloc zW).drew ⟨W1.heap.size,1,none⟩ (.int .u64 0) from ⟨by simp [go_sem],by simp [go_sem]⟩));have c0:=l0.1;have f0:=l0.2;have c1:=l1.1;have f1:=l1.2;clear hb2 l0 l1)
   | (go_at_call 88;(with_reducible refine (HC.out W1.drew).mono ?_);rintro e w2 ⟨rfl,hb2⟩;have HB2:Hid (Below W.heap.size W w2):=below_call HQ.out.drew hb2;clear hb2))
  all_goals (try go_wp2)
  all_goals go_meet
  ·exact⟨w2.heap.size,rfl,by simp [go_sem],by simp [go_sem],HB2.out.size,below_call HB2.out (below1 _ _)⟩
  ·exact⟨W1.heap.size,rfl,by rw [World.cell?_setCell_other _ _ _ _ (by simp)];exact World.cell?_setCell_same _ _ _ c0,World.cell?_setCell_same _ _ _ (by rw [World.cell?_setCell_other _ _ _ _ (by simp)];exact c1),Nat.le_of_eq HQs.out.symm,Below.setCell (Below.setCell HB2.out (Nat.le_of_eq HQs.out.symm) _) (Nat.le_of_eq HQs.out.symm) _⟩
 case rest =>
 rename World=>v
 obtain⟨p,rfl,cp0,cp1,hp,hbv⟩:=hcut
 have kv:=HK.out.later hbv
 have y11:=kv.cell 11 rfl
 have z11:=kv.fz 11 (by omega)
 have hz:=HZ.out
 have za:=hz.1.later hbv
 have zb:=hz.2.later hbv
 have hsz:=HSz.out
 have hw:wrap64 ((q.t:Int)+1)=(q.t:Int)+1:=by unfold wrap64;omega
 have HKv:=hid kv
 have HBv:=hid hbv
 obtain⟨V1,hV1⟩:∃V1,V1=v.setCell ⟨h.g,11,none⟩ (.int .i64 ((q.t:Int)+1)):=⟨_,rfl⟩
 have hb1:But (·=h.g) v V1:=by rw [hV1];exact (But.refl (·=h.g) v).setCell (p:=⟨h.g,11,none⟩) rfl _
 have kV1:Md V1 h { q with t:=q.t+1 } N Es Ls:=by
  rw [hV1]
  exact kv.setG (q':={ q with t:=q.t+1 }) rfl rfl 11 _ (by omega) rfl
 have ca:=cell_but hb1 cp0 (by simp only;omega)
 have cb:=cell_but hb1 cp1 (by simp only;omega)
 have ta:=za.but hb1 (by simp only;omega)
 have tb:=zb.but hb1 (by simp only;omega)
 have ta1:=ta.1
 have ta2:=ta.2
 have tb1:=tb.1
 have tb2:=tb.2
 have HV:=hid hV1
 have HK1:=hid kV1
 have HB1:=hid hb1
 clear kv hz za zb hbv hV1 kV1 hb1 ta tb cp0 cp1
 go_upto_region 5 with fail
 first|rw [←HV.out]|rw [hw,←HV.out]
 clear y11 z11
 go_wp2
 have hl:=lv38 (w:=(V1.setCell ⟨w.heap.size,0,none⟩ (.int .u64 ch)).setCell ⟨w.heap.size,1,none⟩ (.int .u64 cl)) (b:=w.heap.size) (x:=.int .u64 ch) (y:=.int .u64 cl) (by rw [World.cell?_setCell_other _ _ _ _ (by simp)];exact World.cell?_setCell_same _ _ _ ta1) (World.cell?_setCell_same _ _ _ (by rw [World.cell?_setCell_other _ _ _ _ (by simp)];exact tb1))
 have hbE:But (·=w.heap.size) V1 ((V1.setCell ⟨w.heap.size,0,none⟩ (.int .u64 ch)).setCell ⟨w.heap.size,1,none⟩ (.int .u64 cl)):=((But.refl (·=w.heap.size) V1).setCell (p:=⟨w.heap.size,0,none⟩) rfl _).setCell (p:=⟨w.heap.size,1,none⟩) rfl _
 refine bodyPost_ret (v:=.tuple #[.agg #[.int .u64 ch,.int .u64 cl],.int .i64 0]) (by simp [results,Tryz.results69,asAddr,hl]) rfl ⟨rfl,?_,?_⟩
 ·have hnw:¬N w.heap.size:=fun e=>by have:=HN0.out;exact this e
  exact HK1.out.but hbE (fun j hj e=>hnw (e ▸ hj)) (by omega) (by have:=HOl.out;omega) (by have:=HOl.out;omega)
 ·exact (((But.of HB.out).call HBv.out).trans HB1.out).comp hbE (fun i e=>.inr (by omega))
end
end Go.Proofs.YtffmodpgddecnaaGreat.V.E
namespace Go.Proofs.YtffmodpgddecnaaGreat.V.E
open Go.RowKit Go.Maps
open Go.Proofs.YtffmodpgddecnaaGreat.H (B64 Cp)
section
variable {w w':World}{h:Hm}{q:Pl}{N:Nat→Prop}{Es:List En}{Ls:List Ln}
theorem tns_at:∀(M:List Tn) (j:Nat) (t:Tn),M[j]?=some t→∀k,k<5→(tns M)[j*5+k]?=(Tn.c t)[k]?
 | [],j,t,h,k,hk=>by simp at h
 | x::M,0,t,h,k,hk=>by
  simp only [List.getElem?_cons_zero,Option.some.injEq] at h
  subst h
  simp only [tns,List.flatMap_cons]
  rw [List.getElem?_append_left (by simp [Tn.c];omega)]
  simp
 | x::M,j+1,t,h,k,hk=>by
  rw [List.getElem?_cons_succ] at h
  have:=tns_at M j t h k hk
  simp only [tns,List.flatMap_cons] at this ⊢
  rw [List.getElem?_append_right (by simp [Tn.c];omega),←this]
  congr 1
  simp [Tn.c]
  omega
theorem tns_app (A B:List Tn):tns (A++B)=tns A++tns B:=by simp [tns]
theorem tns_one (M:List Tn):∀v∈tns M,v.oneCell'=true:=by
 intro v hv
 obtain⟨t,_,ht⟩:=List.mem_flatMap.1 hv
 simp [Tn.c] at ht
 rcases ht with rfl|rfl|rfl|rfl|rfl<;>rfl
structure Tc (w:World)(b o:Nat)(t:Tn):Prop where
 c0:w.cell? ⟨b,o,none⟩=some (.int .u64 (t.hi:Int))
 c1:w.cell? ⟨b,o+1,none⟩=some (.int .u64 (t.lo:Int))
 c2:w.cell? ⟨b,o+2,none⟩=some (.int .i64 t.r)
 c3:w.cell? ⟨b,o+3,none⟩=some (.int .u64 (t.uh:Int))
 c4:w.cell? ⟨b,o+4,none⟩=some (.int .u64 (t.ul:Int))
theorem Tc.later {b o:Nat}{t:Tn}(k:Tc w b o t)(hb:Below w.heap.size w w'):Tc w' b o t:=⟨cell_later hb k.c0,cell_later hb k.c1,cell_later hb k.c2,cell_later hb k.c3,cell_later hb k.c4⟩
theorem ow_tok {base ty:Nat}{a:Option Addr}{n cap:Nat}{T:List Tn}(k:Ow w base ty 5 a n cap (tns T))(hn:T.length=n)(h0:0<n):∃b,a=some ⟨b,0,none⟩∧∀i t,T[i]?=some t→Tc w b (i*5) t:=by
 obtain⟨b,ha,hc⟩:=Ow.at_ k h0
 refine⟨b,ha,fun i t ht=>⟨?_,?_,?_,?_,?_⟩⟩
 ·have:=hc _ _ ((tns_at T i t ht 0 (by omega)).trans rfl);simpa using this
 ·exact hc _ _ ((tns_at T i t ht 1 (by omega)).trans rfl)
 ·exact hc _ _ ((tns_at T i t ht 2 (by omega)).trans rfl)
 ·exact hc _ _ ((tns_at T i t ht 3 (by omega)).trans rfl)
 ·exact hc _ _ ((tns_at T i t ht 4 (by omega)).trans rfl)
abbrev tnV (t:Tn):Value:=.agg #[.int .u64 (t.hi:Int),.int .u64 (t.lo:Int),.int .i64 t.r,.int .u64 (t.uh:Int),.int .u64 (t.ul:Int)]
def tn0:Tn:=⟨0,0,0,0,0⟩
abbrev zT:Obj:=.cells #[.int .u64 0,.int .u64 0,.int .i64 0,.int .u64 0,.int .u64 0] 88
abbrev cV (c:Cp):Value:=.agg #[.int .i64 c.1,.int .u64 (c.2.1:Int),.int .u64 (c.2.2:Int)]
abbrev cO (c:Cp):Obj:=.cells #[.int .i64 c.1,.int .u64 (c.2.1:Int),.int .u64 (c.2.2:Int)] 38
theorem eqlWd (a b c d:Nat)(w:World):(binOp .eql 36 (.agg #[.int .u64 (a:Int),.int .u64 (b:Int)]) (.agg #[.int .u64 (c:Int),.int .u64 (d:Int)])).run Tryz.prog w=.ok (.bool (decide (a=c∧b=d))) w:=by
 rw [R.eqlW]
 congr 2
 unfold R.wEq
 rw [Bool.eq_iff_iff]
 simp only [Bool.and_eq_true,beq_iff_eq,decide_eq_true_eq]
 omega
theorem info83:(Tryz.prog.info? 88).map (·.size)=some 5:=by kernel_rfl
theorem lv83 {b:Nat}{t:Tn}(k:Tc w b 0 t):(loadVar 88 ⟨b,0,none⟩).run Tryz.prog w=.ok (tnV t) w :=
 run_loadVar_mid (P:=Tryz.prog) w b 0 88 (Tn.c t) _ (fun j v hv=>by
  match j,hv with
  | 0,hv=>simp [Tn.c] at hv;subst hv;exact k.c0
  | 1,hv=>simp [Tn.c] at hv;subst hv;exact k.c1
  | 2,hv=>simp [Tn.c] at hv;subst hv;exact k.c2
  | 3,hv=>simp [Tn.c] at hv;subst hv;exact k.c3
  | 4,hv=>simp [Tn.c] at hv;subst hv;exact k.c4
  | j+5,hv=>simp [Tn.c] at hv) Tryz.underlying88 rfl (by rw [info83];rfl)
def set5 (w:World)(b:Nat)(t:Tn):World:=((((w.setCell ⟨b,0,none⟩ (.int .u64 (t.hi:Int))).setCell ⟨b,1,none⟩ (.int .u64 (t.lo:Int))).setCell ⟨b,2,none⟩ (.int .i64 t.r)).setCell ⟨b,3,none⟩ (.int .u64 (t.uh:Int))).setCell ⟨b,4,none⟩ (.int .u64 (t.ul:Int))
theorem set5_but {B:Nat→Prop}{b:Nat}(hB:B b)(t:Tn):But B w (set5 w b t):=by
 unfold set5
 exact (((((But.refl B w).setCell (p:=⟨b,0,none⟩) hB _).setCell (p:=⟨b,1,none⟩) hB _).setCell (p:=⟨b,2,none⟩) hB _).setCell (p:=⟨b,3,none⟩) hB _).setCell (p:=⟨b,4,none⟩) hB _
theorem set5_tc {b:Nat}{u:Tn}(k:Tc w b 0 u)(t:Tn):Tc (set5 w b t) b 0 t:=by
 unfold set5
 have a0:(⟨b,0,none⟩:Addr)≠⟨b,1,none⟩:=by simp
 refine⟨?_,?_,?_,?_,?_⟩
 ·rw [World.cell?_setCell_other _ _ _ _ (by simp),World.cell?_setCell_other _ _ _ _ (by simp),World.cell?_setCell_other _ _ _ _ (by simp),World.cell?_setCell_other _ _ _ _ (by simp)];exact World.cell?_setCell_same _ _ _ k.c0
 ·rw [World.cell?_setCell_other _ _ _ _ (by simp),World.cell?_setCell_other _ _ _ _ (by simp),World.cell?_setCell_other _ _ _ _ (by simp)];exact World.cell?_setCell_same _ _ _ (by rw [World.cell?_setCell_other _ _ _ _ (by simp)];exact k.c1)
 ·rw [World.cell?_setCell_other _ _ _ _ (by simp),World.cell?_setCell_other _ _ _ _ (by simp)];exact World.cell?_setCell_same _ _ _ (by rw [World.cell?_setCell_other _ _ _ _ (by simp),World.cell?_setCell_other _ _ _ _ (by simp)];exact k.c2)
 ·rw [World.cell?_setCell_other _ _ _ _ (by simp)];exact World.cell?_setCell_same _ _ _ (by rw [World.cell?_setCell_other _ _ _ _ (by simp),World.cell?_setCell_other _ _ _ _ (by simp),World.cell?_setCell_other _ _ _ _ (by simp)];exact k.c3)
 ·exact World.cell?_setCell_same _ _ _ (by rw [World.cell?_setCell_other _ _ _ _ (by simp),World.cell?_setCell_other _ _ _ _ (by simp),World.cell?_setCell_other _ _ _ _ (by simp),World.cell?_setCell_other _ _ _ _ (by simp)];exact k.c4)
theorem fnd_none {T:List Tn}{hi lo:Nat}(k:∀(j:Nat) (t:Tn),T[j]?=some t→¬(t.hi=hi∧t.lo=lo)):fnd T hi lo=none:=by
 unfold fnd
 rw [List.find?_eq_none]
 intro t ht
 obtain⟨j,hj⟩:=List.getElem?_of_mem ht
 simpa using k j t hj
theorem fnd_some:∀{T:List Tn} {hi lo:Nat} {i:Nat} {t:Tn},T[i]?=some t→(t.hi=hi∧t.lo=lo)→(∀j u,j<i→T[j]?=some u→¬(u.hi=hi∧u.lo=lo))→fnd T hi lo=some t
 | [],_,_,i,t,h,_,_=>by simp at h
 | x::T,hi,lo,0,t,h,he,_=>by
  simp only [List.getElem?_cons_zero,Option.some.injEq] at h
  subst h
  unfold fnd
  rw [List.find?_cons_of_pos (by simpa using he)]
 | x::T,hi,lo,i+1,t,h,he,hp=>by
  rw [List.getElem?_cons_succ] at h
  have hx:=hp 0 x (by omega) rfl
  have:=fnd_some h he (fun j u hj hu=>hp (j+1) u (by omega) (by rw [List.getElem?_cons_succ];exact hu))
  unfold fnd at this ⊢
  rw [List.find?_cons_of_neg (by simpa using hx)]
  exact this
theorem fdO1 (a b:Option Addr)(n c m d:Nat)(U:World):(Instr.field 85 (.agg #[.slice a n c,.slice b m d]) 1).run Tryz.prog U=.ok (.slice b m d) U:=by kernel_rfl
theorem fdO0 (a b:Option Addr)(n c m d:Nat)(U:World):(Instr.field 85 (.agg #[.slice a n c,.slice b m d]) 0).run Tryz.prog U=.ok (.slice a n c) U:=by kernel_rfl
def FdRel (W:World)(T:List Tn)(hi lo:Nat)(v:Value)(U:World):Prop:=∃i:Nat,v=.int .i64 (i:Int)∧i≤T.length∧(∀j u,j<i→T[j]?=some u→¬(u.hi=hi∧u.lo=lo))∧Below W.heap.size W U
def fdV (o:Option Tn):Value:=.tuple #[tnV (o.getD tn0),.bool o.isSome]
set_option maxRecDepth 100000 in
set_option maxHeartbeats 4000000 in
theorem find_any (k:Md w h q N Es Ls)(c:Cp)(hc:S.i64ok c.1)(hl:(tkO q.O c.1).length≤1024):Calls Tryz.prog 89 #[.pointer (some ⟨h.g,0,none⟩),cV c] w fun e w'=>e=.returned (fdV (fnd (tkO q.O c.1) c.2.1 c.2.2))∧Below w.heap.size w w':=by
 obtain⟨o,hi,lo⟩:=c
 simp only at hc hl ⊢
 obtain⟨W,hW⟩:∃W,W=(w.alloc (cO (o,hi,lo))).alloc zT:=⟨_,rfl⟩
 have hB:Below w.heap.size w W:=by rw [hW];exact below2 _ _ _
 have k1:=k.later hB
 have hcc:W.cell? ⟨w.heap.size,0,none⟩=some (.int .i64 o)∧W.cell? ⟨w.heap.size,1,none⟩=some (.int .u64 (hi:Int))∧W.cell? ⟨w.heap.size,2,none⟩=some (.int .u64 (lo:Int)):=by rw [hW];exact⟨by simp [go_sem],by simp [go_sem],by simp [go_sem]⟩
 have hzt:Tc W (w.heap.size+1) 0 tn0∧∀j,j<5→W.frozen? ⟨w.heap.size+1,j,none⟩=false:=by rw [hW];exact⟨⟨by simp [go_sem,tn0],by simp [go_sem,tn0],by simp [go_sem,tn0],by simp [go_sem,tn0],by simp [go_sem,tn0]⟩,fun j hj=>by simp [go_sem]⟩
 have her:=k1.erA o
 have htk:=k1.tk o
 obtain⟨x,hx⟩:∃x,x=enA Es o:=⟨_,rfl⟩
 rw [←hx] at her htk
 rw [←htk] at hl ⊢
 have H0:Hid (∀U:World,Below W.heap.size W U→U.cell? ⟨h.g,12,none⟩=some (.map (some h.bo))∧U.cell? ⟨w.heap.size,0,none⟩=some (.int .i64 o)∧(Instr.lookup 58 (.map (some h.bo)) (.int .i64 o) false).run Tryz.prog U=.ok (.agg #[.slice x.ba x.b.length x.bc,.slice x.ta x.T.length x.tc]) U):=fun U hU=>by
  have kU:=k1.later hU
  refine⟨kU.cell 12 rfl,cell_later hU hcc.1,?_⟩
  rw [kU.look hc,←hx]
  rfl
 have HT:Hid (∀i t,x.T[i]?=some t→∃b,x.ta=some ⟨b,0,none⟩∧∀U:World,Below W.heap.size W U→Tc U b (i*5) t):=fun i t ht=>by
  obtain⟨b,hb,hh⟩:=ow_tok her.t rfl (by have:=(List.getElem?_eq_some_iff.1 ht).1;omega)
  exact⟨b,hb,fun U hU=>(hh i t ht).later hU⟩
 obtain⟨T,hT⟩:∃T,T=x.T:=⟨_,rfl⟩
 obtain⟨ta,hta⟩:∃ta,ta=x.ta:=⟨_,rfl⟩
 obtain⟨bl,hbl⟩:∃bl,bl=x.b.length:=⟨_,rfl⟩
 obtain⟨n,hn⟩:∃n,n=T.length:=⟨_,rfl⟩
 rw [←hbl,←hT,←hta,←hn] at H0
 rw [←hT,←hta] at HT
 rw [←hT,←hn] at hl
 rw [←hT]
 have HN:=hid hn
 have HB:=hid hB
 have HW:=hid hW
 have HCc:=hid hcc
 have HZt:=hid hzt
 have hgl:=k.glt
 clear k k1 hB hW hcc hzt her htk hx hn hT hta hbl
 have hfd:=fdO1
 go_enter Tryz.func89,Tryz.ntmps89
 go_upto_region 1 with fail
 rw [←HW.out]
 go_cut [15,16,17] (fun v15 v16 v17 U=>v15=.slice ta n x.tc∧v16=.int .i64 (n:Int)∧v17=.int .i64 0∧Hid (Below W.heap.size W U))
 case first =>
  go_region_held3 (fun U=>U.cell? ⟨h.g,12,none⟩=some (.map (some h.bo))∧U.cell? ⟨w.heap.size,0,none⟩=some (.int .i64 o)∧(Instr.lookup 58 (.map (some h.bo)) (.int .i64 o) false).run Tryz.prog U=.ok (.agg #[.slice x.ba bl x.bc,.slice ta n x.tc]) U) (first|exact H0.out _ (Below.refl _ _).drew) (fail)
  all_goals (try go_wp2)
  all_goals go_meet
  all_goals exact⟨rfl,rfl,rfl,(Below.refl _ _).drew⟩
 case rest =>
 rename World=>v
 obtain⟨rfl,rfl,rfl,HBv⟩:=hcut
 clear hfd
 go_upto_region 2 with fail
 go_loopw [17] (FdRel v T hi lo) (fun v _=>n - (intOf v).toNat)
 case atStart=>exact⟨0,rfl,by omega,fun j u hj=>by omega,Below.refl _ _⟩
 case round =>
  obtain⟨i,rfl,hi',hpre,hbel⟩:=hrel
  rename World=>U
  have HP:=hid hpre
  have HBU:=hid hbel
  have HBW:=hid (below_call HBv.out hbel)
  have hcc:=HCc.out
  have y0:=cell_later HBW.out hcc.1
  have y1:=cell_later HBW.out hcc.2.1
  have y2:=cell_later HBW.out hcc.2.2
  have hzt:=HZt.out
  have kz:=hzt.1.later HBW.out
  have hlt1:w.heap.size+1<W.heap.size:=World.block_lt_of_cell? _ _ hzt.1.c0
  have HF:Hid (∀j,j<5→U.frozen? ⟨w.heap.size+1,j,none⟩=false):=fun j hj=>by rw [HBW.out.frozen hlt1];exact hzt.2 j hj
  have HKZ:=hid kz
  have hnT:=HN.out
  clear hpre hbel hcc hzt kz
  by_cases hx:i<n
  ·have hd:decide ((i:Int)<(n:Int))=true:=decide_eq_true (by omega)
   obtain⟨t,ht⟩:∃t,T[i]?=some t:=⟨T[i]'(by omega),List.getElem?_eq_getElem (by omega)⟩
   obtain⟨b,hta,htc⟩:=HT.out i t ht
   have htc:=htc U HBW.out
   obtain⟨t0,t1,t2,t3,t4⟩:=htc
   have HTt:=hid ht
   subst hta
   have hii:(i:Int)<(n:Int):=by omega
   have h0i:(0:Int)≤(i:Int):=by omega
   have hwi:wrap64 ((i:Int)+1)=(i:Int)+1:=by unfold wrap64;omega
   obtain⟨U1,hU1⟩:∃U1,U1=U.alloc (.cells #[.int .u64 (t.hi:Int),.int .u64 (t.lo:Int),.int .i64 t.r,.int .u64 (t.uh:Int),.int .u64 (t.ul:Int)] 88):=⟨_,rfl⟩
   have hb1:Below U.heap.size U U1:=by rw [hU1];exact below1 _ _
   have g1:=cell_later hb1 y1
   have g2:=cell_later hb1 y2
   have kn:Tc U1 U.heap.size 0 t:=by rw [hU1];exact⟨by simp [go_sem],by simp [go_sem],by simp [go_sem],by simp [go_sem],by simp [go_sem]⟩
   obtain⟨n0,n1,n2,n3,n4⟩:=kn
   have HKZ1:=hid (HKZ.out.later hb1)
   have HF1:Hid (∀j,j<5→U1.frozen? ⟨w.heap.size+1,j,none⟩=false):=fun j hj=>by have hltU:w.heap.size+1<U.heap.size:=World.block_lt_of_cell? _ _ HKZ.out.c0;rw [hb1.frozen hltU];exact HF.out j hj
   have HUe:=hid hU1
   have HB1:=hid hb1
   clear hU1 hb1 HKZ HF
   by_cases he:t.hi=hi∧t.lo=lo
   ·have hq:=fun U=>eqlWd t.hi t.lo hi lo U
    rw [decide_eq_true he] at hq
    have HR:Hid (fnd T hi lo=some t):=fnd_some ht he (fun j u hj hu=>HP.out j u hj hu)
    obtain⟨z0,z1,z2,z3,z4⟩:=HKZ1.out
    have f0:=HF1.out 0 (by omega)
    have f1:=HF1.out 1 (by omega)
    have f2:=HF1.out 2 (by omega)
    have f3:=HF1.out 3 (by omega)
    have f4:=HF1.out 4 (by omega)
    clear ht he hnT
    go_upto_region 4 with fail
    rw [←HUe.out]
    clear t0 t1 t2 t3 t4 y0 y1 y2
    go_wp2
    have hl:=lv83 (w:=set5 U1 (w.heap.size+1) t) (set5_tc HKZ1.out t)
    have hb5:=set5_but (w:=U1) (B:=(·=w.heap.size+1)) (b:=w.heap.size+1) rfl t
    refine bodyPost_ret (v:=.tuple #[tnV t,.bool true]) (by simp only [set5] at hl;simp [results,Tryz.results89,asAddr,hl]) rfl ⟨by rw [HR.out];rfl,?_⟩
    exact But.below (below_call HB.out (below_call HBW.out HB1.out)) hb5 (fun k e=>by omega)
   ·have hq:=fun U=>eqlWd t.hi t.lo hi lo U
    rw [decide_eq_false he] at hq
    have HN1:Hid (FdRel v T hi lo (.int .i64 ((i:Int)+1)) U1):=⟨i+1,by simp,by omega,fun j u hj hu=>by
     by_cases hji:j=i
     ·subst hji
      rw [ht] at hu
      cases hu
      exact he
     ·exact HP.out j u (by omega) hu,below_call HBU.out HB1.out⟩
    clear ht he hnT
    go_upto_region 4 with fail
    rw [←HUe.out]
    clear t0 t1 t2 t3 t4 y0 y1 y2
    go_wp2
    refine⟨?_,by simp [intOf];omega⟩
    first|exact HN1.out|(rw [hwi];exact HN1.out)
  ·obtain rfl:i=n:=by omega
   have HR:Hid (fnd T hi lo=none):=fnd_none (fun j u hu=>HP.out j u (by have:=(List.getElem?_eq_some_iff.1 hu).1;omega) hu)
   obtain⟨z0,z1,z2,z3,z4⟩:=HKZ.out
   have f0:=HF.out 0 (by omega)
   have f1:=HF.out 1 (by omega)
   have f2:=HF.out 2 (by omega)
   have f3:=HF.out 3 (by omega)
   have f4:=HF.out 4 (by omega)
   have hd:decide ((i:Int)<(i:Int))=false:=decide_eq_false (by omega)
   clear y0 y1 y2
   go_wp2
   have hl:=lv83 (w:=set5 U (w.heap.size+1) tn0) (set5_tc HKZ.out tn0)
   have hb5:=set5_but (w:=U) (B:=(·=w.heap.size+1)) (b:=w.heap.size+1) rfl tn0
   refine bodyPost_ret (v:=.tuple #[tnV tn0,.bool false]) (by simp only [set5,tn0,Int.cast_ofNat_Int] at hl;simp [results,Tryz.results89,asAddr,hl,tn0]) rfl ⟨by rw [HR.out];rfl,?_⟩
   have:=But.below (below_call HB.out HBW.out) hb5 (fun k e=>by omega)
   simpa [set5,tn0] using this
end
end Go.Proofs.YtffmodpgddecnaaGreat.V.E
namespace Go.Proofs.YtffmodpgddecnaaGreat.V.E
open Go.RowKit Go.Maps
open Go.Proofs.YtffmodpgddecnaaGreat.H (B64 Cp)
section
variable {w w':World}{h:Hm}{q:Pl}{N:Nat→Prop}{Es:List En}{Ls:List Ln}
def gvT (O:List (Int×Ob))(need:Int)(c:Cp):Tn:=match fnd (tkO O c.1) c.2.1 c.2.2 with
 | none=>tn0
 | some t=>if partB need t.r=false then tn0 else t
set_option maxRecDepth 100000 in
set_option maxHeartbeats 4000000 in
theorem given_any (k:Md w h q N Es Ls)(c:Cp)(need:Int)(hc:S.i64ok c.1)(hl:(tkO q.O c.1).length≤1024):Calls Tryz.prog 70 #[.pointer (some ⟨h.g,0,none⟩),cV c,.int .i64 need] w fun e w'=>e=.returned (.tuple #[tnV (gvT q.O need c),.int .i64 (giv q.O need c)])∧Below w.heap.size w w':=by
 obtain⟨o,hi,lo⟩:=c
 simp only at hc hl ⊢
 obtain⟨W,hW⟩:∃W,W=(w.alloc (cO (o,hi,lo))).alloc zT:=⟨_,rfl⟩
 have hB:Below w.heap.size w W:=by rw [hW];exact below2 _ _ _
 have k1:=k.later hB
 have hcc:W.cell? ⟨w.heap.size,0,none⟩=some (.int .i64 o)∧W.cell? ⟨w.heap.size,1,none⟩=some (.int .u64 (hi:Int))∧W.cell? ⟨w.heap.size,2,none⟩=some (.int .u64 (lo:Int)):=by rw [hW];exact⟨by simp [go_sem],by simp [go_sem],by simp [go_sem]⟩
 have hzt:Tc W (w.heap.size+1) 0 tn0∧∀j,j<5→W.frozen? ⟨w.heap.size+1,j,none⟩=false:=by rw [hW];exact⟨⟨by simp [go_sem,tn0],by simp [go_sem,tn0],by simp [go_sem,tn0],by simp [go_sem,tn0],by simp [go_sem,tn0]⟩,fun j hj=>by simp [go_sem]⟩
 obtain⟨y0,y1,y2⟩:=hcc
 have HF:=hid (find_any k1 (o,hi,lo) hc hl)
 unfold gvT giv
 simp only at HF ⊢
 have HZt:=hid hzt
 have HB:=hid hB
 have HW:=hid hW
 have HH:=hid (fun a b=>has_any a b)
 clear k1 hB hW hzt hc hl
 cases hfn:fnd (tkO q.O o) hi lo with
 | none =>
  simp only
  rw [hfn] at HF
  unfold fdV at HF
  simp only [Option.getD_none,Option.isSome_none,tn0,Int.cast_ofNat_Int] at HF
  clear hfn k
  go_enter Tryz.func70,Tryz.ntmps70
  go_upto_region 1 with fail
  rw [←HW.out]
  go_upto_region 2 with (first|(go_at_call 89;refine HF.out.mono ?_;rintro e w2 ⟨rfl,hb2⟩;have HB2:=hid hb2;clear hb2))
  obtain⟨U1,hU1⟩:∃U1,U1=w2.alloc (.cells #[.int .u64 0,.int .u64 0,.int .i64 0,.int .u64 0,.int .u64 0] 88):=⟨_,rfl⟩
  have hb1:Below w2.heap.size w2 U1:=by rw [hU1];exact below1 _ _
  have hbW:=below_call HB2.out hb1
  have kn:Tc U1 w2.heap.size 0 tn0:=by rw [hU1];exact⟨by simp [go_sem,tn0],by simp [go_sem,tn0],by simp [go_sem,tn0],by simp [go_sem,tn0],by simp [go_sem,tn0]⟩
  have HKN:=hid kn
  have HKZ1:=hid (HZt.out.1.later hbW)
  have HF1:Hid (∀j,j<5→U1.frozen? ⟨w.heap.size+1,j,none⟩=false):=fun j hj=>by have hltU:w.heap.size+1<W.heap.size:=World.block_lt_of_cell? _ _ HZt.out.1.c0;rw [hbW.frozen hltU];exact HZt.out.2 j hj
  have HBU:=hid (below_call HB.out hbW)
  have HUe:=hid hU1
  clear hU1 hb1 hbW kn
  rw [←HUe.out]
  clear y0 y1 y2
  obtain⟨z0,z1,z2,z3,z4⟩:=HKZ1.out
  have f0:=HF1.out 0 (by omega)
  have f1:=HF1.out 1 (by omega)
  have f2:=HF1.out 2 (by omega)
  have f3:=HF1.out 3 (by omega)
  have f4:=HF1.out 4 (by omega)
  go_wp2
  have hl:=lv83 (w:=set5 U1 (w.heap.size+1) tn0) (set5_tc HKZ1.out tn0)
  have hb5:=set5_but (w:=U1) (B:=(·=w.heap.size+1)) (b:=w.heap.size+1) rfl tn0
  refine bodyPost_ret (v:=.tuple #[tnV tn0,.int .i64 3]) (by simp only [set5,tn0,Int.cast_ofNat_Int] at hl;simp [results,Tryz.results70,asAddr,hl,tn0]) rfl ⟨rfl,?_⟩
  have hfin:=But.below HBU.out hb5 (fun k e=>by omega)
  simpa [set5,tn0] using hfin
 | some t =>
  simp only
  rw [hfn] at HF
  unfold fdV at HF
  simp only [Option.getD_some,Option.isSome_some] at HF
  clear hfn k
  cases hpb:partB need t.r with
  | false =>
   simp only [if_true]
   go_enter Tryz.func70,Tryz.ntmps70
   go_upto_region 1 with fail
   rw [←HW.out]
   go_upto_region 2 with (first|(go_at_call 89;refine HF.out.mono ?_;rintro e w2 ⟨rfl,hb2⟩;have HB2:=hid hb2;clear hb2))
   obtain⟨U1,hU1⟩:∃U1,U1=w2.alloc (.cells #[.int .u64 (t.hi:Int),.int .u64 (t.lo:Int),.int .i64 t.r,.int .u64 (t.uh:Int),.int .u64 (t.ul:Int)] 88):=⟨_,rfl⟩
   have hb1:Below w2.heap.size w2 U1:=by rw [hU1];exact below1 _ _
   have hbW:=below_call HB2.out hb1
   have kn:Tc U1 w2.heap.size 0 t:=by rw [hU1];exact⟨by simp [go_sem],by simp [go_sem],by simp [go_sem],by simp [go_sem],by simp [go_sem]⟩
   have HKN:=hid kn
   have HKZ1:=hid (HZt.out.1.later hbW)
   have HF1:Hid (∀j,j<5→U1.frozen? ⟨w.heap.size+1,j,none⟩=false):=fun j hj=>by have hltU:w.heap.size+1<W.heap.size:=World.block_lt_of_cell? _ _ HZt.out.1.c0;rw [hbW.frozen hltU];exact HZt.out.2 j hj
   have HBU:=hid (below_call HB.out hbW)
   have HUe:=hid hU1
   clear hU1 hb1 hbW kn
   rw [←HUe.out]
   clear y0 y1 y2
   obtain⟨n0,n1,n2,n3,n4⟩:=HKN.out
   go_upto_region 5 with (first|(go_at_call 90;refine (HH.out _ _ _).mono ?_;rintro e w3 ⟨rfl,hw3⟩;obtain rfl:=hw3.symm;clear hw3;rw [hpb]))
   obtain⟨z0,z1,z2,z3,z4⟩:=HKZ1.out
   have f0:=HF1.out 0 (by omega)
   have f1:=HF1.out 1 (by omega)
   have f2:=HF1.out 2 (by omega)
   have f3:=HF1.out 3 (by omega)
   have f4:=HF1.out 4 (by omega)
   go_wp2
   have hl:=lv83 (w:=set5 U1 (w.heap.size+1) tn0) (set5_tc HKZ1.out tn0)
   have hb5:=set5_but (w:=U1) (B:=(·=w.heap.size+1)) (b:=w.heap.size+1) rfl tn0
   refine bodyPost_ret (v:=.tuple #[tnV tn0,.int .i64 4]) (by simp only [set5,tn0,Int.cast_ofNat_Int] at hl;simp [results,Tryz.results70,asAddr,hl,tn0]) rfl ⟨rfl,?_⟩
   have hfin:=But.below HBU.out hb5 (fun k e=>by omega)
   simpa [set5,tn0] using hfin
  | true =>
   simp only [if_false,Bool.true_eq_false]
   go_enter Tryz.func70,Tryz.ntmps70
   go_upto_region 1 with fail
   rw [←HW.out]
   go_upto_region 2 with (first|(go_at_call 89;refine HF.out.mono ?_;rintro e w2 ⟨rfl,hb2⟩;have HB2:=hid hb2;clear hb2))
   obtain⟨U1,hU1⟩:∃U1,U1=w2.alloc (.cells #[.int .u64 (t.hi:Int),.int .u64 (t.lo:Int),.int .i64 t.r,.int .u64 (t.uh:Int),.int .u64 (t.ul:Int)] 88):=⟨_,rfl⟩
   have hb1:Below w2.heap.size w2 U1:=by rw [hU1];exact below1 _ _
   have hbW:=below_call HB2.out hb1
   have kn:Tc U1 w2.heap.size 0 t:=by rw [hU1];exact⟨by simp [go_sem],by simp [go_sem],by simp [go_sem],by simp [go_sem],by simp [go_sem]⟩
   have HKN:=hid kn
   have HKZ1:=hid (HZt.out.1.later hbW)
   have HF1:Hid (∀j,j<5→U1.frozen? ⟨w.heap.size+1,j,none⟩=false):=fun j hj=>by have hltU:w.heap.size+1<W.heap.size:=World.block_lt_of_cell? _ _ HZt.out.1.c0;rw [hbW.frozen hltU];exact HZt.out.2 j hj
   have HBU:=hid (below_call HB.out hbW)
   have HUe:=hid hU1
   clear hU1 hb1 hbW kn
   rw [←HUe.out]
   clear y0 y1 y2
   obtain⟨n0,n1,n2,n3,n4⟩:=HKN.out
   go_upto_region 6 with (first|(go_at_call 90;refine (HH.out _ _ _).mono ?_;rintro e w3 ⟨rfl,hw3⟩;obtain rfl:=hw3.symm;clear hw3;rw [hpb]))
   obtain⟨z0,z1,z2,z3,z4⟩:=HKZ1.out
   have f0:=HF1.out 0 (by omega)
   have f1:=HF1.out 1 (by omega)
   have f2:=HF1.out 2 (by omega)
   have f3:=HF1.out 3 (by omega)
   have f4:=HF1.out 4 (by omega)
   go_wp2
   have hl:=lv83 (w:=set5 U1 (w.heap.size+1) t) (set5_tc HKZ1.out t)
   have hb5:=set5_but (w:=U1) (B:=(·=w.heap.size+1)) (b:=w.heap.size+1) rfl t
   refine bodyPost_ret (v:=.tuple #[tnV t,.int .i64 0]) (by simp only [set5] at hl;simp [results,Tryz.results70,asAddr,hl]) rfl ⟨rfl,?_⟩
   have hfin:=But.below HBU.out hb5 (fun k e=>by omega)
   exact hfin
end
end Go.Proofs.YtffmodpgddecnaaGreat.V.E
