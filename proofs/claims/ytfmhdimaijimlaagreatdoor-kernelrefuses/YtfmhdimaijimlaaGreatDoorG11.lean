import Derived.Test.YtfmhdimaijimlaaGreatDoorG10
set_option linter.unusedVariables false
set_option linter.unusedSimpArgs false
set_option maxRecDepth 1000000
set_option maxHeartbeats 8000000
namespace Go.Proofs.YtfmhdimaijimlaaGreatDoor.R
open Go.RowKit
structure Cc (w:World)(L:List Value)(c:Cl):Prop where
 ex:∃d g,L=cC c d g∧Is w c d g
theorem Cc.later {W w1:World}{L:List Value}{c:Cl}(hb:Below W.heap.size W w1)(h:Cc W L c):Cc w1 L c:=by
 obtain⟨d,g,e,hi⟩:=h.ex
 exact⟨d,g,e,hi.later hb⟩
theorem Cc.len {w:World}{L:List Value}{c:Cl}(h:Cc w L c):L.length=13:=by
 obtain⟨d,g,rfl,hi⟩:=h.ex
 rfl
theorem Cc.one {w:World}{L:List Value}{c:Cl}(h:Cc w L c):∀v∈L,v.oneCell'=true:=by
 obtain⟨d,g,rfl,hi⟩:=h.ex
 exact cC_one _ _ _
theorem Cc.op {w:World}{L:List Value}{c:Cl}(h:Cc w L c):L[0]?=some (.int .i64 c.op):=by
 obtain⟨d,g,rfl,hi⟩:=h.ex
 rfl
theorem without_c (p:Nat)(hp:p<10)(L:List Value)(c:Cl)(w0 w:World)(h:Cc w0 L c):Calls Tryz.prog 137 #[.agg L.toArray,.int .i64 (p:Int)] w fun e w'=>∃L',e=.returned (.agg L'.toArray)∧Cc w0 L' (wo c p)∧Below w.heap.size w w':=by
 obtain⟨d,g,rfl,hi⟩:=h.ex
 refine (without_any p hp c d g w).mono ?_
 rintro e w' ⟨rfl,hb⟩
 exact⟨cC (wo c p) (wd p d) (wg p g),rfl,⟨_,_,rfl,hi.wo p⟩,hb⟩
def UnRel (w:World)(b b2:Nat)(c:Cl)(ps:List Nat)(pa:Option Addr)(n:Nat)(t:Value)(w':World):Prop :=
 ∃(i:Nat) (L M:List Value),i≤n∧t=.int .i64 (i:Int)∧Bx w' b L∧Cc w L ((ps.take i).foldl wo c)∧Bx w' b2 M∧M.length=13∧RP w' (b2+1) pa n ps∧Below w.heap.size w w'
theorem unused_any (L:List Value)(c:Cl)(w:World)(h:Cc w L c):Calls Tryz.prog 96 #[.agg L.toArray] w fun e w'=>∃L',e=.returned (.agg L'.toArray)∧Cc w' L' (unu c)∧Below w.heap.size w w':=by
 obtain⟨Z,hZl,hZo,hZz,hz⟩:=zero41
 have hZ0:(Z.toArray=#[])=False:=by simp;intro h;rw [h] at hZl;simp at hZl
 have H:Hid (Cc w L c):=h
 have hb1:Below w.heap.size w ((w.alloc (Obj.cells L.toArray 45)).alloc (Obj.cells Z.toArray 45)):=below2 _ _ _
 have X1:Hid (Bx ((w.alloc (Obj.cells L.toArray 45)).alloc (Obj.cells Z.toArray 45)) w.heap.size L):=(Bx.new w L 45).later (below1 _ _)
 have X2:Hid (Bx ((w.alloc (Obj.cells L.toArray 45)).alloc (Obj.cells Z.toArray 45)) (w.heap.size+1) Z):=by have:=Bx.new (w.alloc (Obj.cells L.toArray 45)) Z 45;simp at this;exact this
 have hc0:=X1.out.cell 0 h.op
 have HB1:=hid hb1
 have HZ:=hid (And.intro hZl hZo)
 clear h hb1 hZl hZo hZz
 go_enter Tryz.func96,Tryz.ntmps96
 go_upto_region 2 with (first|(go_at_call 99;refine (partsOf_any c.op _).mono ?_;rintro e w3 ⟨pa,n,cp,rfl,hrp,hn5,hb3,_⟩))
 have R0:Hid (UnRel w w.heap.size (w.heap.size+1) c (partsL c.op) pa n (.int .i64 0) w3):=⟨0,L,Z,by omega,rfl,X1.out.later hb3,H.out,X2.out.later hb3,HZ.out.1,by simpa using hrp,bc HB1.out hb3⟩
 have HN:=hid hrp.len
 clear hc0 X1 X2 hrp hb3
 go_loopw [9] (UnRel w w.heap.size (w.heap.size+1) c (partsL c.op) pa n) (fun t _=>n - (intOf t).toNat)
 case atStart=>exact R0.out
 case round =>
  clear R0
  obtain⟨i,M,Y,hi,rfl,hx1,hcc,hx2,hyl,hrp,hbw⟩:=hrel
  have ei:IntKind.i64.wrap ((i:Int)+1)=(i:Int)+1:=by rw [IntKind.wrap_i64];omega
  by_cases hlt:i<n
  ·have hdi:decide ((i:Int)<(n:Int))=true:=by simp;omega
   have hiP:i<(partsL c.op).length:=by have:=HN.out;omega
   obtain⟨pb,rfl,hpb,hpc⟩:=hrp.cells i hiP
   have HT:Hid _:=List.take_succ_eq_append_getElem hiP
   have hp10:Hid ((partsL c.op)[i]<10):=(parts_ok c.op).1 _ (List.getElem_mem hiP)
   generalize (partsL c.op)[i]=p at hpc HT hp10
   have HLD:=hid (ld41 hx1.range hcc.len)
   have HX:=hid hx1
   have HX2:=hid hx2
   have HRP:=hid hrp
   have HBW:=hid hbw
   have HC:=hid hcc
   clear hx1 hx2 hrp hbw hcc
   go_upto_region 4 with fail
   go_wp2_with (first|((with_reducible refine ld_arm HLD.out ?_ ?_);· rfl)|(go_at_call 137;refine (without_c p hp10.out M _ w _ HC.out).mono ?_;rintro e w4 ⟨M',rfl,hcc4,hb4⟩;have HC4:=hid hcc4;have HX4:=hid (HX.out.later hb4);have HL4:=hid HC.out.len;have HL5:=hid hcc4.len;have HO5:=hid hcc4.one;have HB4:=hid hb4;have hst:=stc (by rw [←HL4.out];exact HX4.out.there) HL5.out HO5.out;clear hcc4 hb4))
   have hsw:=HBW.out.size
   have hBS:But (·=w.heap.size) w4 (w4.setCells w.heap.size 0 M'):=sb_ (S:=(·=w.heap.size)) rfl M' 0 (But.refl _ _)
   have HBS:=hid hBS
   clear hBS
   go_roundw
   case rel =>
    refine⟨i+1,M',Y,by omega,by go_num,HX4.out.set (by rw [HL5.out,HL4.out]),by rw [HT.out,List.foldl_append];exact HC4.out,(HX2.out.later HB4.out).but HBS.out (by omega),hyl,(HRP.out.later HB4.out).but HBS.out (fun k hk=>by omega),But.below (bc HBW.out HB4.out) HBS.out (fun k hk=>by omega)⟩
   case measure=>simp [intOf];omega
  ·obtain rfl:i=n:=by omega
   have hcu:Cc w M (unu c):=by
    have:=hcc
    rwa [List.take_of_length_le (by have:=HN.out;omega)] at this
   have HLD:=hid (ld41 hx1.range hcc.len)
   have hst:=stc (by rw [←hyl];exact hx2.there) hcc.len hcc.one
   have hxs:Bx (wr.setCells (w.heap.size+1) 0 M) (w.heap.size+1) M:=hx2.set (by rw [hyl,hcc.len])
   have HLV:=hid (lv41 hxs.range hcc.len)
   have HB5:Hid (Below w.heap.size w (wr.setCells (w.heap.size+1) 0 M)):=But.below hbw (sb_ (S:=(·=w.heap.size+1)) rfl M 0 (But.refl _ _)) (fun k hk=>by omega)
   have HCU:=hid hcu
   have hml:=hcc.len
   clear hx1 hx2 hrp hbw hcc hxs hcu
   go_wp2_with (first|((with_reducible refine ld_arm HLD.out ?_ ?_);· rfl))
   refine bodyPost_ret (v:=.agg M.toArray) ?_ rfl ⟨M,rfl,HCU.out.later HB5.out,HB5.out⟩
   have hlv:=HLV.out
   simp [results,Tryz.results96,asAddr,hlv]
theorem isBlank_c (L:List Value)(c:Cl)(w:World)(h:Cc w L c):Calls Tryz.prog 95 #[.agg L.toArray] w fun e w'=>e=.returned (.bool (blB c))∧Below w.heap.size w w':=by
 obtain⟨d,g,rfl,hi⟩:=h.ex
 exact isBlank_any c d g w hi
theorem wordMay_c (L:List Value)(c:Cl)(w0 w:World)(h:Cc w0 L c):Calls Tryz.prog 94 #[.agg L.toArray] w fun e w'=>e=.returned (.bool (wmB c))∧Below w.heap.size w w':=by
 obtain⟨d,g,rfl,hi⟩:=h.ex
 exact wordMay_any c d g w
theorem inBounds_c (L:List Value)(c:Cl)(w:World)(h:Cc w L c):Calls Tryz.prog 93 #[.agg L.toArray] w fun e w'=>e=.returned (.bool (inB c))∧Below w.heap.size w w':=by
 obtain⟨d,g,rfl,hi⟩:=h.ex
 exact inBounds_any c d g w hi
theorem isCall_any (L:List Value)(c:Cl)(w:World)(h:Cc w L c):Calls Tryz.prog 56 #[.agg L.toArray] w fun e w'=>e=.returned (.bool (fm c))∧Below w.heap.size w w':=by
 have X1:Hid (Bx (w.alloc (Obj.cells L.toArray 45)) w.heap.size L):=Bx.new w L 45
 have hc0:=X1.out.cell 0 h.op
 have HL:=hid h.len
 have HC:Hid (Cc (w.alloc (Obj.cells L.toArray 45)) L c):=h.later (below1 _ _)
 have HLD1:=hid (ld41 X1.out.range h.len)
 have HB0:Hid (Below w.heap.size w (w.alloc (Obj.cells L.toArray 45))):=below1 _ _
 clear h
 cases F1:wi c.op 1 10 with
 | false =>
  have E:Hid (fm c=false):=by unfold Hid fm;rw [F1];simp
  go_enter Tryz.func56,Tryz.ntmps56
  go_wp2_with (first|(go_at_call 92;refine (within_any _ _ _ _).mono ?_;rintro e w1 ⟨rfl,rfl⟩;simp only [F1]))
  go_ret
  exact⟨rb_ E.out.symm,HB0.out⟩
 | true =>
 cases F2:inB c with
 | false =>
  have E:Hid (fm c=false):=by unfold Hid fm;rw [F1,F2];simp
  go_enter Tryz.func56,Tryz.ntmps56
  go_wp2_with (first|((with_reducible refine ld_armg HLD1.out ?_ ?_ ?_);(· rfl);(· rfl))|(go_at_call 92;refine (within_any _ _ _ _).mono ?_;rintro e w1 ⟨rfl,rfl⟩;simp only [F1])|(go_at_call 93;refine (inBounds_c L c _ HC.out).mono ?_;rintro e w2 ⟨rfl,hb2⟩;simp only [F2];have HB2:=hid hb2;clear hb2))
  go_ret
  exact⟨rb_ E.out.symm,bc HB0.out HB2.out⟩
 | true =>
 cases F3:wmB c with
 | false =>
  have E:Hid (fm c=false):=by unfold Hid fm;rw [F1,F2,F3];simp
  go_enter Tryz.func56,Tryz.ntmps56
  go_wp2_with (first|((with_reducible refine ld_armg HLD2.out ?_ ?_ ?_);(· rfl);(· rfl))|((with_reducible refine ld_armg HLD1.out ?_ ?_ ?_);(· rfl);(· rfl))|(go_at_call 92;refine (within_any _ _ _ _).mono ?_;rintro e w1 ⟨rfl,rfl⟩;simp only [F1])|(go_at_call 93;refine (inBounds_c L c _ HC.out).mono ?_;rintro e w2 ⟨rfl,hb2⟩;simp only [F2];have HB2:=hid hb2;have HLD2:=hid (ld41 (X1.out.later hb2).range HL.out);clear hb2)|(go_at_call 94;refine (wordMay_c L c _ _ HC.out).mono ?_;rintro e w3 ⟨rfl,hb3⟩;simp only [F3];have HB3:=hid hb3;clear hb3))
  go_ret
  exact⟨rb_ E.out.symm,bc (bc HB0.out HB2.out) HB3.out⟩
 | true =>
  have E:Hid (fm c=blB (unu c)):=by unfold Hid fm;rw [F1,F2,F3];simp
  go_enter Tryz.func56,Tryz.ntmps56
  go_wp2_with (first|((with_reducible refine ld_armg HLD3.out ?_ ?_ ?_);(· rfl);(· rfl))|((with_reducible refine ld_armg HLD2.out ?_ ?_ ?_);(· rfl);(· rfl))|((with_reducible refine ld_armg HLD1.out ?_ ?_ ?_);(· rfl);(· rfl))|(go_at_call 92;refine (within_any _ _ _ _).mono ?_;rintro e w1 ⟨rfl,rfl⟩;simp only [F1])|(go_at_call 93;refine (inBounds_c L c _ HC.out).mono ?_;rintro e w2 ⟨rfl,hb2⟩;simp only [F2];have HB2:=hid hb2;have HLD2:=hid (ld41 (X1.out.later hb2).range HL.out);clear hb2)|(go_at_call 94;refine (wordMay_c L c _ _ HC.out).mono ?_;rintro e w3 ⟨rfl,hb3⟩;simp only [F3];have HB3:=hid hb3;have HLD3:=hid (ld41 ((X1.out.later HB2.out).later hb3).range HL.out);clear hb3)|(go_at_call 96;refine (unused_any L c _ ((HC.out.later HB2.out).later HB3.out)).mono ?_;rintro e w4 ⟨L4,rfl,hcc4,hb4⟩;have HC4:=hid hcc4;have HB4:=hid hb4;clear hcc4 hb4)|(go_at_call 95;refine (isBlank_c L4 _ _ HC4.out).mono ?_;rintro e w5 ⟨rfl,hb5⟩;have HB5:=hid hb5;clear hb5))
  go_ret
  exact⟨rb_ E.out.symm,bc (bc (bc (bc HB0.out HB2.out) HB3.out) HB4.out) HB5.out⟩
theorem own_apart {w:World}{b1 b2:Nat}{e1 e2:TypeId}{s1 s2:Nat}{v1 v2:Value}{n1 n2:Nat}{x1 x2:List Value}(h1:w.ownsRow b1 e1 s1 v1 n1 x1)(h2:w.ownsRow b2 e2 s2 v2 n2 x2)(hne:e1≠e2):∀k,v1.ownBlock=some k→v2.ownBlock≠some k:=by
 intro k k1 k2
 rcases h1.2 with ⟨rfl,_⟩|⟨g,cap,cur,rfl,hg,hh,r⟩
 ·cases k1
 ·rcases h2.2 with ⟨rfl,_⟩|⟨g',cap',cur',rfl,hg',hh',r'⟩
  ·cases k2
  ·simp [Value.ownBlock] at k1 k2
   subst k1
   subst k2
   rw [hh] at hh'
   simp at hh'
   exact hne hh'.2
theorem Own.but2 {S:Nat→Prop}{w w':World}{base:Nat}{a:Option Addr}{n cap:Nat}{L:List Nat}(hb:But S w w')(h:Own w base a n cap L)(hS:∀k,Blk a k→¬S k):Own w' base a n cap L:=by
 refine⟨⟨h.row.1,?_⟩,h.small⟩
 rcases h.row.2 with h|⟨g,cap,cur,hv,hg,hh,r⟩
 ·exact .inl h
 ·have hg':Blk a g:=by
   simp only [Value.slice.injEq] at hv
   exact⟨_,hv.1,rfl⟩
  exact .inr ⟨g,cap,cur,hv,hg,by rw [hb.block g (Array.getElem?_eq_some_iff.1 hh).1 (hS g hg')];exact hh,r⟩
theorem info39:(Tryz.prog.info? 39).map (fun i=>(i.zero,i.size,i.bytes))=some (some (.slice none 0 0),1,24):=by kernel_rfl
def vals (rs:List R4):List Value:=rs.map val4
structure OR (w w':World)(a:Option Addr)(n cap:Nat)(rs:List R4):Prop where
 row:w'.ownsRow w.heap.size 39 1 (.slice a n cap) n (vals rs)
 each:∀r∈rs,Row w r.1 r.2.1 r.2.2.1 r.2.2.2∨Own w' w.heap.size r.1 r.2.1 r.2.2.1 r.2.2.2
theorem OR.len {w w':World}{a:Option Addr}{n cap:Nat}{rs:List R4}(h:OR w w' a n cap rs):rs.length=n:=by
 have:=h.row.1
 simp [vals] at this
 exact this
theorem OR.later {w w1 w2:World}{a:Option Addr}{n cap:Nat}{rs:List R4}(h:OR w w1 a n cap rs)(hb:Below w1.heap.size w1 w2):OR w w2 a n cap rs :=
 ⟨own_later hb h.row,fun r hr=>by
  rcases h.each r hr with h1|h1
  ·exact .inl h1
  ·exact .inr (h1.later hb)⟩
def Lr (w w':World)(a:Option Addr)(n c:Nat)(L:List Nat):Prop:=Row w a n c L∨Own w' w.heap.size a n c L
theorem Lr.later {w w1 w2:World}{a:Option Addr}{n c:Nat}{L:List Nat}(h:Lr w w1 a n c L)(hb:Below w1.heap.size w1 w2):Lr w w2 a n c L:=by
 rcases h with h|h
 ·exact .inl h
 ·exact .inr (h.later hb)
theorem append_row {w w1:World}{a:Option Addr}{n cap:Nat}{rs:List R4}{x:Option Addr}{m c:Nat}{L:List Nat}(h:OR w w1 a n cap rs)(hl:Lr w w1 x m c L)(hb:Below w.heap.size w w1)(hr:n+1≤2000) :
  ∃a' cap' w',(Builtin.append_ #[186,186] 186 #[.slice a n cap,.slice (some ⟨w1.heap.size,0,none⟩) 1 1]).run Tryz.prog (w1.alloc (Obj.cells #[.slice x m c] 39))=.ok (.slice a' (n+1) cap') w'∧OR w w' a' (n+1) cap' (rs++[(x,m,c,L)])∧Below w.heap.size w w'∧But (Blk a) w1 w'∧∀k,Blk a' k→Blk a k∨w1.heap.size≤k:=by
 obtain⟨i,hi,hz0,hz1,hz2⟩:=info_parts info39
 have hb1:=below1 w1 (Obj.cells #[.slice x m c] 39)
 have h1:=h.later hb1
 obtain⟨v',w',hrun,h2,h3,_,h5⟩:=run_append_own_at (P:=Tryz.prog) (w1.alloc (Obj.cells #[.slice x m c] 39)) w.heap.size 186 186 39 i _ 1 24 Tryz.underlying186 hi hz0 hz1 hz2 rfl (by decide) _ n _ h1.row ⟨w1.heap.size,0,none⟩ 1 1 [.slice x m c] rfl (cell_one_new _ _ _) (by intro u hu;simp at hu;subst hu;rfl) (by unfold maxLen;omega) (by omega) (by have:=hb.size;simp;omega)
 obtain⟨a',cap',rfl⟩:∃a' cap',v'=.slice a' (n+1) cap':=by
  rcases h2.2 with ⟨h,h'⟩|⟨g',cap',_,h,_⟩
  ·exact⟨.none,0,by rw [h,h']⟩
  ·exact⟨_,cap',h⟩
 have hbut:But (Blk a) (w1.alloc (Obj.cells #[.slice x m c] 39)) w':=⟨h3.os,h3.tape,h3.output,h3.size,fun j hj hn=>h3.block j hj (fun e=>hn (Blk.of.1 e.symm))⟩
 have hown:∀(y:Option Addr) (p q:Nat) (M:List Nat),Own (w1.alloc (Obj.cells #[.slice x m c] 39)) w.heap.size y p q M→Own w' w.heap.size y p q M:=fun y p q M hM=>hM.but2 hbut (fun k hk hk2=>own_apart hM.row h1.row (by decide) k (Blk.of.2 hk) (Blk.of.2 hk2))
 refine⟨a',cap',w',hrun,⟨by simpa [vals,val4] using h2,fun r hr=>?_⟩,But.below (bc hb hb1) hbut (fun k hk=>own_block h.row k (Blk.of.2 hk)),(But.of hb1).trans hbut,fun j hj=>?_⟩
 rotate_left
 ·rcases h5 with h5|h5
  ·rw [Blk.of.2 hj] at h5
   exact .inl (Blk.of.1 h5.symm)
  ·rw [Blk.of.2 hj] at h5
   right
   simp at h5
   omega
 rcases List.mem_append.1 hr with hr|hr
 ·rcases h1.each r hr with h6|h6
  ·exact .inl h6
  ·exact .inr (hown _ _ _ _ h6)
 ·simp only [List.mem_singleton] at hr
  subst hr
  rcases hl.later hb1 with h6|h6
  ·exact .inl h6
  ·exact .inr (hown _ _ _ _ h6)
theorem OR.one {w w1:World}{x:Option Addr}{m c:Nat}{L:List Nat}(hl:Lr w w1 x m c L)(hb:Below w.heap.size w w1):OR w (w1.alloc (Obj.cells #[.slice x m c] 39)) (some ⟨w1.heap.size,0,none⟩) 1 1 [(x,m,c,L)]:=by
 refine⟨⟨rfl,.inr ⟨w1.heap.size,1,#[.slice x m c],rfl,hb.size,heap_alloc_new _ _,by omega,by unfold maxLen;omega,rfl,rfl⟩⟩,fun r hr=>?_⟩
 simp only [List.mem_singleton] at hr
 subst hr
 exact hl.later (below1 _ _)
theorem OR.two {w w1:World}{x y:Option Addr}{m c p q:Nat}{L M:List Nat}(hl:Lr w w1 x m c L)(hm:Lr w w1 y p q M)(hb:Below w.heap.size w w1):OR w (w1.alloc (Obj.cells #[.slice x m c,.slice y p q] 39)) (some ⟨w1.heap.size,0,none⟩) 2 2 [(x,m,c,L),(y,p,q,M)]:=by
 refine⟨⟨rfl,.inr ⟨w1.heap.size,2,#[.slice x m c,.slice y p q],rfl,hb.size,heap_alloc_new _ _,by omega,by unfold maxLen;omega,rfl,rfl⟩⟩,fun r hr=>?_⟩
 simp only [List.mem_cons,List.mem_nil_iff,or_false] at hr
 rcases hr with rfl|rfl
 ·exact hl.later (below1 _ _)
 ·exact hm.later (below1 _ _)
theorem join_or {w w1:World}{a:Option Addr}{n cap:Nat}{rs:List R4}(h:OR w w1 a n cap rs)(hb:Below w.heap.size w w1)(hn:0<n)(hr:n<1000)(hc:(cat4 rs).length≤140737488355328) :
  Calls Tryz.prog 101 #[.slice a n cap] w1 fun e w'=>∃a' n' cap',e=.returned (.slice a' n' cap')∧Own w' w1.heap.size a' n' cap' (cat4 rs)∧Below w1.heap.size w1 w':=by
 have hl:=h.len
 have hrow:=h.row
 rcases hrow.2 with ⟨h1,h2⟩|⟨g,cp,cur,hv,hg,hh,r⟩
 ·omega
 ·simp only [Value.slice.injEq] at hv
  obtain⟨rfl,_,rfl⟩:=hv
  refine join_any g cap n rs w1 hl.symm (by omega) (fun j hj=>?_) (fun r hr=>?_) hc
  ·have:=hrow.cells (g:=g) rfl j (val4 rs[j]) (by simp [vals,hj])
   rw [aa_] at this
   exact this
  ·rcases h.each r hr with h6|h6
   ·exact h6.later hb
   ·exact h6.read
end Go.Proofs.YtfmhdimaijimlaaGreatDoor.R
namespace Go.Proofs.YtfmhdimaijimlaaGreatDoor.R.W
theorem B64_eq:B64=2 ^ 64:=rfl
structure IsW (a b N:Nat):Prop where
 ha:a<B64
 hb:b<B64
 hn:N=a*B64+b
structure IsV (a b:Int)(N:Nat):Prop where
 ex:∃x y:Nat,a=x∧b=y∧IsW x y N
end Go.Proofs.YtfmhdimaijimlaaGreatDoor.R.W
namespace Go.Proofs.YtfmhdimaijimlaaGreatDoor.R.W
open Go.RowKit
def lay8 (w:World)(g o h:Nat):Nat→World
 | 0=>w
 | k+1=>(lay8 w g o h k).setCell ⟨g,o+k,none⟩ (.int .u8 ((h:Int) / 2 ^ (8*k)%256))
theorem _root_.Go.Proofs.YtfmhdimaijimlaaGreatDoor.Lies.setCell {w:World}{p q:Addr}{u v:Value}(h:Lies w p v):∃v',Lies (w.setCell q u) p v':=by
 obtain⟨v',hv'⟩:=cell?_setCell_some (w:=w) (p:=q) (x:=u) (q:=p) (v:=v) h.1
 exact⟨v',hv',by rw [World.frozen?_setCell];exact h.2⟩
theorem lies_lay8 {w:World}{g o h:Nat}(hc:∀i,i<8→∃v,Lies w ⟨g,o+i,none⟩ v)(k:Nat):∀i,i<8→∃v,Lies (lay8 w g o h k) ⟨g,o+i,none⟩ v:=by
 induction k with
 | zero=>exact hc
 | succ k ih =>
  intro i hi
  obtain⟨v,hv⟩:=ih i hi
  exact hv.setCell
theorem layHalf_any (g o len cap h:Nat)(w:World)(hl:8≤len)(hc:∀i,i<8→∃v,Lies w ⟨g,o+i,none⟩ v) :
  Calls Tryz.prog 187 #[.slice (some ⟨g,o,none⟩) len cap,.int .u64 (h:Int)] w fun e w'=>e=.returned (.tuple #[])∧w'=lay8 w g o h 8:=by
 have HC:Hid (∀i,i<8→∃v,Lies w ⟨g,o+i,none⟩ v):=hc
 clear hc
 go_enter Tryz.func187,Tryz.ntmps187
 go_wp2
 go_loopw [5] (fun i w'=>∃k:Nat,k≤8∧i=.int .i64 k∧w'=lay8 w g o h k) (fun i _=>8 - (intOf i).toNat)
 case atStart=>exact⟨0,by omega,rfl,rfl⟩
 case round =>
  obtain⟨k,hk,rfl,rfl⟩:=hrel
  by_cases hlt:k<8
  ·obtain⟨v,c0,f0⟩:=lies_lay8 (h:=h) HC.out k k hlt
   have hlen:(k:Int)<(len:Int):=by omega
   go_wp2
   refine⟨⟨k+1,by omega,by go_num,rfl⟩,by simp [intOf];omega⟩
  ·go_wp2
   go_end0
   obtain rfl:k=8:=by omega
   exact⟨rfl,rfl⟩
def zero16:Array Value:=Array.replicate 16 (.int .u8 0)
theorem make16 (w:World):(Instr.makeSlice 39 (.int .i64 16) (.int .i64 16)).run Tryz.prog w=.ok (.slice (some ⟨w.heap.size,0,none⟩) 16 16) (w.alloc (.cells zero16 5)):=by kernel_rfl
theorem zero16_at {i:Nat}(h:i<16):zero16[i]?=some (.int .u8 0):=by
 simp [zero16,h]
theorem lies_new {w:World}{c:Array Value}{t:TypeId}{i:Nat}{v:Value}(h:c[i]?=some v):Lies (w.alloc (.cells c t)) ⟨w.heap.size,i,none⟩ v :=
 ⟨by simp [go_sem,h],by simp [go_sem]⟩
theorem _root_.Go.Proofs.YtfmhdimaijimlaaGreatDoor.Lies.drew {w:World}{p:Addr}{v:Value}(h:Lies w p v):Lies w.drew p v:=h
theorem lay8_other {w:World}{g o h:Nat}{p:Addr}(hp:p.block≠g):∀k,(lay8 w g o h k).cell? p=w.cell? p
 | 0=>rfl
 | k+1=>by
  show ((lay8 w g o h k).setCell _ _).cell? p=_
  rw [World.cell?_setCell_other _ _ _ _ (fun e=>hp (by rw [←e]))]
  exact lay8_other hp k
theorem lies_lay (w:World)(g o h:Nat){p:Addr}{v:Value}(hp:Lies w p v):∀k,∃v',Lies (lay8 w g o h k) p v'
 | 0=>⟨v,hp⟩
 | k+1=>by
  obtain⟨v',hv'⟩:=lies_lay w g o h hp k
  exact hv'.setCell
theorem lies_zero (w:World)(A:Obj)(i:Nat)(h:i<16):Lies ((w.alloc A).alloc (.cells zero16 5)) ⟨w.heap.size+1,i,none⟩ (.int .u8 0):=by
 have:=lies_new (w:=w.alloc A) (t:=5) (zero16_at h)
 simpa using this
theorem bytes_raw (a b:Nat)(w:World) :
  Calls Tryz.prog 145 #[.agg #[.int .u64 (a:Int),.int .u64 (b:Int)]] w fun e w'=>e=.returned (.slice (some ⟨w.heap.size+1,0,none⟩) 16 16) ∧
   w'=lay8 (lay8 ((w.alloc (Obj.cells #[Value.int IntKind.u64 a,Value.int IntKind.u64 b] 31)).alloc (.cells zero16 5)).drew (w.heap.size+1) 0 b 8).drew (w.heap.size+1) 8 a 8:=by
 have hmk:=make16
 have h1:Hid (∀i,i<8→∃v,Lies (((w.alloc (Obj.cells #[Value.int IntKind.u64 a,Value.int IntKind.u64 b] 31)).alloc (.cells zero16 5)).drew) ⟨w.heap.size+1,0+i,none⟩ v):=fun i hi=>⟨_,(lies_zero w _ _ (by omega)).drew⟩
 have h2:Hid (∀i,i<8→∃v,Lies ((lay8 ((w.alloc (Obj.cells #[Value.int IntKind.u64 a,Value.int IntKind.u64 b] 31)).alloc (.cells zero16 5)).drew (w.heap.size+1) 0 b 8).drew) ⟨w.heap.size+1,8+i,none⟩ v):=fun i hi=>by
  obtain⟨v,hv⟩:=lies_lay _ (w.heap.size+1) 0 b (lies_zero w (Obj.cells #[Value.int IntKind.u64 a,Value.int IntKind.u64 b] 31) (8+i) (by omega)).drew 8
  exact⟨v,hv.drew⟩
 have h3:(lay8 ((w.alloc (Obj.cells #[Value.int IntKind.u64 a,Value.int IntKind.u64 b] 31)).alloc (.cells zero16 5)).drew (w.heap.size+1) 0 b 8).cell? ⟨w.heap.size,0,none⟩=some (.int .u64 a):=by
  rw [lay8_other (by simp)];simp [go_sem]
 go_enter Tryz.func145,Tryz.ntmps145
 go_wp2
 go_region_with (first|(go_at_call 187;refine (layHalf_any _ _ _ _ b _ (by omega) h1.out).mono ?_;rintro e w1 ⟨rfl,rfl⟩))
 go_wp2
 go_region_with (first|(go_at_call 187;refine (layHalf_any _ _ _ _ a _ (by omega) h2.out).mono ?_;rintro e w1 ⟨rfl,rfl⟩))
 go_wp2
 go_ret
 exact⟨rfl,rfl⟩
end Go.Proofs.YtfmhdimaijimlaaGreatDoor.R.W
namespace Go.Proofs.YtfmhdimaijimlaaGreatDoor.R.W
open Go.RowKit
def byteN (N i:Nat):Nat:=N / 256 ^ i%256
def bytesOf (N:Nat):List Nat:=(List.range 16).map (byteN N)
theorem byte_lo {a b N:Nat}(h:IsW a b N){i:Nat}(hi:i<8):((b:Int) / 2 ^ (8*i)%256)=(byteN N i:Int):=by
 have e1:((2:Int) ^ (8*i))=((2 ^ (8*i):Nat):Int):=by simp
 have e2:(256:Nat) ^ i=2 ^ (8*i):=by rw [Nat.pow_mul]
 rw [e1]
 unfold byteN
 rw [e2,h.hn]
 obtain⟨j,hj⟩:∃j,B64=2 ^ (8*i)*(256*2 ^ j):=⟨64 - 8*i - 8,by
  have:(256:Nat)=2 ^ 8:=rfl
  rw [this,←Nat.pow_add,←Nat.pow_add,B64_eq];congr 1;omega⟩
 have hp:0<2 ^ (8*i):=Nat.two_pow_pos _
 have e3:(a*B64+b) / 2 ^ (8*i)%256=b / 2 ^ (8*i)%256:=by
  rw [hj,Nat.add_comm,Nat.mul_comm a,Nat.mul_assoc,Nat.add_mul_div_left _ _ hp,Nat.mul_assoc,Nat.add_mul_mod_self_left]
 rw [e3]
 simp
theorem byte_hi {a b N:Nat}(h:IsW a b N){i:Nat}:((a:Int) / 2 ^ (8*i)%256)=(byteN N (8+i):Int):=by
 have e1:((2:Int) ^ (8*i))=((2 ^ (8*i):Nat):Int):=by simp
 have e2:(256:Nat) ^ (8+i)=B64*2 ^ (8*i):=by
  rw [Nat.pow_add,B64_eq]
  have:(256:Nat)=2 ^ 8:=rfl
  rw [this,←Nat.pow_mul,←Nat.pow_mul]
 rw [e1]
 unfold byteN
 rw [e2,h.hn,←Nat.div_div_eq_div_mul]
 have e4:(a*B64+b) / B64=a:=by
  rw [Nat.add_comm,Nat.add_mul_div_right _ _ (by decide),Nat.div_eq_of_lt h.hb,Nat.zero_add]
 rw [e4]
 simp
def layA (cs:Array Value)(o h:Nat):Nat→Array Value
 | 0=>cs
 | k+1=>(layA cs o h k).setIfInBounds (o+k) (.int .u8 ((h:Int) / 2 ^ (8*k)%256))
theorem heap_lay8 {w:World}{g:Nat}{cs:Array Value}{t:TypeId}(hg:w.heap[g]?=some (.cells cs t (0,0)))(o h:Nat):∀k,(lay8 w g o h k).heap[g]?=some (.cells (layA cs o h k) t (0,0))
 | 0=>hg
 | k+1=>heap_setCell_same _ _ _ _ _ _ (heap_lay8 hg o h k)
theorem below_lay8 {B:Nat}{w0 w:World}{g:Nat}(hb:Below B w0 w)(hg:B≤g)(o h:Nat):∀k,Below B w0 (lay8 w g o h k)
 | 0=>hb
 | k+1=>(below_lay8 hb hg o h k).setCell hg _
theorem layA_size (cs:Array Value)(o h:Nat):∀k,(layA cs o h k).size=cs.size
 | 0=>rfl
 | k+1=>by unfold layA;rw [Array.size_setIfInBounds];exact layA_size cs o h k
theorem layA_get (cs:Array Value)(o h i:Nat)(hi:i<cs.size):∀k,(layA cs o h k)[i]?=if o≤i∧i<o+k then some (.int .u8 ((h:Int) / 2 ^ (8*(i - o))%256)) else cs[i]?
 | 0=>by unfold layA;rw [if_neg (by omega)]
 | k+1=>by
  unfold layA
  rw [Array.getElem?_setIfInBounds,layA_get cs o h i hi k,layA_size]
  by_cases h1:o+k=i
  ·subst h1
   rw [if_pos rfl,if_pos hi,if_pos (by omega),Nat.add_sub_cancel_left]
  ·rw [if_neg h1]
   by_cases h2:o≤i∧i<o+k
   ·rw [if_pos h2,if_pos (by omega)]
   ·rw [if_neg h2,if_neg (by omega)]
theorem u8s_get (l:List Nat)(i:Nat):(u8s l).toArray[i]?=l[i]?.map fun (n:Nat)=>Value.int .u8 (n:Int):=by simp [u8s]
theorem bytesOf_get (N i:Nat)(h:i<16):(bytesOf N)[i]?=some (byteN N i):=by simp [bytesOf,h]
theorem zero16_size:zero16.size=16:=by simp [zero16]
theorem layA_all {a b N:Nat}(h:IsW a b N):layA (layA zero16 0 b 8) 8 a 8=(u8s (bytesOf N)).toArray:=by
 have hs:(layA (layA zero16 0 b 8) 8 a 8).size=16:=by rw [layA_size,layA_size,zero16_size]
 apply Array.ext_getElem?
 intro i
 by_cases hi:i<16
 ·rw [layA_get _ _ _ _ (by rw [layA_size,zero16_size];exact hi),layA_get _ _ _ _ (by rw [zero16_size];exact hi),u8s_get,bytesOf_get _ _ hi]
  by_cases h1:8≤i
  ·rw [if_pos (by omega)]
   have:=byte_hi h (i:=i - 8)
   rw [show 8+(i - 8)=i by omega] at this
   rw [this];rfl
  ·rw [if_neg (by omega),if_pos (by omega),Nat.sub_zero,byte_lo h (by omega)];rfl
 ·rw [Array.getElem?_eq_none (by omega),Array.getElem?_eq_none]
  simp [u8s,bytesOf];omega
theorem heap_two (w:World)(A B:Obj):((w.alloc A).alloc B).heap[w.heap.size+1]?=some B:=by
 show ((w.heap.push A).push B)[w.heap.size+1]?=some B
 rw [Array.getElem?_push,if_pos (by simp)]
theorem heap_lay8_drew {w:World}{g:Nat}{cs:Array Value}{t:TypeId}(hg:w.heap[g]?=some (.cells cs t (0,0)))(o h k:Nat):(lay8 w.drew g o h k).heap[g]?=some (.cells (layA cs o h k) t (0,0)) :=
 heap_lay8 (w:=w.drew) (show w.heap[g]?=_ from hg) o h k
theorem bytes_any (a b:Int)(N:Nat)(w:World)(h:IsV a b N) :
  Calls Tryz.prog 145 #[.agg #[.int .u64 a,.int .u64 b]] w fun e w'=>∃g,e=.returned (.slice (some ⟨g,0,none⟩) 16 16)∧w.heap.size≤g∧w'.heap[g]?=some (.cells (u8s (bytesOf N)).toArray 5 (0,0))∧Below w.heap.size w w':=by
 obtain⟨a,b,rfl,rfl,h⟩:=h
 refine (bytes_raw a b w).mono ?_
 rintro e w' ⟨rfl,rfl⟩
 have k1:=heap_lay8_drew (heap_two w (Obj.cells #[Value.int IntKind.u64 a,Value.int IntKind.u64 b] 31) (.cells zero16 5)) 0 b 8
 have k2:=heap_lay8_drew k1 8 a 8
 rw [layA_all h] at k2
 have b1:=below_lay8 (below2 w (Obj.cells #[Value.int IntKind.u64 a,Value.int IntKind.u64 b] 31) (.cells zero16 5)).drew (Nat.le_succ w.heap.size) 0 b 8
 have b2:=below_lay8 b1.drew (Nat.le_succ w.heap.size) 8 a 8
 exact⟨w.heap.size+1,rfl,Nat.le_succ _,k2,b2⟩
end Go.Proofs.YtfmhdimaijimlaaGreatDoor.R.W
namespace Go.Proofs.YtfmhdimaijimlaaGreatDoor.R
open Go.RowKit
theorem p8 (v:Nat)(hv:v<256)(w:World):Calls Tryz.prog 97 #[.slice none 0 0,.int .u8 (v:Int)] w fun e w'=>∃a c,e=.returned (.slice a 1 c)∧Own w' w.heap.size a 1 c (leL v 1)∧Below w.heap.size w w':=by
 refine (put8 none 0 0 [] v w hv (row_nil w) (by omega)).mono ?_
 rintro e w' ⟨a,c,rfl,h,hb⟩
 exact⟨a,c,rfl,h,hb⟩
theorem p16 (v:Nat)(hv:v<65536)(w:World):Calls Tryz.prog 98 #[.slice none 0 0,.int .u16 (v:Int)] w fun e w'=>∃a c,e=.returned (.slice a 2 c)∧Own w' w.heap.size a 2 c (leL v 2)∧Below w.heap.size w w':=by
 refine (put16 none 0 0 [] v w hv (row_nil w) (by omega)).mono ?_
 rintro e w' ⟨a,c,rfl,h,hb⟩
 exact⟨a,c,rfl,h,hb⟩
theorem p32 (v:Nat)(hv:v<4294967296)(w:World):Calls Tryz.prog 184 #[.slice none 0 0,.int .u32 (v:Int)] w fun e w'=>∃a c,e=.returned (.slice a 4 c)∧Own w' w.heap.size a 4 c (leL v 4)∧Below w.heap.size w w':=by
 refine (put32 none 0 0 [] v w hv (row_nil w) (by omega)).mono ?_
 rintro e w' ⟨a,c,rfl,h,hb⟩
 exact⟨a,c,rfl,h,hb⟩
theorem p64 (v:Nat)(hv:v<18446744073709551616)(w:World):Calls Tryz.prog 144 #[.slice none 0 0,.int .u64 (v:Int)] w fun e w'=>∃a c,e=.returned (.slice a 8 c)∧Own w' w.heap.size a 8 c (leL v 8)∧Below w.heap.size w w':=by
 refine (put64 none 0 0 [] v w hv (row_nil w) (by omega)).mono ?_
 rintro e w' ⟨a,c,rfl,h,hb⟩
 exact⟨a,c,rfl,h,hb⟩
theorem laySigned_any (n:Int)(w:World):Calls Tryz.prog 143 #[.int .i64 n] w fun e w'=>∃a c,e=.returned (.slice a 4 c)∧Own w' w.heap.size a 4 c (leL (sg n) 4)∧Below w.heap.size w w':=by
 have e1:IntKind.u32.wrap n=(sg n:Int):=by rw [IntKind.wrap_u32];unfold sg;omega
 have hv:=sg_lt n
 generalize sg n=v at e1 hv ⊢
 have H:=hid hv
 clear hv
 go_enter Tryz.func143,Tryz.ntmps143
 go_wp2_with (first|(go_at_call 184;refine (p32 v H.out _).mono ?_;rintro e w1 ⟨a,c,rfl,h,hb⟩))
 go_ret
 exact⟨_,_,rfl,h,hb⟩
theorem layFlag_any (y:Bool)(w:World):Calls Tryz.prog 146 #[.bool y] w fun e w'=>∃a c,e=.returned (.slice a 1 c)∧Own w' w.heap.size a 1 c (leL (if y then 1 else 0) 1)∧Below w.heap.size w w':=by
 cases y with
 | true =>
  go_enter Tryz.func146,Tryz.ntmps146
  go_wp2_with (first|(go_at_call 97;refine (p8 1 (by omega) _).mono ?_;rintro e w1 ⟨a,c,rfl,hwn,hb⟩))
  go_ret
  exact⟨_,_,rfl,hwn,hb⟩
 | false =>
  go_enter Tryz.func146,Tryz.ntmps146
  go_wp2_with (first|(go_at_call 97;refine (p8 0 (by omega) _).mono ?_;rintro e w1 ⟨a,c,rfl,hwn,hb⟩))
  go_ret
  exact⟨_,_,rfl,hwn,hb⟩
theorem bytesOf_leL (hi lo:Nat)(h1:hi<18446744073709551616)(h2:lo<18446744073709551616):W.bytesOf (hi*B64+lo)=leL lo 8++leL hi 8:=by
 have key:∀(a b:Nat),leL (a+256 ^ 8*b) 16=leL a 8++leL b 8∨256 ^ 8≤a:=by
  intro a b
  by_cases ha:a<256 ^ 8
  ·left
   have e:∀v,leL v 16=leL v 8++leL (v / 256 ^ 8) 8:=by
    intro v
    simp only [leL,List.range_succ,List.range_zero,List.map_append,List.map_nil,List.map_cons,List.nil_append,List.cons_append,Nat.div_div_eq_div_mul,←Nat.pow_add]
   rw [e,Nat.add_mul_div_left _ _ (by decide),Nat.div_eq_of_lt ha,Nat.zero_add,←leL_mod _ 8 8 (Nat.le_refl _),Nat.add_mul_mod_self_left,leL_mod _ 8 8 (Nat.le_refl _)]
  ·right;omega
 rcases key lo hi with h|h
 ·rw [←h]
  unfold W.bytesOf leL
  have:hi*B64+lo=lo+256 ^ 8*hi:=by unfold B64;omega
  rw [this]
  rfl
 ·omega
theorem wideBytes_any (hi lo:Nat)(w:World)(h1:hi<18446744073709551616)(h2:lo<18446744073709551616) :
  Calls Tryz.prog 145 #[.agg #[.int .u64 (hi:Int),.int .u64 (lo:Int)]] w fun e w'=>∃a c,e=.returned (.slice a 16 c)∧Own w' w.heap.size a 16 c (leL lo 8++leL hi 8)∧Below w.heap.size w w':=by
 refine (W.bytes_any hi lo (hi*B64+lo) w ⟨hi,lo,rfl,rfl,⟨h1,h2,rfl⟩⟩).mono ?_
 rintro e w' ⟨g,rfl,hg,hh,hb⟩
 rw [bytesOf_leL hi lo h1 h2] at hh
 have hs:∀x∈leL lo 8++leL hi 8,x<256:=fun x hx=>by
  rcases List.mem_append.1 hx with h|h
  ·exact leL_small _ _ x h
  ·exact leL_small _ _ x h
 exact⟨_,_,rfl,⟨⟨by simp [u8s,leL_length],.inr ⟨g,16,_,rfl,hg,hh,by omega,by unfold maxLen;omega,by simp [u8s,leL_length],List.take_of_length_le (by simp [u8s,leL_length])⟩⟩,hs⟩,hb⟩
def LgRel (w:World)(n:Nat)(G:List Int)(l t:Value)(w':World):Prop :=
 ∃(i:Nat) (a:Option Addr) (c:Nat) (rs:List R4),i≤n∧t=.int .i64 (i:Int)∧l=.slice a (1+i) c∧OR w w' a (1+i) c rs∧cat4 rs=leL n 1++g2 (G.take i)∧Below w.heap.size w w'
theorem layGifts_any (a:Option Addr)(n cap:Nat)(G:List Int)(w:World)(h:RI w a n cap G)(hg:gfB G=true) :
  Calls Tryz.prog 147 #[.slice a n cap] w fun e w'=>∃a' n' c',e=.returned (.slice a' n' c')∧Own w' w.heap.size a' n' c' (leL G.length 1++g2 G)∧Below w.heap.size w w':=by
 have hlen:=h.len
 simp only [gfB,Bool.and_eq_true,decide_eq_true_eq,List.all_eq_true,wi_iff] at hg
 obtain⟨hg1,hg2⟩:=hg
 have hn:n≤255:=by omega
 have e1:IntKind.u8.wrap (n:Int)=(n:Int):=by rw [IntKind.wrap_u8];omega
 have H:=hid h
 have HG:=hid hg2
 have HL:=hid hlen
 clear h hg2 hg1 hlen
 go_enter Tryz.func147,Tryz.ntmps147
 go_upto_region 2 with (first|(go_at_call 97;refine (p8 n (by omega) _).mono ?_;rintro e w1 ⟨a1,c1,rfl,hown,hb1⟩))
 have R0:Hid (LgRel w n G (.slice (some ⟨w1.heap.size,0,none⟩) (1+0) 1) (.int .i64 0) (w1.alloc (Obj.cells #[.slice a1 1 c1] 39))):=⟨0,_,1,_,by omega,rfl,rfl,OR.one (.inr hown) hb1,by simp [cat4,g2],bc hb1 (below1 _ _)⟩
 clear hown hb1
 go_upto_region 3 with fail
 go_loopw [3,13] (LgRel w n G) (fun _ t _=>n - (intOf t).toNat)
 case atStart=>exact R0.out
 case round =>
  clear R0
  obtain⟨i,b,c,rs,hi,rfl,rfl,hor,hcat,hbw⟩:=hrel
  have ei:IntKind.i64.wrap ((i:Int)+1)=(i:Int)+1:=by rw [IntKind.wrap_i64];omega
  by_cases hlt:i<n
  ·have hdi:decide ((i:Int)<(n:Int))=true:=by simp;omega
   obtain⟨gb,o,rfl,hc⟩:=H.out.plain (by omega)
   have hiG:i<G.length:=by have:=HL.out;omega
   have hcell:=cell_later hbw (hc i hiG)
   have hgi:=HG.out _ (List.getElem_mem hiG)
   have HT:Hid (g2 (G.take (i+1))=g2 (G.take i)++leL (G[i].toNat) 2):=by unfold Hid;rw [List.take_succ_eq_append_getElem hiG,g2_append,g2_one]
   generalize G[i]=x at hcell hgi HT
   obtain⟨m,rfl⟩:∃m:Nat,x=(m:Int):=⟨x.toNat,by omega⟩
   rw [Int.toNat_natCast] at HT
   have e2:IntKind.u16.wrap (m:Int)=(m:Int):=by rw [IntKind.wrap_u16];omega
   have hm:m<65536:=by omega
   have HOR:=hid hor
   have HBW:=hid hbw
   have HM:=hid hm
   have HCAT:=hid hcat
   clear hor hbw hc hgi hm hcat
   go_upto_region 5 with fail
   go_wp2_with (first|(go_at_call 98;refine (p16 m HM.out _).mono ?_;rintro e w2 ⟨a2,c2,rfl,hown2,hb2⟩;obtain⟨a3,c3,w3,hrun,hor3,hbw3,_,_⟩:=append_row (HOR.out.later hb2) (.inr (hown2.mono HBW.out.size)) (bc HBW.out hb2) (by omega);have HRUN:=hid hrun;have HOR3:=hid hor3;have HB3:=hid hbw3;clear hrun hor3 hbw3 hown2 hb2)|(at_builtin;refine wk_ rfl _ _ 186 rfl _ _ rfl rfl _ w3 HRUN.out ?_))
   go_roundw
   case rel=>exact⟨i+1,a3,c3,_,by omega,by go_num,rfl,HOR3.out,by rw [cat4_append,HCAT.out,HT.out];simp [cat4],HB3.out⟩
   case measure=>simp [intOf];omega
  ·obtain rfl:i=n:=by omega
   have HX:Hid (cat4 rs=leL G.length 1++g2 G):=by
    unfold Hid
    rw [hcat,List.take_of_length_le (by have:=HL.out;omega),HL.out]
   have hle:(cat4 rs).length≤140737488355328:=by
    rw [HX.out,List.length_append,leL_length,g2_length]
    have:=HL.out
    omega
   have HJ:=hid (join_or hor hbw (by omega) (by omega) hle)
   have HBW:=hid hbw
   clear hor hbw hcat hle
   go_wp2_with (first|(go_at_call 101;refine HJ.out.mono ?_;rintro e w2 ⟨a2,n2,c2,rfl,hown2,hb2⟩))
   go_ret
   exact⟨_,_,_,rfl,by rw [←HX.out];exact hown2.mono HBW.out.size,bc HBW.out hb2⟩
end Go.Proofs.YtfmhdimaijimlaaGreatDoor.R
