import Derived.Test.YtfmhdimaijimlaaGreatDoorG32
set_option linter.unusedVariables false
set_option linter.unusedSimpArgs false
set_option maxRecDepth 1000000
set_option maxHeartbeats 8000000
namespace Go.Proofs.YtfmhdimaijimlaaGreatDoor.V
open Go.RowKit
open Go.Proofs.YtfmhdimaijimlaaGreatDoor.H (B64 Cp)
section
variable {w w':World}
def Cf.pm (c:Cf)(n:Nat)(f:Nat→Nat):Pm:=⟨c.m.toNat,c.q,n,f,c.o.toNat,c.p.toNat,c.r,c.l,c.W⟩
theorem Cf.enter (c:Cf)(w:World):Below w.heap.size w (w.alloc (Obj.cells c.L.toArray 23))∧R.Bx (w.alloc (Obj.cells c.L.toArray 23)) w.heap.size c.L:=⟨below1 _ _,R.Bx.new w c.L 23⟩
theorem kf0 {p:Pm}(hm:1≤p.mo∧p.mo≤256)(hp:1≤p.pm∧p.pm≤32)(hl:1≤p.lm∧p.lm≤32)(hc:∀i,i<p.n→p.c i<B64*B64)(hi:Inv p.mo (List.replicate p.mo tz) []):KF p (sta p.mo [0]) :=
 {fit:={ inv:=hi,cnt:=fun o=>by simp [sta,inN,nums],len:=rfl,obj:=fun o=>by simp [sta,hasO,nums],ids:=fun p hp=>(by cases hp) }
  le:=Nat.zero_le _
  cs:=hc
  iv:=P.Iv.start hp.1 hp.2
  ln:=fun i _=>by show ((0:Nat):Int)≤_;omega
  wd:=fun i _ c hc=>(by cases hc)
  lm:=hl
  ks:=rfl
  nx:=by show (1:Int)≤1∧(1:Int)≤_;decide }
theorem new_ok (c:Cf)(hc:c.may=true)(a:Option Addr)(n cap:Nat)(f:Nat→Nat)(w:World)(hw:D.Ws w a n cap f)(hn:n≤4096)(hl:D.Laid w)(h0:0<w.heap.size) :
  Calls Tryz.prog 11 #[c.v,.slice a n cap] w fun e w'=>∃H N,e=.returned (.tuple #[.pointer (some ⟨H.kb,0,none⟩),.int .i64 0])∧Kn w' H (sta c.m.toNat [0]) N∧H.p=c.pm n (fun j=>D.cutN (f j) c.W)∧H.cf=c.L∧(∀k,N k→w.heap.size≤k)∧Below w.heap.size w w':=by
 obtain⟨W,hW⟩:∃W,W=w.alloc (Obj.cells c.L.toArray 23):=⟨_,rfl⟩
 have he:=c.enter w
 rw [←hW] at he
 have hb:=Cf.may_iff.1 hc
 have HB:=hid he.1
 have HLd:=hid (fun U (hU:Below W.heap.size W U)=>ldF (R.Bx.later hU he.2))
 have HX:=hid he.2
 have HM:=hid (kmay_any c W)
 rw [hc] at HM
 have HN:=hid (fun U (hU:Below W.heap.size W U)=>D.new_ok a n cap f c.W U ((hw.later he.1).later hU) hb.1.1 hb.1.2 hn)
 have hcf:c=⟨c.W,(c.o.toNat:Int),(c.p.toNat:Int),(c.m.toNat:Int),c.q,c.r,c.l,(c.s.toNat:Int),(c.y.toNat:Int),(c.k.toNat:Int)⟩:=by
  rw [Int.toNat_of_nonneg (by omega),Int.toNat_of_nonneg (by omega),Int.toNat_of_nonneg (by omega),Int.toNat_of_nonneg (by omega),Int.toNat_of_nonneg (by omega),Int.toNat_of_nonneg (by omega)]
 have HEm:Hid (∀(w1 w2:World) (g gb:Nat),Below W.heap.size W w1→Below w1.heap.size w1 w2→D.Dr w2 g gb n (fun j=>D.cutN (f j) c.W) 0→w1.heap.size≤g→w1.heap.size≤gb→Calls Tryz.prog 29 #[c.v,.pointer (some ⟨g,0,none⟩)] w2 fun e' w'=>∃H N,e'=.returned (.pointer (some ⟨H.kb,0,none⟩))∧Duo w' H (sta c.m.toNat [0]) K.T0 N∧H.p=c.pm n (fun j=>D.cutN (f j) c.W)∧H.cf=c.L∧(∀k,N k→w.heap.size≤k)∧But (fun k=>w.heap.size≤k) w2 w'):=fun w1 w2 g gb h1 h2 hd hg hgb=>by
  have s1:=he.1.size
  have s2:=h1.size
  have s3:=h2.size
  have:=empty_any g gb n (fun j=>D.cutN (f j) c.W) c.W c.o.toNat c.p.toNat c.m.toNat c.q c.r c.l c.s.toNat c.y.toNat c.k.toNat w2 w.heap.size w.heap.size hd ⟨by omega,fun _=>by omega⟩ ⟨h0,Nat.le_refl _,by omega⟩ (cell_later h2 (cell_later h1 (cell_later he.1 hl))) (by omega) (by omega) (by omega) (by omega) (by omega) (by omega) (by omega) (by omega) (by omega)
  rw [←hcf] at this
  exact this
 have HKf:Hid (∀i,i<n→D.cutN (f i) c.W<B64*B64):=fun i _=>Nat.lt_of_le_of_lt (Nat.mod_le _ _) (hw.small i)
 have HBd:=hid hb
 have HW:=hid hW
 clear he hW hc hb hn hl h0 hcf hw
 go_enter Tryz.func11,Tryz.ntmps11
 go_upto_region 1 with fail
 rw [←HW.out]
 go_upto_region 3 with (first|((with_reducible refine R.ld_arm (HLd.out W (Below.refl _ _)) ?_ ?_);(· rfl))|(go_at_call 27;refine HM.out.mono ?_;rintro e w1 ⟨rfl,hb1⟩;have HB1:=hid hb1;clear hb1))
 have x0:=(R.Bx.later HB1.out HX.out).cell 0 rfl
 go_upto_region 6 with (first|(go_at_call 28;refine (HN.out w1 HB1.out).mono ?_;rintro e w2 ⟨g,gb,rfl,hdr,hg,hgb,-,hb2⟩;have HDr:=hid hdr;have HG:=hid (And.intro hg hgb);have HB2:=hid hb2;clear hdr hg hgb hb2))
 clear x0
 have HEc:=hid (HEm.out w1 w2 g gb HB1.out HB2.out HDr.out HG.out.1 HG.out.2)
 go_wp2_with (first|((with_reducible refine R.ld_arm (HLd.out w2 (bc HB1.out HB2.out)) ?_ ?_);(· rfl))|(go_at_call 29;refine HEc.out.mono ?_;rintro e w3 ⟨H,N,rfl,hd,hp,hcf,hN,hb⟩;have HD:=hid hd;have HPm:=hid hp;have HCf:=hid hcf;have HNn:=hid hN;have HB3:=hid hb;clear hd hp hcf hN hb))
 have hbd:=HBd.out
 refine bodyPost_ret (v:=.tuple #[.pointer (some ⟨H.kb,0,none⟩),.int .i64 0]) (by simp [results,Tryz.results11,go_sem]) rfl ⟨H,N,rfl,⟨_,HD.out,L.Tr.zero _ _,?_,?_⟩,HPm.out,HCf.out,HNn.out,But.below (bc HB.out (bc HB1.out HB2.out)) HB3.out (fun k e=>e)⟩
 ·have hk:=HPm.out
  rw [hk]
  have hi:Inv (c.pm n (fun j=>D.cutN (f j) c.W)).mo (List.replicate (c.pm n (fun j=>D.cutN (f j) c.W)).mo tz) []:=by
   have h1:=HD.out.inv
   have h2:H.mo=c.m.toNat:=by have:H.p.mo=_:=congrArg Pm.mo hk;exact this
   rw [h2] at h1
   exact h1
  exact kf0 ⟨by show 1≤c.m.toNat;omega,by show c.m.toNat≤256;omega⟩ ⟨by show 1≤c.r;omega,by show c.r≤32;omega⟩ ⟨by show 1≤c.l;omega,by show c.l≤32;omega⟩ HKf.out hi
 ·have:H.p.W=_:=congrArg Pm.W HPm.out
  show 1≤H.p.W
  rw [this]
  show 1≤c.W
  omega
end
section
variable {w w':World}
theorem info31:(Tryz.prog.info? 31).map (fun i=>(i.zero,i.size,i.bytes))=some (some (.agg #[.int .u64 0,.int .u64 0]),2,16):=by kernel_rfl
theorem ow_empty (w:World)(e:TypeId)(k:Nat):Ow (w.alloc (Obj.cells #[] e)) w.heap.size e k (some ⟨w.heap.size,0,none⟩) 0 0 [] :=
 World.ownsRow_made (base:=w.heap.size) (size:=k) (e:=e) w #[] 0 (by simp) (by unfold maxLen;omega) (by simp)
theorem wvs_take (f:Nat→Nat)(n m:Nat)(h:m≤n):(D.wvs f n).take (m*2)=D.wvs f m:=by
 have e:D.wvs f n=D.wvs f m++(D.wvs (fun i=>f (m+i)) (n - m)):=by
  unfold D.wvs
  rw [show n=m+(n - m) by omega,List.range_add,List.flatMap_append,List.flatMap_map]
  simp
 rw [e,List.take_left' (D.wvs_length f m)]
theorem Ws.cr {a:Option Addr}{n cap:Nat}{f:Nat→Nat}(h:D.Ws w a n cap f):Cr w 2 a n cap (D.wvs f n) :=
 ⟨D.wvs_length f n,h.none_,h.cells,fun u hu=>by
  unfold D.wvs at hu
  obtain⟨i,_,hi⟩:=List.mem_flatMap.1 hu
  simp only [D.wcs,List.mem_cons,List.not_mem_nil,or_false] at hi
  rcases hi with rfl|rfl<;>rfl⟩
theorem words_app {a:Option Addr}{n cap:Nat}{f:Nat→Nat}(h:D.Ws w a n cap f)(hn:n≤1048576) :
  ∃a' c' w3,(Builtin.append_ #[28,28] 28 #[.slice (some ⟨w.heap.size,0,none⟩) 0 0,.slice a n cap]).run Tryz.prog (w.alloc (Obj.cells #[] 31))=.ok (.slice a' n c') w3∧D.Ws w3 a' n c' f∧(∀j,Blk a' j→w.heap.size≤j∧j<w3.heap.size)∧Below w.heap.size w w3:=by
 have hB:=below1 w (Obj.cells #[] 31)
 have hO:=ow_empty w 31 2
 obtain⟨a',c',w3,hrun,hO3,hG⟩:=append_k 28 31 _ 2 16 Tryz.underlying28 info31 rfl (by omega) (by omega) hO (Ws.cr (h.later hB)) hB.size (by omega)
 rw [Nat.zero_add] at hrun hO3
 rw [List.nil_append] at hO3
 have hO3:Ow w3 w.heap.size 31 2 a' n c' (D.wvs f n):=hO3
 refine⟨a',c',w3,hrun,⟨?_,?_,?_,h.small⟩,fun j hj=>hO3.blk j hj,But.below hB hG.but (fun k hk=>(hO.blk k hk).1)⟩
 ·rcases hO3.form with ⟨_,h1,h2⟩|⟨g,_,_,h3⟩
  ·omega
  ·exact h3
 ·intro e
  rcases hO3.form with ⟨_,h1,h2⟩|⟨g,h1,_⟩
  ·exact⟨h1,h2⟩
  ·rw [h1] at e;cases e
 ·intro x hx j u hu
  by_cases h0:0<n
  ·obtain⟨b,h1,h2⟩:=Ow.at_ hO3 h0
   rw [h1] at hx
   cases hx
   rw [aa_]
   exact h2 j u hu
  ·have:n=0:=by omega
   subst this
   simp [D.wvs] at hu
theorem words_any {a:Option Addr}{n cap:Nat}{f:Nat→Nat}(h:D.Ws w a n cap f):Calls Tryz.prog 18 #[.slice a n cap] w fun e w'=>∃a' m c',e=.returned (.slice a' m c')∧m≤4096∧D.Ws w' a' m c' f∧(∀j,Blk a' j→w.heap.size≤j∧j<w'.heap.size)∧Below w.heap.size w w':=by
 by_cases hn:n≤4096
 ·have hd:decide ((n:Int)>4096)=false:=decide_eq_false (by omega)
  have hd2:decide ((4096:Int)<(n:Int))=false:=decide_eq_false (by omega)
  obtain⟨a',c',w3,hrun,hW,hb,hB⟩:=words_app h (by omega)
  have HR:=hid hrun
  have HP:=hid (And.intro hn (And.intro hW (And.intro hb hB)))
  clear h hrun hW hb hB hn
  go_enter Tryz.func18,Tryz.ntmps18
  go_wp2_with (first|(at_builtin;refine wk_ rfl _ _ 28 rfl _ _ rfl rfl _ w3 HR.out ?_))
  exact bodyPost_ret (v:=.slice a' n c') (by simp [results,Tryz.results18,go_sem]) rfl ⟨a',n,c',rfl,HP.out⟩
 ·have hd:decide ((n:Int)>4096)=true:=decide_eq_true (by omega)
  have hd2:decide ((4096:Int)<(n:Int))=true:=decide_eq_true (by omega)
  have hc:=h.cap_
  cases a with
  | none=>have:=h.none_ rfl;omega
  | some x =>
   have h2:D.Ws w (some x) 4096 cap f:=⟨by omega,fun e=>(by cases e),fun y hy j u hu=>h.cells y hy j u (by rw [←wvs_take f n 4096 (by omega)] at hu;rw [List.getElem?_take] at hu;split at hu;exact hu;cases hu),h.small⟩
   obtain⟨a',c',w3,hrun,hW,hb,hB⟩:=words_app h2 (by omega)
   have HR:=hid hrun
   have HP:=hid (And.intro hW (And.intro hb hB))
   clear h h2 hrun hW hb hB
   go_enter Tryz.func18,Tryz.ntmps18
   go_upto_region 3 with fail
   go_wp2_with (first|(at_builtin;refine wk_ rfl _ _ 28 rfl _ _ rfl rfl _ w3 HR.out ?_))
   exact bodyPost_ret (v:=.slice a' 4096 c') (by simp [results,Tryz.results18,go_sem]) rfl ⟨a',4096,c',rfl,Nat.le_refl _,HP.out⟩
end
section
variable {w w':World}
def Fl (w:World)(a:Option Addr)(L:List Value):Prop:=0<L.length→∃g,a=some ⟨g,0,none⟩∧∀j v,L[j]?=some v→w.cell? ⟨g,j,none⟩=some v
theorem Fl.later {a:Option Addr}{L:List Value}(h:Fl w a L)(hb:Below w.heap.size w w'):Fl w' a L:=fun h0=>by
 obtain⟨g,e,hc⟩:=h h0
 exact⟨g,e,fun j v hv=>cell_later hb (hc j v hv)⟩
theorem Fl.of {base:Nat}{e:TypeId}{k:Nat}{a:Option Addr}{n cap:Nat}{L:List Value}(h:Ow w base e k a n cap L)(hk:L.length=n*k):Fl w a L:=fun h0=>by
 have hn:0<n:=Nat.pos_of_ne_zero (fun e=>by rw [e,Nat.zero_mul] at hk;omega)
 obtain⟨b,h1,h2⟩:=Ow.at_ h hn
 exact⟨b,h1,h2⟩
theorem Fl.own {base:Nat}{e:TypeId}{a:Option Addr}{n cap:Nat}{L:List Value}(h:Own w base e a n cap L):Fl w a L:=Fl.of h.row (by rw [h.len,Nat.mul_one])
theorem sameBytes_eq (L:List Nat){a b:Option Addr}{ca cb:Nat}(h:Fl w a (S.u8s L))(k:Fl w b (S.u8s L))(hn:L.length≤140737488355328) :
  Calls Tryz.prog 19 #[.slice a L.length ca,.slice b L.length cb] w fun e w'=>e=.returned (.bool true)∧Below w.heap.size w w':=by
 obtain⟨n,hnn⟩:∃n,n=L.length:=⟨_,rfl⟩
 have HL:=hid hnn
 have H:=hid h
 have HK:=hid k
 rw [←hnn] at hn ⊢
 clear h k hnn
 go_enter Tryz.func19,Tryz.ntmps19
 go_upto_region 4 with fail
 go_loopw [5] (fun v U=>∃i:Nat,v=.int .i64 (i:Int)∧i≤n∧Below w.heap.size w U) (fun v _=>n - S.ivN v)
 case atStart=>exact⟨0,rfl,Nat.zero_le _,Below.refl _ _⟩
 case round =>
  obtain⟨i,rfl,hi,hB⟩:=hrel
  have HIn:=hid hi
  have HB:=hid hB
  clear hi hB
  by_cases hlt:i<n
  ·have hd:decide ((i:Int)<(n:Int))=true:=decide_eq_true (by omega)
   obtain⟨x,hx⟩:∃x,L[i]?=some x:=⟨_,List.getElem?_eq_getElem (by have:=HL.out;omega)⟩
   have h0:0<(S.u8s L).length:=by rw [S.u8s_length];have:=HL.out;omega
   obtain⟨ga,rfl,hca⟩:=H.out h0
   obtain⟨gb,rfl,hcb⟩:=HK.out h0
   skip
   have HS:Hid (∀U,Below wr.heap.size wr U→U.cell? ⟨ga,i,none⟩=some (.int .u8 (x:Int))∧U.cell? ⟨gb,i,none⟩=some (.int .u8 (x:Int))):=fun U hU=>by
    have hU2:=bc HB.out hU
    exact⟨cell_later hU2 (hca _ _ (by simp [S.u8s,hx])),cell_later hU2 (hcb _ _ (by simp [S.u8s,hx]))⟩
   clear hca hcb hx h0
   go_upto_region 6 with fail
   go_region_held3 (fun U=>U.cell? ⟨ga,i,none⟩=some (.int .u8 (x:Int))∧U.cell? ⟨gb,i,none⟩=some (.int .u8 (x:Int))) (first|exact HS.out _ (Below.refl _ _).drew|exact HS.out _ (Below.refl _ _)) (first|fail)
   all_goals (try go_wp2)
   all_goals exact⟨⟨i+1,rfl,by omega,(HB.out.drew)⟩,by simp [S.ivN];omega⟩
  ·obtain rfl:i=n:=by have:=HIn.out;omega
   have hd:decide ((i:Int)<(i:Int))=false:=by simp
   go_wp2
   go_ret
   exact⟨rb_ rfl,HB.out⟩
theorem caps_at:∀(M:List Cp) (j:Nat) (t:Cp),M[j]?=some t→∀k,k<3→(caps M)[j*3+k]?=(encC t)[k]?
 | [],j,t,h,k,hk=>by simp at h
 | x::M,0,t,h,k,hk=>by
  simp only [List.getElem?_cons_zero,Option.some.injEq] at h
  subst h
  simp only [caps,List.flatMap_cons]
  rw [List.getElem?_append_left (by simp [encC];omega)]
  simp
 | x::M,j+1,t,h,k,hk=>by
  rw [List.getElem?_cons_succ] at h
  have:=caps_at M j t h k hk
  simp only [caps,List.flatMap_cons] at this ⊢
  rw [List.getElem?_append_right (by simp [encC];omega),←this]
  congr 1
  simp [encC]
  omega
theorem caps_len3 (M:List Cp):(caps M).length=M.length*3:=by
 induction M with
 | nil=>rfl
 | cons x M ih=>simp only [caps,List.flatMap_cons,List.length_append,List.length_cons] at ih ⊢;rw [ih];simp [encC];omega
theorem sameCaps_eq (L:List Cp){a b:Option Addr}{ca cb:Nat}(h:Fl w a (caps L))(k:Fl w b (caps L))(hn:L.length≤140737488355328) :
  Calls Tryz.prog 34 #[.slice a L.length ca,.slice b L.length cb] w fun e w'=>e=.returned (.bool true)∧Below w.heap.size w w':=by
 obtain⟨n,hnn⟩:∃n,n=L.length:=⟨_,rfl⟩
 have HL:=hid hnn
 have H:=hid h
 have HK:=hid k
 rw [←hnn] at hn ⊢
 clear h k hnn
 go_enter Tryz.func34,Tryz.ntmps34
 go_upto_region 4 with fail
 go_loopw [5] (fun v U=>∃i:Nat,v=.int .i64 (i:Int)∧i≤n∧Below w.heap.size w U) (fun v _=>n - S.ivN v)
 case atStart=>exact⟨0,rfl,Nat.zero_le _,Below.refl _ _⟩
 case round =>
  obtain⟨i,rfl,hi,hB⟩:=hrel
  have HIn:=hid hi
  have HB:=hid hB
  clear hi hB
  by_cases hlt:i<n
  ·have hd:decide ((i:Int)<(n:Int))=true:=decide_eq_true (by omega)
   obtain⟨x,hx⟩:∃x,L[i]?=some x:=⟨_,List.getElem?_eq_getElem (by have:=HL.out;omega)⟩
   have h0:0<(caps L).length:=by rw [caps_len3];have:=HL.out;omega
   obtain⟨ga,rfl,hca⟩:=H.out h0
   obtain⟨gb,rfl,hcb⟩:=HK.out h0
   obtain⟨xo,xh,xl⟩:=x
   have HS:Hid (∀U,Below wr.heap.size wr U→U.cell? ⟨ga,i*3,none⟩=some (.int .i64 xo)∧U.cell? ⟨ga,i*3+1,none⟩=some (.int .u64 (xh:Int))∧U.cell? ⟨ga,i*3+2,none⟩=some (.int .u64 (xl:Int))∧U.cell? ⟨gb,i*3,none⟩=some (.int .i64 xo)∧U.cell? ⟨gb,i*3+1,none⟩=some (.int .u64 (xh:Int))∧U.cell? ⟨gb,i*3+2,none⟩=some (.int .u64 (xl:Int))):=fun U hU=>by
    have hU2:=bc HB.out hU
    exact⟨cell_later hU2 (hca _ _ (caps_at L i _ hx 0 (by omega))),cell_later hU2 (hca _ _ (caps_at L i _ hx 1 (by omega))),cell_later hU2 (hca _ _ (caps_at L i _ hx 2 (by omega))),cell_later hU2 (hcb _ _ (caps_at L i _ hx 0 (by omega))),cell_later hU2 (hcb _ _ (caps_at L i _ hx 1 (by omega))),cell_later hU2 (hcb _ _ (caps_at L i _ hx 2 (by omega)))⟩
   clear hca hcb hx h0
   go_upto_region 6 with fail
   go_region_held3 (fun U=>U.cell? ⟨ga,i*3,none⟩=some (.int .i64 xo)∧U.cell? ⟨ga,i*3+1,none⟩=some (.int .u64 (xh:Int))∧U.cell? ⟨ga,i*3+2,none⟩=some (.int .u64 (xl:Int))∧U.cell? ⟨gb,i*3,none⟩=some (.int .i64 xo)∧U.cell? ⟨gb,i*3+1,none⟩=some (.int .u64 (xh:Int))∧U.cell? ⟨gb,i*3+2,none⟩=some (.int .u64 (xl:Int))) (first|exact HS.out _ (Below.refl _ _).drew|exact HS.out _ (Below.refl _ _)) (first|fail)
   all_goals (try go_wp2)
   all_goals exact⟨⟨i+1,rfl,by omega,(HB.out.drew)⟩,by simp [S.ivN];omega⟩
  ·obtain rfl:i=n:=by have:=HIn.out;omega
   have hd:decide ((i:Int)<(i:Int))=false:=by simp
   go_wp2
   go_ret
   exact⟨rb_ rfl,HB.out⟩
end
section
variable {w w':World}
theorem sameReply_eq (r:Rep){a b:Option Addr}{n ca cb:Nat}(h:Fl w a (S.u8s r.data))(k:Fl w b (S.u8s r.data))(hn:r.data.length=n)(hb:n≤140737488355328) :
  Calls Tryz.prog 15 #[rpV r a n ca,rpV r b n cb] w fun e w'=>e=.returned (.bool true)∧Below w.heap.size w w':=by
 obtain⟨code,⟨co,ch,cl⟩,data,num⟩:=r
 simp only [] at h k hn
 subst hn
 have HSb:Hid (∀U,Below w.heap.size w U→Calls Tryz.prog 19 #[.slice a data.length ca,.slice b data.length cb] U fun e w'=>e=.returned (.bool true)∧Below U.heap.size U w'):=fun U hU=>sameBytes_eq data (h.later hU) (k.later hU) hb
 obtain⟨W,hW⟩:∃W,W=(w.alloc (Obj.cells (rpL ⟨code,(co,ch,cl),data,num⟩ a data.length ca).toArray 41)).alloc (Obj.cells (rpL ⟨code,(co,ch,cl),data,num⟩ b data.length cb).toArray 41):=⟨_,rfl⟩
 have HB:Hid (Below w.heap.size w W):=by rw [hW];exact below2 _ _ _
 have hX1:R.Bx W w.heap.size (rpL ⟨code,(co,ch,cl),data,num⟩ a data.length ca):=by rw [hW];exact R.Bx.later (below1 _ _) (R.Bx.new w _ _)
 have hX2:R.Bx W (w.heap.size+1) (rpL ⟨code,(co,ch,cl),data,num⟩ b data.length cb):=by
  rw [hW]
  have:=R.Bx.new (w.alloc (Obj.cells (rpL ⟨code,(co,ch,cl),data,num⟩ a data.length ca).toArray 41)) (rpL ⟨code,(co,ch,cl),data,num⟩ b data.length cb) 41
  rwa [World.size_alloc] at this
 have x0:=hX1.cell 0 rfl
 have x1:=hX1.cell 1 rfl
 have x2:=hX1.cell 2 rfl
 have x3:=hX1.cell 3 rfl
 have x4:=hX1.cell 4 rfl
 have x5:=hX1.cell 5 rfl
 have y0:=hX2.cell 0 rfl
 have y1:=hX2.cell 1 rfl
 have y2:=hX2.cell 2 rfl
 have y3:=hX2.cell 3 rfl
 have y4:=hX2.cell 4 rfl
 have y5:=hX2.cell 5 rfl
 have HW:=hid hW
 clear h k hX1 hX2 hW hb
 generalize data.length=m at *
 go_enter Tryz.func15,Tryz.ntmps15
 go_upto_region 1 with fail
 have hW:=HW.out
 simp only [rpL] at hW
 rw [←hW]
 clear hW
 go_wp2_with (first|(go_at_call 19;refine (HSb.out W HB.out).mono ?_;rintro e w1 ⟨rfl,hb1⟩;have HB1:=hid hb1;clear hb1))
 go_ret
 exact⟨rb_ (by simp),bc HB.out HB1.out⟩
end
end Go.Proofs.YtfmhdimaijimlaaGreatDoor.V
