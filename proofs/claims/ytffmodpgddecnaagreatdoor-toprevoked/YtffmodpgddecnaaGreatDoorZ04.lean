import Derived.Laws.Bits128
import Derived.Test.YtffmodpgddecnaaGreatDoorZ03
set_option linter.unusedVariables false
set_option linter.unusedSimpArgs false
set_option maxRecDepth 100000
set_option maxHeartbeats 2000000
namespace Go.Proofs.YtffmodpgddecnaaGreatDoor
open Go.RowKit H
theorem rS (a b:Nat)(ha:a<32)(hb:b<32):bits .and .i64 (a:Int) (b:Int)=((a &&& b:Nat):Int):=by
 have hx:a &&& b<2 ^ 5:=Nat.and_lt_two_pow _ (by omega)
 show IntKind.i64.wrap ((BitVec.ofInt 64 (a:Int) &&& BitVec.ofInt 64 (b:Int)).toNat:Int)=_
 rw [BitVec.toNat_and,BitVec.ofInt_natCast,BitVec.ofInt_natCast,BitVec.toNat_ofNat,BitVec.toNat_ofNat,Nat.mod_eq_of_lt (a:=a) (by omega),Nat.mod_eq_of_lt (a:=b) (by omega),IntKind.wrap_i64];omega
theorem ng {r:Int}(h:bq r=true):∃n:Nat,r=(n:Int)/\1<=n/\n<32:=by
 have:=kU.1 h
 exact⟨r.toNat,by omega,by omega,by omega⟩
theorem D7 (x y:Nat):((x:Int)==(y:Int))=decide (x=y):=by
 by_cases h:x=y
 ·subst h;simp
 ·rw [decide_eq_false h]
  simp
  omega
theorem bK (r:Int)(w:World) :
  Calls Tryz.prog 281 #[.int .i64 r] w λe w'=>e=.returned (.bool (bq r))/\w'=w:=by
 by_cases h1:0<r
 ·by_cases h2:r<=31
  ·have hz:bq r=true:=decide_eq_true (by omega)
   rw [hz];clear hz
   go_enter Tryz.func281,Tryz.ntmps281
   go_wp2;go_ret;exact⟨rfl,rfl⟩
  ·have hz:bq r=false:=decide_eq_false (by omega)
   rw [hz];clear hz
   go_enter Tryz.func281,Tryz.ntmps281
   go_wp2;go_ret;exact⟨rfl,rfl⟩
 ·have hz:bq r=false:=decide_eq_false (by omega)
  rw [hz];clear hz
  go_enter Tryz.func281,Tryz.ntmps281
  go_wp2;go_ret;exact⟨rfl,rfl⟩
theorem eY (a b:Int)(w:World) :
  Calls Tryz.prog 279 #[.int .i64 a,.int .i64 b] w λe w'=>e=.returned (.bool (aE a b))/\w'=w:=by
 by_cases h1:bq a=true
 ·by_cases h2:bq b=true
  ·obtain⟨n,rfl,_,hn⟩:=ng h1
   obtain⟨m,rfl,_,hm⟩:=ng h2
   have hb:=rS n m hn hm
   have HP:Hid (aE (n:Int) (m:Int)=decide (n &&& m=n)):=by unfold Hid aE;rw [h1,h2];simp
   go_enter Tryz.func279,Tryz.ntmps279
   go_wp2_with (first|(go_at_call 281;refine (bK _ _).mono ?_;rintro e w1 ⟨rfl,rfl⟩))
   go_ret;refine⟨?_,rfl⟩
   rw [HP.out];apply au
   exact D7 _ _
  ·have h2:bq b=false:=by simpa using h2
   have hz:aE a b=false:=by unfold aE;rw [h2];simp
   rw [hz];clear hz
   go_enter Tryz.func279,Tryz.ntmps279
   go_wp2_with (first|(go_at_call 281;refine (bK _ _).mono ?_;rintro e w1 ⟨rfl,rfl⟩))
   go_ret;exact⟨rfl,rfl⟩
 ·have h1:bq a=false:=by simpa using h1
  have hz:aE a b=false:=by unfold aE;rw [h1];simp
  rw [hz];clear hz
  go_enter Tryz.func279,Tryz.ntmps279
  go_wp2_with (first|(go_at_call 281;refine (bK _ _).mono ?_;rintro e w1 ⟨rfl,rfl⟩))
  go_ret;exact⟨rfl,rfl⟩
structure Ad where
 g:Nat
 tg:Nat
 tb:Nat
 eb:Nat
 kg:Nat
 kb:Nat
 N:Nat
def Ad.Wr (A:Ad)(k:Nat):Prop:=k=A.tg\/k=A.tb\/k=A.eb\/k=A.kb
def Ad.jD (A:Ad)(k:Nat):Prop:=k=A.g\/k=A.kg\/A.Wr k
structure Ad.Ko (A:Ad):Prop where
 d1:A.tg≠A.g
 d2:A.tb≠A.g
 d3:A.eb≠A.g
 d4:A.kb≠A.g
 d5:A.tg≠A.eb
 d6:A.tb≠A.eb
 d7:A.tg≠A.kg
 d8:A.tb≠A.kg
 d9:A.tg≠A.kb
 da:A.tb≠A.kb
 db:A.eb≠A.kg
 dc:A.eb≠A.kb
structure Pe (w:World)(b o:Nat)(x:Tk):Prop where
 c0:w.cell? ⟨b,o,none⟩=some (.int .i64 x.1.1)
 c1:w.cell? ⟨b,o+1,none⟩=some (.int .u64 (x.1.2.1:Int))
 c2:w.cell? ⟨b,o+2,none⟩=some (.int .u64 (x.1.2.2:Int))
 c3:w.cell? ⟨b,o+3,none⟩=some (.int .i64 x.2)
theorem Pe.but {S:Nat->Prop}{w w':World}{b o:Nat}{x:Tk}(hb:ah S w w')(h:Pe w b o x)(hn:¬S b):Pe w' b o x :=
 ⟨ag hb h.c0 hn,ag hb h.c1 hn,ag hb h.c2 hn,ag hb h.c3 hn⟩
theorem Pe.later {w w':World}{b o:Nat}{x:Tk}(hb:Below w.heap.size w w')(h:Pe w b o x):Pe w' b o x:=h.but (S:=λ_=>False) (ah.of hb) (λh=>h)
theorem Pe.off {w:World}{b o o':Nat}{x:Tk}{u:Value}(h:Pe w b o x)(hne:o'<o\/o+4<=o'):Pe (w.setCell ⟨b,o',none⟩ u) b o x :=
 ⟨ak h.c0 (by omega),ak h.c1 (by omega),ak h.c2 (by omega),ak h.c3 (by omega)⟩
def ku (w:World)(b o:Nat)(x:Tk):World :=
 (((w.setCell ⟨b,o,none⟩ (.int .i64 x.1.1)).setCell ⟨b,o+1,none⟩ (.int .u64 (x.1.2.1:Int))).setCell ⟨b,o+2,none⟩ (.int .u64 (x.1.2.2:Int))).setCell ⟨b,o+3,none⟩ (.int .i64 x.2)
theorem mz {S:Nat->Prop}{a w:World}(h:ah S a w){b:Nat}(hb:S b)(o:Nat)(x:Tk):ah S a (ku w b o x) :=
 (((h.setCell (p:=⟨b,o,none⟩) hb _).setCell (p:=⟨b,o+1,none⟩) hb _).setCell (p:=⟨b,o+2,none⟩) hb _).setCell (p:=⟨b,o+3,none⟩) hb _
theorem Pe.set {w:World}{b o:Nat}{y:Tk}(h:Pe w b o y)(x:Tk):Pe (ku w b o x) b o x:=by
 unfold ku;refine⟨?_,?_,?_,?_⟩
 ·exact ak (ak (ak (World.cell?_setCell_same _ _ _ h.c0) (by omega)) (by omega)) (by omega)
 ·exact ak (ak (World.cell?_setCell_same _ _ _ (ak h.c1 (by omega))) (by omega)) (by omega)
 ·exact ak (World.cell?_setCell_same _ _ _ (ak (ak h.c2 (by omega)) (by omega))) (by omega)
 ·exact World.cell?_setCell_same _ _ _ (ak (ak (ak h.c3 (by omega)) (by omega)) (by omega))
theorem Pe.mJ {w:World}{b o o':Nat}{y:Tk}(h:Pe w b o y)(x:Tk)(hne:o'+4<=o\/o+4<=o'):Pe (ku w b o' x) b o y:=by
 unfold ku;exact (((h.off (by omega)).off (by omega)).off (by omega)).off (by omega)
structure Cm (w:World)(A:Ad)(kn mo:Nat)(T:List (Cp×Int))(X:List Tk)(l:Fo):Prop where
 c0:w.cell? ⟨A.g,0,none⟩=some (.pointer (some ⟨A.tg,0,none⟩))
 c1:w.cell? ⟨A.g,1,none⟩=some (.slice (some ⟨A.eb,0,none⟩) mo mo)
 c2:w.cell? ⟨A.g,2,none⟩=some (.pointer (some ⟨A.kg,0,none⟩))
 um:I.Tb w A.tg A.tb kn mo A.N T
 nY:Ki w A.kg A.kb mo l
 eN:∀(i:Nat) (x:Tk),X[i]?=some x->Pe w A.eb (i*4) x
 fr:∀j,w.frozen? ⟨A.eb,j,none⟩=false
 Bi:A.eb<w.heap.size
 len:X.length=mo
 pO:A.Ko
theorem Cm.but {S:Nat->Prop}{w w':World}{A:Ad}{kn mo:Nat}{T:List (Cp×Int)}{X:List Tk}{l:Fo}(hb:ah S w w')(h:Cm w A kn mo T X l)(hS:∀k,A.jD k->¬S k):Cm w' A kn mo T X l :=
 ⟨ag hb h.c0 (hS _ (.inl rfl)),ag hb h.c1 (hS _ (.inl rfl)),ag hb h.c2 (hS _ (.inl rfl)),h.um.but hb (hS _ (.inr (.inr (.inl rfl)))) (hS _ (.inr (.inr (.inr (.inl rfl))))),h.nY.but hb (hS _ (.inr (.inl rfl))) (hS _ (.inr (.inr (.inr (.inr (.inr rfl)))))),
  λi x hx=>(h.eN i x hx).but hb (hS _ (.inr (.inr (.inr (.inr (.inl rfl)))))),λj=>by rw [World.frozen?_of_block (w:=w) (hb.block A.eb h.Bi (hS _ (.inr (.inr (.inr (.inr (.inl rfl)))))))];exact h.fr j,Nat.lt_of_lt_of_le h.Bi hb.size,h.len,h.pO⟩
theorem Cm.later {w w':World}{A:Ad}{kn mo:Nat}{T:List (Cp×Int)}{X:List Tk}{l:Fo}(hb:Below w.heap.size w w')(h:Cm w A kn mo T X l):Cm w' A kn mo T X l:=h.but (S:=λ_=>False) (ah.of hb) (λ_ _ h=>h)
theorem Ki.I3 {w:World}{g gb m:Nat}{l:Fo}(h:Ki w g gb m l):g<w.heap.size/\gb<w.heap.size:=by
 obtain⟨N,h1,h2⟩:=h
 exact⟨h1.lt,h1.po⟩
theorem Cm.lt {w:World}{A:Ad}{kn mo:Nat}{T:List (Cp×Int)}{X:List Tk}{l:Fo}(h:Cm w A kn mo T X l):∀k,A.jD k->k<w.heap.size:=by
 rintro k (rfl|rfl|rfl|rfl|rfl|rfl)
 ·exact World.block_lt_of_cell? _ _ h.c0
 ·exact h.nY.I3.1
 ·exact h.um.lt
 ·exact h.um.po
 ·exact h.Bi
 ·exact h.nY.I3.2
theorem Cm.small {w:World}{A:Ad}{kn mo:Nat}{T:List (Cp×Int)}{X:List Tk}{l:Fo}(h:Cm w A kn mo T X l):mo<=512:=h.um.small
theorem Cm.Jf {w w':World}{A:Ad}{kn mo:Nat}{T T':List (Cp×Int)}{X:List Tk}{l:Fo}(h:Cm w A kn mo T X l)(hb:ah (I.In A.tg A.tb) w w')(ht:I.Tb w' A.tg A.tb kn mo A.N T'):Cm w' A kn mo T' X l:=by
 have d:=h.pO
 have n1:¬I.In A.tg A.tb A.g:=by rintro (e|e);exact d.d1 e.symm;exact d.d2 e.symm
 have n2:¬I.In A.tg A.tb A.eb:=by rintro (e|e);exact d.d5 e.symm;exact d.d6 e.symm
 exact⟨ag hb h.c0 n1,ag hb h.c1 n1,ag hb h.c2 n1,ht,h.nY.but hb (by rintro (e|e);exact d.d7 e.symm;exact d.d8 e.symm) (by rintro (e|e);exact d.d9 e.symm;exact d.da e.symm),
  λi x hx=>(h.eN i x hx).but hb n2,λj=>by rw [World.frozen?_of_block (w:=w) (hb.block A.eb h.Bi n2)];exact h.fr j,Nat.lt_of_lt_of_le h.Bi hb.size,h.len,d⟩
theorem Cm.tF {w w':World}{A:Ad}{kn mo:Nat}{T:List (Cp×Int)}{X:List Tk}{l l':Fo}(h:Cm w A kn mo T X l)(hb:ah (·=A.kb) w w')(hk:Ki w' A.kg A.kb mo l'):Cm w' A kn mo T X l':=by
 have d:=h.pO
 exact⟨ag hb h.c0 (λe=>d.d4 e.symm),ag hb h.c1 (λe=>d.d4 e.symm),ag hb h.c2 (λe=>d.d4 e.symm),h.um.but hb d.d9 d.da,hk,
  λi x hx=>(h.eN i x hx).but hb d.dc,λj=>by rw [World.frozen?_of_block (w:=w) (hb.block A.eb h.Bi d.dc)];exact h.fr j,Nat.lt_of_lt_of_le h.Bi hb.size,h.len,d⟩
theorem Cm.DT {w:World}{A:Ad}{kn mo:Nat}{T:List (Cp×Int)}{X:List Tk}{l:Fo}(h:Cm w A kn mo T X l){i:Nat}(hi:i<mo)(x:Tk):Cm (ku w A.eb (i*4) x) A kn mo T (X.set i x) l:=by
 have d:=h.pO
 have hb:ah (·=A.eb) w (ku w A.eb (i*4) x):=mz (S:=(·=A.eb)) (ah.refl _ _) rfl _ _
 obtain⟨y,hy⟩:=get_some (L:=X) (i:=i) (by rw [h.len];exact hi)
 refine⟨ag hb h.c0 (λe=>d.d3 e.symm),ag hb h.c1 (λe=>d.d3 e.symm),ag hb h.c2 (λe=>d.d3 e.symm),h.um.but hb d.d5 d.d6,h.nY.but hb (λe=>d.db e.symm) (λe=>d.dc e.symm),λj z hz=>?_,λj=>by simpa [ku] using h.fr j,Nat.lt_of_lt_of_le h.Bi hb.size,by rw [List.length_set];exact h.len,d⟩
 rcases Go.Proofs.YtffmodpgddecnaaGreatDoor.aD hz with ⟨rfl,rfl⟩|⟨hne,h3⟩
 ·exact (h.eN _ y hy).set _
 ·exact (h.eN _ _ h3).mJ _ (by omega)
theorem Cm.at_ {w:World}{A:Ad}{kn mo:Nat}{T:List (Cp×Int)}{X:List Tk}{l:Fo}(h:Cm w A kn mo T X l){i:Nat}(hi:i<mo):Pe w A.eb (i*4) (tk X (i:Int)):=by
 obtain⟨y,hy⟩:=get_some (L:=X) (i:=i) (by rw [h.len];exact hi)
 have:tk X (i:Int)=y:=by unfold tk;simp [hy]
 rw [this];exact h.eN i y hy
theorem fh {w:World}{A:Ad}{kn mo:Nat}{T:List (Cp×Int)}{X:List Tk}{l:Fo}(h:Cm w A kn mo T X l)(n:Int) :
  Calls Tryz.prog 274 #[.pointer (some ⟨A.g,2,none⟩),.int .i64 n] w λe w'=>e=.returned (.bool (decide (n∈aj l)))/\w'=w:=by
 have hc:=ab (aX h.nY n)
 have x2:=h.c2
 clear h;go_enter Tryz.func274,Tryz.ntmps274
 go_wp2_with (first|(go_at_call 331;refine hc.out.mono ?_;rintro e w1 ⟨rfl,rfl⟩))
 go_ret;exact⟨rfl,rfl⟩
theorem qj {w:World}{A:Ad}{kn mo:Nat}{T:List (Cp×Int)}{X:List Tk}{l:Fo}(h:Cm w A kn mo T X l)(n p:Int)(hp:(n,p)∈l) :
  Calls Tryz.prog 275 #[.pointer (some ⟨A.g,2,none⟩),.int .i64 n] w λe w'=>e=.returned (.int .i64 p)/\w'=w:=by
 have hc:=ab (wh h.nY n p hp)
 have x2:=h.c2
 clear h hp;go_enter Tryz.func275,Tryz.ntmps275
 go_wp2_with (first|(go_at_call 332;refine hc.out.mono ?_;rintro e w1 ⟨rfl,rfl⟩))
 go_ret;exact⟨rfl,rfl⟩
abbrev iu (c:Cp):Value:=.agg #[.int .i64 c.1,.int .u64 (c.2.1:Int),.int .u64 (c.2.2:Int)]
theorem uF {w:World}{A:Ad}{kn mo:Nat}{T:List (Cp×Int)}{X:List Tk}{l:Fo}(h:Cm w A kn mo T X l)(o:Int)(hi lo:Nat)(v:Int)(b:Bool)
  (hG:∀W,Below w.heap.size w W->Calls Tryz.prog 388 #[.pointer (some ⟨A.tg,0,none⟩),.agg #[.int .i64 o,.int .u64 (hi:Int),.int .u64 (lo:Int)]] W (λe w'=>e=.returned (.tuple #[.int .i64 v,.bool b])/\Below W.heap.size W w')) :
  Calls Tryz.prog 320 #[.pointer (some ⟨A.g,0,none⟩),.agg #[.int .i64 o,.int .u64 (hi:Int),.int .u64 (lo:Int)]] w λe w'=>e=.returned (.tuple #[.int .i64 v,.bool b])/\Below w.heap.size w w':=by
 have hN:Hid (∀W,Below w.heap.size w W->Calls Tryz.prog 365 #[.pointer (some ⟨A.g,0,none⟩),.agg #[.int .i64 o,.int .u64 (hi:Int),.int .u64 (lo:Int)]] W (λe w'=>e=.returned (.tuple #[.int .i64 v,.bool b])/\Below W.heap.size W w')):=by
  intro W hW;have x0:=(h.later hW).c0
  clear h;obtain⟨w1,hw1⟩:∃w1,w1=W.alloc (Obj.cells #[.int .i64 o,.int .u64 (hi:Int),.int .u64 (lo:Int)] 37):=⟨_,rfl⟩
  have hB1:Below W.heap.size W w1:=by rw [hw1];exact ae _ _
  have hC:Hid (∀U:World,Below w1.heap.size w1 U->(U.cell? ⟨W.heap.size,0,none⟩=some (.int .i64 o)/\U.cell? ⟨W.heap.size,1,none⟩=some (.int .u64 (hi:Int))/\U.cell? ⟨W.heap.size,2,none⟩=some (.int .u64 (lo:Int))/\U.cell? ⟨A.g,0,none⟩=some (.pointer (some ⟨A.tg,0,none⟩)))/\Below w1.heap.size w1 U):=λU hU =>
   ⟨⟨cell_later hU (by rw [hw1];simp [go_sem]),cell_later hU (by rw [hw1];simp [go_sem]),cell_later hU (by rw [hw1];simp [go_sem]),cell_later hU (cell_later hB1 x0)⟩,hU⟩
  have HG:=ab (λ(U:World) (hU:Below w1.heap.size w1 U)=>hG U (aa (aa hW hB1) hU))
  have PC:=ab hB1
  clear hG hB1 hW;go_enter Tryz.func365,Tryz.ntmps365
  go_upto_region 1 with fail
  rw [<-hw1];clear hw1;go_region_held3 (λU=>(U.cell? ⟨W.heap.size,0,none⟩=some (.int .i64 o)/\U.cell? ⟨W.heap.size,1,none⟩=some (.int .u64 (hi:Int))/\U.cell? ⟨W.heap.size,2,none⟩=some (.int .u64 (lo:Int))/\U.cell? ⟨A.g,0,none⟩=some (.pointer (some ⟨A.tg,0,none⟩)))/\Below w1.heap.size w1 U) (first|exact hC.out _ PB.out|exact hC.out _ (Below.refl _ _).drew) (first
   | (go_at_call 388;refine (HG.out _ (Below.refl _ _).drew).mono ?_;rintro e w2 ⟨rfl,hb2⟩;have PB:=ab (aa (Below.refl w1.heap.size w1).drew hb2);clear hb2))
  go_wp2;exact bodyPost_ret (v:=.tuple #[.int .i64 v,.bool b]) (by simp [results,Tryz.results365,go_sem]) rfl ⟨rfl,aa PC.out PB.out⟩
 obtain⟨w1,hw1⟩:∃w1,w1=w.alloc (Obj.cells #[.int .i64 o,.int .u64 (hi:Int),.int .u64 (lo:Int)] 37):=⟨_,rfl⟩
 have hB1:Below w.heap.size w w1:=by rw [hw1];exact ae _ _
 have hC:Hid (∀U:World,Below w1.heap.size w1 U->(U.cell? ⟨w.heap.size,0,none⟩=some (.int .i64 o)/\U.cell? ⟨w.heap.size,1,none⟩=some (.int .u64 (hi:Int))/\U.cell? ⟨w.heap.size,2,none⟩=some (.int .u64 (lo:Int)))/\Below w1.heap.size w1 U):=λU hU =>
  ⟨⟨cell_later hU (by rw [hw1];simp [go_sem]),cell_later hU (by rw [hw1];simp [go_sem]),cell_later hU (by rw [hw1];simp [go_sem])⟩,hU⟩
 have PC:=ab hB1
 clear hG hB1 h;go_enter Tryz.func320,Tryz.ntmps320
 go_upto_region 1 with fail
 rw [<-hw1];clear hw1;go_region_held3 (λU=>(U.cell? ⟨w.heap.size,0,none⟩=some (.int .i64 o)/\U.cell? ⟨w.heap.size,1,none⟩=some (.int .u64 (hi:Int))/\U.cell? ⟨w.heap.size,2,none⟩=some (.int .u64 (lo:Int)))/\Below w1.heap.size w1 U) (first|exact hC.out _ PB.out|exact hC.out _ (Below.refl _ _).drew) (first
  | (go_at_call 365;refine (hN.out _ (aa PC.out (Below.refl _ _).drew)).mono ?_;rintro e w2 ⟨rfl,hb2⟩;have PB:=ab (aa (Below.refl w1.heap.size w1).drew hb2);clear hb2))
 go_wp2;exact bodyPost_ret (v:=.tuple #[.int .i64 v,.bool b]) (by simp [results,Tryz.results320,go_sem]) rfl ⟨rfl,aa PC.out PB.out⟩
theorem vr {w:World}{A:Ad}{kn mo:Nat}{T:List (Cp×Int)}{X:List Tk}{l:Fo}(h:Cm w A kn mo T X l)(n o:Int)(hi lo:Nat)(r code:Int)(hc:code≠0)
  (hG:∀W,Below w.heap.size w W->Calls Tryz.prog 377 #[.pointer (some ⟨A.tg,0,none⟩),.agg #[.int .i64 o,.int .u64 (hi:Int),.int .u64 (lo:Int)],.int .i64 n] W (λe w'=>e=.returned (.int .i64 code)/\Below W.heap.size W w')) :
  Calls Tryz.prog 339 #[.pointer (some ⟨A.g,0,none⟩),.int .i64 n,.agg #[.int .i64 o,.int .u64 (hi:Int),.int .u64 (lo:Int),.int .i64 r]] w λe w'=>e=.returned (.int .i64 code)/\Below w.heap.size w w':=by
 have x0:=h.c0
 clear h;obtain⟨w1,hw1⟩:∃w1,w1=w.alloc (Obj.cells #[.int .i64 o,.int .u64 (hi:Int),.int .u64 (lo:Int),.int .i64 r] 346):=⟨_,rfl⟩
 have hB1:Below w.heap.size w w1:=by rw [hw1];exact ae _ _
 have hC:Hid (∀U:World,Below w1.heap.size w1 U->(U.cell? ⟨w.heap.size,0,none⟩=some (.int .i64 o)/\U.cell? ⟨w.heap.size,1,none⟩=some (.int .u64 (hi:Int))/\U.cell? ⟨w.heap.size,2,none⟩=some (.int .u64 (lo:Int))/\U.cell? ⟨A.g,0,none⟩=some (.pointer (some ⟨A.tg,0,none⟩)))/\Below w1.heap.size w1 U):=λU hU =>
  ⟨⟨cell_later hU (by rw [hw1];simp [go_sem]),cell_later hU (by rw [hw1];simp [go_sem]),cell_later hU (by rw [hw1];simp [go_sem]),cell_later hU (cell_later hB1 x0)⟩,hU⟩
 have HG:=ab (λ(U:World) (hU:Below w1.heap.size w1 U)=>hG U (aa hB1 hU))
 have PC:=ab hB1
 clear hG hB1;go_enter Tryz.func339,Tryz.ntmps339
 go_upto_region 1 with fail
 rw [<-hw1];clear hw1;go_region_held3 (λU=>(U.cell? ⟨w.heap.size,0,none⟩=some (.int .i64 o)/\U.cell? ⟨w.heap.size,1,none⟩=some (.int .u64 (hi:Int))/\U.cell? ⟨w.heap.size,2,none⟩=some (.int .u64 (lo:Int))/\U.cell? ⟨A.g,0,none⟩=some (.pointer (some ⟨A.tg,0,none⟩)))/\Below w1.heap.size w1 U) (first|exact hC.out _ PB.out|exact hC.out _ (Below.refl _ _).drew) (first
  | (go_at_call 377;refine (HG.out _ (Below.refl _ _).drew).mono ?_;rintro e w2 ⟨rfl,hb2⟩;have PB:=ab (aa (Below.refl w1.heap.size w1).drew hb2);clear hb2))
 go_wp2;go_ret;exact⟨rfl,aa PC.out PB.out⟩
theorem Ea {w:World}{A:Ad}{kn mo:Nat}{T T':List (Cp×Int)}{X:List Tk}{l:Fo}(h:Cm w A kn mo T X l)(n:Nat)(hn:n<mo)(o:Int)(hi lo:Nat)(r:Int)
  (hG:∀W,Below w.heap.size w W->Calls Tryz.prog 377 #[.pointer (some ⟨A.tg,0,none⟩),.agg #[.int .i64 o,.int .u64 (hi:Int),.int .u64 (lo:Int)],.int .i64 (n:Int)] W (λe w'=>e=.returned (.int .i64 0)/\I.Tb w' A.tg A.tb kn mo A.N T'/\ah (I.In A.tg A.tb) W w')) :
  Calls Tryz.prog 339 #[.pointer (some ⟨A.g,0,none⟩),.int .i64 (n:Int),.agg #[.int .i64 o,.int .u64 (hi:Int),.int .u64 (lo:Int),.int .i64 r]] w λe w'=>e=.returned (.int .i64 0)/\Cm w' A kn mo T' (X.set n ((o,hi,lo),r)) l/\ah A.Wr w w':=by
 have x0:=h.c0
 have hl:=h.lt
 obtain⟨w1,hw1⟩:∃w1,w1=w.alloc (Obj.cells #[.int .i64 o,.int .u64 (hi:Int),.int .u64 (lo:Int),.int .i64 r] 346):=⟨_,rfl⟩
 have hB1:Below w.heap.size w w1:=by rw [hw1];exact ae _ _
 have hni:∀k,I.In A.tg A.tb k->k<w.heap.size:=by
  rintro k (rfl|rfl)
  ·exact hl _ (.inr (.inr (.inl rfl)))
  ·exact hl _ (.inr (.inr (.inr (.inl rfl))))
 have hng:¬I.In A.tg A.tb A.g:=by rintro (e|e);exact h.pO.d1 e.symm;exact h.pO.d2 e.symm
 have hns:¬I.In A.tg A.tb w.heap.size:=λhs=>by have:=hni _ hs;omega
 have hC:Hid (∀U:World,ah (I.In A.tg A.tb) w1 U->(U.cell? ⟨w.heap.size,0,none⟩=some (.int .i64 o)/\U.cell? ⟨w.heap.size,1,none⟩=some (.int .u64 (hi:Int))/\U.cell? ⟨w.heap.size,2,none⟩=some (.int .u64 (lo:Int))/\U.cell? ⟨w.heap.size,3,none⟩=some (.int .i64 r)/\U.cell? ⟨A.g,0,none⟩=some (.pointer (some ⟨A.tg,0,none⟩)))/\ah (I.In A.tg A.tb) w1 U):=λU hU =>
  ⟨⟨ag hU (by rw [hw1];simp [go_sem]) hns,ag hU (by rw [hw1];simp [go_sem]) hns,ag hU (by rw [hw1];simp [go_sem]) hns,ag hU (by rw [hw1];simp [go_sem]) hns,ag hU (cell_later hB1 x0) hng⟩,hU⟩
 have HG:=ab (λ(U:World) (hU:Below w1.heap.size w1 U)=>hG U (aa hB1 hU))
 have PC:=ab hB1
 have HH:=ab h
 have mM:=h.small
 have hne:=h.pO.d3
 have hse:¬w.heap.size=A.eb:=by have:=h.Bi;omega
 clear hG hB1 h hni hng hns hl;go_enter Tryz.func339,Tryz.ntmps339
 go_upto_region 1 with fail
 rw [<-hw1];clear hw1;go_region_held3 (λU=>(U.cell? ⟨w.heap.size,0,none⟩=some (.int .i64 o)/\U.cell? ⟨w.heap.size,1,none⟩=some (.int .u64 (hi:Int))/\U.cell? ⟨w.heap.size,2,none⟩=some (.int .u64 (lo:Int))/\U.cell? ⟨w.heap.size,3,none⟩=some (.int .i64 r)/\U.cell? ⟨A.g,0,none⟩=some (.pointer (some ⟨A.tg,0,none⟩)))/\ah (I.In A.tg A.tb) w1 U) (first|exact hC.out _ PB.out|exact hC.out _ (ah.of (Below.refl _ _).drew)) (first
  | (go_at_call 377;refine (HG.out _ (Below.refl _ _).drew).mono ?_;rintro e w2 ⟨rfl,ht2,hb2⟩;have PB:=ab ((ah.of (S:=I.In A.tg A.tb) (Below.refl w1.heap.size w1).drew).trans hb2);have PQ:=ab ht2;clear hb2 ht2))
 obtain⟨⟨y0,y1,y2,y3,_⟩,_⟩:=hC.out _ PB.out
 have hM:=(HH.out.later PC.out).Jf PB.out PQ.out
 have z1:=hM.c1
 obtain⟨p0,p1,p2,p3⟩:=hM.at_ hn
 have hfr:=hM.fr
 have hfin:∀W:World,W=(ku w2 A.eb (n*4) ((o,hi,lo),r)).drew->Cm W A kn mo T' (X.set n ((o,hi,lo),r)) l/\ah A.Wr w W:=by
  rintro W rfl
  refine⟨(hM.DT hn _).later (Below.refl _ _).drew,(mz ((ah.of PC.out).trans (PB.out.mono ?_)) (.inr (.inr (.inl rfl))) _ _).call (Below.refl _ _).drew⟩
  rintro k (rfl|rfl)
  ·exact .inl rfl
  ·exact .inr (.inl rfl)
 have HF:=ab hfin
 clear hM hfin;go_wp2;go_region
 go_wp2;go_ret;exact⟨rfl,HF.out _ rfl⟩
theorem Ju {A:Ad}{k:Nat}(h:I.In A.tg A.tb k):A.Wr k:=by
 rcases h with rfl|rfl
 ·exact .inl rfl
 ·exact .inr (.inl rfl)
theorem xC {w:World}{A:Ad}{kn mo:Nat}{T T':List (Cp×Int)}{X:List Tk}{l:Fo}(h:Cm w A kn mo T X l)(n:Nat)(hn:n<mo)(o:Int)(hi lo:Nat)(r:Int)(hx:tk X (n:Int)=((o,hi,lo),r))
  (hG:∀W,Below w.heap.size w W->Calls Tryz.prog 390 #[.pointer (some ⟨A.tg,0,none⟩),.agg #[.int .i64 o,.int .u64 (hi:Int),.int .u64 (lo:Int)]] W (λe w'=>(∃b,e=.returned (.bool b))/\I.Tb w' A.tg A.tb kn mo A.N T'/\ah (I.In A.tg A.tb) W w')) :
  Calls Tryz.prog 367 #[.pointer (some ⟨A.g,0,none⟩),.int .i64 (n:Int)] w λe w'=>e=.returned (iu (o,hi,lo))/\Cm w' A kn mo T' (X.set n tz) l/\ah A.Wr w w':=by
 have hl:=h.lt
 have hE:=h.at_ hn
 rw [hx] at hE;obtain⟨w0,hw0⟩:∃w0,w0=w.alloc (Obj.cells #[.int .i64 0,.int .u64 0,.int .u64 0] 37):=⟨_,rfl⟩
 have hB0:Below w.heap.size w w0:=by rw [hw0];exact ae _ _
 have x0:=cell_later hB0 h.c0
 have x1:=cell_later hB0 h.c1
 obtain⟨e0,e1,e2,e3⟩:=hE.later hB0
 simp only at e0 e1 e2 e3;have hlt0:w.heap.size<w0.heap.size:=by rw [hw0];simp
 obtain⟨w1,hw1⟩:∃w1,w1=w0.alloc (Obj.cells #[.int .i64 o,.int .u64 (hi:Int),.int .u64 (lo:Int)] 37):=⟨_,rfl⟩
 have hB01:Below w0.heap.size w0 w1:=by rw [hw1];exact ae _ _
 have hB1:Below w.heap.size w w1:=aa hB0 hB01
 have hni:∀k,I.In A.tg A.tb k->k<w.heap.size:=by
  rintro k (rfl|rfl)
  ·exact hl _ (.inr (.inr (.inl rfl)))
  ·exact hl _ (.inr (.inr (.inr (.inl rfl))))
 have hng:¬I.In A.tg A.tb A.g:=by rintro (e|e);exact h.pO.d1 e.symm;exact h.pO.d2 e.symm
 have hns:¬I.In A.tg A.tb w.heap.size:=λhs=>by have:=hni _ hs;omega
 have hns1:¬I.In A.tg A.tb w0.heap.size:=λhs=>by have:=hni _ hs;omega
 have hC:Hid (∀U:World,ah (I.In A.tg A.tb) w1 U->(U.cell? ⟨w0.heap.size,0,none⟩=some (.int .i64 o)/\U.cell? ⟨w0.heap.size,1,none⟩=some (.int .u64 (hi:Int))/\U.cell? ⟨w0.heap.size,2,none⟩=some (.int .u64 (lo:Int))/\U.cell? ⟨A.g,0,none⟩=some (.pointer (some ⟨A.tg,0,none⟩)))/\ah (I.In A.tg A.tb) w1 U):=λU hU =>
  ⟨⟨ag hU (by rw [hw1];simp [go_sem]) hns1,ag hU (by rw [hw1];simp [go_sem]) hns1,ag hU (by rw [hw1];simp [go_sem]) hns1,ag hU (cell_later hB01 x0) hng⟩,hU⟩
 have hL0:az w0 ⟨w.heap.size,0,none⟩ (.int .i64 0)/\az w0 ⟨w.heap.size,1,none⟩ (.int .u64 0)/\az w0 ⟨w.heap.size,2,none⟩ (.int .u64 0):=by
  rw [hw0];exact⟨⟨by simp [go_sem],by simp [go_sem]⟩,⟨by simp [go_sem],by simp [go_sem]⟩,⟨by simp [go_sem],by simp [go_sem]⟩⟩
 have hD:Hid (∀U:World,ah (I.In A.tg A.tb) w1 U->az U ⟨w.heap.size,0,none⟩ (.int .i64 0)/\az U ⟨w.heap.size,1,none⟩ (.int .u64 0)/\az U ⟨w.heap.size,2,none⟩ (.int .u64 0)):=λU hU =>
  ⟨(hL0.1.later hB01).but hU hns,(hL0.2.1.later hB01).but hU hns,(hL0.2.2.later hB01).but hU hns⟩
 have HG:=ab (λ(U:World) (hU:Below w1.heap.size w1 U)=>hG U (aa hB1 hU))
 have PC:=ab hB1
 have HH:=ab h
 have mM:=h.small
 have hse:¬w.heap.size=A.eb:=by have:=h.Bi;omega
 have hse1:¬w0.heap.size=A.eb:=by have:=h.Bi;omega
 have hge:¬A.g=A.eb:=λe=>h.pO.d3 e.symm
 have hslt:¬w.heap.size=w0.heap.size:=by omega
 clear hG hB1 h hni hng hns hns1 hl hx hE hL0 hB01 hB0 hlt0;go_enter Tryz.func367,Tryz.ntmps367
 go_upto_region 1 with fail
 rw [<-hw0];clear hw0;go_upto_region 2 with fail
 rw [<-hw1];clear hw1 x0 x1 e0 e1 e2 e3;go_region_held3 (λU=>(U.cell? ⟨w0.heap.size,0,none⟩=some (.int .i64 o)/\U.cell? ⟨w0.heap.size,1,none⟩=some (.int .u64 (hi:Int))/\U.cell? ⟨w0.heap.size,2,none⟩=some (.int .u64 (lo:Int))/\U.cell? ⟨A.g,0,none⟩=some (.pointer (some ⟨A.tg,0,none⟩)))/\ah (I.In A.tg A.tb) w1 U) (first|exact hC.out _ PB.out|exact hC.out _ (ah.of (Below.refl _ _).drew)) (first
  | (go_at_call 390;refine (HG.out _ (Below.refl _ _).drew).mono ?_;rintro e w2 ⟨⟨b,rfl⟩,ht2,hb2⟩;have PB:=ab ((ah.of (S:=I.In A.tg A.tb) (Below.refl w1.heap.size w1).drew).trans hb2);have PQ:=ab ht2;clear hb2 ht2))
 obtain⟨⟨y0,y1,y2,_⟩,_⟩:=hC.out _ PB.out
 obtain⟨⟨r0,q0⟩,⟨r1,q1⟩,⟨r2,q2⟩⟩:=hD.out _ PB.out
 have hM:=(HH.out.later PC.out).Jf PB.out PQ.out
 have z1:=hM.c1
 obtain⟨p0,p1,p2,p3⟩:=hM.at_ hn
 have hfr:=hM.fr
 have hfin:∀W:World,W=(((ku w2 A.eb (n*4) tz).setCell ⟨w.heap.size,0,none⟩ (.int .i64 o)).setCell ⟨w.heap.size,1,none⟩ (.int .u64 (hi:Int))).setCell ⟨w.heap.size,2,none⟩ (.int .u64 (lo:Int))->Cm W A kn mo T' (X.set n tz) l/\ah A.Wr w W:=by
  rintro W rfl
  have hb:ah (·=w.heap.size) (ku w2 A.eb (n*4) tz) ((((ku w2 A.eb (n*4) tz).setCell ⟨w.heap.size,0,none⟩ (.int .i64 o)).setCell ⟨w.heap.size,1,none⟩ (.int .u64 (hi:Int))).setCell ⟨w.heap.size,2,none⟩ (.int .u64 (lo:Int))) :=
   (((ah.refl (·=w.heap.size) _).setCell (p:=⟨w.heap.size,0,none⟩) rfl _).setCell (p:=⟨w.heap.size,1,none⟩) rfl _).setCell (p:=⟨w.heap.size,2,none⟩) rfl _
  refine⟨(hM.DT hn _).but hb (λk hk e=>by have:=HH.out.lt k hk;omega),ah.comp (mz ((ah.of PC.out).trans (PB.out.mono λk hk=>Ju hk)) (.inr (.inr (.inl rfl))) _ _) hb (λi e=>.inr (by omega))⟩
 have HF:=ab hfin
 clear hM hfin;go_wp2;exact bodyPost_ret (v:=iu (o,hi,lo)) (by simp [results,Tryz.results367,go_sem,r0,r1,r2]) rfl ⟨rfl,HF.out _ rfl⟩
def fc (T:List (Cp×Int))(c:Cp):List (Cp×Int):=T.filter (λe=>decide (e.1≠c))
theorem lU:∀{T:List (Cp×Int)} {c:Cp} {v:Int},(T.map Prod.fst).Nodup->(c,v)∈T->T.Perm ((c,v)::fc T c)
 | [],_,_,_,h=>by cases h
 | (d,u)::T,c,v,hn,h=>by
  rw [List.map_cons,List.nodup_cons] at hn;by_cases e:d=c
  ·subst e
   have hu:v=u:=by
    rcases List.mem_cons.1 h with h|h
    ·exact (Prod.mk.inj h).2
    ·exact absurd (List.mem_map.2 ⟨_,h,rfl⟩) hn.1
   subst hu;have hT:fc T d=T:=List.filter_eq_self.2 (λx hx=>decide_eq_true (λe=>hn.1 (List.mem_map.2 ⟨x,hx,e⟩)))
   have:fc ((d,v)::T) d=T:=by unfold fc;rw [List.filter_cons_of_neg (by simp)];exact hT
   rw [this]
  ·have h':(c,v)∈T:=by
    rcases List.mem_cons.1 h with h|h
    ·exact absurd (Prod.mk.inj h).1.symm e
    ·exact h
   have:fc ((d,u)::T) c=(d,u)::fc T c:=by unfold fc;rw [List.filter_cons_of_pos (by simpa using e)]
   rw [this];exact ((lU hn.2 h').cons _).trans (List.Perm.swap _ _ _)
theorem sx {T:List (Cp×Int)}{c:Cp}(h:c∉T.map Prod.fst):fc T c=T:=List.filter_eq_self.2 (λx hx=>decide_eq_true (λe=>h (List.mem_map.2 ⟨x,hx,e⟩)))
theorem t_ {w:World}{A:Ad}{kn mo:Nat}{T:List (Cp×Int)}{X:List Tk}{l:Fo}(h:Cm w A kn mo T X l)(n:Nat)(hn:n<mo)(hw:(tk X (n:Int)).1.2.1<aq/\(tk X (n:Int)).1.2.2<aq) :
  Calls Tryz.prog 367 #[.pointer (some ⟨A.g,0,none⟩),.int .i64 (n:Int)] w λe w'=>e=.returned (iu (tk X (n:Int)).1)/\Cm w' A kn mo (fc T (tk X (n:Int)).1) (X.set n tz) l/\ah A.Wr w w':=by
 obtain⟨⟨o,hi,lo⟩,r,hx⟩:∃c r,tk X (n:Int)=(c,r):=⟨_,_,rfl⟩
 rw [hx] at hw ⊢
 refine xC h n hn o hi lo r hx (λW hW=>?_)
 by_cases hc:(o,hi,lo)∈T.map Prod.fst
 ·obtain⟨⟨c,v⟩,hm,rfl⟩:=List.mem_map.1 hc
  exact (I.pH (h.um.later hW) _ _ _ hw.1 hw.2 v hm _ (lU h.um.nodup hm)).mono (λe w' he=>⟨⟨_,he.1⟩,he.2⟩)
 ·rw [sx hc]
  exact (I.vQ (h.um.later hW) _ _ _ hw.1 hw.2 hc).mono (λe w' he=>⟨⟨_,he.1⟩,(h.um.later hW).later he.2,ah.of he.2⟩)
theorem lj {w:World}{A:Ad}{kn mo:Nat}{T:List (Cp×Int)}{X:List Tk}{l:Fo}(h:Cm w A kn mo T X l)(p:Int)(n:Nat)(hn:n<mo)(hl:(n:Int)∉aj l)(hp:p=-1\/p∈aj l) :
  Calls Tryz.prog 340 #[.pointer (some ⟨A.g,2,none⟩),.int .i64 p,.int .i64 (n:Int)] w λe w'=>e=.returned (.tuple #[])/\Cm w' A kn mo T X (l++[((n:Int),p)])/\ah A.Wr w w':=by
 have x2:=h.c2
 have HH:=ab h
 by_cases hq:p=-1
 ·subst hq
  have hc:=ab (gG h.nY (n:Int))
  have HL:Hid (qS mo l (n:Int)=l++[((n:Int),-1)]):=by unfold Hid qS;rw [if_pos ⟨by omega,hl⟩]
  clear h hl hp;go_enter Tryz.func340,Tryz.ntmps340
  go_wp2_with (first|(go_at_call 378;refine hc.out.mono ?_;rintro e w1 ⟨rfl,hk,hb⟩;have HK:=ab hk;have HB:=ab hb;clear hk hb))
  refine bodyPost_ret (results_none rfl _ _ _) rfl ⟨rfl,?_,HB.out.mono (λk e=>.inr (.inr (.inr e)))⟩
  rw [<-HL.out];exact HH.out.tF HB.out HK.out
 ·have hp':p∈aj l:=hp.resolve_left hq
  have hc:=ab (wX h.nY p (n:Int))
  have HL:Hid (kY mo l p (n:Int)=l++[((n:Int),p)]):=by unfold Hid kY;rw [if_pos ⟨hp',by omega,hl⟩]
  have hb1:(p==(-1:Int))=false:=by simp [hq]
  clear h hl hp hp';go_enter Tryz.func340,Tryz.ntmps340
  go_wp2_with (first|(go_at_call 379;refine hc.out.mono ?_;rintro e w1 ⟨rfl,hk,hb⟩;have HK:=ab hk;have HB:=ab hb;clear hk hb))
  go_end0
  refine⟨rfl,?_,HB.out.mono (λk e=>.inr (.inr (.inr e)))⟩
  rw [<-HL.out];exact HH.out.tF HB.out HK.out
theorem du {w:World}{A:Ad}{kn mo:Nat}{T:List (Cp×Int)}{X:List Tk}{l:Fo}(h:Cm w A kn mo T X l) :
  Calls Tryz.prog 338 #[.pointer (some ⟨A.g,0,none⟩)] w λe w'=>e=.returned (.int .i64 (low l:Int))/\w'=w:=by
 have hok:=ab h.nY.ok
 have mM:=h.small
 have hlen:=hok.out.len
 have hH:=λn:Int=>ab (fh h n)
 clear h;go_enter Tryz.func338,Tryz.ntmps338
 go_upto_region 2 with fail
 go_loopw [3] (λv w'=>∃(i:Nat),v=.int .i64 (i:Int)/\i<=l.length/\Hid (∀j:Nat,j<i->(j:Int)∈aj l)/\w=w') (λk _=>l.length - (intOf k).toNat)
 case atStart=>exact⟨0,rfl,Nat.zero_le _,λj hj=>by omega,rfl⟩
 case round =>
  obtain⟨i,rfl,hi,hx,rfl⟩:=hrel
  have hh:=(hH (i:Int)).out
  by_cases hin:(i:Int)∈aj l
  ·rw [decide_eq_true hin] at hh
   have hx1:Hid (∀j:Nat,j<i+1->(j:Int)∈aj l):=λj hj=>by
    by_cases e:j=i
    ·rw [e];exact hin
    ·exact hx.out j (by omega)
   have hlt:i+1<=l.length:=h_ hx1.out
   clear hin;go_wp2_with (first|(go_at_call 274;refine hh.mono ?_;rintro e w1 ⟨rfl,rfl⟩))
   refine⟨⟨i+1,by go_num,by omega,hx1,trivial⟩,by simp [intOf];omega⟩
  ·rw [decide_eq_false hin] at hh
   have HE:Hid (low l=i):=tS hin hx.out
   clear hin;go_wp2_with (first|(go_at_call 274;refine hh.mono ?_;rintro e w1 ⟨rfl,rfl⟩))
   go_ret;exact⟨by rw [HE.out];rfl,rfl⟩
abbrev mT (c:Cp)(r p:Int):Value:=.agg #[.int .i64 c.1,.int .u64 (c.2.1:Int),.int .u64 (c.2.2:Int),.int .i64 r,.int .i64 p]
def J0 (w:World)(b:Nat)(c:Cp)(r p:Int):World :=
 ((((w.setCell ⟨b,0,none⟩ (.int .i64 c.1)).setCell ⟨b,1,none⟩ (.int .u64 (c.2.1:Int))).setCell ⟨b,2,none⟩ (.int .u64 (c.2.2:Int))).setCell ⟨b,3,none⟩ (.int .i64 r)).setCell ⟨b,4,none⟩ (.int .i64 p)
theorem q6 {S:Nat->Prop}{a w:World}(h:ah S a w){b:Nat}(hb:S b)(c:Cp)(r p:Int):ah S a (J0 w b c r p) :=
 ((((h.setCell (p:=⟨b,0,none⟩) hb _).setCell (p:=⟨b,1,none⟩) hb _).setCell (p:=⟨b,2,none⟩) hb _).setCell (p:=⟨b,3,none⟩) hb _).setCell (p:=⟨b,4,none⟩) hb _
theorem lF {w:World}{A:Ad}{kn mo:Nat}{T:List (Cp×Int)}{X:List Tk}{l:Fo}(h:Cm w A kn mo T X l)(n p:Int)(hp:(n,p)∈l) :
  Calls Tryz.prog 197 #[.pointer (some ⟨A.g,0,none⟩),.int .i64 n] w λe w'=>e=.returned (.tuple #[mT (tk X n).1 (rg X n) p,.bool true])/\Below w.heap.size w w':=by
 have hnl:=av.2 ⟨p,hp⟩
 have hrn:=h.nY.ok.range n hnl
 obtain⟨k,rfl⟩:∃k:Nat,n=(k:Int):=⟨n.toNat,by omega⟩
 have hk:k<mo:=by omega
 obtain⟨w0,hw0⟩:∃w0,w0=w.alloc (Obj.cells #[.int .i64 0,.int .u64 0,.int .u64 0,.int .i64 0,.int .i64 0] 74):=⟨_,rfl⟩
 have hB0:Below w.heap.size w w0:=by rw [hw0];exact ae _ _
 have h0:=h.later hB0
 have hh:=ab (fh h0 (k:Int))
 rw [decide_eq_true hnl] at hh;have x1:=h0.c1
 obtain⟨c,r,hxx⟩:∃c r,tk X (k:Int)=(c,r):=⟨_,_,rfl⟩
 have hE:=h0.at_ hk
 rw [hxx] at hE;have hrg:rg X (k:Int)=r:=by unfold rg;rw [hxx]
 rw [hrg,hxx];obtain⟨o,hi,lo⟩:=c
 obtain⟨e0,e1,e2,e3⟩:=hE
 simp only at e0 e1 e2 e3;obtain⟨w1,hw1⟩:∃w1,w1=w0.alloc (Obj.cells #[.int .i64 o,.int .u64 (hi:Int),.int .u64 (lo:Int),.int .i64 r] 346):=⟨_,rfl⟩
 have hB1:Below w0.heap.size w0 w1:=by rw [hw1];exact ae _ _
 have hP:=λ(W:World) (hW:Below w1.heap.size w1 W)=>qj (h0.later (aa hB1 hW)) (k:Int) p hp
 have hlt0:w.heap.size<w0.heap.size:=by rw [hw0];simp
 have hL0:az w0 ⟨w.heap.size,0,none⟩ (.int .i64 0)/\az w0 ⟨w.heap.size,1,none⟩ (.int .u64 0)/\az w0 ⟨w.heap.size,2,none⟩ (.int .u64 0)/\az w0 ⟨w.heap.size,3,none⟩ (.int .i64 0)/\az w0 ⟨w.heap.size,4,none⟩ (.int .i64 0):=by
  rw [hw0];exact⟨⟨by simp [go_sem],by simp [go_sem]⟩,⟨by simp [go_sem],by simp [go_sem]⟩,⟨by simp [go_sem],by simp [go_sem]⟩,⟨by simp [go_sem],by simp [go_sem]⟩,⟨by simp [go_sem],by simp [go_sem]⟩⟩
 have z0:w1.cell? ⟨w0.heap.size,0,none⟩=some (.int .i64 o):=by rw [hw1];simp [go_sem]
 have z1:w1.cell? ⟨w0.heap.size,1,none⟩=some (.int .u64 (hi:Int)):=by rw [hw1];simp [go_sem]
 have z2:w1.cell? ⟨w0.heap.size,2,none⟩=some (.int .u64 (lo:Int)):=by rw [hw1];simp [go_sem]
 have z3:w1.cell? ⟨w0.heap.size,3,none⟩=some (.int .i64 r):=by rw [hw1];simp [go_sem]
 have hL:Hid (∀U,Below w1.heap.size w1 U->az U ⟨w.heap.size,0,none⟩ (.int .i64 0)/\az U ⟨w.heap.size,1,none⟩ (.int .u64 0)/\az U ⟨w.heap.size,2,none⟩ (.int .u64 0)/\az U ⟨w.heap.size,3,none⟩ (.int .i64 0)/\az U ⟨w.heap.size,4,none⟩ (.int .i64 0)):=λU hU =>
  ⟨(hL0.1.later hB1).later hU,(hL0.2.1.later hB1).later hU,(hL0.2.2.1.later hB1).later hU,(hL0.2.2.2.1.later hB1).later hU,(hL0.2.2.2.2.later hB1).later hU⟩
 have hC:Hid (∀U:World,ah (·=w.heap.size) w1 U->(U.cell? ⟨w0.heap.size,0,none⟩=some (.int .i64 o)/\U.cell? ⟨w0.heap.size,1,none⟩=some (.int .u64 (hi:Int))/\U.cell? ⟨w0.heap.size,2,none⟩=some (.int .u64 (lo:Int))/\U.cell? ⟨w0.heap.size,3,none⟩=some (.int .i64 r))/\ah (·=w.heap.size) w1 U):=λU hU =>
  ⟨⟨ag hU z0 (λe=>by simp at e;omega),ag hU z1 (λe=>by simp at e;omega),ag hU z2 (λe=>by simp at e;omega),ag hU z3 (λe=>by simp at e;omega)⟩,hU⟩
 have HP:=ab hP
 have hslt:¬w.heap.size=w0.heap.size:=by omega
 have HB:Hid (∀W,ah (·=w.heap.size) w1 W->Below w.heap.size w W):=λW hW=>ah.below (aa hB0 hB1) hW (λk e=>by omega)
 have mM:=h.small
 clear h h0 hL0 hP hB0 hB1 hlt0 hxx hrg hp hnl;go_enter Tryz.func197,Tryz.ntmps197
 go_upto_region 1 with fail
 rw [<-hw0];clear hw0;go_upto_region 4 with (first|(go_at_call 274;refine hh.out.mono ?_;rintro e w9 ⟨rfl,hw9⟩;obtain rfl:=hw9.symm;clear hw9))
 rw [<-hw1];clear hw1 e0 e1 e2 e3 x1;go_region_held3 (λU=>(U.cell? ⟨w0.heap.size,0,none⟩=some (.int .i64 o)/\U.cell? ⟨w0.heap.size,1,none⟩=some (.int .u64 (hi:Int))/\U.cell? ⟨w0.heap.size,2,none⟩=some (.int .u64 (lo:Int))/\U.cell? ⟨w0.heap.size,3,none⟩=some (.int .i64 r))/\ah (·=w.heap.size) w1 U) (first|exact hC.out _ Qz.out|exact hC.out _ PB.out|exact hC.out _ (ah.of (Below.refl _ _).drew)) (first
  | (go_at_call 275;refine (HP.out _ (Below.refl _ _).drew).mono ?_;rintro e w2 ⟨rfl,hw2⟩;have hb2:Below w1.heap.size w1 w2:=(by rw [hw2];exact (Below.refl _ _).drew);have PB:=ab (ah.of (S:=(·=w.heap.size)) hb2);have Qz:=ab (q6 (S:=(·=w.heap.size)) PB.out (b:=w.heap.size) (by rfl) (o,hi,lo) r p);obtain⟨⟨r0,f0⟩,⟨r1,f1⟩,⟨r2,f2⟩,⟨r3,f3⟩,⟨r4,f4⟩⟩:=hL.out w2 hb2;clear hw2 hb2))
 go_wp2;exact bodyPost_ret (v:=.tuple #[mT (o,hi,lo) r p,.bool true]) (by simp [results,Tryz.results197,go_sem,r0,r1,r2,r3,r4]) rfl ⟨rfl,HB.out _ Qz.out⟩
theorem Fe {w:World}{A:Ad}{kn mo:Nat}{T:List (Cp×Int)}{X:List Tk}{l:Fo}(h:Cm w A kn mo T X l)(n:Int)(hn:n∉aj l) :
  Calls Tryz.prog 197 #[.pointer (some ⟨A.g,0,none⟩),.int .i64 n] w λe w'=>e=.returned (.tuple #[mT (0,0,0) 0 0,.bool false])/\Below w.heap.size w w':=by
 obtain⟨w0,hw0⟩:∃w0,w0=w.alloc (Obj.cells #[.int .i64 0,.int .u64 0,.int .u64 0,.int .i64 0,.int .i64 0] 74):=⟨_,rfl⟩
 have hB0:Below w.heap.size w w0:=by rw [hw0];exact ae _ _
 have hh:=ab (fh (h.later hB0) n)
 rw [decide_eq_false hn] at hh;obtain⟨⟨r0,f0⟩,⟨r1,f1⟩,⟨r2,f2⟩,⟨r3,f3⟩,⟨r4,f4⟩⟩:az w0 ⟨w.heap.size,0,none⟩ (.int .i64 0)/\az w0 ⟨w.heap.size,1,none⟩ (.int .u64 0)/\az w0 ⟨w.heap.size,2,none⟩ (.int .u64 0)/\az w0 ⟨w.heap.size,3,none⟩ (.int .i64 0)/\az w0 ⟨w.heap.size,4,none⟩ (.int .i64 0):=by
  rw [hw0];exact⟨⟨by simp [go_sem],by simp [go_sem]⟩,⟨by simp [go_sem],by simp [go_sem]⟩,⟨by simp [go_sem],by simp [go_sem]⟩,⟨by simp [go_sem],by simp [go_sem]⟩,⟨by simp [go_sem],by simp [go_sem]⟩⟩
 have HB:Hid (∀W,ah (·=w.heap.size) w0 W->Below w.heap.size w W):=λW hW=>ah.below hB0 hW (λk e=>by omega)
 clear h hB0 hn;go_enter Tryz.func197,Tryz.ntmps197
 go_upto_region 1 with fail
 rw [<-hw0];clear hw0;go_wp2_with (first|(go_at_call 274;refine hh.out.mono ?_;rintro e w9 ⟨rfl,hw9⟩;obtain rfl:=hw9.symm;clear hw9))
 exact bodyPost_ret (v:=.tuple #[mT (0,0,0) 0 0,.bool false]) (by simp [results,Tryz.results197,go_sem,r0,r1,r2,r3,r4]) rfl ⟨rfl,HB.out _ (q6 (S:=(·=w.heap.size)) (ah.refl _ _) (b:=w.heap.size) rfl (0,0,0) 0 0)⟩
def DP (w:World)(X:List Tk)(l:Fo)(o:Int)(mo:Nat)(t:Value)(w':World):Prop :=
 ∃i:Nat,t=.int .i64 (i:Int)/\i<=mo/\Hid (∀j:Nat,j<i->((j:Int),-1)∈l->ob X (j:Int)≠o)/\Below w.heap.size w w'
theorem j3 {w:World}{A:Ad}{kn mo:Nat}{T:List (Cp×Int)}{X:List Tk}{l:Fo}(h:Cm w A kn mo T X l)(o:Int) :
  Calls Tryz.prog 195 #[.pointer (some ⟨A.g,0,none⟩),.int .i64 o] w λe w'=>((∃r,(r,-1)∈l/\ob X r=o/\e=.returned (.tuple #[.int .i64 r,.bool true]))\/((∀r,(r,-1)∈l->ob X r≠o)/\e=.returned (.tuple #[.int .i64 0,.bool false])))/\Below w.heap.size w w':=by
 have mM:=h.small
 have x1:=h.c1
 have HH:=ab h
 have hok:=ab h.nY.ok
 clear h;go_enter Tryz.func195,Tryz.ntmps195
 go_upto_region 2 with fail
 go_loopw [14] (DP w X l o mo) (λk _=>mo - (intOf k).toNat)
 case atStart=>exact⟨0,rfl,Nat.zero_le _,λj hj=>by omega,Below.refl _ _⟩
 case round =>
  obtain⟨i,rfl,hi,hx,hB⟩:=hrel
  by_cases hlt:i<mo
  ·have hM:=HH.out.later hB
   obtain⟨e0,e1,e2,e3⟩:=hM.at_ hlt
   have hobx:(tk X (i:Int)).1.1=ob X (i:Int):=rfl
   rw [hobx] at e0;obtain⟨w1,hw1⟩:∃w1,w1=wr.alloc (Obj.cells #[.int .i64 (ob X (i:Int)),.int .u64 ((tk X (i:Int)).1.2.1:Int),.int .u64 ((tk X (i:Int)).1.2.2:Int),.int .i64 (tk X (i:Int)).2] 346):=⟨_,rfl⟩
   have hB1:Below wr.heap.size wr w1:=by rw [hw1];exact ae _ _
   have PC:=ab (aa hB hB1)
   have z0:w1.cell? ⟨wr.heap.size,0,none⟩=some (.int .i64 (ob X (i:Int))):=by rw [hw1];simp [go_sem]
   have hh:=ab (fh (hM.later hB1) (i:Int))
   have hp:=ab (λp (hp:((i:Int),p)∈l)=>qj (hM.later hB1) (i:Int) p hp)
   clear hM hB1 hobx hB;generalize hoo:ob X (i:Int)=oo at *
   generalize ((tk X (i:Int)).1.2.1:Int)=u1 at *
   generalize ((tk X (i:Int)).1.2.2:Int)=u2 at *
   generalize (tk X (i:Int)).2=u3 at *
   have V3:=ab hoo
   clear hoo;go_upto_region 4 with fail
   rw [<-hw1];clear hw1 e0 e1 e2 e3;by_cases hq:oo=o
   ·have hb:(oo==o)=true:=by simp [hq]
    by_cases hin:(i:Int)∈aj l
    ·rw [decide_eq_true hin] at hh
     obtain⟨p,hpl⟩:=av.1 hin
     have hp1:=ab (hp.out p hpl)
     by_cases hp0:p=-1
     ·subst hp0
      have T_:=ab hpl
      clear hpl hin hp;go_wp2_with (first|(go_at_call 274;refine hh.out.mono ?_;rintro e w9 ⟨rfl,hw9⟩;obtain rfl:=hw9.symm;clear hw9)|(go_at_call 275;refine hp1.out.mono ?_;rintro e w9 ⟨rfl,hw9⟩;obtain rfl:=hw9.symm;clear hw9))
      exact bodyPost_ret (v:=.tuple #[.int .i64 (i:Int),.bool true]) (by simp [results,Tryz.results195,go_sem]) rfl ⟨.inl ⟨(i:Int),T_.out,by rw [V3.out];exact hq,rfl⟩,PC.out⟩
     ·have hb2:(p==(-1:Int))=false:=by simp [hp0]
      have hx1:Hid (∀j:Nat,j<i+1->((j:Int),-1)∈l->ob X (j:Int)≠o):=λj hj hjl=>by
       by_cases e:j=i
       ·subst e;exact absurd (hok.out.uniq hpl hjl) hp0
       ·exact hx.out j (by omega) hjl
      clear hpl hin hp;go_wp2_with (first|(go_at_call 274;refine hh.out.mono ?_;rintro e w9 ⟨rfl,hw9⟩;obtain rfl:=hw9.symm;clear hw9)|(go_at_call 275;refine hp1.out.mono ?_;rintro e w9 ⟨rfl,hw9⟩;obtain rfl:=hw9.symm;clear hw9))
      refine⟨⟨i+1,by go_num,by omega,hx1,PC.out⟩,by simp [intOf];omega⟩
    ·rw [decide_eq_false hin] at hh
     have hx1:Hid (∀j:Nat,j<i+1->((j:Int),-1)∈l->ob X (j:Int)≠o):=λj hj hjl=>by
      by_cases e:j=i
      ·subst e;exact absurd (av.2 ⟨_,hjl⟩) hin
      ·exact hx.out j (by omega) hjl
     clear hin hp;go_wp2_with (first|(go_at_call 274;refine hh.out.mono ?_;rintro e w9 ⟨rfl,hw9⟩;obtain rfl:=hw9.symm;clear hw9))
     refine⟨⟨i+1,by go_num,by omega,hx1,PC.out⟩,by simp [intOf];omega⟩
   ·have hb:(oo==o)=false:=by simp [hq]
    have hx1:Hid (∀j:Nat,j<i+1->((j:Int),-1)∈l->ob X (j:Int)≠o):=λj hj hjl=>by
     by_cases e:j=i
     ·subst e;rw [V3.out];exact hq
     ·exact hx.out j (by omega) hjl
    clear hp hh;go_wp2;refine⟨⟨i+1,by go_num,by omega,hx1,PC.out⟩,by simp [intOf];omega⟩
  ·obtain rfl:i=mo:=by omega
   have HB:=ab hB
   clear hB;go_wp2;refine bodyPost_ret (v:=.tuple #[.int .i64 0,.bool false]) (by simp [results,Tryz.results195,go_sem]) rfl ⟨.inr ⟨λr hr=>?_,rfl⟩,HB.out⟩
   have hrn:=hok.out.range r (av.2 ⟨_,hr⟩)
   obtain⟨k,rfl⟩:∃k:Nat,r=(k:Int):=⟨r.toNat,by omega⟩
   exact hx.out k (by omega) hr
def cv (X:List Tk)(l:Fo):List (Cp×Int):=l.map (λx=>((tk X x.1).1,x.1))
theorem nV (X:List Tk)(l:Fo):(cv X l).length=l.length:=by simp [cv]
theorem g8 {X:List Tk}{l:Fo}{c:Cp}{v:Int}:(c,v)∈cv X l↔v∈aj l/\(tk X v).1=c:=by
 unfold cv aj;simp only [List.mem_map,Prod.mk.injEq];constructor
 ·rintro ⟨x,hx,h1,h2⟩;subst h2;exact⟨⟨x,hx,rfl⟩,h1⟩
 ·rintro ⟨⟨x,hx,h1⟩,h2⟩;subst h1;exact⟨x,hx,h2,rfl⟩
theorem iS {X:List Tk}{l:Fo}{c:Cp}:c∈(cv X l).map Prod.fst↔aR X l c=true:=by
 rw [bj,List.mem_map];constructor
 ·rintro ⟨⟨a,v⟩,h,rfl⟩;exact⟨v,(g8.1 h).1,(g8.1 h).2⟩
 ·rintro ⟨n,hn,h⟩;exact⟨(c,n),g8.2 ⟨hn,h⟩,rfl⟩
theorem ni {X Y:List Tk}{l:Fo}(h:∀a∈aj l,tk Y a=tk X a):cv Y l=cv X l:=by
 unfold cv;refine List.map_congr_left (λx hx=>?_)
 rw [h x.1 (av.2 ⟨x.2,hx⟩)]
structure ie (w:World)(A:Ad)(kn mo:Nat)(X:List Tk)(l:Fo):Prop where
 cm:Cm w A kn mo (cv X l) X l
 inv:Inv mo X l
theorem ie.but {S:Nat->Prop}{w w':World}{A:Ad}{kn mo:Nat}{X:List Tk}{l:Fo}(h:ie w A kn mo X l)(hb:ah S w w')(hS:∀k,A.jD k->¬S k):ie w' A kn mo X l:=⟨h.cm.but hb hS,h.inv⟩
theorem ie.later {w w':World}{A:Ad}{kn mo:Nat}{X:List Tk}{l:Fo}(h:ie w A kn mo X l)(hb:Below w.heap.size w w'):ie w' A kn mo X l:=⟨h.cm.later hb,h.inv⟩
theorem ie.lt {w:World}{A:Ad}{kn mo:Nat}{X:List Tk}{l:Fo}(h:ie w A kn mo X l):∀k,A.jD k->k<w.heap.size:=h.cm.lt
theorem ie.KI {w:World}{A:Ad}{kn mo:Nat}{X:List Tk}{l:Fo}(h:ie w A kn mo X l):∀k,A.Wr k->k<w.heap.size:=λk hk=>h.cm.lt k (.inr (.inr hk))
def aG (X:List Tk)(l:Fo)(c:Cp):Int:=((aj l).find? (λn=>decide ((tk X n).1=c))).getD 0
theorem eg {m:Nat}{X:List Tk}{l:Fo}(h:Inv m X l){n:Int}(hn:n∈aj l):aG X l (tk X n).1=n:=by
 unfold aG;cases hf:(aj l).find? (λk=>decide ((tk X k).1=(tk X n).1)) with
 | none=>have:=List.find?_eq_none.1 hf n hn;simp at this
 | some k =>
  have h1:=List.find?_some hf
  have h2:=List.mem_of_find?_eq_some hf
  simp only [decide_eq_true_eq] at h1;exact h.one k h2 n hn h1
theorem wM {X:List Tk}{l:Fo}{c:Cp}(h:aR X l c=false):aG X l c=0:=by
 unfold aG;rw [List.find?_eq_none.2 (λn hn hd=>?_)]
 ·rfl
 ·have:=bj.2 ⟨n,hn,of_decide_eq_true hd⟩
  rw [h] at this;cases this
theorem gV {w:World}{A:Ad}{kn mo:Nat}{X:List Tk}{l:Fo}(h:ie w A kn mo X l)(c:Cp)(hw:c.2.1<aq/\c.2.2<aq) :
  Calls Tryz.prog 320 #[.pointer (some ⟨A.g,0,none⟩),iu c] w λe w'=>e=.returned (.tuple #[.int .i64 (aG X l c),.bool (aR X l c)])/\Below w.heap.size w w':=by
 by_cases hc:aR X l c=true
 ·obtain⟨n,hn,rfl⟩:=bj.1 hc
  rw [hc,eg h.inv hn];exact uF h.cm _ _ _ n true (λW hW=>I.Gx (h.cm.um.later hW) _ _ _ hw.1 hw.2 n (g8.2 ⟨hn,rfl⟩))
 ·have hc':aR X l c=false:=by simpa using hc
  rw [hc',wM hc'];exact uF h.cm _ _ _ 0 false (λW hW=>I.get_none (h.cm.um.later hW) _ _ _ hw.1 hw.2 (λhk=>hc (iS.1 hk)))
def jF (X:List Tk)(l:Fo)(o:Int):Nat:=((aj l).filter (λn=>decide (ob X n=o))).length
theorem qL (k:Nat):ek (k+1)=ek k++[(k:Int)]:=by unfold ek;rw [List.range_succ,List.map_append];rfl
def Dw (X:List Tk)(l:Fo)(o:Int)(k:Nat):Nat:=((ek k).filter (λn=>decide (n∈aj l/\ob X n=o))).length
theorem G7 (X:List Tk)(l:Fo)(o:Int)(k:Nat):Dw X l o k<=k:=by
 have:=List.length_filter_le (λn=>decide (n∈aj l/\ob X n=o)) (ek k)
 rw [kZ] at this;exact this
theorem zC (X:List Tk)(l:Fo)(o:Int)(k:Nat):Dw X l o (k+1)=Dw X l o k+(if (k:Int)∈aj l/\ob X (k:Int)=o then 1 else 0):=by
 unfold Dw;rw [qL,List.filter_append,List.length_append];congr 1
 by_cases h:(k:Int)∈aj l/\ob X (k:Int)=o
 ·rw [if_pos h];simp [h]
 ·rw [if_neg h,List.filter_eq_nil_iff.2 (λa ha=>by rw [List.mem_singleton] at ha;subst ha;simpa using h)];rfl
theorem f_ {A B:List Int}(hA:A.Nodup)(hB:B.Nodup)(h:∀x,x∈A↔x∈B):A.length=B.length :=
 Nat.le_antisymm (oH hA (λx hx=>(h x).1 hx)) (oH hB (λx hx=>(h x).2 hx))
theorem CG {m:Nat}{X:List Tk}{l:Fo}(h:Ok m l)(o:Int):Dw X l o m=jF X l o:=by
 refine f_ (List.Nodup.sublist List.filter_sublist (ju m)) (List.Nodup.sublist List.filter_sublist h.nodup) (λx=>?_)
 rw [List.mem_filter,List.mem_filter,k_,decide_eq_true_eq,decide_eq_true_eq];exact⟨λhx=>hx.2,λhx=>⟨h.range x hx.1,hx⟩⟩
def I0 (w:World)(X:List Tk)(l:Fo)(o:Int)(mo:Nat)(v t:Value)(w':World):Prop :=
 ∃i:Nat,t=.int .i64 (i:Int)/\v=.int .i64 (Dw X l o i:Int)/\i<=mo/\Below w.heap.size w w'
theorem CQ {w:World}{A:Ad}{kn mo:Nat}{T:List (Cp×Int)}{X:List Tk}{l:Fo}(h:Cm w A kn mo T X l)(o:Int) :
  Calls Tryz.prog 203 #[.pointer (some ⟨A.g,0,none⟩),.int .i64 o] w λe w'=>e=.returned (.int .i64 (jF X l o:Int))/\Below w.heap.size w w':=by
 have mM:=h.small
 have x1:=h.c1
 have HH:=ab h
 have hok:=ab h.nY.ok
 clear h;go_enter Tryz.func203,Tryz.ntmps203
 go_upto_region 3 with fail
 go_loopw [5,14] (I0 w X l o mo) (λ_ k _=>mo - (intOf k).toNat)
 case atStart=>exact⟨0,rfl,rfl,Nat.zero_le _,Below.refl _ _⟩
 case round =>
  obtain⟨i,rfl,rfl,hi,hB⟩:=hrel
  by_cases hlt:i<mo
  ·have hM:=HH.out.later hB
   obtain⟨e0,e1,e2,e3⟩:=hM.at_ hlt
   have hobx:(tk X (i:Int)).1.1=ob X (i:Int):=rfl
   rw [hobx] at e0;obtain⟨w1,hw1⟩:∃w1,w1=wr.alloc (Obj.cells #[.int .i64 (ob X (i:Int)),.int .u64 ((tk X (i:Int)).1.2.1:Int),.int .u64 ((tk X (i:Int)).1.2.2:Int),.int .i64 (tk X (i:Int)).2] 346):=⟨_,rfl⟩
   have hB1:Below wr.heap.size wr w1:=by rw [hw1];exact ae _ _
   have PC:=ab (aa hB hB1)
   have z0:w1.cell? ⟨wr.heap.size,0,none⟩=some (.int .i64 (ob X (i:Int))):=by rw [hw1];simp [go_sem]
   have hh:=ab (fh (hM.later hB1) (i:Int))
   have hsu:=zC X l o i
   have hle:=G7 X l o i
   clear hM hB1 hobx hB;by_cases hq:ob X (i:Int)=o
   ·by_cases hin:(i:Int)∈aj l
    ·rw [decide_eq_true hin] at hh
     rw [if_pos ⟨hin,hq⟩] at hsu;have TE:=ab hsu
     have hb:(ob X (i:Int)==o)=true:=by simp [hq]
     clear hsu hin hq;generalize ob X (i:Int)=oo at *
     generalize ((tk X (i:Int)).1.2.1:Int)=u1 at *
     generalize ((tk X (i:Int)).1.2.2:Int)=u2 at *
     generalize (tk X (i:Int)).2=u3 at *
     generalize hff:Dw X l o i=f at *
     clear hff;go_upto_region 5 with fail
     rw [<-hw1];clear hw1 e0 e1 e2 e3;go_wp2_with (first|(go_at_call 274;refine hh.out.mono ?_;rintro e w9 ⟨rfl,hw9⟩;obtain rfl:=hw9.symm;clear hw9))
     refine⟨⟨i+1,by go_num,by rw [TE.out];go_num,by omega,PC.out⟩,by simp [intOf];omega⟩
    ·rw [decide_eq_false hin] at hh
     rw [if_neg (λhc=>hin hc.1)] at hsu;have TE:=ab hsu
     have hb:(ob X (i:Int)==o)=true:=by simp [hq]
     clear hsu hin hq;generalize ob X (i:Int)=oo at *
     generalize ((tk X (i:Int)).1.2.1:Int)=u1 at *
     generalize ((tk X (i:Int)).1.2.2:Int)=u2 at *
     generalize (tk X (i:Int)).2=u3 at *
     generalize hff:Dw X l o i=f at *
     clear hff;go_upto_region 5 with fail
     rw [<-hw1];clear hw1 e0 e1 e2 e3;go_wp2_with (first|(go_at_call 274;refine hh.out.mono ?_;rintro e w9 ⟨rfl,hw9⟩;obtain rfl:=hw9.symm;clear hw9))
     refine⟨⟨i+1,by go_num,by rw [TE.out];rfl,by omega,PC.out⟩,by simp [intOf];omega⟩
   ·rw [if_neg (λhc=>hq hc.2)] at hsu
    have TE:=ab hsu
    have hb:(ob X (i:Int)==o)=false:=by simp [hq]
    clear hsu hq hh;generalize ob X (i:Int)=oo at *
    generalize ((tk X (i:Int)).1.2.1:Int)=u1 at *
    generalize ((tk X (i:Int)).1.2.2:Int)=u2 at *
    generalize (tk X (i:Int)).2=u3 at *
    generalize hff:Dw X l o i=f at *
    clear hff;go_upto_region 5 with fail
    rw [<-hw1];clear hw1 e0 e1 e2 e3;go_wp2;refine⟨⟨i+1,by go_num,by rw [TE.out];rfl,by omega,PC.out⟩,by simp [intOf];omega⟩
  ·obtain rfl:i=mo:=by omega
   have HB:=ab hB
   rw [CG hok.out];clear hB;go_wp2;go_ret;exact⟨rfl,HB.out⟩
end Go.Proofs.YtffmodpgddecnaaGreatDoor
