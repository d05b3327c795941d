import Derived.Shelf.SlIterI.Nil
import Derived.Shelf.SortM.Plain
import Derived.Shelf.SortM.SortNone
import Derived.Test.YtmhinfbkmjdgfaaGreatDoorZ29
set_option linter.unusedVariables false
set_option linter.unusedSimpArgs false
namespace Go.Proofs.YtmhinfbkmjdgfaaGreatDoor.S
open Go.RowKit
variable {id nx:Int}{D:List Nat}{Os:List Ob}{k:Nat}{w w':World}
structure uy where
 s:Nat
 g:Nat
 pb:Nat
 m:Nat
 n:Nat
 room:Nat
def St (w:World)(z:uy)(nx:Int)(Os:List Ob):Prop:=∃t B,fO w z.s z.g z.pb z.m z.n z.room nx t B Os
def Zb (z:uy)(k:Nat):Prop:=Sb z.s z.g z.pb z.m k
def er (x:Int):Prop:=-9223372036854775808<=x/\x<9223372036854775808
theorem St.but {S:Nat->Prop}{z:uy}(hb:aj S w w')(h:St w z nx Os)(h1:∀k,Zb z k->¬S k)(h2:∀k,Rb Os k->¬S k):St w' z nx Os:=by
 obtain⟨t,B,h⟩:=h
 exact⟨t,B,h.but hb h1 h2⟩
theorem St.later {z:uy}(hb:Below w.heap.size w w')(h:St w z nx Os):St w' z nx Os:=by
 obtain⟨t,B,h⟩:=h
 exact⟨t,B,h.later hb⟩
theorem St.used {z:uy}(h:St w z nx Os):fJ Os<=z.n/\z.n<=256:=by
 obtain⟨t,B,h⟩:=h
 have:=h.count
 have:=h.rQ.le
 omega
theorem EF (room n:Nat)(w:World)(h1:1<=room/\room<=64)(h2:1<=n/\n<=256) :
  Calls Tryz.prog 125 #[ab (room:Int),ab (n:Int)] w λe w'=>∃z:uy,z.n=n/\z.room=room/\e=.returned (.tuple #[aq z.s,ab 0])/\St w' z 1 []/\(∀k,Zb z k->w.heap.size<=k/\k<w'.heap.size)/\Below w.heap.size w w':=by
 refine (Ci room n w h1 h2).mono ?_
 rintro e w' ⟨s,g,pb,m,rfl,hS,hk,hb⟩
 exact⟨⟨s,g,pb,m,n,room⟩,rfl,rfl,rfl,⟨_,_,hS⟩,hk,hb⟩
theorem De (z:uy)(nx:Int)(Os:List Ob)(w:World)(h:St w z nx Os) :
  Calls Tryz.prog 67 #[aq z.s] w λe w'=>e=.returned (ab nx)/\w'=w:=by
 obtain⟨t,B,h⟩:=h
 exact xe _ _ _ _ _ _ _ _ _ _ _ h
theorem E8 (z:uy)(nx:Int)(Os:List Ob)(size:Int)(w:World)(h:St w z nx Os) :
  Calls Tryz.prog 222 #[aq z.s,ab size] w λe w'=>e=.returned (ab (jm z.room z.n nx Os size))/\Below w.heap.size w w':=by
 obtain⟨t,B,h⟩:=h
 exact gL _ _ _ _ _ _ _ _ _ _ _ _ h
theorem oE (z:uy)(nx:Int)(Os:List Ob)(k:Nat)(w:World)(h:St w z nx Os)(hE:jm z.room z.n nx Os (k:Int)=0) :
  Calls Tryz.prog 224 #[aq z.s,ab (k:Int)] w λe w'=>∃P a,e=.returned (.tuple #[ab nx,ab 0])/\(∀j,aI a j->w.heap.size<=j/\j<w'.heap.size)/\St w' z (nx+1) (Os++[⟨nx,List.replicate k 0,P,a⟩])/\aj (Zb z) w w':=by
 obtain⟨t,B,h⟩:=h
 refine (ju _ _ _ _ _ _ _ _ _ _ k w h hE).mono ?_
 rintro e w' ⟨a,t',rfl,hb,hS,hB⟩
 exact⟨_,a,rfl,hb,⟨t',B,hS⟩,hB⟩
def qZ (Os:List Ob)(id off k:Int):Int:=match jQ Os id with
 | none=>20
 | some o=>if 0<=off/\0<=k/\k<=1024/\off+k<=(o.data.length:Int) then 0 else 5
def zZ (Os:List Ob)(id off k:Int):List Nat:=match jQ Os id with
 | none=>[]
 | some o=>if 0<=off/\0<=k/\k<=1024/\off+k<=(o.data.length:Int) then (o.data.drop off.toNat).take k.toNat else []
theorem B7 (z:uy)(nx:Int)(Os:List Ob)(id off k:Int)(w:World)(h:St w z nx Os)(hi:er id) :
  Calls Tryz.prog 230 #[aq z.s,ab id,ab off,ab k] w λe w'=>∃a cap,e=.returned (.tuple #[.slice a (zZ Os id off k).length cap,ab (qZ Os id off k)])/\Own w' w.heap.size 5 a (zZ Os id off k).length cap (aN (zZ Os id off k))/\Below w.heap.size w w':=by
 obtain⟨t,B,h⟩:=h
 cases ho:jQ Os id with
 | none =>
  have e1:zZ Os id off k=[]:=by simp [zZ,ho]
  have e2:qZ Os id off k=20:=by simp [qZ,ho]
  rw [e1,e2];refine (tN _ _ _ _ _ _ _ _ _ _ id off k w h hi ho).mono ?_
  rintro e w' ⟨rfl,hb⟩
  exact⟨none,0,rfl,Own.nil _ _ _,hb⟩
 | some o =>
  by_cases hr:j8 o off k
  ·have hr2:0<=off/\0<=k/\k<=1024/\off+k<=(o.data.length:Int):=hr
   have e1:zZ Os id off k=(o.data.drop off.toNat).take k.toNat:=by simp [zZ,ho,hr2]
   have e2:qZ Os id off k=0:=by simp [qZ,ho,hr2]
   obtain⟨off',rfl⟩:∃q:Nat,off=(q:Int):=⟨off.toNat,by omega⟩
   obtain⟨k',rfl⟩:∃q:Nat,k=(q:Int):=⟨k.toNat,by omega⟩
   have e3:((o.data.drop off').take k').length=k':=by rw [List.length_take,List.length_drop];omega
   rw [e1,e2,Int.toNat_natCast,Int.toNat_natCast,e3];refine (yG _ _ _ _ _ _ _ _ _ _ id off' k' o w h hi ho (by omega) (by omega)).mono ?_
   rintro e w' ⟨a,cap,rfl,hO,hb⟩
   exact⟨a,cap,rfl,hO,hb⟩
  ·have hr2:¬(0<=off/\0<=k/\k<=1024/\off+k<=(o.data.length:Int)):=hr
   have e1:zZ Os id off k=[]:=by simp only [zZ,ho,if_neg hr2]
   have e2:qZ Os id off k=5:=by simp only [qZ,ho,if_neg hr2]
   rw [e1,e2];refine (vq _ _ _ _ _ _ _ _ _ _ id off k o w h hi ho hr).mono ?_
   rintro e w' ⟨rfl,hb⟩
   exact⟨none,0,rfl,Own.nil _ _ _,hb⟩
def Gc (Os:List Ob)(id off:Int)(D:List Nat):List Ob:=if qZ Os id off (D.length:Int)=0 then Os.map (ec id off.toNat D) else Os
theorem Co {off:Nat}(h:Rb (Os.map (ec id off D)) k):Rb Os k:=by
 obtain⟨o,ho,hk⟩:=h
 obtain⟨p,hp,rfl⟩:=List.mem_map.1 ho
 rw [je] at hk;exact⟨p,hp,hk⟩
theorem FG {off:Int}(h:Rb (Gc Os id off D) k):Rb Os k:=by
 unfold Gc at h;split at h
 ·exact Co h
 ·exact h
theorem yu (z:uy)(nx:Int)(Os:List Ob)(id off:Int)(da:Option Addr)(k cd:Nat)(D:List Nat)(w:World)(h:St w z nx Os)(hi:er id)(hR:Row w da k cd (aN D))(hD:∀x∈D,x<256)(hap:0<k->∀j,aI da j->¬Zb z j) :
  Calls Tryz.prog 231 #[aq z.s,ab id,ab off,.slice da k cd] w λe w'=>e=.returned (ab (qZ Os id off (k:Int)))/\St w' z nx (Gc Os id off D)/\aj (Zb z) w w':=by
 obtain⟨t,B,h⟩:=h
 have hk:D.length=k:=by have:=hR.len;rwa [ao] at this
 unfold Gc;rw [hk];cases ho:jQ Os id with
 | none =>
  have e2:qZ Os id off (k:Int)=20:=by simp [qZ,ho]
  rw [e2,if_neg (by decide)];refine (qa _ _ _ _ _ _ _ _ _ _ id off da k cd w h hi ho).mono ?_
  rintro e w' ⟨rfl,hb⟩
  exact⟨rfl,⟨t,B,h.later hb⟩,aj.of hb⟩
 | some o =>
  by_cases hr:j8 o off (k:Int)
  ·have hr2:0<=off/\0<=(k:Int)/\(k:Int)<=1024/\off+(k:Int)<=(o.data.length:Int):=hr
   have e2:qZ Os id off (k:Int)=0:=by simp only [qZ,ho,if_pos hr2]
   obtain⟨off',rfl⟩:∃q:Nat,off=(q:Int):=⟨off.toNat,by omega⟩
   rw [e2,if_pos rfl,Int.toNat_natCast];refine (vQ _ _ _ _ _ _ _ _ _ _ id off' o da k cd D w h hi ho (by omega) (by omega) hR hD (λh0 j hj e=>hap h0 j hj (.inr (.inr (.inl e))))).mono ?_
   rintro e w' ⟨B',rfl,hS,hb⟩
   exact⟨rfl,⟨t,B',hS⟩,hb.mono (λ_ e=>.inr (.inr (.inl e)))⟩
  ·have hr2:¬(0<=off/\0<=(k:Int)/\(k:Int)<=1024/\off+(k:Int)<=(o.data.length:Int)):=hr
   have e2:qZ Os id off (k:Int)=5:=by simp only [qZ,ho,if_neg hr2]
   rw [e2,if_neg (by decide)];refine (sU _ _ _ _ _ _ _ _ _ _ id off o da k cd w h hi ho hr).mono ?_
   rintro e w' ⟨rfl,hb⟩
   exact⟨rfl,⟨t,B,h.later hb⟩,aj.of hb⟩
def Av (V:List (Int×List Nat)):Nat:=(V.map λp=>bp p.2.length).sum
def Gd (V:List (Int×List Nat))(id:Int):Option (List Nat):=(V.find? λp=>decide (p.1=id)).map Prod.snd
def eW (room n:Nat)(nx:Int)(V:List (Int×List Nat))(size:Int):Int :=
 if size<0\/4096<size then 6 else if room<=V.length\/4611686018427387904<nx then 7 else if (n:Int) - (Av V:Int)<(bp size.toNat:Int) then 8 else 0
def rP (V:List (Int×List Nat))(id off k:Int):Int:=match Gd V id with
 | none=>20
 | some l=>if 0<=off/\0<=k/\k<=1024/\off+k<=(l.length:Int) then 0 else 5
def zj (V:List (Int×List Nat))(id off k:Int):List Nat:=match Gd V id with
 | none=>[]
 | some l=>if 0<=off/\0<=k/\k<=1024/\off+k<=(l.length:Int) then (l.drop off.toNat).take k.toNat else []
def Da (id:Int)(off:Nat)(D:List Nat)(p:Int×List Nat):Int×List Nat:=if p.1=id then (p.1,dM p.2 D off) else p
def fT (V:List (Int×List Nat))(id off:Int)(D:List Nat):List (Int×List Nat):=if rP V id off (D.length:Int)=0 then V.map (Da id off.toNat D) else V
def vw (Os:List Ob):List (Int×List Nat):=Os.map λo=>(o.id,o.data)
theorem wU (Os:List Ob):(vw Os).length=Os.length:=by simp [vw]
theorem Dh (Os:List Ob):Av (vw Os)=fJ Os:=by simp [Av,fJ,vw,Function.comp_def]
theorem D0 (Os:List Ob)(id:Int):Gd (vw Os) id=(jQ Os id).map Ob.data:=by
 unfold Gd jQ vw
 rw [List.find?_map];simp [Function.comp_def]
theorem tF (Os:List Ob)(id off k:Int):rP (vw Os) id off k=qZ Os id off k:=by
 unfold rP qZ;rw [D0];cases jQ Os id<;>rfl
theorem FJ (Os:List Ob)(id off k:Int):zj (vw Os) id off k=zZ Os id off k:=by
 unfold zj zZ;rw [D0];cases jQ Os id<;>rfl
theorem wQ (Os:List Ob)(o:Ob):vw (Os++[o])=vw Os++[(o.id,o.data)]:=by simp [vw]
theorem BC (Os:List Ob)(id:Int)(off:Nat)(D:List Nat):vw (Os.map (ec id off D))=(vw Os).map (Da id off D):=by
 unfold vw;rw [List.map_map,List.map_map];refine List.map_congr_left λo _=>?_
 simp only [Function.comp,ec,Da];split<;>rfl
theorem Fw (Os:List Ob)(id off:Int)(D:List Nat):vw (Gc Os id off D)=fT (vw Os) id off D:=by
 unfold Gc fT;rw [tF];split
 ·exact BC _ _ _ _
 ·rfl
theorem xB {z:uy}(h:St w z nx Os)(size:Int):eW z.room z.n nx (vw Os) size=jm z.room z.n nx Os size:=by
 have hu:=h.used
 unfold eW jm;rw [wU,Dh];by_cases h1:size<0\/4096<size
 ·rw [if_pos h1,if_pos h1]
 ·rw [if_neg h1,if_neg h1]
  by_cases h2:z.room<=Os.length\/4611686018427387904<nx
  ·rw [if_pos h2,if_pos h2]
  ·rw [if_neg h2,if_neg h2]
   by_cases h3:z.n - fJ Os<bp size.toNat
   ·rw [if_pos h3,if_pos (by omega)]
   ·rw [if_neg h3,if_neg (by omega)]
theorem wm {o:Ob}(h:Rb (Os++[o]) k):Rb Os k\/aI o.kL k:=by
 obtain⟨p,hp,hk⟩:=h
 rcases List.mem_append.1 hp with h1|h1
 ·exact .inl ⟨p,h1,hk⟩
 ·simp only [List.mem_singleton] at h1
  subst h1;exact .inr hk
end Go.Proofs.YtmhinfbkmjdgfaaGreatDoor.S
