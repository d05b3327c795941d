import Derived.Test.YtffmodpgddecnaaGreatDoorZ16
set_option linter.unusedVariables false
set_option linter.unusedSimpArgs false
set_option maxRecDepth 100000
set_option maxHeartbeats 1000000
namespace Go.Proofs.YtffmodpgddecnaaGreatDoor.S
open Go.RowKit
def BB (B:Nat->Nat->Nat)(p off:Nat)(D:List Nat):Nat->Nat->Nat:=λi j=>if i=p/\off<=j/\j<off+D.length then D.getD (j - off) 0 else B i j
theorem ud {D:List Nat}(h:∀x∈D,x<256)(k:Nat):D.getD k 0<256:=by
 rw [List.getD_eq_getElem?_getD];cases hk:D[k]? with
 | none=>simp
 | some v=>simpa using h v (List.mem_of_getElem? hk)
theorem di.write {w:World}{g pb n:Nat}{t:Nat->Bool}{B:Nat->Nat->Nat}{p off:Nat}{D:List Nat}(h:di w g pb n t B)(hp:t p=true)(ho:off+D.length<=64)(hD:∀x∈D,x<256) :
  di (w.setCells pb (p*64+off) (bG D)) g pb n t (BB B p off D):=by
 have hpn:=h.only p hp
 have hne:=h.ne
 refine⟨h.ne,h.le,?_,λi hi=>⟨?_,?_⟩,λi j hi hj=>⟨?_,?_⟩,by rw [cO];exact h.lt,h.only,λi j hi=>?_,λi j=>?_⟩
 ·rw [World.cell?_setCells_out _ _ _ _ _ (λe=>absurd e hne)]
  exact h.head
 ·rw [World.cell?_setCells_out _ _ _ _ _ (λe=>absurd e hne)]
  exact (h.mark i hi).1
 ·rw [World.frozen?_setCells]
  exact (h.mark i hi).2
 ·unfold BB
  by_cases e:i=p/\off<=j/\j<off+D.length
  ·rw [if_pos e]
   obtain⟨rfl,e1,e2⟩:=e
   have hin:=World.cell?_setCells_in pb (bG D) (i*64+off) w (λk hk=>by
    rw [aM] at hk;have:=(h.kB i (off+k) hi (by omega)).1
    rw [<-Nat.add_assoc] at this;rw [this];rfl) (j - off) (by rw [aM];omega)
   have e3:i*64+off+(j - off)=i*64+j:=by omega
   rw [e3] at hin;rw [hin];simp [bG,List.getD_eq_getElem?_getD,List.getElem?_eq_getElem (show j - off<D.length by omega)]
  ·rw [if_neg e,World.cell?_setCells_out _ _ _ _ _ (λ_ _=>?_)]
   ·exact (h.kB i j hi hj).1
   ·rw [aM]
    show i*64+j<p*64+off\/p*64+off+D.length<=i*64+j
    omega
 ·rw [World.frozen?_setCells]
  exact (h.kB i j hi hj).2
 ·unfold BB
  rw [if_neg (λe=>by rw [e.1,hp] at hi;cases hi)]
  exact h.zero i j hi
 ·unfold BB
  split
  ·exact ud hD _
  ·exact h.small i j
def oZ (B:Nat->Nat->Nat)(p off m:Nat):List Nat:=(List.range m).map λk=>B p (off+k)
theorem dt (B:Nat->Nat->Nat)(p off m:Nat):(oZ B p off m).length=m:=by simp [oZ]
theorem o_ (B:Nat->Nat->Nat)(p off m k:Nat)(h:k<m):(bG (oZ B p off m))[k]?=some (.int .u8 ((B p (off+k):Nat):Int)):=by simp [bG,oZ,h]
theorem di.range {w:World}{g pb n:Nat}{t:Nat->Bool}{B:Nat->Nat->Nat}(h:di w g pb n t B){p:Nat}(hp:p<n):w.rangeAt pb (p*64) (bG (oZ B p 0 64)):=λj v hv=>by
 have hj:j<64:=by have:=(List.getElem?_eq_some_iff.1 hv).1;rwa [aM,dt] at this
 rw [o_ _ _ _ _ _ hj,Nat.zero_add] at hv;cases hv
 exact (h.kB p j hp hj).1
theorem D6:(Tryz.prog.info? 387).map (·.size)=some 64:=by kernel_rfl
theorem vf {w:World}{g pb n:Nat}{t:Nat->Bool}{B:Nat->Nat->Nat}(h:di w g pb n t B){p:Nat}(hp:p<n):(Instr.loadAt 387 (.pointer (some ⟨pb,p*64,none⟩))).run Tryz.prog w=.ok (.agg (bG (oZ B p 0 64)).toArray) w :=
 run_loadAt_mid (P:=Tryz.prog) w pb (p*64) 387 _ _ (h.range hp) Tryz.underlying387 rfl (by rw [D6,aM,dt])
theorem Au (L:List Nat)(h:∀x∈L,x<256):bG L=(L.map UInt8.ofNat).map Extern.Stop.cell:=by
 rw [bG,List.map_map];refine List.map_congr_left λx hx=>?_
 simp only [Function.comp,Extern.Stop.cell];rw [UInt8.toNat_ofNat_of_lt' (h x hx)];rfl
theorem tf:(Array.replicate 64 (Value.int .u8 0))=((List.replicate 64 (0:UInt8)).map Extern.Stop.cell).toArray:=by rfl
theorem di.congr {w:World}{g pb n:Nat}{t:Nat->Bool}{B C:Nat->Nat->Nat}(h:di w g pb n t B)(e:B=C):di w g pb n t C:=e ▸ h
theorem nz {w:World}{g pb n:Nat}{t:Nat->Bool}{B:Nat->Nat->Nat}(h:di w g pb n t B)(p off m:Nat):∀x∈oZ B p off m,x<256:=by
 intro x hx;simp only [oZ,List.mem_map] at hx;obtain⟨k,_,rfl⟩:=hx
 exact h.small _ _
theorem C9 (w:World):(zeroValue 5).run Tryz.prog w=.ok (.int .u8 0) w:=aO jr w
theorem y_ {B:Nat->Nat->Nat}{p:Nat}(h:oZ B p 0 64=List.replicate 64 0)(j:Nat)(hj:j<64):B p j=0:=by
 have:=congrArg (λl:List Nat=>l[j]?) h
 simp only [List.getElem?_replicate,hj,if_true] at this;simpa [oZ,hj] using this
theorem zt (g pb n:Nat)(t:Nat->Bool)(B:Nat->Nat->Nat)(p:Nat)(w:World)(h:di w g pb n t B)(hp:t p=true) :
  Calls Tryz.prog 389 #[.pointer (some ⟨pb,p*64,none⟩)] w λe w'=>e=.returned (.tuple #[])/\di w' g pb n t (λi j=>if i=p/\j<64 then 0 else B i j)/\ah (·=pb) w w':=by
 have hpn:=h.only p hp
 have hl:=vf h hpn
 have hz:=aO oI
 rw [Au _ (nz h p 0 64)] at hl;rw [tf] at hz;have hne:=xZ 387 64 Tryz.underlying387 ((oZ B p 0 64).map UInt8.ofNat) (List.replicate 64 0) (by rw [List.length_map,dt]) (by simp) w
 obtain⟨b,hb⟩:∃b,b=(List.map UInt8.ofNat (oZ B p 0 64)==List.replicate 64 0):=⟨_,rfl⟩
 rw [<-hb] at hne;have WG:=ab hb
 have hcl:=Lib.run_clear_slice (P:=Tryz.prog) w 38 5 0 (.int .u8 0) Tryz.underlying38 C9 rfl rfl pb (p*64) 64 64 (by omega) (λj hj=>by rw [(h.kB p j hpn hj).1];rfl) (λj hj=>(h.kB p j hpn hj).2)
 have H:=ab h
 obtain⟨o,ho⟩:∃o,o=p*64:=⟨_,rfl⟩
 rw [<-ho] at hl hcl ⊢
 have HO:=ab ho
 have Ui:=ab hcl
 have P9:=ab hl
 obtain⟨X,hX⟩:∃X,X=(List.map Extern.Stop.cell (List.map UInt8.ofNat (oZ B p 0 64))).toArray:=⟨_,rfl⟩
 obtain⟨Z,hZ⟩:∃Z,Z=(List.map Extern.Stop.cell (List.replicate 64 (0:UInt8))).toArray:=⟨_,rfl⟩
 rw [<-hX] at P9;rw [<-hX,<-hZ] at hne;rw [<-hZ] at hz;clear h ho hl hcl hX hZ hb;go_enter Tryz.func389,Tryz.ntmps389
 cases b with
 | true =>
  go_wp2_with (first|((with_reducible refine aV P9.out ?_ ?_);· rfl))
  refine bodyPost_end (v:=.tuple #[]) (by simp [results,Tryz.results389,go_sem]) rfl ⟨rfl,H.out.congr ?_,ah.refl _ _⟩
  have e:oZ B p 0 64=List.replicate 64 0:=by
   have h1:=eq_of_beq WG.out.symm
   have h2:=congrArg (List.map UInt8.toNat) h1
   rw [List.map_map,List.map_replicate] at h2;refine Eq.trans ?_ h2
   refine (List.map_congr_left (g:=id) (λx hx=>?_)).trans (List.map_id _) |>.symm
   exact UInt8.toNat_ofNat_of_lt' (nz H.out p 0 64 x hx)
  funext i j
  by_cases h1:i=p/\j<64
  ·rw [if_pos h1,h1.1]
   exact y_ e j h1.2
  ·rw [if_neg h1]
 | false =>
  go_wp2_with (first|((with_reducible refine aV P9.out ?_ ?_);· rfl)|((with_reducible refine jN Ui.out ?_ ?_);· rfl))
  have hA:=H.out.write (off:=0) (D:=List.replicate 64 0) hp (by simp) (λx hx=>by rw [List.eq_of_mem_replicate hx];omega)
  rw [Nat.add_zero,<-HO.out] at hA;refine bodyPost_end (v:=.tuple #[]) (by simp [results,Tryz.results389,go_sem]) rfl ⟨rfl,hA.congr ?_,ah.setCells (S:=(·=pb)) (show pb=pb from rfl) _ _ (ah.refl _ _)⟩
  funext i j
  unfold BB;by_cases h1:i=p/\j<64
  ·rw [if_pos ⟨h1.1,by simpa using h1.2⟩,if_pos h1]
   rw [List.getD_eq_getElem?_getD,List.getElem?_replicate];split<;>rfl
  ·rw [if_neg h1,if_neg (λe=>h1 ⟨e.1,by simpa using e.2⟩)]
theorem lT {n:Nat}{t:Nat->Bool}{p off m:Nat}(h:t p=true)(hn:p<n)(ho:off+m<=64):ke n t (p:Int) (off:Int) (m:Int)=0:=by
 unfold ke uA;rw [if_pos ⟨decide_eq_true (by omega),by simpa using h⟩,if_pos (by omega)]
theorem sN:Tryz.prog.arrayLen 387=64:=by kernel_rfl
theorem B3:Tryz.prog.underlying 387=some (.array (Tryz.prog.arrayLen 387) (Tryz.prog.elem 387)):=by kernel_rfl
theorem k9 (W:World):(sizeOf (Tryz.prog.elem 387)).run Tryz.prog W=.ok 1 W:=by
 have e:Tryz.prog.elem 387=5:=by kernel_rfl
 obtain⟨i,hi,hz0,hz1,hz2⟩:=info_parts jr
 rw [e];simp [sizeOf,typeInfo,hi,hz1]
theorem C1 (b o off m:Nat)(ho:off+m<=64):∃so,(m=0\/so=o+off)/\∀W:World,(Instr.sliceAt 387 (.pointer (some ⟨b,o,none⟩)) (some (.int .i64 (off:Int))) (some (.int .i64 ((off:Int)+(m:Int)))) (some (.int .i64 ((off:Int)+(m:Int))))).run Tryz.prog W=.ok (.slice (some ⟨b,so,none⟩) m m) W:=by
 have h:∀W:World,(Instr.sliceAt 387 (.pointer (some ⟨b,o,none⟩)) (some (.int .i64 (off:Int))) (some (.int .i64 ((off:Int)+(m:Int)))) (some (.int .i64 ((off:Int)+(m:Int))))).run Tryz.prog W=.ok (slicedAt ⟨b,o,none⟩ off (off+m) (off+m) 1) W:=λW=>by
  rw [run_sliceAt_array_lhm (P:=Tryz.prog) W 387 ⟨b,o,none⟩ B3 .i64 .i64 .i64 (off:Int) ((off:Int)+(m:Int)) ((off:Int)+(m:Int)) (by omega) (by omega) (by omega) (by rw [sN];omega),k9]
  have e:((off:Int)+(m:Int)).toNat=off+m:=by omega
  simp [e]
 by_cases hm:m=0
 ·subst hm
  exact⟨o,.inl rfl,λW=>by rw [h W];simp [slicedAt]⟩
 ·refine⟨o+off,.inr rfl,λW=>?_⟩
  rw [h W,slicedAt,if_neg (by omega),bB];simp
theorem IM (b o off:Nat)(ho:off<=64):∃so,(off=64\/so=o+off)/\∀W:World,(Instr.sliceAt 387 (.pointer (some ⟨b,o,none⟩)) (some (.int .i64 (off:Int))) none none).run Tryz.prog W=.ok (.slice (some ⟨b,so,none⟩) (64 - off) (64 - off)) W:=by
 have h:∀W:World,(Instr.sliceAt 387 (.pointer (some ⟨b,o,none⟩)) (some (.int .i64 (off:Int))) none none).run Tryz.prog W=.ok (slicedAt ⟨b,o,none⟩ off 64 64 1) W:=λW=>by
  rw [run_sliceAt_array_l (P:=Tryz.prog) W 387 ⟨b,o,none⟩ B3 .i64 (off:Int) (by omega) (by rw [sN];omega),k9,sN]
  simp
 by_cases hm:off=64
 ·subst hm
  exact⟨o,.inl rfl,λW=>by rw [h W];simp [slicedAt]⟩
 ·refine⟨o+off,.inr rfl,λW=>?_⟩
  rw [h W,slicedAt,if_neg (by omega),bB];simp
theorem CZ (B:Nat->Nat->Nat)(p off m k:Nat)(h:k<m)(ho:off+m<=64):(bG (oZ B p 0 64))[off+k]?=some (.int .u8 ((B p (off+k):Nat):Int)):=by
 rw [o_ _ _ _ _ _ (by omega),Nat.zero_add]
theorem py (g pb n:Nat)(t:Nat->Bool)(B:Nat->Nat->Nat)(p off m:Nat)(w:World)(h:di w g pb n t B)(hp:t p=true)(ho:off+m<=64) :
  Calls Tryz.prog 268 #[.pointer (some ⟨g,0,none⟩),.int .i64 (p:Int),.int .i64 (off:Int),.int .i64 (m:Int)] w λe w'=>∃a,e=.returned (.tuple #[.slice a m m,.int .i64 0])/\rY w' w.heap.size a m m (bG (oZ B p off m))/\Below w.heap.size w w':=by
 have x:=h.head
 have hpn:=h.only p hp
 have HE:=ab (lT hp hpn ho)
 have P9:=ab (vf h hpn)
 have hz:=aO oI
 obtain⟨Z,hZ⟩:∃Z,Z=Array.replicate 64 (Value.int .u8 0):=⟨_,rfl⟩
 rw [<-hZ] at hz;have H:=ab h
 obtain⟨L,hL⟩:∃L,L=bG (oZ B p 0 64):=⟨_,rfl⟩
 rw [<-hL] at P9;have hl:L.length=64:=by rw [hL,aM,dt]
 have ht:(w.alloc (.cells Z 387)).there w.heap.size 0 64:=λj hj=>by
  have hh:=heap_alloc_new w (.cells Z 387)
  exact⟨by rw [cell_of_row _ _ _ _ _ _ hh,hZ];simp [hj],by simp only [World.frozen?,hh];simp⟩
 have hst:(storeCells ⟨w.heap.size,0,none⟩ L).run Tryz.prog (w.alloc (.cells Z 387))=.ok () ((w.alloc (.cells Z 387)).setCells w.heap.size 0 L) :=
  run_storeCells_cells (P:=Tryz.prog) w.heap.size 0 L 0 _ (λj hj=>by rw [Nat.add_zero];exact (ht j (by omega)).1) (λj hj=>by rw [Nat.add_zero];exact (ht j (by omega)).2) (by rw [hL];exact fH _)
 have HT:=ab ht
 have HL:=ab hL
 have TV:=ab hl
 have Xw:=ab hZ
 clear h ht hL hZ;go_enter Tryz.func268,Tryz.ntmps268
 go_upto_region 4 with (first|(go_at_call 330;refine (jk g pb n t B (p:Int) (off:Int) (m:Int) _ H.out (by omega)).mono ?_;rintro e w1 ⟨rfl,rfl⟩;rw [HE.out]))
 obtain⟨so,hso,hcut⟩:=C1 w1.heap.size 0 off m ho
 have Wz:=ab hso
 clear hso;go_wp2_with (first|((with_reducible refine aV P9.out ?_ ?_);· rfl))
 have hB:Below w1.heap.size w1 ((w1.alloc (.cells Z 387)).setCells w1.heap.size 0 L):=ah.below (S:=(·=w1.heap.size)) (ae w1 (.cells Z 387)) (ah.setCells (S:=(·=w1.heap.size)) (show w1.heap.size=w1.heap.size from rfl) L 0 (ah.refl _ _)) (λk hk=>by rw [hk];exact Nat.le_refl _)
 refine bodyPost_ret (v:=.tuple #[.slice (some ⟨w1.heap.size,so,none⟩) m m,.int .i64 0]) (by simp [results,Tryz.results268,go_sem]) rfl ⟨_,rfl,⟨Row.at (by rw [aM,dt]) (Nat.le_refl _) (fH _) (λi v hv=>?_),λx hx j=>?_,λk hk=>?_,λk hk=>?_⟩,hB⟩
 ·have hi:i<m:=by have:=(List.getElem?_eq_some_iff.1 hv).1;rwa [aM,dt] at this
  rw [o_ _ _ _ _ _ hi] at hv;have hs:so=off:=by have:=Wz.out;omega
  rw [hs];have:=World.rangeAt_setCells_same (w1.alloc (.cells Z 387)) w1.heap.size 0 L (by rw [hl];exact HT.out) (off+i) v (by rw [HL.out,CZ B p off m i hi ho];exact hv)
  rwa [Nat.zero_add] at this
 ·cases hx
  rw [World.frozen?_setCells];have hh:=heap_alloc_new w1 (.cells Z 387)
  simp only [World.frozen?,hh];simp
 ·obtain⟨x,hx,rfl⟩:=hk
  cases hx
  exact Nat.le_refl _
 ·obtain⟨x,hx,rfl⟩:=hk
  cases hx
  rw [cO];simp
theorem di.copy {w:World}{g pb n:Nat}{t:Nat->Bool}{B:Nat->Nat->Nat}{p off so:Nat}{D:List Nat}{a:Option Addr}{m cap:Nat}(h:di w g pb n t B)(hp:t p=true)(ho:off+m<=64)(hD:∀x∈D,x<256)(hR:Row w a m cap (bG D))(hso:off=64\/so=p*64+off) :
  ∃v w',(Builtin.copy_ #[38,38] 3 #[.slice (some ⟨pb,so,none⟩) (64 - off) (64 - off),.slice a m cap]).run Tryz.prog w=.ok v w'/\di w' g pb n t (BB B p off D)/\ah (·=pb) w w':=by
 have hpn:=h.only p hp
 have hlen:=hR.len
 rw [aM] at hlen;by_cases hm:m=0
 ·subst hm
  refine⟨_,w,run_copy_none (P:=Tryz.prog) w 38 38 3 5 _ _ _ _ _ _ Tryz.underlying38 (by kernel_rfl) (by simp),h.congr ?_,ah.refl _ _⟩
  funext i j
  unfold BB;rw [if_neg (by omega)]
 ·obtain⟨b,o,rfl,hc⟩:=hR.plain (by omega)
  have hs:so=p*64+off:=by omega
  subst hs;have hpg:∀j,j<m->az w ⟨pb,p*64+off+j,none⟩ (.int .u8 ((B p (off+j):Nat):Int)):=λj hj=>by
   have:=h.kB p (off+j) hpn (by omega)
   rwa [<-Nat.add_assoc] at this
  have hlu:(bG D).length=m:=hR.len
  refine⟨_,_,run_copy_cells (P:=Tryz.prog) w 38 38 3 5 pb (p*64+off) (64 - off) (64 - off) ⟨b,o,none⟩ m cap (bG D) Tryz.underlying38 (by kernel_rfl) (by rw [hlu];exact (Nat.min_eq_left (by omega)).symm) (hR.cells _ rfl) (λj hj=>by rw [(hpg j (by omega)).1];rfl) (λj hj=>(hpg j (by omega)).2) (fH _),h.write hp (by omega) hD,ah.setCells (S:=(·=pb)) (show pb=pb from rfl) _ _ (ah.refl _ _)⟩
theorem mf (g pb n:Nat)(t:Nat->Bool)(B:Nat->Nat->Nat)(p off:Nat)(a:Option Addr)(m cap:Nat)(D:List Nat)(w:World)(h:di w g pb n t B)(hp:t p=true)(ho:off+m<=64)(hD:∀x∈D,x<256)(hR:Row w a m cap (bG D)) :
  Calls Tryz.prog 269 #[.pointer (some ⟨g,0,none⟩),.int .i64 (p:Int),.int .i64 (off:Int),.slice a m cap] w λe w'=>e=.returned (.int .i64 0)/\di w' g pb n t (BB B p off D)/\ah (·=pb) w w':=by
 have x:=h.head
 have hpn:=h.only p hp
 have HE:=ab (lT hp hpn ho)
 obtain⟨so,hso,hcut⟩:=IM pb (p*64) off (by omega)
 obtain⟨v,w2,hrun,hA,hB⟩:=h.copy hp ho hD hR hso
 have H:=ab h
 have HA:=ab hA
 clear h hA hR hso hD;go_enter Tryz.func269,Tryz.ntmps269
 go_upto_region 4 with (first|(go_at_call 330;refine (jk g pb n t B (p:Int) (off:Int) (m:Int) _ H.out (by omega)).mono ?_;rintro e w1 ⟨rfl,rfl⟩;rw [HE.out]))
 go_wp2;go_ret;exact⟨rfl,HA.out,hB⟩
theorem di.ext {w:World}{g pb n:Nat}{t:Nat->Bool}{B C:Nat->Nat->Nat}(h:di w g pb n t B)(e:∀i j,i<n->j<64->C i j=B i j)(hz:∀i j,t i=false->C i j=0)(hs:∀i j,C i j<256):di w g pb n t C :=
 ⟨h.ne,h.le,h.head,h.mark,λi j hi hj=>by rw [e i j hi hj];exact h.kB i j hi hj,h.lt,h.only,hz,hs⟩
theorem AK (g pb n:Nat)(t:Nat->Bool)(B:Nat->Nat->Nat)(p:Nat)(w:World)(h:di w g pb n t B)(hp:t p=true) :
  Calls Tryz.prog 389 #[.pointer (some ⟨pb,p*64,none⟩)] w λe w'=>e=.returned (.tuple #[])/\di w' g pb n t (λi j=>if i=p then 0 else B i j)/\ah (·=pb) w w':=by
 refine (zt g pb n t B p w h hp).mono ?_
 rintro e w' ⟨rfl,hA,hB⟩
 refine⟨rfl,hA.ext (λi j hi hj=>?_) (λi j hi=>?_) (λi j=>?_),hB⟩
 ·by_cases e:i=p
  ·simp [e,hj]
  ·simp [e]
 ·have:=h.zero i j hi
  split<;>simp_all
 ·have:=h.small i j
  split<;>omega
def rT (t:Nat->Bool):List Value:=(List.range 256).map λj=>.bool (t j)
theorem ct (t:Nat->Bool):(rT t).length=256:=by simp [rT]
theorem DB (t:Nat->Bool)(j:Nat)(hj:j<256):(rT t)[j]?=some (.bool (t j)):=by simp [rT,hj]
theorem DI (t:Nat->Bool):∀u∈rT t,u.oneCell'=true:=by
 intro u hu;simp only [rT,List.mem_map] at hu;obtain⟨n,_,rfl⟩:=hu
 rfl
theorem GS:(Tryz.prog.info? 309).map (·.size)=some 256:=by kernel_rfl
theorem C_:(Tryz.prog.info? 309).map (λi=>(i.zero,i.size,i.bytes))=some (some (.agg (Array.replicate 256 (.bool false))),256,256):=by kernel_rfl
def pN (w:World)(b o:Nat)(u:Nat->Bool):Prop:=∀j,j<256->az w ⟨b,o+j,none⟩ (.bool (u j))
theorem pN.but {S:Nat->Prop}{w w':World}{b o:Nat}{u:Nat->Bool}(hb:ah S w w')(h:pN w b o u)(hn:¬S b):pN w' b o u:=λj hj=>(h j hj).but hb hn
theorem pN.range {w:World}{b o:Nat}{u:Nat->Bool}(h:pN w b o u):w.rangeAt b o (rT u):=λj v hv=>by
 have hj:j<256:=by have:=(List.getElem?_eq_some_iff.1 hv).1;rwa [ct] at this
 rw [DB _ _ hj] at hv;cases hv
 exact (h j hj).1
theorem yr {w:World}{b o:Nat}{u:Nat->Bool}(h:pN w b o u):(Instr.loadAt 309 (.pointer (some ⟨b,o,none⟩))).run Tryz.prog w=.ok (.agg (rT u).toArray) w :=
 run_loadAt_mid (P:=Tryz.prog) w b o 309 _ _ h.range Tryz.underlying309 rfl (by rw [GS,ct])
theorem vE {w:World}{b o:Nat}{v:Nat->Bool}(h:pN w b o v)(u:Nat->Bool):(storeCells ⟨b,o,none⟩ (rT u)).run Tryz.prog w=.ok () (w.setCells b o (rT u)) :=
 run_storeCells_cells (P:=Tryz.prog) b o (rT u) 0 w (λj hj=>by rw [ct] at hj;rw [Nat.add_zero,(h j hj).1];rfl) (λj hj=>by rw [ct] at hj;rw [Nat.add_zero];exact (h j hj).2) (DI u)
theorem pN.put {w:World}{b o:Nat}{v:Nat->Bool}(h:pN w b o v)(u:Nat->Bool):pN (w.setCells b o (rT u)) b o u:=λj hj=>by
 refine⟨?_,by rw [World.frozen?_setCells];exact (h j hj).2⟩
 rw [World.cell?_setCells_in b (rT u) o w (λi hi=>by rw [ct] at hi;rw [(h i hi).1];rfl) j (by rw [ct];exact hj)]
 simp [rT]
theorem pN.set {w:World}{b o k:Nat}{v u:Nat->Bool}{x:Bool}(h:pN w b o v)(hk:k<256)(hu:∀i,u i=if i=k then x else v i):pN (w.setCell ⟨b,o+k,none⟩ (.bool x)) b o u:=λj hj=>by
 rw [hu j];by_cases e:j=k
 ·subst e
  rw [if_pos rfl];exact (h j hj).put
 ·rw [if_neg e]
  exact (h j hj).other (λe2=>e (by have:=congrArg Addr.off e2;simp at this;omega))
theorem CC (w:World):pN (w.alloc (.cells (Array.replicate 256 (.bool false)) 309)) w.heap.size 0 (λ_=>false):=λj hj=>by
 have hh:=heap_alloc_new w (.cells (Array.replicate 256 (.bool false)) 309)
 exact⟨by rw [cell_of_row _ _ _ _ _ _ hh];simp [hj],by simp only [World.frozen?,hh];simp⟩
def DH (n:Nat)(t:Nat->Bool)(l:List Int):Prop:=(∀x∈l,uA n x=true/\t x.toNat=true)/\l.Nodup
def gT (t:Nat->Bool)(l:List Int):Nat->Bool:=λj=>t j&&!decide ((j:Int)∈l)
def gB (B:Nat->Nat->Nat)(l:List Int):Nat->Nat->Nat:=λi j=>if (i:Int)∈l then 0 else B i j
theorem di.marks {w:World}{g pb n:Nat}{t u:Nat->Bool}{B:Nat->Nat->Nat}(h:di w g pb n t B)(hu:∀i,u i=true->i<n)(hz:∀i j,u i=false->B i j=0):di (w.setCells g 1 (rT u)) g pb n u B:=by
 have hR:pN w g 1 t:=h.mark
 have hne:=h.ne
 refine⟨h.ne,h.le,?_,hR.put u,λi j hi hj=>⟨?_,?_⟩,by rw [cO];exact h.lt,hu,hz,h.small⟩
 ·rw [World.cell?_setCells_out _ _ _ _ _ (λ_ _=>.inl (show 0<1 by omega))]
  exact h.head
 ·rw [World.cell?_setCells_out _ _ _ _ _ (λe=>absurd e.symm hne)]
  exact (h.kB i j hi hj).1
 ·rw [World.frozen?_setCells]
  exact (h.kB i j hi hj).2
def yz (w:World)(n:Nat)(t:Nat->Bool)(l:List Int)(rb:Nat)(v:Value)(w':World):Prop :=
 ∃i:Nat,v=.int .i64 (i:Int)/\i<=l.length/\DH n t (l.take i)/\pN w' rb 0 (gT t (l.take i))/\Below w.heap.size w w'
def Ag (w1:World)(g pb n:Nat)(t:Nat->Bool)(B:Nat->Nat->Nat)(l:List Int)(v:Value)(w':World):Prop :=
 ∃i:Nat,v=.int .i64 (i:Int)/\i<=l.length/\di w' g pb n t (gB B (l.take i))/\ah (·=pb) w1 w'
theorem dq (l:List Int)(i:Nat)(h:i<l.length):l.take (i+1)=l.take i++[l[i]]:=by
 rw [List.take_add_one,List.getElem?_eq_getElem h];rfl
theorem rq {n:Nat}{t:Nat->Bool}{l:List Int}{i:Nat}(hi:i<l.length)(h:uA n l[i]=false):¬DH n t l:=λhg=>by
 have:=(hg.1 _ (List.getElem_mem hi)).1
 rw [h] at this;cases this
theorem sn {n:Nat}{t:Nat->Bool}{l:List Int}{i k:Nat}(hi:i<l.length)(hk:l[i]=(k:Int))(h:gT t (l.take i) k=false):¬DH n t l:=λhg=>by
 have h1:=(hg.1 _ (List.getElem_mem hi)).2
 rw [hk,Int.toNat_natCast] at h1;simp only [gT,h1,Bool.true_and,Bool.not_eq_false',decide_eq_true_eq] at h;have h2:=(List.take_sublist (i+1) l).nodup hg.2
 rw [dq l i hi,hk,List.nodup_append] at h2;exact h2.2.2 _ h _ (by simp) rfl
theorem Bs {n:Nat}{t:Nat->Bool}{l:List Int}{i k:Nat}(hi:i<l.length)(hk:l[i]=(k:Int))(hkn:k<n)(h:gT t (l.take i) k=true)(hg:DH n t (l.take i)):DH n t (l.take (i+1)):=by
 simp only [gT,Bool.and_eq_true,Bool.not_eq_true',decide_eq_false_iff_not] at h;rw [dq l i hi,hk];refine⟨λx hx=>?_,?_⟩
 ·rcases List.mem_append.1 hx with h1|h1
  ·exact hg.1 x h1
  ·simp only [List.mem_singleton] at h1
   subst h1;exact⟨decide_eq_true (by omega),by rw [Int.toNat_natCast];exact h.1⟩
 ·rw [List.nodup_append]
  refine⟨hg.2,by simp,λx hx y hy e=>?_⟩
  simp only [List.mem_singleton] at hy;rw [e,hy] at hx;exact h.2 hx
theorem Dt {t:Nat->Bool}{l:List Int}{i k:Nat}(hi:i<l.length)(hk:l[i]=(k:Int))(j:Nat):gT t (l.take (i+1)) j=if j=k then false else gT t (l.take i) j:=by
 rw [dq l i hi,hk];simp only [gT,List.mem_append,List.mem_singleton];by_cases e:j=k
 ·simp [e]
 ·have:¬(j:Int)=(k:Int):=by omega
  simp [e,this]
theorem DK {B:Nat->Nat->Nat}{l:List Int}{i k:Nat}(hi:i<l.length)(hk:l[i]=(k:Int)):gB B (l.take (i+1))=λx j=>if x=k then 0 else gB B (l.take i) x j:=by
 funext x j
 rw [dq l i hi,hk];simp only [gB,List.mem_append,List.mem_singleton];by_cases e:x=k
 ·simp [e]
 ·have:¬(x:Int)=(k:Int):=by omega
  simp [e,this]
theorem AN (g pb n:Nat)(t:Nat->Bool)(B:Nat->Nat->Nat)(a:Option Addr)(m cap:Nat)(l:List Int)(w:World)(h:di w g pb n t B)(hR:Row w a m cap (ints l))(hm63:m<9223372036854775807)(hap:∀k,aJ a k->k≠pb) :
  Calls Tryz.prog 366 #[.pointer (some ⟨g,0,none⟩),.slice a m cap] w λe w'=>(DH n t l/\e=.returned (.int .i64 0)/\di w' g pb n (gT t l) (gB B l)/\ah (λk=>k=g\/k=pb) w w')\/(¬DH n t l/\e=.returned (.int .i64 20)/\Below w.heap.size w w'):=by
 have P9:=ab (yr (w:=w) (b:=g) (o:=1) h.mark)
 have hz:=aO C_
 obtain⟨Z,hZ⟩:∃Z,Z=Array.replicate 256 (Value.bool false):=⟨_,rfl⟩
 have hr0:=CC w
 rw [<-hZ] at hz hr0;have hst:=vE hr0 t
 have hR1:=hr0.put t
 obtain⟨L,hL⟩:∃L,L=rT t:=⟨_,rfl⟩
 have hll:L.length=256:=by rw [hL,ct]
 rw [<-hL] at hst P9 hR1;obtain⟨w1,hw1⟩:∃w1,w1=(w.alloc (.cells Z 309)).setCells w.heap.size 0 L:=⟨_,rfl⟩
 rw [<-hw1] at hst hR1;have hB1:Below w.heap.size w w1:=by
  rw [hw1];exact ah.below (S:=(·=w.heap.size)) (ae w (.cells Z 309)) (ah.setCells (S:=(·=w.heap.size)) (show w.heap.size=w.heap.size from rfl) L 0 (ah.refl _ _)) (λk hk=>by rw [hk];exact Nat.le_refl _)
 have PC:=ab hB1
 have QD:=ab hR1
 have H:=ab h
 have HR:=ab hR
 have hgl:=h.B9
 have hpl:=h.lt
 have hn:=h.le
 have hlen:l.length=m:=by have:=hR.len;rwa [aL] at this
 have RX:=ab hap
 clear h hR hL hZ hr0 hR1 hw1 hB1 hap;go_enter Tryz.func366,Tryz.ntmps366
 go_upto_region 2 with (first|((with_reducible refine aV P9.out ?_ ?_);· rfl))
 clear P9 hz hst hll;go_upto_region 3 with fail
 go_loopw [16] (yz w n t l w.heap.size) (λk _=>m - (intOf k).toNat)
 case atStart=>exact⟨0,rfl,Nat.zero_le _,⟨λx hx=>by simp at hx,by simp⟩,by
  have e:gT t (l.take 0)=t:=by funext j;simp [gT]
  rw [e];exact QD.out,PC.out⟩
 case round =>
  clear QD PC;obtain⟨i,rfl,hi,hok,hrst,hB⟩:=hrel
  have T4:=ab hrst
  have HB:=ab hB
  have RQ:=ab hok
  clear hrst hB hok;by_cases hlt:i<m
  ·have hd:decide ((i:Int)<(m:Int))=true:=decide_eq_true (by omega)
   obtain⟨b,o,rfl,hc⟩:=HR.out.plain (by omega)
   have y:=cell_later HB.out (hc i _ (ef l i (by omega)))
   have hx:=(H.out.later HB.out).head
   obtain⟨q,hq⟩:∃q,q=l[i]:=⟨_,rfl⟩
   rw [<-hq] at y;have HQ:=ab hq
   clear hc hq;have hil:i<l.length:=by omega
   cases hth:uA n q with
   | false =>
    go_wp2_with (first|(go_at_call 372;refine (bo g pb n q _ hx).mono ?_;rintro e w2 ⟨rfl,rfl⟩;rw [hth]))
    go_ret;exact .inr ⟨rq hil (by rw [<-HQ.out];exact hth),rfl,HB.out⟩
   | true =>
    obtain⟨k,rfl⟩:∃k:Nat,q=(k:Int):=⟨q.toNat,by simp [uA] at hth;omega⟩
    have hkn:k<n:=by simp [uA] at hth;omega
    have hk2:k<256:=by omega
    have z:=T4.out k hk2
    rw [Nat.zero_add] at z;have z1:=z.1
    have z2:=z.2
    clear z;cases hg:gT t (l.take i) k with
    | false =>
     rw [hg] at z1;go_wp2_with (first|(go_at_call 372;refine (bo g pb n (k:Int) _ hx).mono ?_;rintro e w2 ⟨rfl,rfl⟩;rw [hth]))
     go_ret;exact .inr ⟨sn hil HQ.out.symm hg,rfl,HB.out⟩
    | true =>
     rw [hg] at z1;have HN:Hid (pN (wr.setCell ⟨w.heap.size,k,none⟩ (.bool false)) w.heap.size 0 (gT t (l.take (i+1)))):=ab (by
      have:=T4.out.set (x:=false) hk2 (Dt (t:=t) hil HQ.out.symm)
      rwa [Nat.zero_add] at this)
     have TP:Hid (Below w.heap.size w (wr.setCell ⟨w.heap.size,k,none⟩ (.bool false))):=HB.out.setCell (Nat.le_refl _) _
     have WT:=ab (Bs hil HQ.out.symm hkn hg RQ.out)
     go_wp2_with (first|(go_at_call 372;refine (bo g pb n (k:Int) _ hx).mono ?_;rintro e w2 ⟨rfl,rfl⟩;rw [hth]))
     exact⟨⟨i+1,rfl,by omega,WT.out,HN.out,TP.out⟩,by simp [intOf];omega⟩
  ·obtain rfl:i=m:=by omega
   have hd:decide ((i:Int)<(i:Int))=false:=by simp
   have e0:l.take i=l:=by rw [List.take_of_length_le (by omega)]
   rw [e0] at T4 RQ;have QI:=ab (H.out.later HB.out)
   have WL:=ab (HR.out.later HB.out)
   go_upto_region 10 with fail
   go_loopw [35] (Ag wr g pb n t B l) (λk _=>i - (intOf k).toNat)
   case atStart=>exact⟨0,rfl,Nat.zero_le _,QI.out.congr (by funext x j;simp [gB]),ah.refl _ _⟩
   case round =>
    obtain⟨j,rfl,hj,hA,hBt⟩:=hrel
    rename World=>wq
    have HA:=ab hA
    have PH:=ab hBt
    clear hA hBt;by_cases hjl:j<i
    ·have hd2:decide ((j:Int)<(i:Int))=true:=decide_eq_true (by omega)
     have hil:j<l.length:=by omega
     obtain⟨b,o,rfl,hc⟩:=WL.out.plain (by omega)
     have hbn:b≠pb:=RX.out b ⟨_,rfl,rfl⟩
     have y:=ag PH.out (hc j _ (ef l j hil)) hbn
     have hx:=HA.out.head
     obtain⟨hq1,hq2⟩:=RQ.out.1 _ (List.getElem_mem hil)
     obtain⟨k,hk⟩:∃k:Nat,l[j]=(k:Int):=⟨l[j].toNat,by simp [uA] at hq1;omega⟩
     rw [hk] at y hq1 hq2;rw [Int.toNat_natCast] at hq2;have hkn:k<n:=by simp [uA] at hq1;omega
     have HK:=ab hk
     clear hc hk hq1;go_wp2_with (first|(go_at_call 389;refine (AK g pb n t (gB B (l.take j)) k _ HA.out hq2).mono ?_;rintro e w2 ⟨rfl,A2,B2⟩;have QZ:=ab A2;have PB:=ab (PH.out.trans B2);clear A2 B2))
     exact⟨⟨j+1,rfl,by omega,QZ.out.congr (DK hil HK.out).symm,PB.out⟩,by simp [intOf];omega⟩
    ·obtain rfl:j=i:=by omega
     have hd2:decide ((j:Int)<(j:Int))=false:=by simp
     rw [e0] at HA;have hne:w.heap.size≠pb:=by omega
     have hR2:=T4.out.but PH.out hne
     have P9:=ab (yr hR2)
     have hm:pN wq g 1 t:=HA.out.mark
     have hst:=vE hm (gT t l)
     have HN:=ab (HA.out.marks (u:=gT t l) (λx hx=>HA.out.only x (by simp [gT] at hx;exact hx.1)) (λx y hx=>by
      by_cases e:(x:Int)∈l
      ·simp [gB,e]
      ·have:t x=false:=by simpa [gT,e] using hx
       have:=HA.out.zero x y this
       simpa [gB,e] using this))
     obtain⟨L2,hL2⟩:∃L,L=rT (gT t l):=⟨_,rfl⟩
     have hll:L2.length=256:=by rw [hL2,ct]
     rw [<-hL2] at P9 hst HN;have TP:Hid (ah (λk=>k=g\/k=pb) w (wq.setCells g 1 L2)):=ah.setCells (S:=λk=>k=g\/k=pb) (.inl rfl) L2 1 ((ah.of HB.out).trans (PH.out.mono (λ_ h=>.inr h)))
     clear hR2 hm hL2;go_wp2_with (first|((with_reducible refine aV P9.out ?_ ?_);· rfl))
     go_ret;exact .inl ⟨RQ.out,rfl,HN.out,TP.out⟩
end Go.Proofs.YtffmodpgddecnaaGreatDoor.S
namespace Go.Proofs.YtffmodpgddecnaaGreatDoor.R
def aq:Nat:=18446744073709551616
def cI (v k:Nat):List Nat:=(List.range k).map λi=>v / 256 ^ i%256
theorem iT (v:Nat):cI v 0=[]:=rfl
theorem iR (v k:Nat):cI v (k+1)=cI v k++[v / 256 ^ k%256]:=by simp [cI,List.range_succ]
theorem cT (v k:Nat):(cI v k).length=k:=by simp [cI]
theorem oq (v k:Nat):∀x∈cI v k,x<256:=by
 intro x hx;simp only [cI,List.mem_map] at hx;obtain⟨i,_,rfl⟩:=hx
 omega
theorem uY (v k j:Nat)(h:k<=j):cI (v%256 ^ j) k=cI v k:=by
 unfold cI;apply List.map_congr_left
 intro i hi;have hi:i<k:=List.mem_range.1 hi
 have e:(256:Nat) ^ j=256 ^ i*(256*256 ^ (j - i - 1)):=by rw [<-Nat.mul_assoc,<-Nat.pow_succ,<-Nat.pow_add];congr 1;omega
 rw [e,Nat.mod_mul_right_div_self,Nat.mod_mul_right_mod]
end Go.Proofs.YtffmodpgddecnaaGreatDoor.R
namespace Go.Proofs.YtffmodpgddecnaaGreatDoor.R
structure Cl where
 op:Int
 aB:Int
 size:Int
 obj:Int
 hi:Nat
 lo:Nat
 given:Bool
 aA:Int
 off:Int
 n:Int
 data:List Nat
 index:Int
 ax:List Int
def clz (op aB:Int):Cl:=⟨op,aB,0,0,0,0,false,0,0,0,[],0,[]⟩
def wi (n a b:Int):Bool:=decide (a<=n)&&decide (n<=b)
theorem gE {n a b:Int}:wi n a b=true↔a<=n/\n<=b:=by simp [wi]
def zu (n:Int):Bool:=wi n (-2147483648) 2147483647
def uQ (l:List Int):Bool:=decide (l.length<=255)&&l.all (λg=>wi g 0 65535)
def dM (c:Cl):Bool:=wi c.aB 0 65535&&zu c.size&&zu c.off&&zu c.n&&wi c.obj 0 4611686018427387904&&wi c.aA 0 255&&wi c.index 0 65535&&decide (c.data.length<=1025)&&uQ c.ax
def Ew (c:Cl):Bool:=if c.op=5\/c.op=6 then c.given||decide (c.hi=0/\c.lo=0) else true
def bH (op:Int):List Nat :=
 if op=1 then [0] else if op=2\/op=4\/op=7 then [1,2] else if op=3 then [1,2,4] else if op=5 then [1,3,2,5,6] else if op=6 then [1,3,2,5,7] else if op=8 then [8] else if op=9 then [9] else []
def mv (p:Nat)(c d:Cl):Cl :=
 if p=0 then { c with size:=d.size } else if p=1 then { c with obj:=d.obj } else if p=2 then { c with hi:=d.hi,lo:=d.lo } else if p=3 then { c with given:=d.given } else if p=4 then { c with aA:=d.aA }
 else if p=5 then { c with off:=d.off } else if p=6 then { c with n:=d.n } else if p=7 then { c with data:=d.data } else if p=8 then { c with index:=d.index } else if p=9 then { c with ax:=d.ax } else c
def wo (c:Cl)(p:Nat):Cl:=mv p c (clz 0 0)
def JD (c:Cl):Cl:=(bH c.op).foldl wo c
def FN (c:Cl):Bool:=decide (c.size=0)&&decide (c.obj=0/\c.hi=0/\c.lo=0)&&!c.given&&decide (c.aA=0)&&decide (c.off=0)&&decide (c.n=0)&&decide (c.data.length=0)&&decide (c.index=0)&&decide (c.ax.length=0)
def fm (c:Cl):Bool:=wi c.op 1 10&&dM c&&Ew c&&FN (JD c)
def sg (n:Int):Nat:=(n%4294967296).toNat
theorem I_ (n:Int):sg n<4294967296:=by unfold sg;omega
def g2 (l:List Int):List Nat:=(l.map (λg=>cI g.toNat 2)).flatten
def jC (c:Cl)(p:Nat):List Nat :=
 if p=0 then cI (sg c.size) 4 else if p=1 then cI c.obj.toNat 8 else if p=2 then cI c.lo 8++cI c.hi 8 else if p=3 then cI (if c.given then 1 else 0) 1 else if p=4 then cI c.aA.toNat 1
 else if p=5 then cI (sg c.off) 4 else if p=6 then cI (sg c.n) 4 else if p=7 then c.data else if p=8 then cI c.index.toNat 2 else if p=9 then cI c.ax.length 1++g2 c.ax else []
def dG (c:Cl):List Nat->List Nat
 | []=>[]
 | p::ps=>jC c p++dG c ps
theorem pX (c:Cl)(l m:List Nat):dG c (l++m)=dG c l++dG c m:=by
 induction l with
 | nil=>rfl
 | cons p l ih=>simp [dG,ih]
def ly (c:Cl):List Nat:=cI c.op.toNat 1++cI c.aB.toNat 2++dG c (bH c.op)
theorem nZ (l m:List Int):g2 (l++m)=g2 l++g2 m:=by simp [g2]
theorem yv (g:Int):g2 [g]=cI g.toNat 2:=by simp [g2]
theorem nj (l:List Int):(g2 l).length=2*l.length:=by
 induction l with
 | nil=>rfl
 | cons g l ih=>rw [show g::l=[g]++l from rfl,nZ,List.length_append,yv,ih,cT];simp;omega
def KS (c:Cl)(p:Nat):Prop :=
 (p=0->zu c.size=true)/\(p=1->wi c.obj 0 4611686018427387904=true)/\(p=2->c.hi<18446744073709551616/\c.lo<18446744073709551616)/\(p=4->wi c.aA 0 255=true)/\(p=5->zu c.off=true)/\(p=6->zu c.n=true) /\
 (p=7->c.data.length<=1025)/\(p=8->wi c.index 0 65535=true)/\(p=9->uQ c.ax=true)
end Go.Proofs.YtffmodpgddecnaaGreatDoor.R
namespace Go.Proofs.YtffmodpgddecnaaGreatDoor.R
theorem qz (op:Int):(∀q∈bH op,q<10)/\(bH op).Nodup:=by
 unfold bH;repeat' split
 all_goals decide
theorem dx {c:Cl}(h:dM c=true)(h1:c.hi<18446744073709551616)(h2:c.lo<18446744073709551616)(p:Nat):KS c p:=by
 simp only [dM,Bool.and_eq_true,decide_eq_true_eq] at h;obtain⟨⟨⟨⟨⟨⟨⟨⟨a,b⟩,c⟩,d⟩,e⟩,f⟩,g⟩,i⟩,j⟩:=h
 exact⟨λ_=>b,λ_=>e,λ_=>⟨h1,h2⟩,λ_=>f,λ_=>c,λ_=>d,λ_=>i,λ_=>g,λ_=>j⟩
theorem D4 {c:Cl}:FN c=true↔c.size=0/\c.obj=0/\c.hi=0/\c.lo=0/\c.given=false/\c.aA=0/\c.off=0/\c.n=0/\c.data=[]/\c.index=0/\c.ax=[]:=by
 simp only [FN,Bool.and_eq_true,decide_eq_true_eq,Bool.not_eq_true',List.length_eq_zero_iff];constructor
 ·rintro ⟨⟨⟨⟨⟨⟨⟨⟨a,b⟩,c⟩,d⟩,e⟩,f⟩,g⟩,h⟩,i⟩
  exact⟨a,b.1,b.2.1,b.2.2,c,d,e,f,g,h,i⟩
 ·rintro ⟨a,b1,b2,b3,c,d,e,f,g,h,i⟩
  exact⟨⟨⟨⟨⟨⟨⟨⟨a,b1,b2,b3⟩,c⟩,d⟩,e⟩,f⟩,g⟩,h⟩,i⟩
end Go.Proofs.YtffmodpgddecnaaGreatDoor.R
namespace Go.Proofs.YtffmodpgddecnaaGreatDoor.R
open Go.RowKit
theorem jr:(Tryz.prog.info? 5).map (λi=>(i.zero,i.size,i.bytes))=some (some (.int .u8 0),1,1):=by kernel_rfl
def bG (l:List Nat):List Value:=l.map λ(n:Nat)=>Value.int .u8 (n:Int)
theorem aM (l:List Nat):(bG l).length=l.length:=by simp [bG]
theorem fE (l m:List Nat):bG (l++m)=bG l++bG m:=by simp [bG]
theorem oR (l:List Nat)(i:Nat)(h:i<l.length):(bG l)[i]?=some (.int .u8 ((l[i]:Nat):Int)):=by simp [bG,h]
theorem fH (l:List Nat):∀u∈bG l,u.oneCell'=true:=by
 intro u hu;simp only [bG,List.mem_map] at hu;obtain⟨n,_,rfl⟩:=hu
 rfl
structure Row (w:World)(a:Option Addr)(n cap:Nat)(L:List Nat):Prop where
 len:L.length=n
 cap_:n<=cap
 none_:a=none->n=0/\cap=0
 cells:∀x,a=some x->∀j u,(bG L)[j]?=some u->w.cell? (x.add j)=some u
 small:∀x∈L,x<256
theorem Row.later {W w1:World}{a:Option Addr}{n cap:Nat}{L:List Nat}(hb:Below W.heap.size W w1)(h:Row W a n cap L):Row w1 a n cap L :=
 ⟨h.len,h.cap_,h.none_,λx hx j u hu=>cell_later hb (h.cells x hx j u hu),h.small⟩
theorem dS (w:World):Row w none 0 0 []:=⟨rfl,Nat.le_refl _,λ_=>⟨rfl,rfl⟩,λ_ h=>(by cases h),λ_ h=>(by cases h)⟩
theorem Row.at {w:World}{b o n cap:Nat}{L:List Nat}(hl:L.length=n)(hc:n<=cap)(hs:∀x∈L,x<256)(h:∀i (hi:i<L.length),w.cell? ⟨b,o+i,none⟩=some (.int .u8 ((L[i]:Nat):Int))):Row w (some ⟨b,o,none⟩) n cap L:=by
 refine⟨hl,hc,λh=>(by cases h),λx hx j u hu=>?_,hs⟩
 cases hx
 rw [bB];have hj:j<L.length:=by have:=(List.getElem?_eq_some_iff.1 hu).1;rwa [aM] at this
 rw [oR L j hj] at hu;cases hu
 exact h j hj
structure Own (w:World)(base:Nat)(a:Option Addr)(n cap:Nat)(L:List Nat):Prop where
 row:w.ownsRow base 5 1 (.slice a n cap) n (bG L)
 small:∀x∈L,x<256
theorem Own.len {w:World}{base:Nat}{a:Option Addr}{n cap:Nat}{L:List Nat}(h:Own w base a n cap L):L.length=n:=by
 have:=h.row.1
 rw [aM,Nat.mul_one] at this;exact this
theorem Own.read {w:World}{base:Nat}{a:Option Addr}{n cap:Nat}{L:List Nat}(h:Own w base a n cap L):Row w a n cap L:=by
 refine⟨h.len,?_,?_,?_,h.small⟩
 ·rcases h.row.2 with ⟨h,hn⟩|⟨g,c,cur,hv,_,_,hc,_⟩
  ·omega
  ·simp only [Value.slice.injEq] at hv;omega
 ·intro ha
  rcases h.row.2 with ⟨h,hn⟩|⟨g,c,cur,hv,_,_,hc,_⟩
  ·simp only [Value.slice.injEq] at h;omega
  ·subst ha;simp at hv
 ·intro x hx j u hu
  rcases h.row.2 with ⟨h,hn⟩|⟨g,c,cur,hv,_,_,hc,_⟩
  ·subst hx;simp at h
  ·subst hx
   simp only [Value.slice.injEq,Option.some.injEq] at hv;obtain⟨rfl,_,rfl⟩:=hv
   exact h.row.cells (g:=g) rfl j u hu
theorem nM {W w1:World}{base:Nat}{e:TypeId}{size:Nat}{v:Value}{n:Nat}{xs:List Value}(hb:Below W.heap.size W w1)(h:W.ownsRow base e size v n xs):w1.ownsRow base e size v n xs:=by
 refine⟨h.1,?_⟩
 rcases h.2 with h|⟨g,cap,cur,hv,hg,hh,r⟩
 ·exact .inl h
 ·have hlt:g<W.heap.size:=by
   rcases Nat.lt_or_ge g W.heap.size with h1|h1
   ·exact h1
   ·rw [Array.getElem?_eq_none h1] at hh;cases hh
  exact .inr ⟨g,cap,cur,hv,hg,by rw [hb.block g hlt];exact hh,r⟩
theorem bu {w:World}{base:Nat}{e:TypeId}{size:Nat}{v:Value}{n:Nat}{xs:List Value}(h:w.ownsRow base e size v n xs):∀k,v.ownBlock=some k->base<=k:=by
 intro k hk;rcases h.2 with ⟨rfl,_⟩|⟨g,cap,cur,rfl,hg,_⟩
 ·cases hk
 ·simp [Value.ownBlock] at hk;omega
theorem Own.later {W w1:World}{base:Nat}{a:Option Addr}{n cap:Nat}{L:List Nat}(hb:Below W.heap.size W w1)(h:Own W base a n cap L):Own w1 base a n cap L:=⟨nM hb h.row,h.small⟩
theorem Own.alloc {w:World}{base:Nat}{a:Option Addr}{n cap:Nat}{L:List Nat}(h:Own w base a n cap L)(o:Obj):Own (w.alloc o) base a n cap L:=h.later (ae _ _)
theorem Own.mono {w:World}{base b:Nat}{a:Option Addr}{n cap:Nat}{L:List Nat}(h:Own w base a n cap L)(hb:b<=base):Own w b a n cap L:=⟨gr h.row hb,h.small⟩
theorem Own.bT {w:World}{base:Nat}{a:Option Addr}{n cap:Nat}{L:List Nat}(h:Own w base a n cap L):∀k,aJ a k->base<=k:=λk hk=>bu h.row k (aJ.of.2 hk)
theorem Gr.below {w w':World}{base:Nat}{a a':Option Addr}{n cap:Nat}{L:List Nat}(h:Own w base a n cap L)(g:Gr a a' w w')(hb:base<=w.heap.size):Below base w w' :=
 ⟨g.but.os,g.but.tape,g.but.output,g.but.size,λk hk=>g.but.block k (by omega) (λhs=>by have:=h.bT k hs;omega)⟩
theorem kT {w:World}{base:Nat}{a:Option Addr}{n cap:Nat}{L:List Nat}{b:Option Addr}{m c:Nat}{M:List Nat}(h:Own w base a n cap L)(k:Row w b m c M)(hb:base<=w.heap.size)(hr:n+m<=140737488355328) :
  ∃a' cap' w',(Builtin.append_ #[38,38] 38 #[.slice a n cap,.slice b m c]).run Tryz.prog w=.ok (.slice a' (n+m) cap') w'/\Own w' base a' (n+m) cap' (L++M)/\Gr a a' w w':=by
 obtain⟨i,hi,hz0,hz1,hz2⟩:=info_parts jr
 have hsm:∀x∈L++M,x<256:=λx hx=>by
  rcases List.mem_append.1 hx with h1|h1
  ·exact h.small x h1
  ·exact k.small x h1
 cases b with
 | none =>
  obtain⟨rfl,rfl⟩:=k.none_ rfl
  have hM:M=[]:=List.eq_nil_of_length_eq_zero k.len
  subst hM;have hr:=run_append_owned_none (P:=Tryz.prog) (w:=w) base 38 38 5 i 1 Tryz.underlying38 hi _ n _ h.row
  exact⟨a,cap,w,hr,⟨by simpa using h.row,hsm⟩,Gr.refl _ _⟩
 | some x =>
  obtain⟨v',w',hr,h2,h3,_,h5⟩:=run_append_own_at (P:=Tryz.prog) w base 38 38 5 i _ 1 1 Tryz.underlying38 hi hz0 hz1 hz2 rfl (by decide) _ n _ h.row x m c (bG M) (by rw [aM,k.len,Nat.mul_one]) (k.cells x rfl) (fH M) (by unfold maxLen;omega) (by omega) hb
  obtain⟨a',cap',rfl⟩:∃a' cap',v'=.slice a' (n+m) cap':=by
   rcases h2.2 with ⟨h,h'⟩|⟨g',cap',_,h,_⟩
   ·exact⟨.none,0,by rw [h,h']⟩
   ·exact⟨_,cap',h⟩
  refine⟨a',cap',w',hr,⟨by rw [fE];exact h2,hsm⟩,⟨h3.os,h3.tape,h3.output,h3.size,λj hj hn=>h3.block j hj (λe=>hn (aJ.of.1 e.symm))⟩,λj hj=>?_⟩
  rcases h5 with h5|h5
  ·rw [aJ.of.2 hj] at h5
   exact .inl (aJ.of.1 h5.symm)
  ·rw [aJ.of.2 hj] at h5
   right
   simp at h5
   omega
theorem Row.one (w:World)(b:Nat)(hb:b<256):Row (w.alloc (Obj.cells #[Value.int .u8 (b:Int)] 5)) (some ⟨w.heap.size,0,.none⟩) 1 1 [b] :=
 Row.at (L:=[b]) rfl (Nat.le_refl _) (λx hx=>by simp at hx;omega) (λi hi=>by
  have:i=0:=by simp at hi;omega
  subst this;simp [go_sem])
end Go.Proofs.YtffmodpgddecnaaGreatDoor.R
