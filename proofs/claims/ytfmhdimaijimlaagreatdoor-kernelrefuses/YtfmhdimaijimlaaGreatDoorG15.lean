import Derived.Test.YtfmhdimaijimlaaGreatDoorG14
set_option linter.unusedVariables false
set_option linter.unusedSimpArgs false
set_option maxRecDepth 1000000
set_option maxHeartbeats 8000000
namespace Go.Proofs.YtfmhdimaijimlaaGreatDoor.D
open Go.RowKit Go.Extern.Stop Go.Stop Go.Extern
def Laid (w:World):Prop:=w.cell? ⟨0,0,none⟩=some (.iface 340 (.agg #[.pointer (some ⟨1,247,none⟩)]))
def errV (s:ByteArray)(c:Int):Value:=.iface 307 (.agg #[.string s,.iface 285 (.agg #[.int .i64 c])])
theorem as_hit (s:ByteArray)(c:Int)(tb:Nat)(old:Value)(w:World)(hg:Laid w)(ht0:w.cell? ⟨tb,0,none⟩=some old)(hf0:w.frozen? ⟨tb,0,none⟩=false) :
  Calls Tryz.prog 194 #[errV s c,.iface 287 (.pointer (some ⟨tb,0,none⟩))] w fun ev w'=>ev=.returned (.bool true)∧w'=(((((w.alloc (.cells #[.pointer (some ⟨tb,0,none⟩)] 287)).alloc (.cells #[.pointer (some ⟨1,287,none⟩),.pointer (some ⟨w.heap.size,0,none⟩),.int .u64 150] 311)).alloc (.cells #[.pointer (some ⟨1,287,none⟩),.pointer (some ⟨w.heap.size,0,none⟩),.int .u64 150] 311)).alloc (.cells #[.string s,.iface 285 (.agg #[.int .i64 c])] 307)).alloc (.cells #[.int .i64 c] 285)).setCell ⟨tb,0,none⟩ (.int .i64 c):=by
 have h6:=@run_callFunc_extern Tryz.prog 226 _ (fun args=>ReflectliteValue.unpack (args.getD 0 (.tuple #[]))) Tryz.func226 (by kernel_rfl) (by kernel_rfl) (by kernel_rfl) (by kernel_rfl)
 have h7:=@run_callFunc_extern Tryz.prog 227 _ (ReflectliteValue.methodAny (ReflectliteValue.valueError "reflectlite.Value.Type" 0) (fun t _ _ _=>ReflectliteType.toType t)) Tryz.func227 (by kernel_rfl) (by kernel_rfl) (by kernel_rfl) (by kernel_rfl)
 have h8:=@run_callFunc_extern Tryz.prog 228 _ (ReflectliteValue.method (ReflectliteValue.valueError "reflectlite.Value.IsNil" 0) ReflectliteValue.isNil) Tryz.func228 (by kernel_rfl) (by kernel_rfl) (by kernel_rfl) (by kernel_rfl)
 have h27:=@run_callFunc_extern Tryz.prog 300 _ (ReflectliteType.abiMethod fun t=>do pure (.int .u8 (←Rtype.kind t))) Tryz.func300 (by kernel_rfl) (by kernel_rfl) (by kernel_rfl) (by kernel_rfl)
 have h37:=@run_callFunc_extern Tryz.prog 320 _ (ReflectliteType.method ReflectliteType.elem) Tryz.func320 (by kernel_rfl) (by kernel_rfl) (by kernel_rfl) (by kernel_rfl)
 have h38:=@run_callFunc_extern Tryz.prog 321 _ (ReflectliteType.relation "Implements" ReflectliteType.implements_) Tryz.func321 (by kernel_rfl) (by kernel_rfl) (by kernel_rfl) (by kernel_rfl)
 have h10:=@run_callFunc_extern Tryz.prog 255 _ ReflectliteType.typeOf Tryz.func255 (by kernel_rfl) (by kernel_rfl) (by kernel_rfl) (by kernel_rfl)
 have h35:=@run_callFunc_extern Tryz.prog 318 _ (ReflectliteType.relation "AssignableTo" ReflectliteType.assignableTo) Tryz.func318 (by kernel_rfl) (by kernel_rfl) (by kernel_rfl) (by kernel_rfl)
 have h11:=@run_callFunc_extern Tryz.prog 256 _ (ReflectliteValue.method (ReflectliteValue.valueError "reflectlite.Value.Elem" 0) ReflectliteValue.elem) Tryz.func256 (by kernel_rfl) (by kernel_rfl) (by kernel_rfl) (by kernel_rfl)
 have h12:=@run_callFunc_extern Tryz.prog 257 _ ReflectliteValue.set Tryz.func257 (by kernel_rfl) (by kernel_rfl) (by kernel_rfl) (by kernel_rfl)
 have tO:=typeOf171
 have tP:=typeOf139
 have mA:=methodAssignableTo
 have a1:=assignable171
 have a2:=assignable139
 have v25:=valueOf139
 have f6:=valueOf141
 have f7:=type141
 have mK:=methodKind
 have mE:=methodElem
 have mI:=methodImplements
 have mU:=methodUnwrap
 have k27:=kind141
 have k25:=kind139
 have e27:=elem141
 have i25:=implements139
 have nA:=noAs171
 have hU:=hasUnwrap171
 have n8:=isNil141 ⟨w.heap.size,0,none⟩ ⟨tb,0,none⟩ ((w.alloc (.cells #[.pointer (some ⟨tb,0,none⟩)] 287)).alloc (.cells #[.pointer (some ⟨1,287,none⟩),.pointer (some ⟨w.heap.size,0,none⟩),.int .u64 150] 311)) (by simp)
 have hlt:0<w.heap.size:=by
  rcases Nat.eq_zero_or_pos w.heap.size with h0|h
  ·unfold Laid at hg;simp [World.cell?,h0] at hg
  ·exact h
 have hg2:((w.alloc (.cells #[.pointer (some ⟨tb,0,none⟩)] 287)).alloc (.cells #[.pointer (some ⟨1,287,none⟩),.pointer (some ⟨w.heap.size,0,none⟩),.int .u64 150] 311)).cell? ⟨0,0,none⟩=some (.iface 340 (.agg #[.pointer (some ⟨1,247,none⟩)])):=by
  rw [World.cell?_alloc_lt _ _ ⟨0,0,none⟩ (by simp),World.cell?_alloc_lt _ _ ⟨0,0,none⟩ hlt];exact hg
 have htl:tb<w.heap.size:=World.block_lt_of_cell? _ _ ht0
 have el:=elemV141 ⟨w.heap.size,0,none⟩ ⟨tb,0,none⟩ ((((w.alloc (.cells #[.pointer (some ⟨tb,0,none⟩)] 287)).alloc (.cells #[.pointer (some ⟨1,287,none⟩),.pointer (some ⟨w.heap.size,0,none⟩),.int .u64 150] 311)).alloc (.cells #[.pointer (some ⟨1,287,none⟩),.pointer (some ⟨w.heap.size,0,none⟩),.int .u64 150] 311)).alloc (.cells #[.string s,.iface 285 (.agg #[.int .i64 c])] 307)) (by rw [World.cell?_alloc_lt _ _ ⟨w.heap.size,0,none⟩ (by simp;omega),World.cell?_alloc_lt _ _ ⟨w.heap.size,0,none⟩ (by simp;omega)];simp)
 have st:=set139 tb (w.heap.size+1+1+1+1) c old (((((w.alloc (.cells #[.pointer (some ⟨tb,0,none⟩)] 287)).alloc (.cells #[.pointer (some ⟨1,287,none⟩),.pointer (some ⟨w.heap.size,0,none⟩),.int .u64 150] 311)).alloc (.cells #[.pointer (some ⟨1,287,none⟩),.pointer (some ⟨w.heap.size,0,none⟩),.int .u64 150] 311)).alloc (.cells #[.string s,.iface 285 (.agg #[.int .i64 c])] 307)).alloc (.cells #[.int .i64 c] 285))
  (by rw [World.cell?_alloc_at _ _ _ _ (by simp)];rfl)
  (by rw [World.cell?_alloc_lt _ _ ⟨tb,0,none⟩ (by simp;omega),World.cell?_alloc_lt _ _ ⟨tb,0,none⟩ (by simp;omega),World.cell?_alloc_lt _ _ ⟨tb,0,none⟩ (by simp;omega),World.cell?_alloc_lt _ _ ⟨tb,0,none⟩ (by simp;omega),World.cell?_alloc_lt _ _ ⟨tb,0,none⟩ htl];exact ht0)
  (by rw [World.frozen?_alloc_old _ _ ⟨tb,0,none⟩ (by simp;omega),World.frozen?_alloc_old _ _ ⟨tb,0,none⟩ (by simp;omega),World.frozen?_alloc_old _ _ ⟨tb,0,none⟩ (by simp;omega),World.frozen?_alloc_old _ _ ⟨tb,0,none⟩ (by simp;omega),World.frozen?_alloc_old _ _ ⟨tb,0,none⟩ (Nat.ne_of_lt htl)];exact hf0)
 unfold errV
 go_enter Tryz.func194,Tryz.ntmps194
 go_wp2
 refine wp_loop_rounds 2 ?_
 rw [rounds_succ]
 go_wp2
 rw [rounds_succ]
 go_wp2
 go_ret
 exact⟨rfl,rfl⟩
open Go.RowKit
def errO (s:ByteArray)(c:Int):Value:=if c=0 then .nilIface else errV s c
theorem checked_any (s:ByteArray)(c:Int)(w:World):Calls Tryz.prog 190 #[.string s,.int .i64 c] w fun e w'=>e=.returned (errO s c)∧w'=w:=by
 unfold errO
 by_cases hc:c=0
 ·subst hc
  rw [if_pos rfl]
  go_enter Tryz.func190,Tryz.ntmps190
  go_wp2
  go_ret
  exact⟨rfl,rfl⟩
 ·rw [if_neg hc]
  unfold errV
  have hb:(c==0)=false:=by simpa using hc
  go_enter Tryz.func190,Tryz.ntmps190
  go_wp2
  go_ret
  exact⟨rfl,rfl⟩
theorem Laid.but {S:Nat→Prop}{w w':World}(h:Laid w)(hb:But S w w')(h0:¬S 0):Laid w':=cb_ hb h h0
theorem Laid.later {w w':World}(h:Laid w)(hb:Below w.heap.size w w'):Laid w':=h.but (S:=fun _=>False) (But.of hb) (fun h=>h)
theorem errO_ne {s:ByteArray}{c:Int}(hc:c≠0):errO s c=errV s c:=if_neg hc
theorem number_any (s:ByteArray)(c:Int)(w:World)(hg:Laid w):Calls Tryz.prog 153 #[errO s c] w fun e w'=>e=.returned (.int .i64 c)∧Below w.heap.size w w':=by
 by_cases hc:c=0
 ·subst hc
  unfold errO
  rw [if_pos rfl]
  go_enter Tryz.func153,Tryz.ntmps153
  go_wp2_with (first|(go_at_call 194;refine (as_nil _ _).mono ?_;rintro e w9 ⟨rfl,hw9⟩;subst hw9))
  go_ret
  exact⟨rfl,below1 _ _⟩
 ·rw [errO_ne hc]
  have ha:=hid (as_hit s c w.heap.size (.int .i64 0) (w.alloc (.cells #[.int .i64 0] 285)) (hg.later (below1 _ _)) (by simp) (by simp [go_sem]))
  generalize hv:errV s c=v at *
  clear hv
  have hb:Hid (∀W,W=((((((w.alloc (.cells #[.int .i64 0] 285)).alloc (.cells #[.pointer (some ⟨w.heap.size,0,none⟩)] 287)).alloc (.cells #[.pointer (some ⟨1,287,none⟩),.pointer (some ⟨(w.alloc (.cells #[.int .i64 0] 285)).heap.size,0,none⟩),.int .u64 150] 311)).alloc (.cells #[.pointer (some ⟨1,287,none⟩),.pointer (some ⟨(w.alloc (.cells #[.int .i64 0] 285)).heap.size,0,none⟩),.int .u64 150] 311)).alloc (.cells #[.string s,.iface 285 (.agg #[.int .i64 c])] 307)).alloc (.cells #[.int .i64 c] 285)).setCell ⟨w.heap.size,0,none⟩ (.int .i64 c)→W.cell? ⟨w.heap.size,0,none⟩=some (.int .i64 c)∧Below w.heap.size w W):=by
   intro W hW
   subst hW
   refine⟨?_,?_⟩
   ·refine World.cell?_setCell_same _ _ _ (?_:_=some (Value.int .i64 0))
    rw [World.cell?_alloc_lt _ _ _ (by simp;omega),World.cell?_alloc_lt _ _ _ (by simp;omega),World.cell?_alloc_lt _ _ _ (by simp;omega),World.cell?_alloc_lt _ _ _ (by simp;omega),World.cell?_alloc_lt _ _ _ (by simp)]
    simp
   ·have hp:=((((((But.refl (fun k=>k=w.heap.size) w).alloc (.cells #[.int .i64 0] 285)).alloc (.cells #[.pointer (some ⟨w.heap.size,0,none⟩)] 287)).alloc (.cells #[.pointer (some ⟨1,287,none⟩),.pointer (some ⟨(w.alloc (.cells #[.int .i64 0] 285)).heap.size,0,none⟩),.int .u64 150] 311)).alloc (.cells #[.pointer (some ⟨1,287,none⟩),.pointer (some ⟨(w.alloc (.cells #[.int .i64 0] 285)).heap.size,0,none⟩),.int .u64 150] 311)).alloc (.cells #[.string s,.iface 285 (.agg #[.int .i64 c])] 307)).alloc (.cells #[.int .i64 c] 285)
    exact But.below (Below.refl _ _) (hp.setCell (p:=⟨w.heap.size,0,none⟩) rfl (.int .i64 c)) (fun k hk=>by rw [hk];exact Nat.le_refl _)
  go_enter Tryz.func153,Tryz.ntmps153
  go_upto_region 3 with (first|(go_at_call 194;refine ha.out.mono ?_;rintro e w9 ⟨rfl,hw9⟩;obtain⟨x0,hB⟩:=hb.out w9 hw9;clear hw9;have HB:=hid hB;clear hB))
  go_wp2
  go_ret
  exact⟨rfl,HB.out⟩
open Go.Proofs.YtfmhdimaijimlaaGreatDoor.H (B64 Cp)
structure Hd extends Par where
 g:Nat
 gb:Nat
 A:Ad
 kn:Nat
 qg:Nat
 qb:Nat
def Hd.Wr (H:Hd)(k:Nat):Prop:=k=H.g∨k=H.qb∨H.A.Wr k
structure Hd.Ap (H:Hd):Prop where
 cg:∀k,H.A.All k→k≠H.g
 cq:∀k,H.A.All k→k≠H.qb
 b:0<H.n→H.gb≠H.qb∧¬H.A.Wr H.gb
 gq:H.g≠H.qb
 q:H.qg≠H.g∧¬H.A.Wr H.qg
 z:∀k,H.Wr k→k≠0
structure Tri (w:World)(H:Hd)(s:Sta):Prop where
 d:Dr w H.g H.gb H.n H.c s.t
 cat:Cat w H.A H.kn H.mo s.X s.l
 qu:Q.Qu w H.qg H.qb H.e H.a s.L
 laid:Laid w
 ap:H.Ap
theorem Tri.later {w w':World}{H:Hd}{s:Sta}(h:Tri w H s)(hb:Below w.heap.size w w'):Tri w' H s :=
 ⟨h.d.later hb,h.cat.later hb,h.qu.later hb,h.laid.later hb,h.ap⟩
theorem wr_all {A:Ad}{k:Nat}(h:A.Wr k):A.All k:=.inr (.inr h)
def Hd.All (H:Hd)(k:Nat):Prop:=k=0∨k=H.g∨(0<H.n∧k=H.gb)∨k=H.qg∨k=H.qb∨H.A.All k
theorem Tri.old {w:World}{H:Hd}{s:Sta}(h:Tri w H s):∀k,H.All k→k<w.heap.size:=fun k hk=>by
 rcases hk with rfl|rfl|⟨h0,rfl⟩|rfl|rfl|hk
 ·exact World.block_lt_of_cell? _ _ h.laid
 ·exact h.d.lt
 ·exact h.d.lt2 h0
 ·exact h.qu.glt
 ·exact h.qu.blt
 ·exact h.cat.lt k hk
theorem Tri.but {S:Nat→Prop}{w w':World}{H:Hd}{s:Sta}(h:Tri w H s)(hb:But S w w')(hS:∀k,H.All k→¬S k):Tri w' H s :=
 ⟨h.d.butN hb (hS _ (.inr (.inl rfl))) (fun h0=>hS _ (.inr (.inr (.inl ⟨h0,rfl⟩)))),h.cat.but hb (fun k hk=>hS k (.inr (.inr (.inr (.inr (.inr hk)))))),h.qu.but hb (hS _ (.inr (.inr (.inr (.inl rfl))))) (hS _ (.inr (.inr (.inr (.inr (.inl rfl)))))),h.laid.but hb (hS 0 (.inl rfl)),h.ap⟩
theorem Tri.own {w:World}{H:Hd}{s:Sta}{b:Nat}(h:Tri w H s)(hb:∀k,H.All k→k<b)(o:Nat)(u:Value):Tri (w.setCell ⟨b,o,none⟩ u) H s :=
 h.but (S:=(·=b)) ((But.refl (·=b) _).own o u) (fun k hk e=>by have:=hb k hk;omega)
theorem Hd.wr_all {H:Hd}{k:Nat}(h:H.Wr k):H.All k:=by
 rcases h with rfl|rfl|hk
 ·exact .inr (.inl rfl)
 ·exact .inr (.inr (.inr (.inr (.inl rfl))))
 ·exact .inr (.inr (.inr (.inr (.inr (.inr (.inr hk))))))
theorem Tri.draw {w w':World}{H:Hd}{s:Sta}{t:Nat}(h:Tri w H s)(hb:But (·=H.g) w w')(hd:Dr w' H.g H.gb H.n H.c t):Tri w' H { s with t:=t } :=
 ⟨hd,h.cat.but hb h.ap.cg,h.qu.but hb h.ap.q.1 h.ap.gq.symm,h.laid.but hb (fun e=>h.ap.z _ (.inl rfl) e.symm),h.ap⟩
theorem Tri.enter {w w':World}{H:Hd}{s:Sta}{X:List Tk}{l:Fo}(h:Tri w H s)(hb:But H.A.Wr w w')(hc:Cat w' H.A H.kn H.mo X l):Tri w' H { s with X:=X,l:=l } :=
 ⟨h.d.butN hb (fun e=>h.ap.cg _ (wr_all e) rfl) (fun h0=>(h.ap.b h0).2),hc,h.qu.but hb h.ap.q.2 (fun e=>h.ap.cq _ (wr_all e) rfl),h.laid.but hb (fun e=>h.ap.z 0 (.inr (.inr e)) rfl),h.ap⟩
theorem Tri.count {w w':World}{H:Hd}{s:Sta}{L:List Int}(h:Tri w H s)(hb:But (fun k=>k=H.qb) w w')(hq:Q.Qu w' H.qg H.qb H.e H.a L):Tri w' H { s with L:=L } :=
 ⟨h.d.butN hb h.ap.gq (fun h0=>(h.ap.b h0).1),h.cat.but hb h.ap.cq,hq,h.laid.but hb (fun e=>h.ap.z _ (.inr (.inl rfl)) e.symm),h.ap⟩
theorem But.ofG {w w':World}{H:Hd}(h:But (·=H.g) w w'):But H.Wr w w':=h.mono (fun k hk=>.inl hk)
theorem But.ofA {w w':World}{H:Hd}(h:But H.A.Wr w w'):But H.Wr w w':=h.mono (fun k hk=>.inr (.inr hk))
theorem But.ofQ {w w':World}{H:Hd}(h:But (fun k=>k=H.qb) w w'):But H.Wr w w':=h.mono (fun k hk=>.inr (.inl hk))
def Drew (U:World)(H:Hd)(s:Sta)(D:Nat×Int×Nat)(e:Ending)(w':World):Prop :=
 e=.returned (.tuple #[.agg #[.int .u64 (hiI D.1),.int .u64 (loI D.1)],.int .i64 D.2.1])∧Tri w' H { s with t:=D.2.2 }∧But (·=H.g) U w'
def Entered (U:World)(H:Hd)(s:Sta)(R:Res)(e:Ending)(w':World):Prop :=
 e=.returned (.tuple #[.int .i64 R.num,.int .i64 R.code])∧Tri w' H { s with X:=R.X,l:=R.l }∧But H.A.Wr U w'
def makV (H:Hd):Value:=.agg #[.pointer (some ⟨H.g,0,none⟩),.pointer (some ⟨H.A.g,0,none⟩),.pointer (some ⟨H.qg,0,none⟩)]
structure Mk (w:World)(b:Nat)(H:Hd):Prop where
 c0:w.cell? ⟨b,0,none⟩=some (.pointer (some ⟨H.g,0,none⟩))
 c1:w.cell? ⟨b,1,none⟩=some (.pointer (some ⟨H.A.g,0,none⟩))
 c2:w.cell? ⟨b,2,none⟩=some (.pointer (some ⟨H.qg,0,none⟩))
theorem Mk.but {S:Nat→Prop}{w w':World}{b:Nat}{H:Hd}(h:Mk w b H)(hb:But S w w')(hn:¬S b):Mk w' b H:=⟨cb_ hb h.c0 hn,cb_ hb h.c1 hn,cb_ hb h.c2 hn⟩
theorem Mk.later {w w':World}{b:Nat}{H:Hd}(h:Mk w b H)(hb:Below w.heap.size w w'):Mk w' b H:=h.but (S:=fun _=>False) (But.of hb) (fun h=>h)
theorem draw_any {w:World}{H:Hd}{s:Sta}(h:Tri w H s):Calls Tryz.prog 192 #[.pointer (some ⟨H.g,0,none⟩)] w (Drew w H s (drawD H.toPar s.t)):=by
 unfold drawD
 by_cases ht:s.t<H.n
 ·rw [if_pos ht]
  refine (draw_more H.g H.gb H.n H.c s.t w h.d ht).mono ?_
  rintro e w' ⟨rfl,hd,hb⟩
  exact⟨rfl,h.draw hb hd,hb⟩
 ·rw [if_neg ht]
  have hle:=h.d.le
  have he:s.t=H.n:=by omega
  have hd:=h.d
  rw [he] at hd
  refine (draw_end H.g H.gb H.n H.c w hd).mono ?_
  rintro e w' ⟨rfl,hb⟩
  have z1:hiI 0=0:=by simp [hiI]
  have z2:loI 0=0:=by simp [loI]
  exact⟨by simp only [z1,z2],h.draw (But.of hb) (h.d.later hb),But.of hb⟩
theorem enter54 {w:World}{H:Hd}{s:Sta}(h:Tri w H s){mk:Nat}(hm:Mk w mk H)(c:Cp)(hw:c.2.1<B64∧c.2.2<B64) :
  Calls Tryz.prog 193 #[cpV c,.pointer (some ⟨mk,0,none⟩)] w (Entered w H s (rootR H.mo s.X s.l c 31)):=by
 obtain⟨o,hi,lo⟩:=c
 have hB:=below1 w (Obj.cells #[.int .i64 o,.int .u64 (hi:Int),.int .u64 (lo:Int)] 38)
 have y1:=(hm.later hB).c1
 have HC:=hid (croot_of (h.later hB).cat (o,hi,lo) 31 hw)
 have HT:=hid (h.later hB)
 have HB:=hid hB
 clear h hm hB
 go_enter Tryz.func193,Tryz.ntmps193
 go_upto_region 2 with (first|(go_at_call 127;refine HC.out.mono ?_;rintro e w2 ⟨rfl,hc2,hb2⟩;have HC2:=hid hc2;have HB2:=hid hb2;clear hc2 hb2))
 exact bodyPost_ret (v:=.tuple #[.int .i64 (rootR H.mo s.X s.l (o,hi,lo) 31).num,.int .i64 (rootR H.mo s.X s.l (o,hi,lo) 31).code]) (by simp [results,Tryz.results193,go_sem]) rfl ⟨rfl,HT.out.enter HB2.out HC2.out,(But.of HB.out).trans HB2.out⟩
theorem draw58 {w:World}{H:Hd}{s:Sta}(h:Tri w H s)(hcs:∀i,i<H.n→H.c i<B64*B64){mk pc:Nat}(hm:Mk w mk H)(o:Int)(hp:w.cell? ⟨pc,0,none⟩=some (.int .i64 o)) :
  Calls Tryz.prog 203 #[.pointer (some ⟨mk,0,none⟩),.pointer (some ⟨pc,0,none⟩)] w (Drew w H s (childD H.toPar s o)):=by
 have hB:=below1 w (Obj.cells #[.int .u64 0,.int .u64 0] 31)
 have y0:=(hm.later hB).c0
 have y1:=(hm.later hB).c1
 have y2:=cell_later hB hp
 have hg:=h.d.lt
 have HO:=hid h.old
 have HC:=hid (iof_any (h.later hB).d hcs (h.later hB).cat h.ap.cg o)
 have HT:=hid (h.later hB)
 have HB:=hid hB
 have HL:Hid (Lies (w.alloc (Obj.cells #[.int .u64 0,.int .u64 0] 31)) ⟨w.heap.size,0,none⟩ (.int .u64 0)∧Lies (w.alloc (Obj.cells #[.int .u64 0,.int .u64 0] 31)) ⟨w.heap.size,1,none⟩ (.int .u64 0)):=⟨⟨by simp [go_sem],by simp [go_sem]⟩,⟨by simp [go_sem],by simp [go_sem]⟩⟩
 clear h hm hB hp
 unfold Drew childD
 go_enter Tryz.func203,Tryz.ntmps203
 obtain⟨R,hR⟩:∃R,R=drawR (ofP s.X s.l o) H.c H.n 9 s.t:=⟨_,rfl⟩
 unfold Drawn at HC
 rw [←hR] at HC
 rw [←hR]
 clear hR
 go_upto_region 2 with (first|(go_at_call 204;refine HC.out.mono ?_;rintro e w2 ⟨rfl,hD,hB⟩;have HD:=hid hD;have HB2:=hid hB;have HL2:Hid (Lies w2 ⟨w.heap.size,0,none⟩ (.int .u64 0)∧Lies w2 ⟨w.heap.size,1,none⟩ (.int .u64 0)):=⟨HL.out.1.but hB (by show ¬(w.heap.size=H.g);omega),HL.out.2.but hB (by show ¬(w.heap.size=H.g);omega)⟩;clear hD hB;have x0:=HL2.out.1.1;have x1:=HL2.out.2.1;have f0:=HL2.out.1.2;have f1:=HL2.out.2.2))
 have HQ:=hid (two_set x0 x1 (.int .u64 (hiI R.1)) (.int .u64 (loI R.1)))
 have hbb:=((((But.of HB.out).trans HB2.out).put (p:=⟨w.heap.size,0,none⟩) (Nat.le_refl _) (.int .u64 (hiI R.1))).put (p:=⟨w.heap.size,1,none⟩) (Nat.le_refl _) (.int .u64 (loI R.1)))
 have hfin:Tri ((w2.setCell ⟨w.heap.size,0,none⟩ (.int .u64 (hiI R.1))).setCell ⟨w.heap.size,1,none⟩ (.int .u64 (loI R.1))) H { s with t:=R.2.2 }:=((HT.out.draw HB2.out HD.out).own HO.out 0 _).own HO.out 1 _
 exact bodyPost_ret (v:=.tuple #[.agg #[.int .u64 (hiI R.1),.int .u64 (loI R.1)],.int .i64 R.2.1]) (by simp [results,Tryz.results203,go_sem,HQ.out.1,HQ.out.2]) rfl ⟨rfl,hfin,hbb⟩
theorem enter60 {w:World}{H:Hd}{s:Sta}(h:Tri w H s){mk nb rb:Nat}(hm:Mk w mk H)(n r:Int)(hn:w.cell? ⟨nb,0,none⟩=some (.int .i64 n))(hr:w.cell? ⟨rb,0,none⟩=some (.int .i64 r))(c:Cp)(hw:c.2.1<B64∧c.2.2<B64) :
  Calls Tryz.prog 205 #[cpV c,.pointer (some ⟨mk,0,none⟩),.pointer (some ⟨nb,0,none⟩),.pointer (some ⟨rb,0,none⟩)] w (Entered w H s (childR H.mo s.X s.l n c r)):=by
 obtain⟨o,hi,lo⟩:=c
 have hB:=below1 w (Obj.cells #[.int .i64 o,.int .u64 (hi:Int),.int .u64 (lo:Int)] 38)
 have y1:=(hm.later hB).c1
 have y2:=cell_later hB hn
 have y3:=cell_later hB hr
 have HC:=hid (child_of (h.later hB).cat n (o,hi,lo) r hw)
 have HT:=hid (h.later hB)
 have HB:=hid hB
 clear h hm hB hn hr
 go_enter Tryz.func205,Tryz.ntmps205
 go_upto_region 2 with (first|(go_at_call 126;refine HC.out.mono ?_;rintro e w2 ⟨rfl,hc2,hb2⟩;have HC2:=hid hc2;have HB2:=hid hb2;clear hc2 hb2))
 exact bodyPost_ret (v:=.tuple #[.int .i64 (childR H.mo s.X s.l n (o,hi,lo) r).num,.int .i64 (childR H.mo s.X s.l n (o,hi,lo) r).code]) (by simp [results,Tryz.results205,go_sem]) rfl ⟨rfl,HT.out.enter HB2.out HC2.out,(But.of HB.out).trans HB2.out⟩
end Go.Proofs.YtfmhdimaijimlaaGreatDoor.D
