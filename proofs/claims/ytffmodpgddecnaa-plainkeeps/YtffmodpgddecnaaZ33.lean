import Derived.Test.YtffmodpgddecnaaZ32
namespace Go.Proofs.Ytffmodpgddecnaa.V.E
open Go.RowKit Go.Maps
open Go.Proofs.Ytffmodpgddecnaa.H (B64 Cp)
open Go.Proofs.Ytffmodpgddecnaa.M (wpAnyH_norm)
set_option linter.unusedVariables false
set_option linter.unusedSimpArgs false
def OwR (y:World)(base e k:Nat)(a:Option Addr)(n c:Nat)(v:Value)(U:World):Prop :=
 ∃j L,v=.int .i64 ((j:Nat):Int)∧j≤n∧Ow U base e k a n c L∧But (Blk a) y U
theorem OwR.next {y U:World}{base e k g n c:Nat}{L:List Value}{j q:Nat}(hO:Ow U base e k (some ⟨g,0,none⟩) n c L)(hb:But (Blk (some ⟨g,0,none⟩)) y U)(hj:j<n)(u:Value) :
  OwR y base e k (some ⟨g,0,none⟩) n c (.int .i64 ((j+1:Nat):Int)) (U.setCell ⟨g,q,none⟩ u) :=
 ⟨j+1,_,rfl,hj,Ow.set1 hO q u,hb.trans ((But.refl _ U).setCell (p:=⟨g,q,none⟩) (blk_some g) u)⟩
theorem ow_cell {U:World}{base e k:Nat}{g n c:Nat}{L:List Value}(hO:Ow U base e k (some ⟨g,0,none⟩) n c L){q:Nat}(hq:q<n*k):∃v,U.cell? ⟨g,q,none⟩=some v∧U.frozen? ⟨g,q,none⟩=false:=by
 have hl:L.length=n*k:=hO.1
 refine⟨L[q]'(by omega),Ow.rv hO g rfl q _ (List.getElem?_eq_getElem _),?_⟩
 rcases Ow.form hO with ⟨h1,_⟩|⟨g',h1,h2,_⟩
 ·cases h1
 ·cases h1;exact h2 q
section
variable {y:World}
set_option maxRecDepth 1000000 in
set_option maxHeartbeats 8000000 in
theorem toks_set {u0 u1 u2 u3 u4 u5 u6 u7 u8 u9 u10 u11 u12 u13 u14 u15 u16 u17 u18 u19 u20 u21 u22 u23 u24 u25 u27 u28 u29 u30 u32 u33 u34 u35 u36 u37 u38 u39 u40 u41 u42 u43 u44 u45 u46 u47 u48 u49 u50 u51 u52 u53 u54 u55 u56 u57 u58 u59 u60 u61 u62 u63 u64 u65 u66 u67 u68 u69 u70 u71 u72 u73 u74 u75 u76 u77 u78 u79 u80 u81 u82 u83 u84 u85 u86 u87 u88 u89 u90 u91 u92 u93 u94 u95 u96 u97 u98 u99 u100 u101 u102 u103 u104 u105 u106 u107 u108 u109 u110 u111 u112 u113 u114 u115 u116 u117 u118 u119 u120 u121 u122 u123 u124 u125 u126 u127 u128 u129 u130 u131 u132 u133 u134 u135 u136 u137 u138 u139 u140 u141 u142 u143 u144 u145 u146 u147 u148 u149 u150 u151 u152 u153 u154 u155 u156 u157 u158 u159 u160 u161 u162 u163 u164 u165 u166 u167 u168 u169 u170 u171 u172 u173 u174 u175 u176 u177 u178 u179 u180 u181 u182 u183 u184 u185 u186 u187 u188 u189 u190 u191 u192 u193 u194 u195 u196 u197 u198 u199 u200 u201 u202 u203 u204 u205 u206 u207 u208 u209 u210 u211 u212 u213 u214 u215 u216 u217 u218 u219 u220 u221 u222 u223 u224 u225 u226 u227 u228 u229 u230 u231 u232 u233 u234 u235 u236 u237 u238 u239 u240 u241 u242 u243 u244 u245 u246 u247 u248 u249 u250 u251 u252 u253 u254 u255 u256 u257 u258 u259 u260 u261 u262 u263 u264 u265 u266 u267 u268 u269 u270 u271 u272 u273 u274 u275 u276 u277 u278 u279 u280 u281 u282 u283 u284 u285 u286 u287 u288 u289 u290 u291 u292 u293 u294 u295 u296 u297 u298 u299 u300 u301 u302 u303 u304 u305 u306 u307 u308 u309 u310 u311 u312 u313 u314 u315 u316 u317 u318 u319 u320 u321 u322 u323 u324 u325 u326 u327 u328 u329 u330 u331 u332 u333 u334 u335 u336 u337 u338 u339 u340 u341 u342 u343 u344 u345 u346 u347 u348 u349 u350 u351 u352 u353 u354 u355 u356 u357 u358 u359 u360 u361 u362 u363 u364 u365 u366 u367 u368 u369 u370 u371 u372 u373 u374 u375 u376 u377 u378 u379 u380 u381 u382 u383 u384 u385 u386 u387 u388 u389 u390 u391 u392 u393 u394 u395 u396 u397 u398 u399 u400 u401 u402 u403 u404 u405 u406 u407 u408 u409 u410 u411 u412 u413 u414 u415 u416 u417 u418 u419 u420 u421 u422 u423 u424 u425 u426 u427:Value}{Qx:Exit→Act→World→Prop}{base bs:Nat}{a:Option Addr}{n c:Nat}{L:List Value}(hx:y.cell? ⟨bs,1,none⟩=some (.slice a n c))(hO:Ow y base 62 5 a n c L)(hne:¬Blk a bs)(hn:n≤1048576)
  (hK:∀(w':World),But (Blk a) y w'→∀(v31 v365 v366 v367 v368 v369 v370 v371 v372 v373 v374 v375 v376:Value),Qx .normal ⟨List.toArray (u0::u1::u2::u3::u4::u5::u6::u7::u8::u9::u10::u11::u12::u13::u14::u15::u16::u17::u18::u19::u20::u21::u22::u23::u24::u25::.pointer (some ⟨bs,0,none⟩)::u27::u28::u29::u30::v31::u32::u33::u34::u35::u36::u37::u38::u39::u40::u41::u42::u43::u44::u45::u46::u47::u48::u49::u50::u51::u52::u53::u54::u55::u56::u57::u58::u59::u60::u61::u62::u63::u64::u65::u66::u67::u68::u69::u70::u71::u72::u73::u74::u75::u76::u77::u78::u79::u80::u81::u82::u83::u84::u85::u86::u87::u88::u89::u90::u91::u92::u93::u94::u95::u96::u97::u98::u99::u100::u101::u102::u103::u104::u105::u106::u107::u108::u109::u110::u111::u112::u113::u114::u115::u116::u117::u118::u119::u120::u121::u122::u123::u124::u125::u126::u127::u128::u129::u130::u131::u132::u133::u134::u135::u136::u137::u138::u139::u140::u141::u142::u143::u144::u145::u146::u147::u148::u149::u150::u151::u152::u153::u154::u155::u156::u157::u158::u159::u160::u161::u162::u163::u164::u165::u166::u167::u168::u169::u170::u171::u172::u173::u174::u175::u176::u177::u178::u179::u180::u181::u182::u183::u184::u185::u186::u187::u188::u189::u190::u191::u192::u193::u194::u195::u196::u197::u198::u199::u200::u201::u202::u203::u204::u205::u206::u207::u208::u209::u210::u211::u212::u213::u214::u215::u216::u217::u218::u219::u220::u221::u222::u223::u224::u225::u226::u227::u228::u229::u230::u231::u232::u233::u234::u235::u236::u237::u238::u239::u240::u241::u242::u243::u244::u245::u246::u247::u248::u249::u250::u251::u252::u253::u254::u255::u256::u257::u258::u259::u260::u261::u262::u263::u264::u265::u266::u267::u268::u269::u270::u271::u272::u273::u274::u275::u276::u277::u278::u279::u280::u281::u282::u283::u284::u285::u286::u287::u288::u289::u290::u291::u292::u293::u294::u295::u296::u297::u298::u299::u300::u301::u302::u303::u304::u305::u306::u307::u308::u309::u310::u311::u312::u313::u314::u315::u316::u317::u318::u319::u320::u321::u322::u323::u324::u325::u326::u327::u328::u329::u330::u331::u332::u333::u334::u335::u336::u337::u338::u339::u340::u341::u342::u343::u344::u345::u346::u347::u348::u349::u350::u351::u352::u353::u354::u355::u356::u357::u358::u359::u360::u361::u362::u363::u364::v365::v366::v367::v368::v369::v370::v371::v372::v373::v374::v375::v376::u377::u378::u379::u380::u381::u382::u383::u384::u385::u386::u387::u388::u389::u390::u391::u392::u393::u394::u395::u396::u397::u398::u399::u400::u401::u402::u403::u404::u405::u406::u407::u408::u409::u410::u411::u412::u413::u414::u415::u416::u417::u418::u419::u420::u421::u422::u423::u424::u425::u426::u427::[]),[]⟩ w') :
  Code.wp Try.prog (pR (pL (rs 18 (Try.f4.body.getD .skip)))) Qx ⟨List.toArray (u0::u1::u2::u3::u4::u5::u6::u7::u8::u9::u10::u11::u12::u13::u14::u15::u16::u17::u18::u19::u20::u21::u22::u23::u24::u25::.pointer (some ⟨bs,0,none⟩)::u27::u28::u29::u30::.int .i64 0::u32::u33::u34::u35::u36::u37::u38::u39::u40::u41::u42::u43::u44::u45::u46::u47::u48::u49::u50::u51::u52::u53::u54::u55::u56::u57::u58::u59::u60::u61::u62::u63::u64::u65::u66::u67::u68::u69::u70::u71::u72::u73::u74::u75::u76::u77::u78::u79::u80::u81::u82::u83::u84::u85::u86::u87::u88::u89::u90::u91::u92::u93::u94::u95::u96::u97::u98::u99::u100::u101::u102::u103::u104::u105::u106::u107::u108::u109::u110::u111::u112::u113::u114::u115::u116::u117::u118::u119::u120::u121::u122::u123::u124::u125::u126::u127::u128::u129::u130::u131::u132::u133::u134::u135::u136::u137::u138::u139::u140::u141::u142::u143::u144::u145::u146::u147::u148::u149::u150::u151::u152::u153::u154::u155::u156::u157::u158::u159::u160::u161::u162::u163::u164::u165::u166::u167::u168::u169::u170::u171::u172::u173::u174::u175::u176::u177::u178::u179::u180::u181::u182::u183::u184::u185::u186::u187::u188::u189::u190::u191::u192::u193::u194::u195::u196::u197::u198::u199::u200::u201::u202::u203::u204::u205::u206::u207::u208::u209::u210::u211::u212::u213::u214::u215::u216::u217::u218::u219::u220::u221::u222::u223::u224::u225::u226::u227::u228::u229::u230::u231::u232::u233::u234::u235::u236::u237::u238::u239::u240::u241::u242::u243::u244::u245::u246::u247::u248::u249::u250::u251::u252::u253::u254::u255::u256::u257::u258::u259::u260::u261::u262::u263::u264::u265::u266::u267::u268::u269::u270::u271::u272::u273::u274::u275::u276::u277::u278::u279::u280::u281::u282::u283::u284::u285::u286::u287::u288::u289::u290::u291::u292::u293::u294::u295::u296::u297::u298::u299::u300::u301::u302::u303::u304::u305::u306::u307::u308::u309::u310::u311::u312::u313::u314::u315::u316::u317::u318::u319::u320::u321::u322::u323::u324::u325::u326::u327::u328::u329::u330::u331::u332::u333::u334::u335::u336::u337::u338::u339::u340::u341::u342::u343::u344::u345::u346::u347::u348::u349::u350::u351::u352::u353::u354::u355::u356::u357::u358::u359::u360::u361::u362::u363::u364::u365::u366::u367::u368::u369::u370::u371::u372::u373::u374::u375::u376::u377::u378::u379::u380::u381::u382::u383::u384::u385::u386::u387::u388::u389::u390::u391::u392::u393::u394::u395::u396::u397::u398::u399::u400::u401::u402::u403::u404::u405::u406::u407::u408::u409::u410::u411::u412::u413::u414::u415::u416::u417::u418::u419::u420::u421::u422::u423::u424::u425::u426::u427::[]),[]⟩ y:=by
 conv=>arg 2;whnf
 have HX:=hid hx
 have HO:=hid hO
 have HNe:=hid hne
 have HK:=hid hK
 clear hx hO hne hK
 go_upto_region 63 with fail
 go_loopw [31] (OwR y base 62 5 a n c) (fun v _=>n - S.ivN v)
 case atStart=>exact⟨0,_,rfl,Nat.zero_le _,HO.out,But.refl _ _⟩
 case round =>
  obtain⟨j,L,rfl,hj,hL,hb⟩:=hrel
  have HL:=hid hL
  have HB:=hid hb
  have xd:wr.cell? ⟨bs,1,none⟩=some (.slice a n c):=cell_but hb HX.out HNe.out
  clear hL hb
  by_cases hlt:j<n
  ·have hd:decide ((j:Int)<(n:Int))=true:=decide_eq_true (by omega)
   obtain⟨g,rfl,-⟩:=Ow.at_ HL.out (by omega)
   obtain⟨v0,hc,hfz⟩:=ow_cell HL.out (q:=j*5+3) (by omega)
   go_upto_region 64 with fail
   clear hc hfz xd
   have hfin:=OwR.next (q:=j*5+3) HL.out HB.out hlt (.int .i64 (-1))
   have HFi:=hid hfin
   clear hfin
   go_wp2
   exact⟨HFi.out,by simp [S.ivN];omega⟩
  ·obtain rfl:j=n:=by omega
   have hd:decide ((j:Int)<(j:Int))=false:=by simp
   go_wp2
   refine HK.out _ HB.out ..
def SoX (V:World)(base E:Nat)(ty k:Nat)(a:Option Addr)(n c:Nat)(Q:List Ev)(v:Value)(U:World):Prop :=
 ∃i L,v=.int .i64 ((i:Nat):Int)∧i≤n∧Ow U base E 2 a n c L∧Lf L (evs Q) (i*2)∧(∀m o,i≤m→Q[m]?=some o→Ow U base ty k o.a o.len o.cap o.vs)∧But (Two.B a Q) V U
theorem SoX.start {V:World}{base E ty k:Nat}{a:Option Addr}{n c:Nat}{Q:List Ev}(h:Two V base E ty k a n c Q):SoX V base E ty k a n c Q (.int .i64 0) V :=
 ⟨0,_,rfl,Nat.zero_le _,h.row,by simpa using Lf.start (evs Q),fun m o _ ho=>h.each o (List.mem_of_getElem? ho),But.refl _ _⟩
theorem SoX.next {V U U2:World}{base E ty k:Nat}{g n c i:Nat}{Q:List Ev}{o:Ev}{L:List Value}(h:Two V base E ty k (some ⟨g,0,none⟩) n c Q)(ho:Q[i]?=some o)
  (hL:Ow U base E 2 (some ⟨g,0,none⟩) n c L) (hf:Lf L (evs Q) (i*2)) (hU:∀m p,i≤m→Q[m]?=some p→Ow U base ty k p.a p.len p.cap p.vs) (hb:But (Two.B (some ⟨g,0,none⟩) Q) V U)
  (h2:But (Blk o.a) U U2) (u:Value):SoX V base E ty k (some ⟨g,0,none⟩) n c Q (.int .i64 ((i+1:Nat):Int)) (U2.setCell ⟨g,i*2+1,none⟩ u):=by
 have hin:i<n:=by rw [←h.len];exact (List.getElem?_eq_some_iff.1 ho).1
 have hom:=List.mem_of_getElem? ho
 have hbs:But (fun x=>x=g) U2 (U2.setCell ⟨g,i*2+1,none⟩ u):=(But.refl (fun x=>x=g) U2).setCell (p:=⟨g,i*2+1,none⟩) rfl u
 refine⟨i+1,_,rfl,hin,Ow.set1 (hL.but h2 (fun j hj e=>h.top o hom j e hj)) (i*2+1) u,⟨by rw [List.length_set];exact hf.1,fun k hk=>by rw [List.getElem?_set_ne (by omega)];exact hf.2 k (by omega)⟩,fun m p hm hp=>?_,(hb.comp h2 (fun j hj=>.inl (.inr ⟨o,hom,hj⟩))).comp hbs (fun j e=>.inl (.inl (by rw [e];exact blk_some g)))⟩
 have hpm:=List.mem_of_getElem? hp
 have hap:∀j,Blk p.a j→¬Blk o.a j:=fun j h1 h3=>by
  have hpw:=List.pairwise_iff_getElem.1 h.ap i m (List.getElem?_eq_some_iff.1 ho).1 (List.getElem?_eq_some_iff.1 hp).1 (by omega)
  rw [(List.getElem?_eq_some_iff.1 ho).2,(List.getElem?_eq_some_iff.1 hp).2] at hpw
  exact hpw j h3 h1
 exact ((hU m p (by omega) hp).but h2 (fun j hj=>hap j hj)).but hbs (fun j hj e=>h.top p hpm j hj (by rw [e];exact blk_some g))
set_option maxRecDepth 1000000 in
set_option maxHeartbeats 8000000 in
theorem objs_set {u0 u1 u2 u3 u4 u5 u6 u7 u8 u9 u10 u11 u12 u13 u14 u15 u16 u17 u18 u19 u20 u21 u22 u23 u24 u25 u27 u28 u30 u31 u32 u33 u34 u35 u36 u37 u38 u39 u40 u41 u42 u43 u44 u45 u46 u47 u48 u49 u50 u51 u52 u53 u54 u55 u56 u57 u58 u59 u60 u61 u62 u63 u64 u65 u66 u67 u68 u69 u70 u71 u72 u73 u74 u75 u76 u77 u78 u79 u80 u81 u82 u83 u84 u85 u86 u87 u88 u89 u90 u91 u92 u93 u94 u95 u96 u97 u98 u99 u100 u101 u102 u103 u104 u105 u106 u107 u108 u109 u110 u111 u112 u113 u114 u115 u116 u117 u118 u119 u120 u121 u122 u123 u124 u125 u126 u127 u128 u129 u130 u131 u132 u133 u134 u135 u136 u137 u138 u139 u140 u141 u142 u143 u144 u145 u146 u147 u148 u149 u150 u151 u152 u153 u154 u155 u156 u157 u158 u159 u160 u161 u162 u163 u164 u165 u166 u167 u168 u169 u170 u171 u172 u173 u174 u175 u176 u177 u178 u179 u180 u181 u182 u183 u184 u185 u186 u187 u188 u189 u190 u191 u192 u193 u194 u195 u196 u197 u198 u199 u200 u201 u202 u203 u204 u205 u206 u207 u208 u209 u210 u211 u212 u213 u214 u215 u216 u217 u218 u219 u220 u221 u222 u223 u224 u225 u226 u227 u228 u229 u230 u231 u232 u233 u234 u235 u236 u237 u238 u239 u240 u241 u242 u243 u244 u245 u246 u247 u248 u249 u250 u251 u252 u253 u254 u255 u256 u257 u258 u259 u260 u261 u262 u263 u264 u265 u266 u267 u268 u269 u270 u271 u272 u273 u274 u275 u276 u277 u278 u279 u280 u281 u282 u283 u284 u285 u286 u287 u288 u289 u290 u291 u292 u293 u294 u295 u296 u297 u298 u299 u300 u301 u302 u303 u304 u305 u306 u307 u308 u309 u310 u311 u312 u313 u314 u315 u316 u317 u318 u319 u320 u321 u322 u323 u324 u325 u326 u327 u328 u329 u330 u331 u332 u333 u334 u335 u336 u337 u338 u339 u340 u341 u342 u343 u344 u345 u346 u347 u348 u349 u350 u351 u352 u353 u354 u355 u356 u357 u358 u359 u360 u361 u362 u363 u364 u365 u366 u367 u368 u369 u370 u371 u372 u373 u374 u375 u376 u377 u378 u379 u380 u381 u382 u383 u384 u385 u386 u387 u388 u389 u390 u391 u392 u393 u394 u395 u396 u397 u398 u399 u400 u401 u402 u403 u404 u405 u406 u407 u408 u409 u410 u411 u412 u413 u414 u415 u416 u417 u418 u419 u420 u421 u422 u423 u424 u425 u426 u427:Value}{Qx:Exit→Act→World→Prop}{base bs:Nat}{a:Option Addr}{n c:Nat}{Q:List Ev}(hx:y.cell? ⟨bs,0,none⟩=some (.slice a n c))(h2:Two y base 60 5 1 a n c Q)(hnb0:¬Two.B a Q bs)(hby:base≤y.heap.size)(hn:n≤1048576)(hB:∀o∈Q,∃B,o.vs=S.u8s B∧o.len≤1048576)(hP:∀c a d v w,Qx (.panic c) (Act.put a d v) w→Qx (.panic c) a w)
  (hK:∀(w':World),But (Two.B a Q) y w'→∀(v29 v30 v323 v324 v325 v326 v327 v328 v329 v330 v331 v332 v333 v334 v335 v336 v337 v338 v339 v340 v341 v342 v343 v344 v345 v346 v347 v348 v349 v350 v351 v352 v353 v354 v355 v356 v357 v358 v359 v360 v361 v362 v363 v364:Value),Qx .normal ⟨List.toArray (u0::u1::u2::u3::u4::u5::u6::u7::u8::u9::u10::u11::u12::u13::u14::u15::u16::u17::u18::u19::u20::u21::u22::u23::u24::u25::.pointer (some ⟨bs,0,none⟩)::u27::u28::v29::v30::u31::u32::u33::u34::u35::u36::u37::u38::u39::u40::u41::u42::u43::u44::u45::u46::u47::u48::u49::u50::u51::u52::u53::u54::u55::u56::u57::u58::u59::u60::u61::u62::u63::u64::u65::u66::u67::u68::u69::u70::u71::u72::u73::u74::u75::u76::u77::u78::u79::u80::u81::u82::u83::u84::u85::u86::u87::u88::u89::u90::u91::u92::u93::u94::u95::u96::u97::u98::u99::u100::u101::u102::u103::u104::u105::u106::u107::u108::u109::u110::u111::u112::u113::u114::u115::u116::u117::u118::u119::u120::u121::u122::u123::u124::u125::u126::u127::u128::u129::u130::u131::u132::u133::u134::u135::u136::u137::u138::u139::u140::u141::u142::u143::u144::u145::u146::u147::u148::u149::u150::u151::u152::u153::u154::u155::u156::u157::u158::u159::u160::u161::u162::u163::u164::u165::u166::u167::u168::u169::u170::u171::u172::u173::u174::u175::u176::u177::u178::u179::u180::u181::u182::u183::u184::u185::u186::u187::u188::u189::u190::u191::u192::u193::u194::u195::u196::u197::u198::u199::u200::u201::u202::u203::u204::u205::u206::u207::u208::u209::u210::u211::u212::u213::u214::u215::u216::u217::u218::u219::u220::u221::u222::u223::u224::u225::u226::u227::u228::u229::u230::u231::u232::u233::u234::u235::u236::u237::u238::u239::u240::u241::u242::u243::u244::u245::u246::u247::u248::u249::u250::u251::u252::u253::u254::u255::u256::u257::u258::u259::u260::u261::u262::u263::u264::u265::u266::u267::u268::u269::u270::u271::u272::u273::u274::u275::u276::u277::u278::u279::u280::u281::u282::u283::u284::u285::u286::u287::u288::u289::u290::u291::u292::u293::u294::u295::u296::u297::u298::u299::u300::u301::u302::u303::u304::u305::u306::u307::u308::u309::u310::u311::u312::u313::u314::u315::u316::u317::u318::u319::u320::u321::u322::v323::v324::v325::v326::v327::v328::v329::v330::v331::v332::v333::v334::v335::v336::v337::v338::v339::v340::v341::v342::v343::v344::v345::v346::v347::v348::v349::v350::v351::v352::v353::v354::v355::v356::v357::v358::v359::v360::v361::v362::v363::v364::u365::u366::u367::u368::u369::u370::u371::u372::u373::u374::u375::u376::u377::u378::u379::u380::u381::u382::u383::u384::u385::u386::u387::u388::u389::u390::u391::u392::u393::u394::u395::u396::u397::u398::u399::u400::u401::u402::u403::u404::u405::u406::u407::u408::u409::u410::u411::u412::u413::u414::u415::u416::u417::u418::u419::u420::u421::u422::u423::u424::u425::u426::u427::[]),[]⟩ w') :
  Code.wp Try.prog (pR (pL (rs 17 (Try.f4.body.getD .skip)))) Qx ⟨List.toArray (u0::u1::u2::u3::u4::u5::u6::u7::u8::u9::u10::u11::u12::u13::u14::u15::u16::u17::u18::u19::u20::u21::u22::u23::u24::u25::.pointer (some ⟨bs,0,none⟩)::u27::u28::.int .i64 0::u30::u31::u32::u33::u34::u35::u36::u37::u38::u39::u40::u41::u42::u43::u44::u45::u46::u47::u48::u49::u50::u51::u52::u53::u54::u55::u56::u57::u58::u59::u60::u61::u62::u63::u64::u65::u66::u67::u68::u69::u70::u71::u72::u73::u74::u75::u76::u77::u78::u79::u80::u81::u82::u83::u84::u85::u86::u87::u88::u89::u90::u91::u92::u93::u94::u95::u96::u97::u98::u99::u100::u101::u102::u103::u104::u105::u106::u107::u108::u109::u110::u111::u112::u113::u114::u115::u116::u117::u118::u119::u120::u121::u122::u123::u124::u125::u126::u127::u128::u129::u130::u131::u132::u133::u134::u135::u136::u137::u138::u139::u140::u141::u142::u143::u144::u145::u146::u147::u148::u149::u150::u151::u152::u153::u154::u155::u156::u157::u158::u159::u160::u161::u162::u163::u164::u165::u166::u167::u168::u169::u170::u171::u172::u173::u174::u175::u176::u177::u178::u179::u180::u181::u182::u183::u184::u185::u186::u187::u188::u189::u190::u191::u192::u193::u194::u195::u196::u197::u198::u199::u200::u201::u202::u203::u204::u205::u206::u207::u208::u209::u210::u211::u212::u213::u214::u215::u216::u217::u218::u219::u220::u221::u222::u223::u224::u225::u226::u227::u228::u229::u230::u231::u232::u233::u234::u235::u236::u237::u238::u239::u240::u241::u242::u243::u244::u245::u246::u247::u248::u249::u250::u251::u252::u253::u254::u255::u256::u257::u258::u259::u260::u261::u262::u263::u264::u265::u266::u267::u268::u269::u270::u271::u272::u273::u274::u275::u276::u277::u278::u279::u280::u281::u282::u283::u284::u285::u286::u287::u288::u289::u290::u291::u292::u293::u294::u295::u296::u297::u298::u299::u300::u301::u302::u303::u304::u305::u306::u307::u308::u309::u310::u311::u312::u313::u314::u315::u316::u317::u318::u319::u320::u321::u322::u323::u324::u325::u326::u327::u328::u329::u330::u331::u332::u333::u334::u335::u336::u337::u338::u339::u340::u341::u342::u343::u344::u345::u346::u347::u348::u349::u350::u351::u352::u353::u354::u355::u356::u357::u358::u359::u360::u361::u362::u363::u364::u365::u366::u367::u368::u369::u370::u371::u372::u373::u374::u375::u376::u377::u378::u379::u380::u381::u382::u383::u384::u385::u386::u387::u388::u389::u390::u391::u392::u393::u394::u395::u396::u397::u398::u399::u400::u401::u402::u403::u404::u405::u406::u407::u408::u409::u410::u411::u412::u413::u414::u415::u416::u417::u418::u419::u420::u421::u422::u423::u424::u425::u426::u427::[]),[]⟩ y:=by
 conv=>arg 2;whnf
 have HX:=hid hx
 have H2:=hid h2
 have HN0:=hid hnb0
 have HBy:=hid hB
 have HPx:=hid hP
 have HK:=hid hK
 clear hx h2 hnb0 hB hP hK
 go_upto_region 55 with fail
 go_loopw [29] (SoX y base 60 5 1 a n c Q) (fun v _=>n - S.ivN v)
 case atStart=>exact SoX.start H2.out
 case round =>
  obtain⟨i,L,rfl,hi,hL,hf,hU,hb⟩:=hrel
  have HL:=hid hL
  have HF:=hid hf
  have HU:=hid hU
  have HB:=hid hb
  have HIn:=hid hi
  have xd:wr.cell? ⟨bs,0,none⟩=some (.slice a n c):=cell_but hb HX.out HN0.out
  have HXd:=hid xd
  clear hL hf hU hb hi
  by_cases hlt:i<n
  ·have hd:decide ((i:Int)<(n:Int))=true:=decide_eq_true (by omega)
   obtain⟨o,ho⟩:∃o,Q[i]?=some o:=⟨_,List.getElem?_eq_getElem (by have:=H2.out.len;omega)⟩
   obtain⟨g,rfl,-⟩:=Ow.at_ HL.out (by omega)
   have hom:=List.mem_of_getElem? ho
   obtain⟨B,hB,hol⟩:=HBy.out o hom
   have hrow:=HU.out i o (Nat.le_refl _) ho
   rw [hB] at hrow
   have hOw:Own wr base 5 o.a o.len o.cap (S.u8s B):=⟨hrow,S.u8s_one _⟩
   have hh:=Ow.rv HL.out g rfl (i*2+1) (.slice o.a o.len o.cap) (by rw [HF.out.2 _ (by omega)];exact evs_at Q i o ho 1 (by omega))
   have hng:¬Blk o.a g:=fun e=>H2.out.top o hom g e (blk_some g)
   have hnb:¬Blk o.a bs:=fun e=>HN0.out (.inr ⟨o,hom,e⟩)
   have hnB:o.len=B.length:=by have:=hOw.len;rw [S.u8s_length] at this;exact this.symm
   obtain⟨oa,hoa⟩:∃oa,oa=o.a:=⟨_,rfl⟩
   obtain⟨ol,hol2⟩:∃ol,ol=o.len:=⟨_,rfl⟩
   obtain⟨oc,hoc⟩:∃oc,oc=o.cap:=⟨_,rfl⟩
   rw [←hoa,←hol2,←hoc] at hh hOw
   rw [←hoa] at hng hnb
   rw [←hol2] at hol hnB
   have HOw:=hid hOw
   have HHh:=hid hh
   have HNg:=hid hng
   have HNb:=hid hnb
   have HNB:=hid hnB
   have HOe:=hid hoa
   have HOo:=hid ho
   clear hrow hOw hh hng hnb hnB hoa hol2 hoc ho hom hB
   go_upto_region 58 with fail
   clear xd
   go_loopw [30] (XrR wr base 5 oa ol oc (S.u8s B)) (fun v _=>ol - S.ivN v)
   case atStart=>exact⟨0,_,rfl,Nat.zero_le _,HOw.out,Lf.start _,But.refl _ _⟩
   case round =>
    rename World=>U
    obtain⟨j,M,rfl,hj,hM,hMf,hMb⟩:=hrel
    have HM:=hid hM
    have HMf:=hid hMf
    have HMb:=hid hMb
    have xd:U.cell? ⟨bs,0,none⟩=some (.slice (some ⟨g,0,none⟩) n c):=cell_but hMb HXd.out HNb.out
    have xh:U.cell? ⟨g,i*2+1,none⟩=some (.slice oa ol oc):=cell_but hMb HHh.out HNg.out
    clear hM hMf hMb
    by_cases hlt2:j<ol
    ·have hd2:decide ((j:Int)<(ol:Int))=true:=decide_eq_true (by omega)
     obtain⟨q,rfl⟩:=HM.out.form (by omega)
     obtain⟨x,hx⟩:∃x,B[j]?=some x:=⟨_,List.getElem?_eq_getElem (by have:=HNB.out;omega)⟩
     have hc:=HM.out.read.cells _ rfl j (.int .u8 (x:Int)) (by rw [HMf.out.2 j (Nat.le_refl _)];simp [S.u8s,hx])
     rw [addr_add0] at hc
     have hfz:U.frozen? ⟨q,j,none⟩=false:=own_fz HM.out j
     go_upto_region 59 with fail
     clear hc hfz hx xd xh
     have hfin:=XrR.next HM.out HMf.out HMb.out hlt2 (.int .u8 (bits BinOp.xor IntKind.u8 (x:Int) 255)) rfl
     have HFi:=hid hfin
     clear hfin
     go_wp2
     exact⟨HFi.out,by simp [S.ivN];omega⟩
    ·obtain rfl:j=ol:=by omega
     have hd2:decide ((j:Int)<(j:Int))=false:=by simp
     have hsz:base≤U.drew.heap.size:=Nat.le_trans hby (Nat.le_trans HB.out.size HMb.out.size)
     have hcr0:=(Cr.lit U.drew 5 [.int .u8 1,.int .u8 2] (fun u hu=>by simp only [List.mem_cons,List.not_mem_nil,or_false] at hu;rcases hu with h|h<;>(rw [h];rfl)))
     have hcr:Cr (U.drew.alloc (Obj.cells [.int .u8 1,.int .u8 2].toArray 5)) 1 (some ⟨U.drew.heap.size,0,none⟩) 2 2 [.int .u8 1,.int .u8 2]:=⟨rfl,fun h=>(by cases h),hcr0.cells,hcr0.one⟩
     have hal:Below U.drew.heap.size U.drew (U.drew.alloc (Obj.cells [.int .u8 1,.int .u8 2].toArray 5)):=below1 _ _
     have hOd:=Ow.later (Ow.later HM.out.row (Below.refl _ _).drew) hal
     obtain⟨a8,c8,w8,hr8,hO8,hG8⟩:=append_k 41 5 _ 1 1 Try.underlying41 infoEB rfl (by omega) (by omega) hOd hcr (Nat.le_trans hsz hal.size) (by omega)
     have hbU:But (Blk oa) wr w8:=((HMb.out.call (Below.refl _ _).drew).call hal).trans hG8.but
     have hL8:=Ow.but HL.out hbU (fun k hk e=>by rw [show k=g from Ow.blk1 (base:=0) (e:=0) (k:=0) (n:=0) (c:=0) (L:=[]) hk] at e;exact HNg.out e)
     obtain⟨v8,hc8,hf8⟩:=ow_cell hL8 (q:=i*2+1) (by omega)
     have xA:=cell_later (Below.refl U.heap.size U).drew xh
     have xB:(U.alloc (Obj.cells #[.int .u8 1,.int .u8 2] 5)).drew.cell? ⟨g,i*2+1,none⟩=some (.slice oa j oc):=cell_later hal xA
     have HS61:Hid (∀V,But (Blk oa) U V→V.cell? ⟨bs,0,none⟩=some (.slice (some ⟨g,0,none⟩) n c)):=fun V hV=>cell_but hV xd HNb.out
     have hgbs:bs≠g:=fun e=>HN0.out (.inl (by rw [e];exact blk_some g))
     have HSB:Hid ((w8.setCell ⟨g,i*2+1,none⟩ (.slice a8 (j+2) c8)).cell? ⟨bs,0,none⟩=some (.slice (some ⟨g,0,none⟩) n c)):=cell_but ((But.refl (fun x=>x=g) w8).setCell (p:=⟨g,i*2+1,none⟩) rfl _) (cell_but hbU HXd.out HNb.out) hgbs
     have HR8:=hid hr8
     have HG8:=hid hG8.but
     have hfin:=SoX.next H2.out HOo.out HL.out HF.out HU.out HB.out (by rw [←HOe.out];exact hbU) (.slice a8 (j+2) c8)
     have HFi:=hid hfin
     have HAl:=hid hal
     clear hfin hr8 hG8 hO8 hcr hcr0 hOd hbU hL8
     go_upto_region 61 with fail
     clear xh xd
     refine wp_region_held_drew (S:=(fun U:World=>U.cell? ⟨bs,0,none⟩=some (.slice (some ⟨g,0,none⟩) n c))) (by kernel_rfl) (HS61.out _ ((But.refl (Blk oa) U).call (Below.refl _ _).drew)) (fun hHeld=>?_)
     refine wpAnyH_norm (l2:=#[false,false,false,false,false,false,false,false,false,false,false,false,false,false]) (f2:=14) (by kernel_rfl) (by kernel_rfl) ?_
     refine wpAnyH_take (i:=0) (oi:=_) (v:=?_) rfl (by kernel_rfl) (by kernel_rfl) (by kernel_rfl) (fun _ _ _ h=>HPx.out _ _ _ _ _ h) (Or.inl ⟨by rfl,?_⟩) (by assumption) ?_
     rotate_left
     ·(intro w hSw;(try dsimp only at hSw);go_simp;try with_reducible rfl)
     simp only [List.getElem_toArray,List.getElem_cons_succ,List.getElem_cons_zero,Act.put,List.setIfInBounds_toArray,List.set_cons_zero,List.set_cons_succ]
     refine wpAnyH_norm (l2:=#[true,false,false,false,false,false,false,false,false,false,false,false,false,false]) (f2:=13) (by kernel_rfl) (by kernel_rfl) ?_
     refine wpAnyH_take (i:=1) (oi:=_) (v:=?_) rfl (by kernel_rfl) (by kernel_rfl) (by kernel_rfl) (fun _ _ _ h=>HPx.out _ _ _ _ _ h) (Or.inl ⟨by rfl,?_⟩) (by assumption) ?_
     rotate_left
     ·(intro w hSw;(try dsimp only at hSw);go_simp;try with_reducible rfl)
     simp only [List.getElem_toArray,List.getElem_cons_succ,List.getElem_cons_zero,Act.put,List.setIfInBounds_toArray,List.set_cons_zero,List.set_cons_succ]
     refine wpAnyH_norm (l2:=#[true,true,false,false,false,false,false,false,false,false,false,false,false,false]) (f2:=12) (by kernel_rfl) (by kernel_rfl) ?_
     refine wpAnyH_take (i:=2) (oi:=_) (v:=?_) rfl (by kernel_rfl) (by kernel_rfl) (by kernel_rfl) (fun _ _ _ h=>HPx.out _ _ _ _ _ h) (Or.inl ⟨by rfl,?_⟩) (by assumption) ?_
     rotate_left
     ·(intro w hSw;(try dsimp only at hSw);go_simp;try with_reducible rfl)
     simp only [List.getElem_toArray,List.getElem_cons_succ,List.getElem_cons_zero,Act.put,List.setIfInBounds_toArray,List.set_cons_zero,List.set_cons_succ]
     refine wpAnyH_norm (l2:=#[true,true,true,false,false,false,false,false,false,false,false,false,false,false]) (f2:=11) (by kernel_rfl) (by kernel_rfl) ?_
     refine wpAnyH_take (i:=3) (oi:=_) (v:=?_) rfl (by kernel_rfl) (by kernel_rfl) (by kernel_rfl) (fun _ _ _ h=>HPx.out _ _ _ _ _ h) (Or.inl ⟨by rfl,?_⟩) (by assumption) ?_
     rotate_left
     ·(intro w hSw;(try dsimp only at hSw);go_simp;try with_reducible rfl)
     simp only [List.getElem_toArray,List.getElem_cons_succ,List.getElem_cons_zero,Act.put,List.setIfInBounds_toArray,List.set_cons_zero,List.set_cons_succ]
     refine wpAnyH_norm (l2:=#[true,true,true,true,false,false,false,false,false,false,false,false,false,false]) (f2:=10) (by kernel_rfl) (by kernel_rfl) ?_
     refine wpAnyH_take (i:=4) (oi:=_) (v:=?_) rfl (by kernel_rfl) (by kernel_rfl) (by kernel_rfl) (fun _ _ _ h=>HPx.out _ _ _ _ _ h) (Or.inl ⟨by rfl,?_⟩) (by assumption) ?_
     rotate_left
     ·(intro w hSw;(try dsimp only at hSw);go_simp;try with_reducible rfl)
     simp only [List.getElem_toArray,List.getElem_cons_succ,List.getElem_cons_zero,Act.put,List.setIfInBounds_toArray,List.set_cons_zero,List.set_cons_succ]
     refine wpAnyH_norm (l2:=#[true,true,true,true,true,false,false,false,false,false,false,false,false,false]) (f2:=9) (by kernel_rfl) (by kernel_rfl) ?_
     refine wpAnyH_take (i:=5) (oi:=_) (v:=?_) rfl (by kernel_rfl) (by kernel_rfl) (by kernel_rfl) (fun _ _ _ h=>HPx.out _ _ _ _ _ h) (Or.inl ⟨by rfl,?_⟩) (by assumption) ?_
     rotate_left
     ·(intro w hSw;(try dsimp only at hSw);go_simp;try with_reducible rfl)
     simp only [List.getElem_toArray,List.getElem_cons_succ,List.getElem_cons_zero,Act.put,List.setIfInBounds_toArray,List.set_cons_zero,List.set_cons_succ]
     refine wpAnyH_norm (l2:=#[true,true,true,true,true,true,false,false,false,false,false,false,false,false]) (f2:=8) (by kernel_rfl) (by kernel_rfl) ?_
     refine wpAnyH_take (i:=6) (oi:=_) (v:=?_) rfl (by kernel_rfl) (by kernel_rfl) (by kernel_rfl) (fun _ _ _ h=>HPx.out _ _ _ _ _ h) (Or.inl ⟨by rfl,?_⟩) (by assumption) ?_
     rotate_left
     ·(intro w hSw;(try dsimp only at hSw);go_simp;try with_reducible rfl)
     simp only [List.getElem_toArray,List.getElem_cons_succ,List.getElem_cons_zero,Act.put,List.setIfInBounds_toArray,List.set_cons_zero,List.set_cons_succ]
     refine wpAnyH_norm (l2:=#[true,true,true,true,true,true,true,false,false,false,false,false,false,false]) (f2:=7) (by kernel_rfl) (by kernel_rfl) ?_
     refine wpAnyH_take (i:=7) (oi:=_) (v:=?_) rfl (by kernel_rfl) (by kernel_rfl) (by kernel_rfl) (fun _ _ _ h=>HPx.out _ _ _ _ _ h) (Or.inl ⟨by rfl,?_⟩) (by assumption) ?_
     rotate_left
     ·(intro w hSw;(try dsimp only at hSw);go_simp;try with_reducible rfl)
     simp only [List.getElem_toArray,List.getElem_cons_succ,List.getElem_cons_zero,Act.put,List.setIfInBounds_toArray,List.set_cons_zero,List.set_cons_succ]
     refine wpAnyH_norm (l2:=#[true,true,true,true,true,true,true,true,false,false,false,false,false,false]) (f2:=6) (by kernel_rfl) (by kernel_rfl) ?_
     refine wpAnyH_ready (rs:=[8,9]) (by kernel_rfl) (by simp) ?_
     refine AllReadyH.cons rfl (fun K hK=>?_) ?_
     ·go_simp
      refine hK.out _ _ (HS61.out _ ((But.refl (Blk oa) U).call (Below.refl _ _).drew)) (fun hHeld=>?_)
      clear hK K
      simp only [List.getElem_toArray,List.getElem_cons_succ,List.getElem_cons_zero,Act.put,List.setIfInBounds_toArray,List.set_cons_zero,List.set_cons_succ]
      refine wpAnyH_norm (l2:=#[true,true,true,true,true,true,true,true,true,false,false,false,false,false]) (f2:=5) (by kernel_rfl) (by kernel_rfl) ?_
      refine wpAnyH_ready (rs:=[9]) (by kernel_rfl) (by simp) ?_
      refine AllReadyH.cons rfl (fun K hK=>?_) AllReadyH.nil
      go_simp
      refine hK.out _ _ (HS61.out _ (((But.refl (Blk oa) U).call (Below.refl _ _).drew).call HAl.out)) (fun hHeld=>?_)
      clear hK K
      simp only [List.getElem_toArray,List.getElem_cons_succ,List.getElem_cons_zero,Act.put,List.setIfInBounds_toArray,List.set_cons_zero,List.set_cons_succ]
      refine wpAnyH_norm (l2:=#[true,true,true,true,true,true,true,true,true,true,false,false,false,false]) (f2:=4) (by kernel_rfl) (by kernel_rfl) ?_
      refine wpAnyH_ready (rs:=[10]) (by kernel_rfl) (by simp) ?_
      refine AllReadyH.cons rfl (fun K hK=>?_) AllReadyH.nil
      refine wp_app (.tmp 360) (.tmp 361) 41 rfl _ _ rfl rfl _ w8 HR8.out ?_
      refine hK.out _ _ (HS61.out _ ((((But.refl (Blk oa) U).call (Below.refl _ _).drew).call HAl.out).trans HG8.out)) (fun hHeld=>?_)
      clear hK K
      simp only [List.getElem_toArray,List.getElem_cons_succ,List.getElem_cons_zero,Act.put,List.setIfInBounds_toArray,List.set_cons_zero,List.set_cons_succ]
      refine wpAnyH_norm (l2:=#[true,true,true,true,true,true,true,true,true,true,true,false,false,false]) (f2:=3) (by kernel_rfl) (by kernel_rfl) ?_
      refine wpAnyH_take (i:=11) (oi:=_) (v:=?_) rfl (by kernel_rfl) (by kernel_rfl) (by kernel_rfl) (fun _ _ _ h=>HPx.out _ _ _ _ _ h) (Or.inl ⟨by rfl,?_⟩) (by assumption) ?_
      rotate_left
      ·(intro w hSw;(try dsimp only at hSw);go_simp;try with_reducible rfl)
      simp only [List.getElem_toArray,List.getElem_cons_succ,List.getElem_cons_zero,Act.put,List.setIfInBounds_toArray,List.set_cons_zero,List.set_cons_succ]
      refine wpAnyH_norm (l2:=#[true,true,true,true,true,true,true,true,true,true,true,true,false,false]) (f2:=2) (by kernel_rfl) (by kernel_rfl) ?_
      refine wpAnyH_take (i:=12) (oi:=_) (v:=?_) rfl (by kernel_rfl) (by kernel_rfl) (by kernel_rfl) (fun _ _ _ h=>HPx.out _ _ _ _ _ h) (Or.inl ⟨by rfl,?_⟩) (by assumption) ?_
      rotate_left
      ·(intro w hSw;(try dsimp only at hSw);go_simp;try with_reducible rfl)
      simp only [List.getElem_toArray,List.getElem_cons_succ,List.getElem_cons_zero,Act.put,List.setIfInBounds_toArray,List.set_cons_zero,List.set_cons_succ]
      refine wpAnyH_norm (l2:=#[true,true,true,true,true,true,true,true,true,true,true,true,true,false]) (f2:=1) (by kernel_rfl) (by kernel_rfl) ?_
      refine wpAnyH_ready (rs:=[13]) (by kernel_rfl) (by simp) ?_
      refine AllReadyH.cons rfl (fun K hK=>?_) AllReadyH.nil
      go_simp
      refine hK.out _ _ (HSB.out) (fun hHeld=>?_)
      clear hK K
      simp only [List.getElem_toArray,List.getElem_cons_succ,List.getElem_cons_zero,Act.put,List.setIfInBounds_toArray,List.set_cons_zero,List.set_cons_succ]
      refine wpAnyH_norm (l2:=#[true,true,true,true,true,true,true,true,true,true,true,true,true,true]) (f2:=0) (by kernel_rfl) (by kernel_rfl) ?_
      refine wpAnyH_done (by kernel_rfl) ?_ _
      (try clear hc8 hf8 xA xB)
      go_wp2
      exact⟨HFi.out,by simp [S.ivN];omega⟩
     refine AllReadyH.cons rfl (fun K hK=>?_) AllReadyH.nil
     go_simp
     refine hK.out _ _ (HS61.out _ (((But.refl (Blk oa) U).call (Below.refl _ _).drew).call HAl.out)) (fun hHeld=>?_)
     clear hK K
     simp only [List.getElem_toArray,List.getElem_cons_succ,List.getElem_cons_zero,Act.put,List.setIfInBounds_toArray,List.set_cons_zero,List.set_cons_succ]
     refine wpAnyH_norm (l2:=#[true,true,true,true,true,true,true,true,false,true,false,false,false,false]) (f2:=5) (by kernel_rfl) (by kernel_rfl) ?_
     refine wpAnyH_ready (rs:=[8]) (by kernel_rfl) (by simp) ?_
     refine AllReadyH.cons rfl (fun K hK=>?_) AllReadyH.nil
     go_simp
     refine hK.out _ _ (HS61.out _ (((But.refl (Blk oa) U).call (Below.refl _ _).drew).call HAl.out)) (fun hHeld=>?_)
     clear hK K
     simp only [List.getElem_toArray,List.getElem_cons_succ,List.getElem_cons_zero,Act.put,List.setIfInBounds_toArray,List.set_cons_zero,List.set_cons_succ]
     refine wpAnyH_norm (l2:=#[true,true,true,true,true,true,true,true,true,true,false,false,false,false]) (f2:=4) (by kernel_rfl) (by kernel_rfl) ?_
     refine wpAnyH_ready (rs:=[10]) (by kernel_rfl) (by simp) ?_
     refine AllReadyH.cons rfl (fun K hK=>?_) AllReadyH.nil
     refine wp_app (.tmp 360) (.tmp 361) 41 rfl _ _ rfl rfl _ w8 HR8.out ?_
     refine hK.out _ _ (HS61.out _ ((((But.refl (Blk oa) U).call (Below.refl _ _).drew).call HAl.out).trans HG8.out)) (fun hHeld=>?_)
     clear hK K
     simp only [List.getElem_toArray,List.getElem_cons_succ,List.getElem_cons_zero,Act.put,List.setIfInBounds_toArray,List.set_cons_zero,List.set_cons_succ]
     refine wpAnyH_norm (l2:=#[true,true,true,true,true,true,true,true,true,true,true,false,false,false]) (f2:=3) (by kernel_rfl) (by kernel_rfl) ?_
     refine wpAnyH_take (i:=11) (oi:=_) (v:=?_) rfl (by kernel_rfl) (by kernel_rfl) (by kernel_rfl) (fun _ _ _ h=>HPx.out _ _ _ _ _ h) (Or.inl ⟨by rfl,?_⟩) (by assumption) ?_
     rotate_left
     ·(intro w hSw;(try dsimp only at hSw);go_simp;try with_reducible rfl)
     simp only [List.getElem_toArray,List.getElem_cons_succ,List.getElem_cons_zero,Act.put,List.setIfInBounds_toArray,List.set_cons_zero,List.set_cons_succ]
     refine wpAnyH_norm (l2:=#[true,true,true,true,true,true,true,true,true,true,true,true,false,false]) (f2:=2) (by kernel_rfl) (by kernel_rfl) ?_
     refine wpAnyH_take (i:=12) (oi:=_) (v:=?_) rfl (by kernel_rfl) (by kernel_rfl) (by kernel_rfl) (fun _ _ _ h=>HPx.out _ _ _ _ _ h) (Or.inl ⟨by rfl,?_⟩) (by assumption) ?_
     rotate_left
     ·(intro w hSw;(try dsimp only at hSw);go_simp;try with_reducible rfl)
     simp only [List.getElem_toArray,List.getElem_cons_succ,List.getElem_cons_zero,Act.put,List.setIfInBounds_toArray,List.set_cons_zero,List.set_cons_succ]
     refine wpAnyH_norm (l2:=#[true,true,true,true,true,true,true,true,true,true,true,true,true,false]) (f2:=1) (by kernel_rfl) (by kernel_rfl) ?_
     refine wpAnyH_ready (rs:=[13]) (by kernel_rfl) (by simp) ?_
     refine AllReadyH.cons rfl (fun K hK=>?_) AllReadyH.nil
     go_simp
     refine hK.out _ _ (HSB.out) (fun hHeld=>?_)
     clear hK K
     simp only [List.getElem_toArray,List.getElem_cons_succ,List.getElem_cons_zero,Act.put,List.setIfInBounds_toArray,List.set_cons_zero,List.set_cons_succ]
     refine wpAnyH_norm (l2:=#[true,true,true,true,true,true,true,true,true,true,true,true,true,true]) (f2:=0) (by kernel_rfl) (by kernel_rfl) ?_
     refine wpAnyH_done (by kernel_rfl) ?_ _
     (try clear hc8 hf8 xA xB)
     go_wp2
     exact⟨HFi.out,by simp [S.ivN];omega⟩
  ·obtain rfl:i=n:=by have:=HIn.out;omega
   have hd:decide ((i:Int)<(i:Int))=false:=by simp
   go_wp2
   refine HK.out _ HB.out ..
end
end Go.Proofs.Ytffmodpgddecnaa.V.E
