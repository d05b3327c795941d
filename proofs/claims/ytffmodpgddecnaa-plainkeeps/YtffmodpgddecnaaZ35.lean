import Derived.Test.YtffmodpgddecnaaZ34
import Derived.Test.YtffmodpgddecnaaZ25
import Derived.Deep.CutBlock
import Derived.Deep.DeepCutAuto
namespace Go.Proofs.Ytffmodpgddecnaa.V.E
open Go.RowKit Go.Maps
open Go.Proofs.Ytffmodpgddecnaa.H (B64 Cp)
open Go.Proofs.Ytffmodpgddecnaa.M (wpAnyH_norm)
set_option linter.unusedVariables false
set_option linter.unusedSimpArgs false
theorem small_ps {p:Pm}{q:Pl}(hf:Fit p q)(ht:TreA q):(psP q).Small:=by
 have h1:=hf.rm
 have h2:=hf.mo
 have h3:=hf.pm
 have h4:=tlO_len ht []
 refine⟨?_,?_,?_,fun v hv=>?_,fun v hv=>?_⟩
 ·show (vO q.O).length≤_
  unfold vO
  rw [List.length_map]
  omega
 ·show (q.O.foldl tlO []).length≤_
  simp only [List.length_nil] at h4
  omega
 ·show q.X.length≤_
  omega
 ·obtain⟨e,he,rfl⟩:=List.mem_map.1 hv
  have:=(hf.ob e he).2.1
  show e.2.b.length≤_
  omega
 ·have h5:=(hf.ln v hv).1
  have h6:=hf.lm
  omega
section
variable {y:World}
set_option maxRecDepth 1000000 in
set_option maxHeartbeats 8000000 in
theorem kp_end {u0 u1 u2 u3 u4 u5 u6 u7 u9 u11 u12 u13 u14 u15 u16 u17 u18 u19 u20 u21 u22 u23 u24 u25 u26 u27 u28 u29 u30 u31 u32 u33 u34 u35 u36 u37 u38 u39 u40 u41 u42 u43 u44 u45 u46 u47 u48 u49 u50 u51 u52 u53 u54 u55 u56 u57 u58 u59 u60 u61 u62 u63 u64 u65 u66 u67 u68 u69 u70 u71 u72 u73 u74 u75 u76 u77 u78 u79 u80 u81 u82 u83 u84 u85 u86 u87 u88 u89 u90 u91 u92 u93 u94 u95 u96 u97 u98 u99 u100 u101 u102 u103 u104 u105 u106 u107 u108 u109 u110 u111 u112 u113 u114 u115 u116 u117 u118 u119 u120 u121 u122 u123 u124 u125 u126 u127 u128 u129 u130 u131 u132 u133 u134 u135 u136 u137 u138 u139 u140 u141 u142 u143 u144 u145 u146 u147 u148 u149 u150 u151 u152 u153 u154 u155 u156 u157 u158 u159 u160 u161 u162 u163 u164 u165 u166 u167 u168 u169 u170 u171 u172 u173 u174 u175 u176 u177 u178 u179 u180 u181 u182 u183 u184 u185 u186 u187 u188 u189 u190 u191 u192 u193 u194 u195 u196 u197 u198 u199 u200 u201 u202 u203 u204 u205 u206 u207 u208 u209 u210 u211 u212 u213 u214 u215 u216 u217 u218 u219 u220 u221 u222 u223 u224 u225 u226 u227 u228 u229 u230 u231 u232 u233 u234 u235 u236 u237 u238 u239 u240 u241 u242 u243 u244 u245 u246 u247 u248 u249 u250 u251 u252 u253 u254 u255 u256 u257 u258 u259 u260 u261 u262 u263 u264 u265 u266 u267 u268 u269 u270 u271 u272 u273 u274 u275 u276 u277 u278 u279 u280 u281 u282 u283 u284 u285 u286 u287 u288 u289 u290 u291 u292 u293 u294 u295 u296 u297 u298 u299 u300 u301 u302 u303 u304 u305 u306 u307 u308 u309 u310 u311 u312 u313 u314 u315 u316 u317 u318 u319 u320 u321 u322 u323 u324 u325 u326 u327 u328 u329 u330 u331 u332 u333 u334 u335 u336 u337 u338 u339 u340 u341 u342 u343 u344 u345 u346 u347 u348 u349 u350 u351 u352 u353 u354 u355 u356 u357 u358 u359 u360 u361 u362 u363 u364 u365 u366 u367 u368 u369 u370 u371 u372 u373 u374 u375 u376 u377 u378 u379 u380 u381 u382 u383 u384 u385 u386 u387 u388 u389 u390 u391 u392 u393 u394 u395 u396 u397 u398 u399 u400 u401 u402 u403 u404 u405 u406 u407 u408 u409 u410 u411 u412 u413 u414 u415 u416 u417 u418 u419 u420 u421 u422 u423 u424 u425 u426 u427:Value}{Qx:Exit→Act→World→Prop}{hx hy:Hm}{q:Pl}{Nx Ny:Nat→Prop}(kx:Mw y hx q Nx)(ky:Mw y hy q Ny)(fx:Fit hx.p q)(fy:Fit hy.p q)(ht:TreA q)(hP:∀c a d v w,Qx (.panic c) (Act.put a d v) w→Qx (.panic c) a w)
  (hK:∀(w':World),Below y.heap.size y w'→∀(v26 v27 v28 v29 v30 v31 v32 v33 v307 v308 v309 v310 v311 v312 v313 v314 v315 v316 v317 v318 v319 v320 v321 v322 v323 v324 v325 v326 v327 v328 v329 v330 v331 v332 v333 v334 v335 v336 v337 v338 v339 v340 v341 v342 v343 v344 v345 v346 v347 v348 v349 v350 v351 v352 v353 v354 v355 v356 v357 v358 v359 v360 v361 v362 v363 v364 v365 v366 v367 v368 v369 v370 v371 v372 v373 v374 v375 v376 v377 v378 v379 v380 v381 v382 v383 v384 v385 v386 v387 v388 v389 v390 v391 v392 v393 v394 v395 v396 v397 v398 v399 v400 v401 v402 v403 v404 v405 v406 v407 v408 v409 v410 v411 v412 v413 v414 v415 v416 v417 v418 v419 v420 v421 v422 v423 v424 v425 v426 v427:Value),Qx .ret ⟨List.toArray (u0::u1::u2::u3::u4::u5::.bool true::u7::.pointer (some ⟨hx.g,0,none⟩)::u9::.pointer (some ⟨hy.g,0,none⟩)::u11::u12::u13::u14::u15::u16::u17::u18::u19::u20::u21::u22::u23::u24::u25::v26::v27::v28::v29::v30::v31::v32::v33::u34::u35::u36::u37::u38::u39::u40::u41::u42::u43::u44::u45::u46::u47::u48::u49::u50::u51::u52::u53::u54::u55::u56::u57::u58::u59::u60::u61::u62::u63::u64::u65::u66::u67::u68::u69::u70::u71::u72::u73::u74::u75::u76::u77::u78::u79::u80::u81::u82::u83::u84::u85::u86::u87::u88::u89::u90::u91::u92::u93::u94::u95::u96::u97::u98::u99::u100::u101::u102::u103::u104::u105::u106::u107::u108::u109::u110::u111::u112::u113::u114::u115::u116::u117::u118::u119::u120::u121::u122::u123::u124::u125::u126::u127::u128::u129::u130::u131::u132::u133::u134::u135::u136::u137::u138::u139::u140::u141::u142::u143::u144::u145::u146::u147::u148::u149::u150::u151::u152::u153::u154::u155::u156::u157::u158::u159::u160::u161::u162::u163::u164::u165::u166::u167::u168::u169::u170::u171::u172::u173::u174::u175::u176::u177::u178::u179::u180::u181::u182::u183::u184::u185::u186::u187::u188::u189::u190::u191::u192::u193::u194::u195::u196::u197::u198::u199::u200::u201::u202::u203::u204::u205::u206::u207::u208::u209::u210::u211::u212::u213::u214::u215::u216::u217::u218::u219::u220::u221::u222::u223::u224::u225::u226::u227::u228::u229::u230::u231::u232::u233::u234::u235::u236::u237::u238::u239::u240::u241::u242::u243::u244::u245::u246::u247::u248::u249::u250::u251::u252::u253::u254::u255::u256::u257::u258::u259::u260::u261::u262::u263::u264::u265::u266::u267::u268::u269::u270::u271::u272::u273::u274::u275::u276::u277::u278::u279::u280::u281::u282::u283::u284::u285::u286::u287::u288::u289::u290::u291::u292::u293::u294::u295::u296::u297::u298::u299::u300::u301::u302::u303::u304::u305::u306::v307::v308::v309::v310::v311::v312::v313::v314::v315::v316::v317::v318::v319::v320::v321::v322::v323::v324::v325::v326::v327::v328::v329::v330::v331::v332::v333::v334::v335::v336::v337::v338::v339::v340::v341::v342::v343::v344::v345::v346::v347::v348::v349::v350::v351::v352::v353::v354::v355::v356::v357::v358::v359::v360::v361::v362::v363::v364::v365::v366::v367::v368::v369::v370::v371::v372::v373::v374::v375::v376::v377::v378::v379::v380::v381::v382::v383::v384::v385::v386::v387::v388::v389::v390::v391::v392::v393::v394::v395::v396::v397::v398::v399::v400::v401::v402::v403::v404::v405::v406::v407::v408::v409::v410::v411::v412::v413::v414::v415::v416::v417::v418::v419::v420::v421::v422::v423::v424::v425::v426::v427::[]),[]⟩ w') :
  Code.wp Try.prog (rs 13 (Try.f4.body.getD .skip)) Qx ⟨List.toArray (u0::u1::u2::u3::u4::u5::u6::u7::.pointer (some ⟨hx.g,0,none⟩)::u9::.pointer (some ⟨hy.g,0,none⟩)::u11::u12::u13::u14::u15::u16::u17::u18::u19::u20::u21::u22::u23::u24::u25::u26::u27::u28::u29::u30::u31::u32::u33::u34::u35::u36::u37::u38::u39::u40::u41::u42::u43::u44::u45::u46::u47::u48::u49::u50::u51::u52::u53::u54::u55::u56::u57::u58::u59::u60::u61::u62::u63::u64::u65::u66::u67::u68::u69::u70::u71::u72::u73::u74::u75::u76::u77::u78::u79::u80::u81::u82::u83::u84::u85::u86::u87::u88::u89::u90::u91::u92::u93::u94::u95::u96::u97::u98::u99::u100::u101::u102::u103::u104::u105::u106::u107::u108::u109::u110::u111::u112::u113::u114::u115::u116::u117::u118::u119::u120::u121::u122::u123::u124::u125::u126::u127::u128::u129::u130::u131::u132::u133::u134::u135::u136::u137::u138::u139::u140::u141::u142::u143::u144::u145::u146::u147::u148::u149::u150::u151::u152::u153::u154::u155::u156::u157::u158::u159::u160::u161::u162::u163::u164::u165::u166::u167::u168::u169::u170::u171::u172::u173::u174::u175::u176::u177::u178::u179::u180::u181::u182::u183::u184::u185::u186::u187::u188::u189::u190::u191::u192::u193::u194::u195::u196::u197::u198::u199::u200::u201::u202::u203::u204::u205::u206::u207::u208::u209::u210::u211::u212::u213::u214::u215::u216::u217::u218::u219::u220::u221::u222::u223::u224::u225::u226::u227::u228::u229::u230::u231::u232::u233::u234::u235::u236::u237::u238::u239::u240::u241::u242::u243::u244::u245::u246::u247::u248::u249::u250::u251::u252::u253::u254::u255::u256::u257::u258::u259::u260::u261::u262::u263::u264::u265::u266::u267::u268::u269::u270::u271::u272::u273::u274::u275::u276::u277::u278::u279::u280::u281::u282::u283::u284::u285::u286::u287::u288::u289::u290::u291::u292::u293::u294::u295::u296::u297::u298::u299::u300::u301::u302::u303::u304::u305::u306::u307::u308::u309::u310::u311::u312::u313::u314::u315::u316::u317::u318::u319::u320::u321::u322::u323::u324::u325::u326::u327::u328::u329::u330::u331::u332::u333::u334::u335::u336::u337::u338::u339::u340::u341::u342::u343::u344::u345::u346::u347::u348::u349::u350::u351::u352::u353::u354::u355::u356::u357::u358::u359::u360::u361::u362::u363::u364::u365::u366::u367::u368::u369::u370::u371::u372::u373::u374::u375::u376::u377::u378::u379::u380::u381::u382::u383::u384::u385::u386::u387::u388::u389::u390::u391::u392::u393::u394::u395::u396::u397::u398::u399::u400::u401::u402::u403::u404::u405::u406::u407::u408::u409::u410::u411::u412::u413::u414::u415::u416::u417::u418::u419::u420::u421::u422::u423::u424::u425::u426::u427::[]),[]⟩ y:=by
 conv=>arg 2;whnf
 obtain⟨Ex,Lx,kx⟩:=kx
 obtain⟨Ey,Ly,ky⟩:=ky
 obtain⟨p,hp⟩:∃p,p=psP q:=⟨_,rfl⟩
 have HSm:Hid p.Small:=by unfold Hid;rw [hp];exact small_ps fx ht
 have HSx:Hid (∀U,Md U hx q Nx Ex Lx→Calls Try.prog 14 #[.pointer (some ⟨hx.g,0,none⟩)] U (StRets U p)):=fun U hU=>by rw [hp];exact state_any hU fx ht
 have HSy:Hid (∀U,Md U hy q Ny Ey Ly→Calls Try.prog 14 #[.pointer (some ⟨hy.g,0,none⟩)] U (StRets U p)):=fun U hU=>by rw [hp];exact state_any hU fy ht
 have HKx:=hid kx
 have HKy:=hid ky
 have HPx:=hid hP
 have HK:=hid hK
 clear kx ky hp fx fy ht hP hK
 have HB0:Hid (Below y.heap.size y y):=Below.refl _ _
 have HC1:=hid (HSx.out y (HKx.out.later HB0.out))
 go_upto_region 50 with (first|(go_at_call 14;refine HC1.out.mono ?_;rintro e u1 ⟨a1,c1,Q1,b1,d1,e1,f1,R1,rfl,hT,hb⟩;have HT1:=hid hT;have HU1:=hid hb;clear hT hb))
 obtain⟨V1,hV⟩:∃V,V=u1.alloc (Obj.cells #[.slice a1 p.O.length c1,.slice b1 p.T.length d1,.slice e1 p.P.length f1,.int .i64 p.nx,.int .i64 p.px,.int .i64 p.t] 56):=⟨_,rfl⟩
 have HX1:Hid (R.Bx V1 u1.heap.size (stM a1 p.O.length c1 b1 p.T.length d1 e1 p.P.length f1 p.nx p.px p.t)):=by rw [hV];exact R.Bx.new u1 (stM a1 p.O.length c1 b1 p.T.length d1 e1 p.P.length f1 p.nx p.px p.t) 56
 have HA1:Hid (Below u1.heap.size u1 V1):=by rw [hV];exact below1 _ _
 have HB1:Hid (Below y.heap.size y V1):=below_call (below_call HB0.out HU1.out) HA1.out
 rw [←hV]
 clear hV HC1
 have HC2:=hid (HSx.out V1 (HKx.out.later HB1.out))
 go_upto_region 51 with (first|(go_at_call 14;refine HC2.out.mono ?_;rintro e u2 ⟨a2,c2,Q2,b2,d2,e2,f2,R2,rfl,hT,hb⟩;have HT2:=hid hT;have HU2:=hid hb;clear hT hb))
 obtain⟨V2,hV⟩:∃V,V=u2.alloc (Obj.cells #[.slice a2 p.O.length c2,.slice b2 p.T.length d2,.slice e2 p.P.length f2,.int .i64 p.nx,.int .i64 p.px,.int .i64 p.t] 56):=⟨_,rfl⟩
 have HX2:Hid (R.Bx V2 u2.heap.size (stM a2 p.O.length c2 b2 p.T.length d2 e2 p.P.length f2 p.nx p.px p.t)):=by rw [hV];exact R.Bx.new u2 (stM a2 p.O.length c2 b2 p.T.length d2 e2 p.P.length f2 p.nx p.px p.t) 56
 have HA2:Hid (Below u2.heap.size u2 V2):=by rw [hV];exact below1 _ _
 have HB2:Hid (Below y.heap.size y V2):=below_call (below_call HB1.out HU2.out) HA2.out
 rw [←hV]
 clear hV HC2
 have HC3:=hid (HSy.out V2 (HKy.out.later HB2.out))
 go_upto_region 52 with (first|(go_at_call 14;refine HC3.out.mono ?_;rintro e u3 ⟨a3,c3,Q3,b3,d3,e3,f3,R3,rfl,hT,hb⟩;have HT3:=hid hT;have HU3:=hid hb;clear hT hb))
 obtain⟨V3,hV⟩:∃V,V=u3.alloc (Obj.cells #[.slice a3 p.O.length c3,.slice b3 p.T.length d3,.slice e3 p.P.length f3,.int .i64 p.nx,.int .i64 p.px,.int .i64 p.t] 56):=⟨_,rfl⟩
 have HX3:Hid (R.Bx V3 u3.heap.size (stM a3 p.O.length c3 b3 p.T.length d3 e3 p.P.length f3 p.nx p.px p.t)):=by rw [hV];exact R.Bx.new u3 (stM a3 p.O.length c3 b3 p.T.length d3 e3 p.P.length f3 p.nx p.px p.t) 56
 have HA3:Hid (Below u3.heap.size u3 V3):=by rw [hV];exact below1 _ _
 have HB3:Hid (Below y.heap.size y V3):=below_call (below_call HB2.out HU3.out) HA3.out
 rw [←hV]
 clear hV HC3
 have HL1:=hid (HT1.out.later HA1.out)
 have hV12:Below V1.heap.size V1 V2:=below_call HU2.out HA2.out
 have hV23:Below V2.heap.size V2 V3:=below_call HU3.out HA3.out
 have hT1:Tells V3 y.heap.size p a1 c1 Q1 b1 d1 e1 f1 R1:=(HL1.out.later hV12).later hV23
 have hT2:Tells V3 V1.heap.size p a2 c2 Q2 b2 d2 e2 f2 R2:=(HT2.out.later HA2.out).later hV23
 have hT3:Tells V3 V2.heap.size p a3 c3 Q3 b3 d3 e3 f3 R3:=HT3.out.later HA3.out
 have hX1:=R.Bx.later (below_call hV12 hV23) HX1.out
 have hX2:=R.Bx.later hV23 HX2.out
 have hX3:=HX3.out
 have HTa:=hid hT1
 have HTb:=hid hT2
 have HTc:=hid hT3
 have HXa:=hid hX1
 have HXb:=hid hX2
 have HXc:=hid hX3
 have HLa:=hid (ldSt hX1)
 have HLc:=hid (ldSt hX3)
 have HSa:=hid (sameState_eq (w:=V3) p (c1:=c1) (c2:=d1) (c3:=f1) (d1:=c3) (d2:=d3) (d3:=f3) hT1.look hT3.look HSm.out)
 have mk0:=hid True.intro
 clear hT1 hT2 hT3 hX1 hX2 hX3 hV12 hV23
 go_upto_region 54 with (first|((with_reducible refine R.ld_arm HLa.out ?_ ?_);(· rfl))|((with_reducible refine R.ld_arm HLc.out ?_ ?_);(· rfl))|(clear mk0;go_at_call 15;refine HSa.out.mono ?_;rintro e z1 ⟨rfl,hb⟩;have HZ1:=hid hb;have HLd:=hid (ldSt (R.Bx.later HZ1.out HXb.out));have HLe:=hid (ldSt (R.Bx.later HZ1.out HXc.out));have HSb:=hid (sameState_eq (w:=z1) p (c1:=c2) (c2:=d2) (c3:=f2) (d1:=c3) (d2:=d3) (d3:=f3) (HTb.out.later HZ1.out).look (HTc.out.later HZ1.out).look HSm.out);have mk1:=hid True.intro;clear hb)|((with_reducible refine ld_armg HLd.out ?_ ?_ ?_);(· rfl);(· rfl))|((with_reducible refine ld_armg HLe.out ?_ ?_ ?_);(· rfl);(· rfl))|(clear mk1;go_at_call 15;refine HSb.out.mono ?_;rintro e z2 ⟨rfl,hb⟩;have HZ2:=hid hb;clear hb))
 have HZ:Hid (Below V3.heap.size V3 z2):=below_call HZ1.out HZ2.out
 clear HLa HLc HLd HLe HSa HSb
 have hsy:y.heap.size≤u1.heap.size:=HU1.out.size
 have hs1:u1.heap.size<V1.heap.size:=World.block_lt_of_cell? _ _ (HX1.out.cell 0 rfl)
 have hTz:=HTa.out.later HZ.out
 have hTu:=HT1.out
 have hl1:∀j,Two.B a1 Q1 j→j<u1.heap.size:=fun j hj=>(hTu.os.blk j hj).2
 have hl2:∀j,Blk b1 j→y.heap.size≤j∧j<u1.heap.size:=fun j hj=>hTu.ts.blk j hj
 have hl3:∀j,Two.B e1 R1 j→j<u1.heap.size:=fun j hj=>(hTu.ps.blk j hj).2
 have HTz:=hid hTz
 have HL1b:=hid hl1
 have HL2b:=hid hl2
 have HL3b:=hid hl3
 have hXz:=R.Bx.later HZ.out HXa.out
 have HXz:=hid hXz
 have hyz:y.heap.size≤z2.heap.size:=Nat.le_trans HB3.out.size HZ.out.size
 have hByO:∀o∈Q1,∃B,o.vs=S.u8s B∧o.len≤1048576:=fun o ho=>by
  obtain⟨i,hi⟩:=List.mem_iff_getElem?.1 ho
  have h1:(Q1.map Ev.key)[i]?=some o.key:=by rw [List.getElem?_map,hi];rfl
  rw [hTz.ok,List.getElem?_map] at h1
  obtain⟨v,hv,e⟩:=Option.map_eq_some_iff.1 h1
  have e1:=congrArg (fun x=>x.2.1) e
  have e2:=congrArg (fun x=>x.2.2) e
  simp only [obK,Ev.key] at e1 e2
  exact⟨v.2,e1.symm,by rw [←e2];exact HSm.out.oe v (List.mem_of_getElem? hv)⟩
 have hByP:∀o∈R1,o.len≤1048576:=fun o ho=>by
  obtain⟨i,hi⟩:=List.mem_iff_getElem?.1 ho
  have h1:(R1.map Ev.key)[i]?=some o.key:=by rw [List.getElem?_map,hi];rfl
  rw [hTz.pk,List.getElem?_map] at h1
  obtain⟨v,hv,e⟩:=Option.map_eq_some_iff.1 h1
  have e2:=congrArg (fun x=>x.2.2) e
  simp only [plK,Ev.key] at e2
  rw [←e2];exact HSm.out.pe v (List.mem_of_getElem? hv)
 have HByO:=hid hByO
 have HByP:=hid hByP
 clear hTz hTu hl1 hl2 hl3 hXz hByO hByP
 go_upto_block 12 with fail
 go_cut [29,30] from 323 to 364 (fun _ _ U=>But (Two.B a1 Q1) z2 U)
 case first =>
  refine objs_set (y:=z2) (base:=y.heap.size) (HXz.out.cell 0 rfl) HTz.out.os (fun e=>by have:=HL1b.out _ e;omega) hyz HSm.out.o HByO.out (fun c a d v w h=>by first|exact HPx.out _ _ _ _ _ h|(cases d<;>exact h)) ?_
  intro w9 hb9
  intros
  go_wp2
  go_meet
  exact hb9
 case rest =>
 rename World=>Wa
 have HBa:=hid hcut
 clear hcut
 have HXa2:=hid (R.Bx.but HBa.out HXz.out (fun e=>by have:=HL1b.out _ e;omega))
 have HTsA:=hid (HTz.out.ts.but HBa.out (fun j hj e=>HTz.out.s12 j e hj))
 go_upto_block 16 with fail
 go_cut [31] from 365 to 376 (fun _ U=>But (Blk b1) Wa U)
 case first =>
  refine toks_set (y:=Wa) (base:=y.heap.size) (HXa2.out.cell 1 rfl) HTsA.out (fun e=>by have:=(HL2b.out _ e).2;omega) HSm.out.t ?_
  intro w9 hb9
  intros
  go_wp2
  go_meet
  exact hb9
 case rest =>
 rename World=>Wb
 have HBb:=hid hcut
 clear hcut
 have HXb2:=hid (R.Bx.but HBb.out HXa2.out (fun e=>by have:=(HL2b.out _ e).2;omega))
 have HPsB:=hid ((HTz.out.ps.but HBa.out (fun j hj e=>HTz.out.s13 j e hj)).but HBb.out (fun j hj e=>HTz.out.s23 j e hj))
 have hyb:y.heap.size≤Wb.heap.size:=Nat.le_trans hyz (Nat.le_trans HBa.out.size HBb.out.size)
 go_upto_block 18 with fail
 go_cut [32,33] from 377 to 418 (fun _ _ U=>But (Two.B e1 R1) Wb U)
 case first =>
  refine procs_set (y:=Wb) (base:=y.heap.size) (HXb2.out.cell 2 rfl) HPsB.out (fun e=>by have:=HL3b.out _ e;omega) hyb HSm.out.q HByP.out (fun c a d v w h=>by first|exact HPx.out _ _ _ _ _ h|(cases d<;>exact h)) ?_
  intro w9 hb9
  intros
  go_wp2
  go_meet
  exact hb9
 case rest =>
 rename World=>Wc
 have HBc:=hid hcut
 clear hcut
 have hall:But (fun j=>y.heap.size≤j∧j<u1.heap.size) z2 Wc:=by
  have i1:But (fun j=>y.heap.size≤j∧j<u1.heap.size) z2 Wa:=HBa.out.mono (fun j hj=>⟨(HTz.out.os.blk j hj).1,HL1b.out j hj⟩)
  have i2:But (fun j=>y.heap.size≤j∧j<u1.heap.size) Wa Wb:=HBb.out.mono (fun j hj=>HL2b.out j hj)
  have i3:But (fun j=>y.heap.size≤j∧j<u1.heap.size) Wb Wc:=HBc.out.mono (fun j hj=>⟨(HTz.out.ps.blk j hj).1,HL3b.out j hj⟩)
  exact (i1.trans i2).trans i3
 have HAll:=hid hall
 have hV1z:V1.heap.size≤V3.heap.size:=Nat.le_trans HU2.out.size (Nat.le_trans HA2.out.size (Nat.le_trans HU3.out.size HA3.out.size))
 have hV2z:V1.heap.size≤V2.heap.size:=Nat.le_trans HU2.out.size HA2.out.size
 have HTt:Hid (Tells Wc V1.heap.size p a2 c2 Q2 b2 d2 e2 f2 R2):=(HTb.out.later HZ.out).but hall (fun j h1 h2 e=>by omega)
 have HTw:Hid (Tells Wc V2.heap.size p a3 c3 Q3 b3 d3 e3 f3 R3):=(HTc.out.later HZ.out).but hall (fun j h1 h2 e=>by omega)
 have HXt:Hid (R.Bx Wc u2.heap.size (stM a2 p.O.length c2 b2 p.T.length d2 e2 p.P.length f2 p.nx p.px p.t)):=R.Bx.but hall (R.Bx.later HZ.out HXb.out) (fun e=>by have:=HU2.out.size;omega)
 have HXw:Hid (R.Bx Wc u3.heap.size (stM a3 p.O.length c3 b3 p.T.length d3 e3 p.P.length f3 p.nx p.px p.t)):=R.Bx.but hall (R.Bx.later HZ.out HXc.out) (fun e=>by have:=HU2.out.size;have:=HA2.out.size;have:=HU3.out.size;omega)
 have HByc:Hid (Below y.heap.size y Wc):=But.below (below_call HB3.out HZ.out) hall (fun j e=>e.1)
 have HMx:Hid (Md Wc hx q Nx Ex Lx):=HKx.out.later HByc.out
 have HS74:Hid (∀U,Below Wc.heap.size Wc U→R.Bx U u2.heap.size (stM a2 p.O.length c2 b2 p.T.length d2 e2 p.P.length f2 p.nx p.px p.t)∧R.Bx U u3.heap.size (stM a3 p.O.length c3 b3 p.T.length d3 e3 p.P.length f3 p.nx p.px p.t)):=fun U hU=>⟨R.Bx.later hU HXt.out,R.Bx.later hU HXw.out⟩
 have HSc:=hid (sameState_eq (w:=Wc.drew) p (c1:=c2) (c2:=d2) (c3:=f2) (d1:=c3) (d2:=d3) (d3:=f3) (HTt.out.later (Below.refl _ _).drew).look (HTw.out.later (Below.refl _ _).drew).look HSm.out)
 clear hall
 go_upto_region 74 with fail
 refine wp_region_held_drew (S:=(fun U:World=>R.Bx U u2.heap.size (stM a2 p.O.length c2 b2 p.T.length d2 e2 p.P.length f2 p.nx p.px p.t)∧R.Bx U u3.heap.size (stM a3 p.O.length c3 b3 p.T.length d3 e3 p.P.length f3 p.nx p.px p.t))) (by kernel_rfl) (HS74.out _ (Below.refl _ _).drew) (fun hHeld=>?_)
 refine wpAnyH_norm (l2:=#[false,false,false,false,false,false,false,false,false,false]) (f2:=10) (by kernel_rfl) (by kernel_rfl) ?_
 refine wpAnyH_take (i:=0) (oi:=_) (v:=stV a2 p.O.length c2 b2 p.T.length d2 e2 p.P.length f2 p.nx p.px p.t) rfl (by kernel_rfl) (by kernel_rfl) (by kernel_rfl) (fun _ _ _ h=>HPx.out _ _ _ _ _ h) (Or.inl ⟨by rfl,?_⟩) (by assumption) ?_
 ·(intro w hSw;(try dsimp only at hSw);exact ex_ld rfl rfl (ldSt hSw.1))
 simp only [List.getElem_toArray,List.getElem_cons_succ,List.getElem_cons_zero,Act.put,List.setIfInBounds_toArray,List.set_cons_zero,List.set_cons_succ]
 refine wpAnyH_norm (l2:=#[true,false,false,false,false,false,false,false,false,false]) (f2:=9) (by kernel_rfl) (by kernel_rfl) ?_
 refine wpAnyH_take (i:=1) (oi:=_) (v:=stV a3 p.O.length c3 b3 p.T.length d3 e3 p.P.length f3 p.nx p.px p.t) rfl (by kernel_rfl) (by kernel_rfl) (by kernel_rfl) (fun _ _ _ h=>HPx.out _ _ _ _ _ h) (Or.inl ⟨by rfl,?_⟩) (by assumption) ?_
 ·(intro w hSw;(try dsimp only at hSw);exact ex_ld rfl rfl (ldSt hSw.2))
 simp only [List.getElem_toArray,List.getElem_cons_succ,List.getElem_cons_zero,Act.put,List.setIfInBounds_toArray,List.set_cons_zero,List.set_cons_succ]
 refine wpAnyH_norm (l2:=#[true,true,false,false,false,false,false,false,false,false]) (f2:=8) (by kernel_rfl) (by kernel_rfl) ?_
 refine wpAnyH_ready (rs:=[2]) (by kernel_rfl) (by simp) ?_
 refine AllReadyH.cons rfl (fun K hK=>?_) AllReadyH.nil
 go_simp
 go_wp2_with (first|(go_at_call 15;refine HSc.out.mono ?_;rintro e z7 ⟨rfl,hb⟩;have HZ7:Hid (Below Wc.heap.size Wc z7):=below_call (Below.refl _ _).drew hb;clear hb))
 refine hK.out _ _ (HS74.out _ HZ7.out) (fun hHeld=>?_)
 clear hK K
 simp only [List.getElem_toArray,List.getElem_cons_succ,List.getElem_cons_zero,Act.put,List.setIfInBounds_toArray,List.set_cons_zero,List.set_cons_succ]
 refine wpAnyH_norm (l2:=#[true,true,true,false,false,false,false,false,false,false]) (f2:=7) (by kernel_rfl) (by kernel_rfl) ?_
 refine wpAnyH_take (i:=3) (oi:=_) (v:=?_) rfl (by kernel_rfl) (by kernel_rfl) (by kernel_rfl) (fun _ _ _ h=>HPx.out _ _ _ _ _ h) (Or.inl ⟨by rfl,?_⟩) (by assumption) ?_
 rotate_left
 ·(intro w hSw;(try dsimp only at hSw);go_simp;try with_reducible rfl)
 simp only [List.getElem_toArray,List.getElem_cons_succ,List.getElem_cons_zero,Act.put,List.setIfInBounds_toArray,List.set_cons_zero,List.set_cons_succ]
 refine wpAnyH_norm (l2:=#[true,true,true,true,false,false,false,false,false,false]) (f2:=6) (by kernel_rfl) (by kernel_rfl) ?_
 refine wpAnyH_take (i:=4) (oi:=_) (v:=?_) rfl (by kernel_rfl) (by kernel_rfl) (by kernel_rfl) (fun _ _ _ h=>HPx.out _ _ _ _ _ h) (Or.inl ⟨by rfl,?_⟩) (by assumption) ?_
 rotate_left
 ·(intro w hSw;(try dsimp only at hSw);go_simp;try with_reducible rfl)
 simp only [List.getElem_toArray,List.getElem_cons_succ,List.getElem_cons_zero,Act.put,List.setIfInBounds_toArray,List.set_cons_zero,List.set_cons_succ]
 refine wpAnyH_norm (l2:=#[true,true,true,true,true,false,false,false,false,false]) (f2:=5) (by kernel_rfl) (by kernel_rfl) ?_
 refine wpAnyH_take (i:=6) (oi:=_) (v:=stV a3 p.O.length c3 b3 p.T.length d3 e3 p.P.length f3 p.nx p.px p.t) rfl (by kernel_rfl) (by kernel_rfl) (by kernel_rfl) (fun _ _ _ h=>HPx.out _ _ _ _ _ h) (Or.inl ⟨by rfl,?_⟩) (by assumption) ?_
 ·(intro w hSw;(try dsimp only at hSw);exact ex_ld rfl rfl (ldSt hSw.2))
 simp only [List.getElem_toArray,List.getElem_cons_succ,List.getElem_cons_zero,Act.put,List.setIfInBounds_toArray,List.set_cons_zero,List.set_cons_succ]
 refine wpAnyH_norm (l2:=#[true,true,true,true,true,false,true,false,false,false]) (f2:=4) (by kernel_rfl) (by kernel_rfl) ?_
 refine wpAnyH_ready (rs:=[5]) (by kernel_rfl) (by simp) ?_
 refine AllReadyH.cons rfl (fun K hK=>?_) AllReadyH.nil
 have HCs:=hid (HSx.out z7 (HMx.out.later HZ7.out))
 go_simp
 go_wp2_with (first|(go_at_call 14;refine HCs.out.mono ?_;rintro e z8 ⟨a9,c9,Q9,b9,d9,e9,f9,R9,rfl,hT,hb⟩;have HT9:=hid hT;have HZ8:Hid (Below Wc.heap.size Wc z8):=below_call HZ7.out hb;clear hT hb))
 refine hK.out _ _ (HS74.out _ HZ8.out) (fun hHeld=>?_)
 clear hK K
 simp only [List.getElem_toArray,List.getElem_cons_succ,List.getElem_cons_zero,Act.put,List.setIfInBounds_toArray,List.set_cons_zero,List.set_cons_succ]
 refine wpAnyH_norm (l2:=#[true,true,true,true,true,true,true,false,false,false]) (f2:=3) (by kernel_rfl) (by kernel_rfl) ?_
 refine wpAnyH_ready (rs:=[7]) (by kernel_rfl) (by simp) ?_
 refine AllReadyH.cons rfl (fun K hK=>?_) AllReadyH.nil
 have HSe:=hid (sameState_eq (w:=z8) p (c1:=c9) (c2:=d9) (c3:=f9) (d1:=c3) (d2:=d3) (d3:=f3) HT9.out.look (HTw.out.later HZ8.out).look HSm.out)
 go_simp
 go_wp2_with (first|(go_at_call 15;refine HSe.out.mono ?_;rintro e z9 ⟨rfl,hb⟩;have HZ9:Hid (Below Wc.heap.size Wc z9):=below_call HZ8.out hb;clear hb))
 refine hK.out _ _ (HS74.out _ HZ9.out) (fun hHeld=>?_)
 clear hK K
 simp only [List.getElem_toArray,List.getElem_cons_succ,List.getElem_cons_zero,Act.put,List.setIfInBounds_toArray,List.set_cons_zero,List.set_cons_succ]
 refine wpAnyH_norm (l2:=#[true,true,true,true,true,true,true,true,false,false]) (f2:=2) (by kernel_rfl) (by kernel_rfl) ?_
 refine wpAnyH_take (i:=8) (oi:=_) (v:=?_) rfl (by kernel_rfl) (by kernel_rfl) (by kernel_rfl) (fun _ _ _ h=>HPx.out _ _ _ _ _ h) (Or.inl ⟨by rfl,?_⟩) (by assumption) ?_
 rotate_left
 ·(intro w hSw;(try dsimp only at hSw);go_simp;try with_reducible rfl)
 simp only [List.getElem_toArray,List.getElem_cons_succ,List.getElem_cons_zero,Act.put,List.setIfInBounds_toArray,List.set_cons_zero,List.set_cons_succ]
 refine wpAnyH_norm (l2:=#[true,true,true,true,true,true,true,true,true,false]) (f2:=1) (by kernel_rfl) (by kernel_rfl) ?_
 refine wpAnyH_take (i:=9) (oi:=_) (v:=?_) rfl (by kernel_rfl) (by kernel_rfl) (by kernel_rfl) (fun _ _ _ h=>HPx.out _ _ _ _ _ h) (Or.inl ⟨by rfl,?_⟩) (by assumption) ?_
 rotate_left
 ·(intro w hSw;(try dsimp only at hSw);go_simp;try with_reducible rfl)
 simp only [List.getElem_toArray,List.getElem_cons_succ,List.getElem_cons_zero,Act.put,List.setIfInBounds_toArray,List.set_cons_zero,List.set_cons_succ]
 refine wpAnyH_norm (l2:=#[true,true,true,true,true,true,true,true,true,true]) (f2:=0) (by kernel_rfl) (by kernel_rfl) ?_
 refine wpAnyH_done (by kernel_rfl) ?_ _
 have HFi:Hid (Below y.heap.size y z9):=below_call HByc.out HZ9.out
 go_wp2
 first|(go_ret;exact HK.out _ HFi.out ..)|exact HK.out _ HFi.out ..
end
end Go.Proofs.Ytffmodpgddecnaa.V.E
