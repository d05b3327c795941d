import Derived.Test.YtffmodpgddecnaaZ35
namespace Go.Proofs.Ytffmodpgddecnaa.V.E
open Go.RowKit Go.Maps
open Go.Proofs.Ytffmodpgddecnaa.H (B64 Cp)
open Go.Proofs.Ytffmodpgddecnaa.M (wpAnyH_norm)
set_option linter.unusedVariables false
set_option linter.unusedSimpArgs false
theorem do_mw {U:World}{h:Hm}{q:Pl}{N:Nat→Prop}(k:Mw U h q N)(hf:Fit h.p q)(hcf:h.cf.may=true){cl:R.Cl}{dd gg:R.Sl}(hi:R.Is U cl dd gg){r:Rep×Pl}(hr:r=pDo h.p q cl) :
  Calls Try.prog 10 #[.pointer (some ⟨h.g,0,none⟩),.agg (R.cC cl dd gg).toArray] U (DoP U h N r):=by
 obtain⟨Es,Ls,km⟩:=k
 rw [hr]
 exact do_any km hf hcf hi
theorem same_of {U:World}{r:Rep}{a b:Option Addr}{n m ca cb:Nat}{base base':Nat}(h:Own U base 5 a n ca (S.u8s r.data))(k:Own U base' 5 b m cb (S.u8s r.data))(hd:r.data.length≤1024) :
  Calls Try.prog 9 #[rpV r a n ca,rpV r b m cb] U fun e w'=>e=.returned (.bool true)∧Below U.heap.size U w':=by
 have h1:=h.len
 have h2:=k.len
 rw [S.u8s_length] at h1 h2
 obtain rfl:n=m:=by omega
 exact sameReply_eq r (Fl.own h) (Fl.own k) h1 (by omega)
structure Rk (U:World)(hx hy:Hm)(Nx Ny:Nat→Prop)(q:Pl)(cl:R.Cl)(r:Rep×Pl)(b o i gm gl gk:Nat)(dd gg dz gz:R.Sl)(al ak:Option Addr)(nr cl_ ck bm bl_ bk:Nat):Prop where
 c:U.rangeAt b (o+i*13) (R.cC cl dd gg)
 is:R.Is U cl dd gg
 sd:dd.n≤140737488355328
 sg:gg.n*8≤140737488355328
 m:U.rangeAt gm (i*13) (R.cC cl dz gz)
 co:CO U bm cl dz gz
 l:U.rangeAt gl (i*6) (rpL r.1 al nr cl_)
 lo:Own U bl_ 5 al nr cl_ (S.u8s r.1.data)
 k:U.rangeAt gk (i*6) (rpL r.1 ak nr ck)
 ko:Own U bk 5 ak nr ck (S.u8s r.1.data)
 x:Mw U hx q Nx
 y:Mw U hy q Ny
 fx:Fit hx.p q
 fy:Fit hy.p q
 mx:hx.cf.may=true
 my:hy.cf.may=true
 rx:r=pDo hx.p q cl
 ry:r=pDo hy.p q cl
 xz:∀j,MdB hx.g hx.bo hx.bl Nx j→¬(Blk dz.a j∨Blk gz.a j∨Blk al j)
 yz:∀j,MdB hy.g hy.bo hy.bl Ny j→¬(Blk dz.a j∨Blk gz.a j∨Blk al j)
 xy:∀j,MdB hx.g hx.bo hx.bl Nx j→¬MdB hy.g hy.bo hy.bl Ny j
 ot:∀j,(j=b∨j=gm∨j=gl∨j=gk∨(0<dd.n∧Blk dd.a j)∨(0<gg.n∧Blk gg.a j)∨Blk ak j)→¬(Blk dz.a j∨Blk gz.a j∨Blk al j)∧j≠hx.g∧j≠hy.g
 lz:∀j,Blk al j→¬(Blk dz.a j∨Blk gz.a j)
 bz:bm≤U.heap.size∧bl_≤U.heap.size
structure Rt (U:World)(hx hy:Hm)(Nx Ny:Nat→Prop)(r:Rep×Pl)(Z:Nat→Prop)(w':World)(bx lx by_ ly:Nat)(Mx My:Nat→Prop):Prop where
 x:Mw w' { hx with bo:=bx,bl:=lx } r.2 Mx
 y:Mw w' { hy with bo:=by_,bl:=ly } r.2 My
 xn:∀j,MdB hx.g bx lx Mx j→MdB hx.g hx.bo hx.bl Nx j∨U.heap.size≤j
 yn:∀j,MdB hy.g by_ ly My j→MdB hy.g hy.bo hy.bl Ny j∨U.heap.size≤j
 xy:∀j,MdB hx.g bx lx Mx j→¬MdB hy.g by_ ly My j
 b:But (fun j=>j=hx.g∨j=hy.g∨Z j) U w'
theorem dpos {L:List Nat}{j:Nat}{u:Value}{n:Nat}(h:(R.u8s L)[j]?=some u)(hl:L.length=n):0<n:=by
 have h8:=(List.getElem?_eq_some_iff.1 h).1
 have h9:(R.u8s L).length=L.length:=by simp [R.u8s]
 omega
theorem gpos {L:List Int}{j:Nat}{u:Value}{n:Nat}(h:(R.i64s L)[j]?=some u)(hl:L.length=n):0<n:=by
 have h8:=(List.getElem?_eq_some_iff.1 h).1
 have h9:(R.i64s L).length=L.length:=by simp [R.i64s]
 omega
theorem app3 {U:World}{base:Nat}{a:Option Addr}{n c:Nat}{L:List Value}(h:Own U base 5 a n c L)(hb:base≤U.heap.size)(hn:n≤1048576)(x0 x1 x2:Int) :
  ∃a' c' w3,(Builtin.append_ #[41,41] 41 #[.slice a n c,.slice (some ⟨U.heap.size,0,none⟩) 3 3]).run Try.prog (U.alloc (Obj.cells #[.int .u8 x0,.int .u8 x1,.int .u8 x2] 5))=.ok (.slice a' (n+3) c') w3∧But (Blk a) U w3:=by
 have hcr0:=(Cr.lit U 5 [.int .u8 x0,.int .u8 x1,.int .u8 x2] (fun u hu=>by simp only [List.mem_cons,List.not_mem_nil,or_false] at hu;rcases hu with h|h|h<;>(rw [h];rfl)))
 have hcr:Cr (U.alloc (Obj.cells [.int .u8 x0,.int .u8 x1,.int .u8 x2].toArray 5)) 1 (some ⟨U.heap.size,0,none⟩) 3 3 [.int .u8 x0,.int .u8 x1,.int .u8 x2]:=⟨rfl,fun h=>(by cases h),hcr0.cells,hcr0.one⟩
 have hal:Below U.heap.size U (U.alloc (Obj.cells [.int .u8 x0,.int .u8 x1,.int .u8 x2].toArray 5)):=below1 _ _
 obtain⟨a8,c8,w8,hr8,hO8,hG8⟩:=append_k 41 5 _ 1 1 Try.underlying41 infoEB rfl (by omega) (by omega) (Ow.later h.row hal) hcr (Nat.le_trans hb hal.size) (by omega)
 exact⟨a8,c8,w8,hr8,(But.of hal).trans hG8.but⟩
section
variable {y:World}
set_option maxRecDepth 1000000 in
set_option maxHeartbeats 8000000 in
theorem kp_round {u0 u1 u3 u4 u5 u6 u7 u9 u11 u12 u17 u18 u19 u20 u21 u22 u23 u24 u25 u26 u27 u28 u29 u30 u31 u32 u33 u34 u35 u36 u37 u38 u39 u40 u41 u42 u43 u44 u45 u46 u47 u48 u49 u50 u51 u52 u53 u54 u55 u56 u57 u58 u59 u60 u61 u62 u63 u64 u65 u66 u67 u68 u69 u70 u71 u72 u73 u74 u75 u76 u77 u78 u79 u80 u81 u82 u83 u84 u85 u86 u87 u88 u89 u90 u91 u92 u93 u94 u95 u96 u97 u98 u99 u100 u101 u102 u103 u104 u105 u106 u107 u108 u109 u110 u111 u112 u113 u114 u115 u116 u117 u118 u119 u120 u121 u122 u123 u124 u125 u126 u127 u128 u129 u130 u131 u132 u133 u134 u135 u136 u137 u138 u139 u140 u141 u142 u143 u144 u145 u146 u147 u148 u149 u150 u151 u152 u153 u154 u155 u156 u157 u158 u159 u160 u161 u162 u163 u164 u165 u166 u167 u168 u169 u170 u171 u172 u173 u174 u175 u176 u177 u178 u179 u180 u181 u182 u183 u184 u185 u186 u187 u188 u189 u190 u191 u192 u193 u194 u195 u196 u197 u198 u199 u200 u201 u202 u203 u204 u205 u206 u207 u208 u209 u210 u211 u212 u213 u214 u215 u216 u217 u218 u219 u220 u221 u222 u223 u224 u225 u226 u227 u228 u229 u230 u231 u232 u233 u234 u235 u236 u237 u238 u239 u240 u241 u242 u243 u244 u245 u246 u247 u248 u249 u250 u251 u252 u253 u254 u255 u256 u257 u258 u259 u260 u261 u262 u263 u264 u265 u266 u267 u268 u269 u270 u271 u272 u273 u274 u275 u276 u277 u278 u279 u280 u281 u282 u283 u284 u285 u286 u287 u288 u289 u290 u291 u292 u293 u294 u295 u296 u297 u298 u299 u300 u301 u302 u303 u304 u305 u306 u307 u308 u309 u310 u311 u312 u313 u314 u315 u316 u317 u318 u319 u320 u321 u322 u323 u324 u325 u326 u327 u328 u329 u330 u331 u332 u333 u334 u335 u336 u337 u338 u339 u340 u341 u342 u343 u344 u345 u346 u347 u348 u349 u350 u351 u352 u353 u354 u355 u356 u357 u358 u359 u360 u361 u362 u363 u364 u365 u366 u367 u368 u369 u370 u371 u372 u373 u374 u375 u376 u377 u378 u379 u380 u381 u382 u383 u384 u385 u386 u387 u388 u389 u390 u391 u392 u393 u394 u395 u396 u397 u398 u399 u400 u401 u402 u403 u404 u405 u406 u407 u408 u409 u410 u411 u412 u413 u414 u415 u416 u417 u418 u419 u420 u421 u422 u423 u424 u425 u426 u427:Value}{Qx:Exit→Act→World→Prop}{hx hy:Hm}{Nx Ny:Nat→Prop}{q:Pl}{cl:R.Cl}{r:Rep×Pl}{b o i nl cap cm cl2 ck2 gm gl gk:Nat}{dd gg dz gz:R.Sl}{al ak:Option Addr}{nr cl_ ck bm bl_ bk:Nat}(hR:Rk y hx hy Nx Ny q cl r b o i gm gl gk dd gg dz gz al ak nr cl_ ck bm bl_ bk)(hi:i<nl)(hP:∀c a d v w,Qx (.panic c) (Act.put a d v) w→Qx (.panic c) a w)
  (hK:∀(bx lx by_ ly:Nat) (Mx My:Nat→Prop) (w':World),Rt y hx hy Nx Ny r (fun j=>Blk dz.a j∨Blk gz.a j∨Blk al j) w' bx lx by_ ly Mx My→∀(v6 v17 v18 v19 v20 v21 v22 v23 v24 v25 v147 v148 v149 v150 v151 v152 v153 v154 v155 v156 v157 v158 v159 v160 v161 v162 v163 v164 v165 v166 v167 v168 v169 v170 v171 v172 v173 v174 v175 v176 v177 v178 v179 v180 v181 v182 v183 v184 v185 v186 v187 v188 v189 v190 v191 v192 v193 v194 v195 v196 v197 v198 v199 v200 v201 v202 v203 v204 v205 v206 v207 v208 v209 v210 v211 v212 v213 v214 v215 v216 v217 v218 v219 v220 v221 v222 v223 v224 v225 v226 v227 v228 v229 v230 v231 v232 v233 v234 v235 v236 v237 v238 v239 v240 v241 v242 v243 v244 v245 v246 v247 v248 v249 v250 v251 v252 v253 v254 v255 v256 v257 v258 v259 v260 v261 v262 v263 v264 v265 v266 v267 v268 v269 v270 v271 v272 v273 v274 v275 v276 v277 v278 v279 v280 v281 v282 v283 v284 v285 v286 v287 v288 v289 v290 v291 v292 v293 v294 v295 v296 v297 v298 v299 v300 v301 v302 v303 v304 v305 v306:Value),Qx .normal ⟨List.toArray (u0::u1::.slice (some ⟨b,o,none⟩) nl cap::u3::u4::u5::v6::u7::.pointer (some ⟨hx.g,0,none⟩)::u9::.pointer (some ⟨hy.g,0,none⟩)::u11::u12::.slice (some ⟨gm,0,none⟩) nl cm::.slice (some ⟨gl,0,none⟩) nl cl2::.slice (some ⟨gk,0,none⟩) nl ck2::.int .i64 (i:Int)::v17::v18::v19::v20::v21::v22::v23::v24::v25::u26::u27::u28::u29::u30::u31::u32::u33::u34::u35::u36::u37::u38::u39::u40::u41::u42::u43::u44::u45::u46::u47::u48::u49::u50::u51::u52::u53::u54::u55::u56::u57::u58::u59::u60::u61::u62::u63::u64::u65::u66::u67::u68::u69::u70::u71::u72::u73::u74::u75::u76::u77::u78::u79::u80::u81::u82::u83::u84::u85::u86::u87::u88::u89::u90::u91::u92::u93::u94::u95::u96::u97::u98::u99::u100::u101::u102::u103::u104::u105::u106::u107::u108::u109::u110::u111::u112::u113::u114::u115::u116::u117::u118::u119::u120::u121::u122::u123::u124::u125::u126::u127::u128::u129::u130::u131::u132::u133::u134::u135::u136::u137::u138::u139::u140::u141::u142::u143::u144::u145::u146::v147::v148::v149::v150::v151::v152::v153::v154::v155::v156::v157::v158::v159::v160::v161::v162::v163::v164::v165::v166::v167::v168::v169::v170::v171::v172::v173::v174::v175::v176::v177::v178::v179::v180::v181::v182::v183::v184::v185::v186::v187::v188::v189::v190::v191::v192::v193::v194::v195::v196::v197::v198::v199::v200::v201::v202::v203::v204::v205::v206::v207::v208::v209::v210::v211::v212::v213::v214::v215::v216::v217::v218::v219::v220::v221::v222::v223::v224::v225::v226::v227::v228::v229::v230::v231::v232::v233::v234::v235::v236::v237::v238::v239::v240::v241::v242::v243::v244::v245::v246::v247::v248::v249::v250::v251::v252::v253::v254::v255::v256::v257::v258::v259::v260::v261::v262::v263::v264::v265::v266::v267::v268::v269::v270::v271::v272::v273::v274::v275::v276::v277::v278::v279::v280::v281::v282::v283::v284::v285::v286::v287::v288::v289::v290::v291::v292::v293::v294::v295::v296::v297::v298::v299::v300::v301::v302::v303::v304::v305::v306::u307::u308::u309::u310::u311::u312::u313::u314::u315::u316::u317::u318::u319::u320::u321::u322::u323::u324::u325::u326::u327::u328::u329::u330::u331::u332::u333::u334::u335::u336::u337::u338::u339::u340::u341::u342::u343::u344::u345::u346::u347::u348::u349::u350::u351::u352::u353::u354::u355::u356::u357::u358::u359::u360::u361::u362::u363::u364::u365::u366::u367::u368::u369::u370::u371::u372::u373::u374::u375::u376::u377::u378::u379::u380::u381::u382::u383::u384::u385::u386::u387::u388::u389::u390::u391::u392::u393::u394::u395::u396::u397::u398::u399::u400::u401::u402::u403::u404::u405::u406::u407::u408::u409::u410::u411::u412::u413::u414::u415::u416::u417::u418::u419::u420::u421::u422::u423::u424::u425::u426::u427::[]),[]⟩ w') :
  Code.wp Try.prog (blk3 Try.f4.body) Qx ⟨List.toArray (u0::u1::.slice (some ⟨b,o,none⟩) nl cap::u3::u4::u5::u6::u7::.pointer (some ⟨hx.g,0,none⟩)::u9::.pointer (some ⟨hy.g,0,none⟩)::u11::u12::.slice (some ⟨gm,0,none⟩) nl cm::.slice (some ⟨gl,0,none⟩) nl cl2::.slice (some ⟨gk,0,none⟩) nl ck2::.int .i64 (i:Int)::u17::u18::u19::u20::u21::u22::u23::u24::u25::u26::u27::u28::u29::u30::u31::u32::u33::u34::u35::u36::u37::u38::u39::u40::u41::u42::u43::u44::u45::u46::u47::u48::u49::u50::u51::u52::u53::u54::u55::u56::u57::u58::u59::u60::u61::u62::u63::u64::u65::u66::u67::u68::u69::u70::u71::u72::u73::u74::u75::u76::u77::u78::u79::u80::u81::u82::u83::u84::u85::u86::u87::u88::u89::u90::u91::u92::u93::u94::u95::u96::u97::u98::u99::u100::u101::u102::u103::u104::u105::u106::u107::u108::u109::u110::u111::u112::u113::u114::u115::u116::u117::u118::u119::u120::u121::u122::u123::u124::u125::u126::u127::u128::u129::u130::u131::u132::u133::u134::u135::u136::u137::u138::u139::u140::u141::u142::u143::u144::u145::u146::u147::u148::u149::u150::u151::u152::u153::u154::u155::u156::u157::u158::u159::u160::u161::u162::u163::u164::u165::u166::u167::u168::u169::u170::u171::u172::u173::u174::u175::u176::u177::u178::u179::u180::u181::u182::u183::u184::u185::u186::u187::u188::u189::u190::u191::u192::u193::u194::u195::u196::u197::u198::u199::u200::u201::u202::u203::u204::u205::u206::u207::u208::u209::u210::u211::u212::u213::u214::u215::u216::u217::u218::u219::u220::u221::u222::u223::u224::u225::u226::u227::u228::u229::u230::u231::u232::u233::u234::u235::u236::u237::u238::u239::u240::u241::u242::u243::u244::u245::u246::u247::u248::u249::u250::u251::u252::u253::u254::u255::u256::u257::u258::u259::u260::u261::u262::u263::u264::u265::u266::u267::u268::u269::u270::u271::u272::u273::u274::u275::u276::u277::u278::u279::u280::u281::u282::u283::u284::u285::u286::u287::u288::u289::u290::u291::u292::u293::u294::u295::u296::u297::u298::u299::u300::u301::u302::u303::u304::u305::u306::u307::u308::u309::u310::u311::u312::u313::u314::u315::u316::u317::u318::u319::u320::u321::u322::u323::u324::u325::u326::u327::u328::u329::u330::u331::u332::u333::u334::u335::u336::u337::u338::u339::u340::u341::u342::u343::u344::u345::u346::u347::u348::u349::u350::u351::u352::u353::u354::u355::u356::u357::u358::u359::u360::u361::u362::u363::u364::u365::u366::u367::u368::u369::u370::u371::u372::u373::u374::u375::u376::u377::u378::u379::u380::u381::u382::u383::u384::u385::u386::u387::u388::u389::u390::u391::u392::u393::u394::u395::u396::u397::u398::u399::u400::u401::u402::u403::u404::u405::u406::u407::u408::u409::u410::u411::u412::u413::u414::u415::u416::u417::u418::u419::u420::u421::u422::u423::u424::u425::u426::u427::[]),[]⟩ y:=by
 conv=>arg 2;whnf
 have HR:=hid hR
 have HPx:=hid hP
 have HK:=hid hK
 have HDl:Hid (r.1.data.length≤1024):=by unfold Hid;rw [hR.rx];exact pdo_data _ _ _
 have HLc:=hid (ldC_at hR.c)
 have HCp:=hid (copied_own hR.is hR.sd hR.sg)
 have hgx:=hR.x.lt hx.g (.inr (.inr (.inr rfl)))
 have hgy:=hR.y.lt hy.g (.inr (.inr (.inr rfl)))
 have hxy:hx.g≠hy.g:=fun e=>hR.xy hx.g (.inr (.inr (.inr rfl))) (.inr (.inr (.inr e)))
 clear hR hP hK
 go_upto_region 21 with (first|((with_reducible refine R.ld_arm HLc.out ?_ ?_);(· rfl))|(go_at_call 11;refine HCp.out.mono ?_;rintro e u1 ⟨d1,g1,rfl,hm,hb⟩;have HU1:=hid hb;have HDy:=hid (do_mw (HR.out.y.later hb) HR.out.fy HR.out.my hm.is HR.out.ry);clear hm hb)|(go_at_call 10;refine HDy.out.mono ?_;rintro e u2 ⟨aw,n2,c2,by2,ly2,My,rfl,hO,hm,hg,hn_,ha⟩;have HOw2:=hid hO;have HMy:=hid hm;have HG2:=hid hg;have HNy:=hid hn_;clear hO hm hg hn_ ha))
 obtain⟨V1,hV1⟩:∃V,V=u2.alloc (Obj.cells #[.int .i64 r.1.code,.int .i64 r.1.cap.1,.int .u64 (r.1.cap.2.1:Int),.int .u64 (r.1.cap.2.2:Int),.slice aw n2 c2,.int .i64 r.1.num] 43):=⟨_,rfl⟩
 have HXw:Hid (R.Bx V1 u2.heap.size (rpL r.1 aw n2 c2)):=by rw [hV1];exact R.Bx.new u2 (rpL r.1 aw n2 c2) 43
 have HA1:Hid (Below u2.heap.size u2 V1):=by rw [hV1];exact below1 _ _
 rw [←hV1]
 have hb1:But (·=hy.g) y V1:=((But.of HU1.out).trans HG2.out).call HA1.out
 have HB1:=hid hb1
 have HLm:=hid (ldC_at (fun j v hv=>cell_but hb1 (HR.out.m j v hv) (HR.out.ot gm (.inr (.inl rfl))).2.2))
 have HS3:=hid (Bx.st45 (R.Bx.new V1 z13 47) rfl cl dz gz)
 clear hV1 HCp HDy HLc hb1
 go_upto_region 22 with (first|((with_reducible refine R.ld_arm HLm.out ?_ ?_);(· rfl))|((with_reducible refine st_arm HS3.out ?_ ?_ ?_);(· rfl);(· rfl)))
 obtain⟨V2,hV2⟩:∃V,V=(V1.alloc (Obj.cells z13.toArray 47)).setCells V1.heap.size 0 (R.cC cl dz gz):=⟨_,rfl⟩
 have HXz:Hid (R.Bx V2 V1.heap.size (R.cC cl dz gz)):=by rw [hV2];exact R.Bx.set (R.Bx.new V1 z13 47) rfl
 have HA2:Hid (Below V1.heap.size V1 V2):=by rw [hV2];exact But.below (below1 _ _) (R.setCells_but (S:=(·=V1.heap.size)) rfl _ 0 (But.refl _ _)) (fun k e=>by omega)
 rw [←hV2]
 have hb2:But (·=hy.g) y V2:=HB1.out.call HA2.out
 have HB2:=hid hb2
 have HCz:Hid (CO V2 bm cl dz gz):=HR.out.co.but hb2 (fun j hj e=>HR.out.yz hy.g (.inr (.inr (.inr rfl))) (by rw [←e];rcases hj with h|h;exact .inl h;exact .inr (.inl h)))
 have HMx0:Hid (Mw V2 hx q Nx):=HR.out.x.but hb2 (fun j hj e=>HR.out.xy j hj (.inr (.inr (.inr e))))
 have HLz:=hid (ldC HXz.out)
 have HDx:=hid (do_mw HMx0.out HR.out.fx HR.out.mx HCz.out.is HR.out.rx)
 clear hV2 HLm HS3 hb2
 go_upto_region 23 with (first|((with_reducible refine R.ld_arm HLz.out ?_ ?_);(· rfl))|(go_at_call 10;refine HDx.out.mono ?_;rintro e u3 ⟨ar,n3,c3,bx2,lx2,Mx,rfl,hO,hm,hg,hn_,ha⟩;have HOr3:=hid hO;have HMx:=hid hm;have HG3:=hid hg;have HNx:=hid hn_;have HAr:=hid ha;clear hO hm hg hn_ ha))
 obtain⟨V3,hV3⟩:∃V,V=u3.alloc (Obj.cells #[.int .i64 r.1.code,.int .i64 r.1.cap.1,.int .u64 (r.1.cap.2.1:Int),.int .u64 (r.1.cap.2.2:Int),.slice ar n3 c3,.int .i64 r.1.num] 43):=⟨_,rfl⟩
 have HXr:Hid (R.Bx V3 u3.heap.size (rpL r.1 ar n3 c3)):=by rw [hV3];exact R.Bx.new u3 (rpL r.1 ar n3 c3) 43
 have HA3:Hid (Below u3.heap.size u3 V3):=by rw [hV3];exact below1 _ _
 rw [←hV3]
 have s1:=HU1.out.size
 have s2:=HG2.out.size
 have s3:=HA1.out.size
 have s4:=HA2.out.size
 have s5:=HG3.out.size
 have s6:=HA3.out.size
 have l1:u2.heap.size<V1.heap.size:=World.block_lt_of_cell? _ _ (HXw.out.cell 0 rfl)
 have l2:V1.heap.size<V2.heap.size:=World.block_lt_of_cell? _ _ (HXz.out.cell 0 rfl)
 have l3:u3.heap.size<V3.heap.size:=World.block_lt_of_cell? _ _ (HXr.out.cell 0 rfl)
 have hb3:But (fun j=>j=hx.g∨j=hy.g) y V3:=((HB2.out.mono (fun j e=>.inr e)).trans (HG3.out.mono (fun j e=>.inl e))).call HA3.out
 have HB3:=hid hb3
 have hb23:But (·=hx.g) V2 V3:=HG3.out.call HA3.out
 have HB23:=hid hb23
 have HOr:Hid (Own V3 V2.heap.size 5 ar n3 c3 (S.u8s r.1.data)):=Own.later HA3.out HOr3.out
 have HOw:Hid (Own V3 u1.heap.size 5 aw n2 c2 (S.u8s r.1.data)):=Own.but hb23 (Own.later (below_call HA1.out HA2.out) HOw2.out) (fun j hj e=>by have:=HOw2.out.blk j hj;omega)
 have HOl:Hid (Own V3 bl_ 5 al nr cl_ (S.u8s r.1.data)):=Own.but hb3 HR.out.lo (fun j hj e=>by
  rcases e with e|e
  ·exact HR.out.xz j (.inr (.inr (.inr e))) (.inr (.inr hj))
  ·exact HR.out.yz j (.inr (.inr (.inr e))) (.inr (.inr hj)))
 have HOk:Hid (Own V3 bk 5 ak nr ck (S.u8s r.1.data)):=Own.but hb3 HR.out.ko (fun j hj e=>by
  have:=(HR.out.ot j (.inr (.inr (.inr (.inr (.inr (.inr hj))))))).2
  rcases e with e|e
  ·exact this.1 e
  ·exact this.2 e)
 have hoz:∀j,(j=b∨j=gm∨j=gl∨j=gk∨(0<dd.n∧Blk dd.a j)∨(0<gg.n∧Blk gg.a j)∨Blk ak j)→¬(j=hx.g∨j=hy.g):=fun j hj e=>by
  have:=(HR.out.ot j hj).2
  rcases e with e|e
  ·exact this.1 e
  ·exact this.2 e
 have HOz:=hid hoz
 have HS23:Hid (∀U,Below V3.heap.size V3 U→R.Bx U u3.heap.size (rpL r.1 ar n3 c3)∧R.Bx U u2.heap.size (rpL r.1 aw n2 c2)∧U.rangeAt gl (i*6) (rpL r.1 al nr cl_)∧U.rangeAt gk (i*6) (rpL r.1 ak nr ck)∧U.cell? ⟨V1.heap.size,10,none⟩=some (.slice dz.a dz.n dz.c)∧U.cell? ⟨b,o+i*13+10,none⟩=some (.slice dd.a dd.n dd.c)):=fun U hU=>⟨R.Bx.later hU HXr.out,R.Bx.later hU (R.Bx.but hb23 (R.Bx.later HA2.out HXw.out) (by omega)),fun j v hv=>cell_later hU (cell_but hb3 (HR.out.l j v hv) (HOz.out gl (.inr (.inr (.inl rfl))))),fun j v hv=>cell_later hU (cell_but hb3 (HR.out.k j v hv) (HOz.out gk (.inr (.inr (.inr (.inl rfl)))))),cell_later hU ((R.Bx.but hb23 HXz.out (by omega)).cell 10 rfl),cell_later hU (cell_but hb3 (HR.out.c 10 _ rfl) (HOz.out b (.inl rfl)))⟩
 have hdn:dz.n=dd.n:=by
  have h1:=HR.out.co.is.data.len
  have h2:=HR.out.is.data.len
  omega
 have hne:((dz.n:Int) != (dd.n:Int))=false:=by rw [hdn];simp
 have HDn:=hid hdn
 clear hV3 HLz HDx hb3 hb23 hoz hdn
 go_upto_region 23 with fail
 refine wp_region_held_drew (S:=(fun U:World=>R.Bx U u3.heap.size (rpL r.1 ar n3 c3)∧R.Bx U u2.heap.size (rpL r.1 aw n2 c2)∧U.rangeAt gl (i*6) (rpL r.1 al nr cl_)∧U.rangeAt gk (i*6) (rpL r.1 ak nr ck)∧U.cell? ⟨V1.heap.size,10,none⟩=some (.slice dz.a dz.n dz.c)∧U.cell? ⟨b,o+i*13+10,none⟩=some (.slice dd.a dd.n dd.c))) (by kernel_rfl) (HS23.out _ (Below.refl _ _).drew) (fun hHeld=>?_)
 refine wpAnyH_norm (l2:=#[false,false,false,false,false,false,false,false,false,false,false,false,false,false,false,false,false,false,false,false,false,false,false,false,false,false,false,false,false,false,false,false,false,false]) (f2:=34) (by kernel_rfl) (by kernel_rfl) ?_
 refine wpAnyH_take (i:=0) (oi:=_) (v:=rpV r.1 ar n3 c3) rfl (by kernel_rfl) (by kernel_rfl) (by kernel_rfl) (fun _ _ _ h=>HPx.out _ _ _ _ _ h) (Or.inl ⟨by rfl,?_⟩) (by assumption) ?_
 ·(intro w hSw;(try dsimp only at hSw);exact ex_ld rfl rfl (ldRq hSw.1))
 simp only [List.getElem_toArray,List.getElem_cons_succ,List.getElem_cons_zero,Act.put,List.setIfInBounds_toArray,List.set_cons_zero,List.set_cons_succ]
 refine wpAnyH_norm (l2:=#[true,false,false,false,false,false,false,false,false,false,false,false,false,false,false,false,false,false,false,false,false,false,false,false,false,false,false,false,false,false,false,false,false,false]) (f2:=33) (by kernel_rfl) (by kernel_rfl) ?_
 refine wpAnyH_take (i:=1) (oi:=_) (v:=rpV r.1 aw n2 c2) rfl (by kernel_rfl) (by kernel_rfl) (by kernel_rfl) (fun _ _ _ h=>HPx.out _ _ _ _ _ h) (Or.inl ⟨by rfl,?_⟩) (by assumption) ?_
 ·(intro w hSw;(try dsimp only at hSw);exact ex_ld rfl rfl (ldRq hSw.2.1))
 simp only [List.getElem_toArray,List.getElem_cons_succ,List.getElem_cons_zero,Act.put,List.setIfInBounds_toArray,List.set_cons_zero,List.set_cons_succ]
 refine wpAnyH_norm (l2:=#[true,true,false,false,false,false,false,false,false,false,false,false,false,false,false,false,false,false,false,false,false,false,false,false,false,false,false,false,false,false,false,false,false,false]) (f2:=32) (by kernel_rfl) (by kernel_rfl) ?_
 refine wpAnyH_ready (rs:=[2]) (by kernel_rfl) (by simp) ?_
 refine AllReadyH.cons rfl (fun K hK=>?_) AllReadyH.nil
 have HSm2:Hid (Calls Try.prog 9 #[rpV r.1 ar n3 c3,rpV r.1 aw n2 c2] V3.drew fun e w'=>e=.returned (.bool true)∧Below V3.drew.heap.size V3.drew w'):=same_of (Own.later (Below.refl _ _).drew HOr.out) (Own.later (Below.refl _ _).drew HOw.out) HDl.out
 go_simp
 go_wp2_with (first|(go_at_call 9;refine HSm2.out.mono ?_;rintro e s1 ⟨rfl,hb⟩;have HW1:Hid (Below V3.heap.size V3 s1):=below_call (Below.refl _ _).drew hb;clear hb))
 refine hK.out _ _ (HS23.out _ HW1.out) (fun hHeld=>?_)
 clear hK K
 simp only [List.getElem_toArray,List.getElem_cons_succ,List.getElem_cons_zero,Act.put,List.setIfInBounds_toArray,List.set_cons_zero,List.set_cons_succ]
 refine wpAnyH_norm (l2:=#[true,true,true,false,false,false,false,false,false,false,false,false,false,false,false,false,false,false,false,false,false,false,false,false,false,false,false,false,false,false,false,false,false,false]) (f2:=31) (by kernel_rfl) (by kernel_rfl) ?_
 refine wpAnyH_take (i:=3) (oi:=_) (v:=?_) rfl (by kernel_rfl) (by kernel_rfl) (by kernel_rfl) (fun _ _ _ h=>HPx.out _ _ _ _ _ h) (Or.inl ⟨by rfl,?_⟩) (by assumption) ?_
 rotate_left
 ·(intro w hSw;(try dsimp only at hSw);go_simp;try with_reducible rfl)
 simp only [List.getElem_toArray,List.getElem_cons_succ,List.getElem_cons_zero,Act.put,List.setIfInBounds_toArray,List.set_cons_zero,List.set_cons_succ]
 refine wpAnyH_norm (l2:=#[true,true,true,true,false,false,false,false,false,false,false,false,false,false,false,false,false,false,false,false,false,false,false,false,false,false,false,false,false,false,false,false,false,false]) (f2:=30) (by kernel_rfl) (by kernel_rfl) ?_
 refine wpAnyH_take (i:=4) (oi:=_) (v:=?_) rfl (by kernel_rfl) (by kernel_rfl) (by kernel_rfl) (fun _ _ _ h=>HPx.out _ _ _ _ _ h) (Or.inl ⟨by rfl,?_⟩) (by assumption) ?_
 rotate_left
 ·(intro w hSw;(try dsimp only at hSw);go_simp;try with_reducible rfl)
 simp only [List.getElem_toArray,List.getElem_cons_succ,List.getElem_cons_zero,Act.put,List.setIfInBounds_toArray,List.set_cons_zero,List.set_cons_succ]
 refine wpAnyH_norm (l2:=#[true,true,true,true,true,false,false,false,false,false,false,false,false,false,false,false,false,false,false,false,false,false,false,false,false,false,false,false,false,false,false,false,false,false]) (f2:=29) (by kernel_rfl) (by kernel_rfl) ?_
 refine wpAnyH_take (i:=5) (oi:=_) (v:=?_) rfl (by kernel_rfl) (by kernel_rfl) (by kernel_rfl) (fun _ _ _ h=>HPx.out _ _ _ _ _ h) (Or.inl ⟨by rfl,?_⟩) (by assumption) ?_
 rotate_left
 ·(intro w hSw;(try dsimp only at hSw);go_simp;try with_reducible rfl)
 simp only [List.getElem_toArray,List.getElem_cons_succ,List.getElem_cons_zero,Act.put,List.setIfInBounds_toArray,List.set_cons_zero,List.set_cons_succ]
 refine wpAnyH_norm (l2:=#[true,true,true,true,true,true,false,false,false,false,false,false,false,false,false,false,false,false,false,false,false,false,false,false,false,false,false,false,false,false,false,false,false,false]) (f2:=28) (by kernel_rfl) (by kernel_rfl) ?_
 refine wpAnyH_take (i:=6) (oi:=_) (v:=?_) rfl (by kernel_rfl) (by kernel_rfl) (by kernel_rfl) (fun _ _ _ h=>HPx.out _ _ _ _ _ h) (Or.inl ⟨by rfl,?_⟩) (by assumption) ?_
 rotate_left
 ·(intro w hSw;(try dsimp only at hSw);go_simp;try with_reducible rfl)
 simp only [List.getElem_toArray,List.getElem_cons_succ,List.getElem_cons_zero,Act.put,List.setIfInBounds_toArray,List.set_cons_zero,List.set_cons_succ]
 refine wpAnyH_norm (l2:=#[true,true,true,true,true,true,true,false,false,false,false,false,false,false,false,false,false,false,false,false,false,false,false,false,false,false,false,false,false,false,false,false,false,false]) (f2:=27) (by kernel_rfl) (by kernel_rfl) ?_
 refine wpAnyH_take (i:=7) (oi:=_) (v:=?_) rfl (by kernel_rfl) (by kernel_rfl) (by kernel_rfl) (fun _ _ _ h=>HPx.out _ _ _ _ _ h) (Or.inl ⟨by rfl,?_⟩) (by assumption) ?_
 rotate_left
 ·(intro w hSw;(try dsimp only at hSw);go_simp;try with_reducible rfl)
 simp only [List.getElem_toArray,List.getElem_cons_succ,List.getElem_cons_zero,Act.put,List.setIfInBounds_toArray,List.set_cons_zero,List.set_cons_succ]
 refine wpAnyH_norm (l2:=#[true,true,true,true,true,true,true,true,false,false,false,false,false,false,false,false,false,false,false,false,false,false,false,false,false,false,false,false,false,false,false,false,false,false]) (f2:=26) (by kernel_rfl) (by kernel_rfl) ?_
 refine wpAnyH_take (i:=8) (oi:=_) (v:=rpV r.1 al nr cl_) rfl (by kernel_rfl) (by kernel_rfl) (by kernel_rfl) (fun _ _ _ h=>HPx.out _ _ _ _ _ h) (Or.inl ⟨by rfl,?_⟩) (by assumption) ?_
 ·(intro w hSw;(try dsimp only at hSw);exact ex_ld rfl rfl (ldR_at hSw.2.2.1))
 simp only [List.getElem_toArray,List.getElem_cons_succ,List.getElem_cons_zero,Act.put,List.setIfInBounds_toArray,List.set_cons_zero,List.set_cons_succ]
 refine wpAnyH_norm (l2:=#[true,true,true,true,true,true,true,true,true,false,false,false,false,false,false,false,false,false,false,false,false,false,false,false,false,false,false,false,false,false,false,false,false,false]) (f2:=25) (by kernel_rfl) (by kernel_rfl) ?_
 refine wpAnyH_take (i:=9) (oi:=_) (v:=rpV r.1 aw n2 c2) rfl (by kernel_rfl) (by kernel_rfl) (by kernel_rfl) (fun _ _ _ h=>HPx.out _ _ _ _ _ h) (Or.inl ⟨by rfl,?_⟩) (by assumption) ?_
 ·(intro w hSw;(try dsimp only at hSw);exact ex_ld rfl rfl (ldRq hSw.2.1))
 simp only [List.getElem_toArray,List.getElem_cons_succ,List.getElem_cons_zero,Act.put,List.setIfInBounds_toArray,List.set_cons_zero,List.set_cons_succ]
 refine wpAnyH_norm (l2:=#[true,true,true,true,true,true,true,true,true,true,false,false,false,false,false,false,false,false,false,false,false,false,false,false,false,false,false,false,false,false,false,false,false,false]) (f2:=24) (by kernel_rfl) (by kernel_rfl) ?_
 refine wpAnyH_ready (rs:=[10]) (by kernel_rfl) (by simp) ?_
 refine AllReadyH.cons rfl (fun K hK=>?_) AllReadyH.nil
 have HSm10:Hid (Calls Try.prog 9 #[rpV r.1 al nr cl_,rpV r.1 aw n2 c2] s1 fun e w'=>e=.returned (.bool true)∧Below s1.heap.size s1 w'):=same_of (Own.later HW1.out HOl.out) (Own.later HW1.out HOw.out) HDl.out
 go_simp
 go_wp2_with (first|(go_at_call 9;refine HSm10.out.mono ?_;rintro e s2 ⟨rfl,hb⟩;have HW2:Hid (Below V3.heap.size V3 s2):=below_call HW1.out hb;clear hb))
 refine hK.out _ _ (HS23.out _ HW2.out) (fun hHeld=>?_)
 clear hK K
 simp only [List.getElem_toArray,List.getElem_cons_succ,List.getElem_cons_zero,Act.put,List.setIfInBounds_toArray,List.set_cons_zero,List.set_cons_succ]
 refine wpAnyH_norm (l2:=#[true,true,true,true,true,true,true,true,true,true,true,false,false,false,false,false,false,false,false,false,false,false,false,false,false,false,false,false,false,false,false,false,false,false]) (f2:=23) (by kernel_rfl) (by kernel_rfl) ?_
 refine wpAnyH_take (i:=11) (oi:=_) (v:=?_) rfl (by kernel_rfl) (by kernel_rfl) (by kernel_rfl) (fun _ _ _ h=>HPx.out _ _ _ _ _ h) (Or.inl ⟨by rfl,?_⟩) (by assumption) ?_
 rotate_left
 ·(intro w hSw;(try dsimp only at hSw);go_simp;try with_reducible rfl)
 simp only [List.getElem_toArray,List.getElem_cons_succ,List.getElem_cons_zero,Act.put,List.setIfInBounds_toArray,List.set_cons_zero,List.set_cons_succ]
 refine wpAnyH_norm (l2:=#[true,true,true,true,true,true,true,true,true,true,true,true,false,false,false,false,false,false,false,false,false,false,false,false,false,false,false,false,false,false,false,false,false,false]) (f2:=22) (by kernel_rfl) (by kernel_rfl) ?_
 refine wpAnyH_take (i:=12) (oi:=_) (v:=?_) rfl (by kernel_rfl) (by kernel_rfl) (by kernel_rfl) (fun _ _ _ h=>HPx.out _ _ _ _ _ h) (Or.inl ⟨by rfl,?_⟩) (by assumption) ?_
 rotate_left
 ·(intro w hSw;(try dsimp only at hSw);go_simp;try with_reducible rfl)
 simp only [List.getElem_toArray,List.getElem_cons_succ,List.getElem_cons_zero,Act.put,List.setIfInBounds_toArray,List.set_cons_zero,List.set_cons_succ]
 refine wpAnyH_norm (l2:=#[true,true,true,true,true,true,true,true,true,true,true,true,true,false,false,false,false,false,false,false,false,false,false,false,false,false,false,false,false,false,false,false,false,false]) (f2:=21) (by kernel_rfl) (by kernel_rfl) ?_
 refine wpAnyH_take (i:=13) (oi:=_) (v:=?_) rfl (by kernel_rfl) (by kernel_rfl) (by kernel_rfl) (fun _ _ _ h=>HPx.out _ _ _ _ _ h) (Or.inl ⟨by rfl,?_⟩) (by assumption) ?_
 rotate_left
 ·(intro w hSw;(try dsimp only at hSw);go_simp;try with_reducible rfl)
 simp only [List.getElem_toArray,List.getElem_cons_succ,List.getElem_cons_zero,Act.put,List.setIfInBounds_toArray,List.set_cons_zero,List.set_cons_succ]
 refine wpAnyH_norm (l2:=#[true,true,true,true,true,true,true,true,true,true,true,true,true,true,false,false,false,false,false,false,false,false,false,false,false,false,false,false,false,false,false,false,false,false]) (f2:=20) (by kernel_rfl) (by kernel_rfl) ?_
 refine wpAnyH_take (i:=14) (oi:=_) (v:=?_) rfl (by kernel_rfl) (by kernel_rfl) (by kernel_rfl) (fun _ _ _ h=>HPx.out _ _ _ _ _ h) (Or.inl ⟨by rfl,?_⟩) (by assumption) ?_
 rotate_left
 ·(intro w hSw;(try dsimp only at hSw);go_simp;try with_reducible rfl)
 simp only [List.getElem_toArray,List.getElem_cons_succ,List.getElem_cons_zero,Act.put,List.setIfInBounds_toArray,List.set_cons_zero,List.set_cons_succ]
 refine wpAnyH_norm (l2:=#[true,true,true,true,true,true,true,true,true,true,true,true,true,true,true,false,false,false,false,false,false,false,false,false,false,false,false,false,false,false,false,false,false,false]) (f2:=19) (by kernel_rfl) (by kernel_rfl) ?_
 refine wpAnyH_take (i:=15) (oi:=_) (v:=?_) rfl (by kernel_rfl) (by kernel_rfl) (by kernel_rfl) (fun _ _ _ h=>HPx.out _ _ _ _ _ h) (Or.inl ⟨by rfl,?_⟩) (by assumption) ?_
 rotate_left
 ·(intro w hSw;(try dsimp only at hSw);go_simp;try with_reducible rfl)
 simp only [List.getElem_toArray,List.getElem_cons_succ,List.getElem_cons_zero,Act.put,List.setIfInBounds_toArray,List.set_cons_zero,List.set_cons_succ]
 refine wpAnyH_norm (l2:=#[true,true,true,true,true,true,true,true,true,true,true,true,true,true,true,true,false,false,false,false,false,false,false,false,false,false,false,false,false,false,false,false,false,false]) (f2:=18) (by kernel_rfl) (by kernel_rfl) ?_
 refine wpAnyH_take (i:=16) (oi:=_) (v:=?_) rfl (by kernel_rfl) (by kernel_rfl) (by kernel_rfl) (fun _ _ _ h=>HPx.out _ _ _ _ _ h) (Or.inl ⟨by rfl,?_⟩) (by assumption) ?_
 rotate_left
 ·(intro w hSw;(try dsimp only at hSw);go_simp;try with_reducible rfl)
 simp only [List.getElem_toArray,List.getElem_cons_succ,List.getElem_cons_zero,Act.put,List.setIfInBounds_toArray,List.set_cons_zero,List.set_cons_succ]
 refine wpAnyH_norm (l2:=#[true,true,true,true,true,true,true,true,true,true,true,true,true,true,true,true,true,false,false,false,false,false,false,false,false,false,false,false,false,false,false,false,false,false]) (f2:=17) (by kernel_rfl) (by kernel_rfl) ?_
 refine wpAnyH_take (i:=17) (oi:=_) (v:=rpV r.1 ak nr ck) rfl (by kernel_rfl) (by kernel_rfl) (by kernel_rfl) (fun _ _ _ h=>HPx.out _ _ _ _ _ h) (Or.inl ⟨by rfl,?_⟩) (by assumption) ?_
 ·(intro w hSw;(try dsimp only at hSw);exact ex_ld rfl rfl (ldR_at hSw.2.2.2.1))
 simp only [List.getElem_toArray,List.getElem_cons_succ,List.getElem_cons_zero,Act.put,List.setIfInBounds_toArray,List.set_cons_zero,List.set_cons_succ]
 refine wpAnyH_norm (l2:=#[true,true,true,true,true,true,true,true,true,true,true,true,true,true,true,true,true,true,false,false,false,false,false,false,false,false,false,false,false,false,false,false,false,false]) (f2:=16) (by kernel_rfl) (by kernel_rfl) ?_
 refine wpAnyH_take (i:=18) (oi:=_) (v:=rpV r.1 aw n2 c2) rfl (by kernel_rfl) (by kernel_rfl) (by kernel_rfl) (fun _ _ _ h=>HPx.out _ _ _ _ _ h) (Or.inl ⟨by rfl,?_⟩) (by assumption) ?_
 ·(intro w hSw;(try dsimp only at hSw);exact ex_ld rfl rfl (ldRq hSw.2.1))
 simp only [List.getElem_toArray,List.getElem_cons_succ,List.getElem_cons_zero,Act.put,List.setIfInBounds_toArray,List.set_cons_zero,List.set_cons_succ]
 refine wpAnyH_norm (l2:=#[true,true,true,true,true,true,true,true,true,true,true,true,true,true,true,true,true,true,true,false,false,false,false,false,false,false,false,false,false,false,false,false,false,false]) (f2:=15) (by kernel_rfl) (by kernel_rfl) ?_
 refine wpAnyH_ready (rs:=[19]) (by kernel_rfl) (by simp) ?_
 refine AllReadyH.cons rfl (fun K hK=>?_) AllReadyH.nil
 have HSm19:Hid (Calls Try.prog 9 #[rpV r.1 ak nr ck,rpV r.1 aw n2 c2] s2 fun e w'=>e=.returned (.bool true)∧Below s2.heap.size s2 w'):=same_of (Own.later HW2.out HOk.out) (Own.later HW2.out HOw.out) HDl.out
 go_simp
 go_wp2_with (first|(go_at_call 9;refine HSm19.out.mono ?_;rintro e s3 ⟨rfl,hb⟩;have HW3:Hid (Below V3.heap.size V3 s3):=below_call HW2.out hb;clear hb))
 refine hK.out _ _ (HS23.out _ HW3.out) (fun hHeld=>?_)
 clear hK K
 simp only [List.getElem_toArray,List.getElem_cons_succ,List.getElem_cons_zero,Act.put,List.setIfInBounds_toArray,List.set_cons_zero,List.set_cons_succ]
 refine wpAnyH_norm (l2:=#[true,true,true,true,true,true,true,true,true,true,true,true,true,true,true,true,true,true,true,true,false,false,false,false,false,false,false,false,false,false,false,false,false,false]) (f2:=14) (by kernel_rfl) (by kernel_rfl) ?_
 refine wpAnyH_take (i:=20) (oi:=_) (v:=?_) rfl (by kernel_rfl) (by kernel_rfl) (by kernel_rfl) (fun _ _ _ h=>HPx.out _ _ _ _ _ h) (Or.inl ⟨by rfl,?_⟩) (by assumption) ?_
 rotate_left
 ·(intro w hSw;(try dsimp only at hSw);go_simp;try with_reducible rfl)
 simp only [List.getElem_toArray,List.getElem_cons_succ,List.getElem_cons_zero,Act.put,List.setIfInBounds_toArray,List.set_cons_zero,List.set_cons_succ]
 refine wpAnyH_norm (l2:=#[true,true,true,true,true,true,true,true,true,true,true,true,true,true,true,true,true,true,true,true,true,false,false,false,false,false,false,false,false,false,false,false,false,false]) (f2:=13) (by kernel_rfl) (by kernel_rfl) ?_
 refine wpAnyH_take (i:=21) (oi:=_) (v:=?_) rfl (by kernel_rfl) (by kernel_rfl) (by kernel_rfl) (fun _ _ _ h=>HPx.out _ _ _ _ _ h) (Or.inl ⟨by rfl,?_⟩) (by assumption) ?_
 rotate_left
 ·(intro w hSw;(try dsimp only at hSw);go_simp;try with_reducible rfl)
 simp only [List.getElem_toArray,List.getElem_cons_succ,List.getElem_cons_zero,Act.put,List.setIfInBounds_toArray,List.set_cons_zero,List.set_cons_succ]
 refine wpAnyH_norm (l2:=#[true,true,true,true,true,true,true,true,true,true,true,true,true,true,true,true,true,true,true,true,true,true,false,false,false,false,false,false,false,false,false,false,false,false]) (f2:=12) (by kernel_rfl) (by kernel_rfl) ?_
 refine wpAnyH_take (i:=22) (oi:=_) (v:=?_) rfl (by kernel_rfl) (by kernel_rfl) (by kernel_rfl) (fun _ _ _ h=>HPx.out _ _ _ _ _ h) (Or.inl ⟨by rfl,?_⟩) (by assumption) ?_
 rotate_left
 ·(intro w hSw;(try dsimp only at hSw);go_simp;try with_reducible rfl)
 simp only [List.getElem_toArray,List.getElem_cons_succ,List.getElem_cons_zero,Act.put,List.setIfInBounds_toArray,List.set_cons_zero,List.set_cons_succ]
 refine wpAnyH_norm (l2:=#[true,true,true,true,true,true,true,true,true,true,true,true,true,true,true,true,true,true,true,true,true,true,true,false,false,false,false,false,false,false,false,false,false,false]) (f2:=11) (by kernel_rfl) (by kernel_rfl) ?_
 refine wpAnyH_take (i:=23) (oi:=_) (v:=?_) rfl (by kernel_rfl) (by kernel_rfl) (by kernel_rfl) (fun _ _ _ h=>HPx.out _ _ _ _ _ h) (Or.inl ⟨by rfl,?_⟩) (by assumption) ?_
 rotate_left
 ·(intro w hSw;(try dsimp only at hSw);go_simp;try with_reducible rfl)
 simp only [List.getElem_toArray,List.getElem_cons_succ,List.getElem_cons_zero,Act.put,List.setIfInBounds_toArray,List.set_cons_zero,List.set_cons_succ]
 refine wpAnyH_norm (l2:=#[true,true,true,true,true,true,true,true,true,true,true,true,true,true,true,true,true,true,true,true,true,true,true,true,false,false,false,false,false,false,false,false,false,false]) (f2:=10) (by kernel_rfl) (by kernel_rfl) ?_
 refine wpAnyH_take (i:=24) (oi:=_) (v:=?_) rfl (by kernel_rfl) (by kernel_rfl) (by kernel_rfl) (fun _ _ _ h=>HPx.out _ _ _ _ _ h) (Or.inl ⟨by rfl,?_⟩) (by assumption) ?_
 rotate_left
 ·(intro w hSw;(try dsimp only at hSw);go_simp;try with_reducible rfl)
 simp only [List.getElem_toArray,List.getElem_cons_succ,List.getElem_cons_zero,Act.put,List.setIfInBounds_toArray,List.set_cons_zero,List.set_cons_succ]
 refine wpAnyH_norm (l2:=#[true,true,true,true,true,true,true,true,true,true,true,true,true,true,true,true,true,true,true,true,true,true,true,true,true,false,false,false,false,false,false,false,false,false]) (f2:=9) (by kernel_rfl) (by kernel_rfl) ?_
 refine wpAnyH_take (i:=25) (oi:=_) (v:=?_) rfl (by kernel_rfl) (by kernel_rfl) (by kernel_rfl) (fun _ _ _ h=>HPx.out _ _ _ _ _ h) (Or.inl ⟨by rfl,?_⟩) (by assumption) ?_
 rotate_left
 ·(intro w hSw;(try dsimp only at hSw);go_simp;try with_reducible rfl)
 simp only [List.getElem_toArray,List.getElem_cons_succ,List.getElem_cons_zero,Act.put,List.setIfInBounds_toArray,List.set_cons_zero,List.set_cons_succ]
 refine wpAnyH_norm (l2:=#[true,true,true,true,true,true,true,true,true,true,true,true,true,true,true,true,true,true,true,true,true,true,true,true,true,true,false,false,false,false,false,false,false,false]) (f2:=8) (by kernel_rfl) (by kernel_rfl) ?_
 refine wpAnyH_take (i:=26) (oi:=_) (v:=?_) rfl (by kernel_rfl) (by kernel_rfl) (by kernel_rfl) (fun _ _ _ h=>HPx.out _ _ _ _ _ h) (Or.inl ⟨by rfl,?_⟩) (by assumption) ?_
 rotate_left
 ·(intro w hSw;(try dsimp only at hSw);go_simp;try with_reducible rfl)
 simp only [List.getElem_toArray,List.getElem_cons_succ,List.getElem_cons_zero,Act.put,List.setIfInBounds_toArray,List.set_cons_zero,List.set_cons_succ]
 refine wpAnyH_norm (l2:=#[true,true,true,true,true,true,true,true,true,true,true,true,true,true,true,true,true,true,true,true,true,true,true,true,true,true,true,false,false,false,false,false,false,false]) (f2:=7) (by kernel_rfl) (by kernel_rfl) ?_
 refine wpAnyH_take (i:=27) (oi:=_) (v:=?_) rfl (by kernel_rfl) (by kernel_rfl) (by kernel_rfl) (fun _ _ _ h=>HPx.out _ _ _ _ _ h) (Or.inl ⟨by rfl,?_⟩) (by assumption) ?_
 rotate_left
 ·(intro w hSw;(try dsimp only at hSw);go_simp;try with_reducible rfl)
 simp only [List.getElem_toArray,List.getElem_cons_succ,List.getElem_cons_zero,Act.put,List.setIfInBounds_toArray,List.set_cons_zero,List.set_cons_succ]
 refine wpAnyH_norm (l2:=#[true,true,true,true,true,true,true,true,true,true,true,true,true,true,true,true,true,true,true,true,true,true,true,true,true,true,true,true,false,false,false,false,false,false]) (f2:=6) (by kernel_rfl) (by kernel_rfl) ?_
 refine wpAnyH_take (i:=28) (oi:=_) (v:=?_) rfl (by kernel_rfl) (by kernel_rfl) (by kernel_rfl) (fun _ _ _ h=>HPx.out _ _ _ _ _ h) (Or.inl ⟨by rfl,?_⟩) (by assumption) ?_
 rotate_left
 ·(intro w hSw;(try dsimp only at hSw);go_simp;try with_reducible rfl)
 simp only [List.getElem_toArray,List.getElem_cons_succ,List.getElem_cons_zero,Act.put,List.setIfInBounds_toArray,List.set_cons_zero,List.set_cons_succ]
 refine wpAnyH_norm (l2:=#[true,true,true,true,true,true,true,true,true,true,true,true,true,true,true,true,true,true,true,true,true,true,true,true,true,true,true,true,true,false,false,false,false,false]) (f2:=5) (by kernel_rfl) (by kernel_rfl) ?_
 refine wpAnyH_take (i:=29) (oi:=_) (v:=?_) rfl (by kernel_rfl) (by kernel_rfl) (by kernel_rfl) (fun _ _ _ h=>HPx.out _ _ _ _ _ h) (Or.inl ⟨by rfl,?_⟩) (by assumption) ?_
 rotate_left
 ·(intro w hSw;(try dsimp only at hSw);go_simp;try with_reducible rfl)
 simp only [List.getElem_toArray,List.getElem_cons_succ,List.getElem_cons_zero,Act.put,List.setIfInBounds_toArray,List.set_cons_zero,List.set_cons_succ]
 refine wpAnyH_norm (l2:=#[true,true,true,true,true,true,true,true,true,true,true,true,true,true,true,true,true,true,true,true,true,true,true,true,true,true,true,true,true,true,false,false,false,false]) (f2:=4) (by kernel_rfl) (by kernel_rfl) ?_
 refine wpAnyH_take (i:=30) (oi:=_) (v:=?_) rfl (by kernel_rfl) (by kernel_rfl) (by kernel_rfl) (fun _ _ _ h=>HPx.out _ _ _ _ _ h) (Or.inl ⟨by rfl,?_⟩) (by assumption) ?_
 rotate_left
 ·(intro w hSw;(try dsimp only at hSw);go_simp;try with_reducible rfl)
 simp only [List.getElem_toArray,List.getElem_cons_succ,List.getElem_cons_zero,Act.put,List.setIfInBounds_toArray,List.set_cons_zero,List.set_cons_succ]
 refine wpAnyH_norm (l2:=#[true,true,true,true,true,true,true,true,true,true,true,true,true,true,true,true,true,true,true,true,true,true,true,true,true,true,true,true,true,true,true,false,false,false]) (f2:=3) (by kernel_rfl) (by kernel_rfl) ?_
 refine wpAnyH_take (i:=31) (oi:=_) (v:=?_) rfl (by kernel_rfl) (by kernel_rfl) (by kernel_rfl) (fun _ _ _ h=>HPx.out _ _ _ _ _ h) (Or.inl ⟨by rfl,?_⟩) (by assumption) ?_
 rotate_left
 ·(intro w hSw;(try dsimp only at hSw);go_simp;try with_reducible rfl)
 simp only [List.getElem_toArray,List.getElem_cons_succ,List.getElem_cons_zero,Act.put,List.setIfInBounds_toArray,List.set_cons_zero,List.set_cons_succ]
 refine wpAnyH_norm (l2:=#[true,true,true,true,true,true,true,true,true,true,true,true,true,true,true,true,true,true,true,true,true,true,true,true,true,true,true,true,true,true,true,true,false,false]) (f2:=2) (by kernel_rfl) (by kernel_rfl) ?_
 refine wpAnyH_take (i:=32) (oi:=_) (v:=?_) rfl (by kernel_rfl) (by kernel_rfl) (by kernel_rfl) (fun _ _ _ h=>HPx.out _ _ _ _ _ h) (Or.inl ⟨by rfl,?_⟩) (by assumption) ?_
 rotate_left
 ·(intro w hSw;(try dsimp only at hSw);go_simp;try with_reducible rfl)
 simp only [List.getElem_toArray,List.getElem_cons_succ,List.getElem_cons_zero,Act.put,List.setIfInBounds_toArray,List.set_cons_zero,List.set_cons_succ]
 refine wpAnyH_norm (l2:=#[true,true,true,true,true,true,true,true,true,true,true,true,true,true,true,true,true,true,true,true,true,true,true,true,true,true,true,true,true,true,true,true,true,false]) (f2:=1) (by kernel_rfl) (by kernel_rfl) ?_
 refine wpAnyH_take (i:=33) (oi:=_) (v:=?_) rfl (by kernel_rfl) (by kernel_rfl) (by kernel_rfl) (fun _ _ _ h=>HPx.out _ _ _ _ _ h) (Or.inl ⟨by rfl,?_⟩) (by assumption) ?_
 rotate_left
 ·(intro w hSw;(try dsimp only at hSw);go_simp;try with_reducible rfl)
 simp only [List.getElem_toArray,List.getElem_cons_succ,List.getElem_cons_zero,Act.put,List.setIfInBounds_toArray,List.set_cons_zero,List.set_cons_succ]
 refine wpAnyH_norm (l2:=#[true,true,true,true,true,true,true,true,true,true,true,true,true,true,true,true,true,true,true,true,true,true,true,true,true,true,true,true,true,true,true,true,true,true]) (f2:=0) (by kernel_rfl) (by kernel_rfl) ?_
 refine wpAnyH_done (by kernel_rfl) ?_ _
 clear hne
 have hco3:CO s3 bm cl dz gz:=(HCz.out.but HB23.out (fun j hj e=>HR.out.xz hx.g (.inr (.inr (.inr rfl))) (by rw [←e];rcases hj with h|h;exact .inl h;exact .inr (.inl h)))).but (S:=fun _=>False) (But.of HW3.out) (fun _ _ h=>h)
 have HC3:=hid hco3
 have hzl:∀j,(Blk dz.a j∨Blk gz.a j)→j<y.heap.size:=fun j hj=>(HR.out.co.rng j hj).2
 have hll:∀j,Blk al j→j<y.heap.size:=fun j hj=>HR.out.lo.lt j hj
 have HZl:=hid hzl
 have HLl:=hid hll
 have hb0:But (fun j=>j=hx.g∨j=hy.g) y s3:=HB3.out.call HW3.out
 have HB0:=hid hb0
 have HX3z:Hid (∀k v,(R.cC cl dz gz)[k]?=some v→s3.cell? ⟨V1.heap.size,k,none⟩=some v):=fun k v hv=>cell_later HW3.out ((R.Bx.but HB23.out HXz.out (by omega)).cell k hv)
 have HC3b:Hid (∀k v,(R.cC cl dd gg)[k]?=some v→s3.cell? ⟨b,o+i*13+k,none⟩=some v):=fun k v hv=>cell_but hb0 (HR.out.c k v hv) (HOz.out b (.inl rfl))
 have hrow:R.Row s3 dd.a dz.n dd.c cl.data:=by
  have h:=HR.out.is.data
  rw [←HDn.out] at h
  exact⟨h.len,h.cap_,h.none_,fun x hx_ j u hu=>cell_but hb0 (h.cells x hx_ j u hu) (by rw [add_block];exact HOz.out _ (.inr (.inr (.inr (.inr (.inl ⟨dpos hu HR.out.is.data.len,x,hx_,rfl⟩))))) ),h.small⟩
 have hgn:gz.n=gg.n:=by
  have h1:=HR.out.co.is.gifts.len
  have h2:=HR.out.is.gifts.len
  omega
 have HGn:=hid hgn
 have HRow:=hid hrow
 have hdl:dz.n≤140737488355328:=by rw [HDn.out];exact HR.out.sd
 have hgl_:gz.n≤140737488355328:=by rw [hgn];have:=HR.out.sg;omega
 have hx10:s3.cell? ⟨b,o+i*13+10,none⟩=some (.slice dd.a dz.n dd.c):=by rw [HDn.out];exact HC3b.out 10 _ rfl
 have HX10:=hid hx10
 clear hco3 hb0 hrow hgn hx10 hzl hll
 go_upto_block 4 with fail
 go_cut [6,20] from 195 to 219 (fun _ _ U=>But (Blk dz.a) s3 U)
 case first =>
  refine mark_d (y:=s3) (base:=bm) (bz:=V1.heap.size) (HX3z.out 10 _ rfl) HX10.out HC3.out.d HRow.out (fun e=>by have:=HZl.out _ (.inl e);omega) (fun e=>(HR.out.ot b (.inl rfl)).1 (.inl e)) (fun h0 k hk e=>(HR.out.ot k (.inr (.inr (.inr (.inr (.inl ⟨by rw [←HDn.out];exact h0,hk⟩)))))).1 (.inl e)) hi hdl (fun c a d v w h=>by first|exact HPx.out _ _ _ _ _ h|(cases d<;>exact h)) ?_
  intro w9 hb9
  intros
  go_wp2
  go_meet
  exact hb9.2
 case rest =>
 rename World=>w4
 have HB4:=hid hcut
 clear hcut
 have hg4:Own w4 bm 3 gz.a gz.n gz.c (ints cl.gifts):=Own.but HB4.out HC3.out.g (fun j hj e=>HC3.out.ap j e hj)
 have HG4:=hid hg4
 have hrow:R.RI w4 gg.a gz.n gg.c cl.gifts:=by
  have h:=HR.out.is.gifts
  rw [←HGn.out] at h
  exact⟨h.len,h.cap_,h.none_,fun x hx_ j u hu=>cell_but HB4.out (cell_but HB0.out (h.cells x hx_ j u hu) (by rw [add_block];exact HOz.out _ (.inr (.inr (.inr (.inr (.inr (.inl ⟨gpos hu HR.out.is.gifts.len,x,hx_,rfl⟩)))))))) (by rw [add_block];exact fun e=>(HR.out.ot _ (.inr (.inr (.inr (.inr (.inr (.inl ⟨gpos hu HR.out.is.gifts.len,x,hx_,rfl⟩))))))).1 (.inl e))⟩
 have HRow4:=hid hrow
 have hx12:w4.cell? ⟨b,o+i*13+12,none⟩=some (.slice gg.a gz.n gg.c):=by rw [HGn.out];exact cell_but HB4.out (HC3b.out 12 _ rfl) (fun e=>(HR.out.ot b (.inl rfl)).1 (.inl e))
 have HX12:=hid hx12
 have HZ12:Hid (w4.cell? ⟨V1.heap.size,12,none⟩=some (.slice gz.a gz.n gz.c)):=cell_but HB4.out (HX3z.out 12 _ rfl) (fun e=>by have h1:V1.heap.size<y.heap.size:=HZl.out _ (.inl e);omega)
 clear hg4 hrow hx12
 go_upto_block 6 with fail
 go_cut [6,21] from 220 to 244 (fun _ _ U=>But (Blk gz.a) w4 U)
 case first =>
  refine mark_g (y:=w4) (base:=bm) (bz:=V1.heap.size) HZ12.out HX12.out HG4.out HRow4.out (fun e=>by have:=HZl.out _ (.inr e);omega) (fun e=>(HR.out.ot b (.inl rfl)).1 (.inr (.inl e))) (fun h0 k hk e=>(HR.out.ot k (.inr (.inr (.inr (.inr (.inr (.inl ⟨by rw [←HGn.out];exact h0,hk⟩))))))).1 (.inr (.inl e))) hi hgl_ (fun c a d v w h=>by first|exact HPx.out _ _ _ _ _ h|(cases d<;>exact h)) ?_
  intro w9 hb9
  intros
  go_wp2
  go_meet
  exact hb9.2
 case rest =>
 rename World=>w5
 have HB5:=hid hcut
 clear hcut
 have hz5:But (fun j=>Blk dz.a j∨Blk gz.a j) s3 w5:=(HB4.out.mono (fun j e=>.inl e)).trans (HB5.out.mono (fun j e=>.inr e))
 have HZ5:=hid hz5
 have har:∀j,Blk ar j→V2.heap.size≤j:=fun j hj=>HOr3.out.blk j hj
 have harl:∀j,Blk ar j→j<u3.heap.size:=fun j hj=>HOr3.out.lt j hj
 have HAr2:=hid har
 have HArl:=hid harl
 have HO5r:Hid (Own w5 V2.heap.size 5 ar n3 c3 (S.u8s r.1.data)):=Own.but hz5 (Own.later HW3.out HOr.out) (fun j hj e=>by have:=HAr2.out j hj;have:=HZl.out j e;omega)
 have HX5r:Hid (R.Bx w5 u3.heap.size (rpL r.1 ar n3 c3)):=R.Bx.but hz5 (R.Bx.later HW3.out HXr.out) (fun e=>by have:=HZl.out _ e;omega)
 have hn3:n3≤140737488355328:=by have h1:=HOr.out.len;rw [S.u8s_length] at h1;have:=HDl.out;omega
 have hnr:nr≤140737488355328:=by have h1:=HOl.out.len;rw [S.u8s_length] at h1;have:=HDl.out;omega
 clear hz5 har harl
 go_upto_block 8 with fail
 go_cut [22] from 245 to 258 (fun _ U=>(∃L,Own U V2.heap.size 5 ar n3 c3 L)∧But (Blk ar) w5 U)
 case first =>
  refine xor_r (y:=w5) (base:=V2.heap.size) HX5r.out (fun e=>by have:=HArl.out _ e;omega) HO5r.out hn3 ?_
  intro w9 hb9
  intros
  go_wp2
  go_meet
  exact hb9
 case rest =>
 rename World=>w6
 obtain⟨⟨L6,hL6⟩,hb6⟩:=hcut
 have HL6:=hid hL6
 have HB6:=hid hb6
 have hz6:But (fun j=>Blk dz.a j∨Blk gz.a j∨Blk ar j) s3 w6:=(HZ5.out.mono (fun j e=>e.elim .inl (fun h=>.inr (.inl h)))).trans (hb6.mono (fun j e=>.inr (.inr e)))
 have HZ6:=hid hz6
 have HH6:Hid (w6.cell? ⟨gl,i*6+4,none⟩=some (.slice al nr cl_)):=cell_but hz6 (cell_but HB0.out (HR.out.l 4 _ rfl) (HOz.out gl (.inr (.inr (.inl rfl))))) (fun e=>by
  have h1:=(HR.out.ot gl (.inr (.inr (.inl rfl)))).1
  rcases e with e|e|e
  ·exact h1 (.inl e)
  ·exact h1 (.inr (.inl e))
  ·have h2:V2.heap.size≤gl:=HAr2.out _ e
   have h3:gl<y.heap.size:=World.block_lt_of_cell? _ _ (HR.out.l 4 _ rfl)
   omega)
 have HO6l:Hid (Own w6 bl_ 5 al nr cl_ (S.u8s r.1.data)):=Own.but hz6 (Own.later HW3.out HOl.out) (fun j hj e=>by
  rcases e with e|e|e
  ·exact HR.out.lz j hj (.inl e)
  ·exact HR.out.lz j hj (.inr e)
  ·have:=HAr2.out _ e;have:=HLl.out j hj;omega)
 clear hL6 hb6 hz6
 go_upto_block 10 with fail
 go_cut [23] from 259 to 278 (fun _ U=>(∃L,Own U bl_ 5 al nr cl_ L)∧But (Blk al) w6 U)
 case first =>
  refine xor_l (y:=w6) (base:=bl_) HH6.out (fun e=>(HR.out.ot gl (.inr (.inr (.inl rfl)))).1 (.inr (.inr e))) hi HO6l.out hnr ?_
  intro w9 hb9
  intros
  go_wp2
  go_meet
  exact hb9
 case rest =>
 rename World=>w7
 obtain⟨⟨L7,hL7⟩,hb7⟩:=hcut
 have HL7:=hid hL7
 have HB7:=hid hb7
 have hz7:But (fun j=>Blk dz.a j∨Blk gz.a j∨Blk ar j∨Blk al j) s3 w7:=(HZ6.out.mono (fun j e=>by rcases e with e|e|e;exact .inl e;exact .inr (.inl e);exact .inr (.inr (.inl e)))).trans (hb7.mono (fun j e=>.inr (.inr (.inr e))))
 have hsz:y.heap.size≤s3.heap.size:=HB0.out.size
 have hs57:s3.heap.size≤w7.heap.size:=hz7.size
 have hs3:V3.heap.size≤s3.heap.size:=HW3.out.size
 have x7r:w7.cell? ⟨u3.heap.size,4,none⟩=some (.slice ar n3 c3):=(R.Bx.but hb7 (R.Bx.but HB6.out HX5r.out (fun e=>by have:=HArl.out _ e;omega)) (fun e=>by have:=HLl.out _ e;omega)).cell 4 rfl
 have hor7:Own w7 V2.heap.size 5 ar n3 c3 L6:=Own.but hb7 HL6.out (fun j hj e=>by have:=HAr2.out j hj;have:=HLl.out j e;omega)
 have hgl3:gl<y.heap.size:=World.block_lt_of_cell? _ _ (HR.out.l 4 _ rfl)
 obtain⟨a24,c24,w8,hr8,hG8⟩:=app3 hor7 (by omega) (by have h1:=HOr.out.len;rw [S.u8s_length] at h1;have:=HDl.out;omega) 1 2 3
 have x8l:w8.cell? ⟨gl,i*6+4,none⟩=some (.slice al nr cl_):=cell_but hG8 (cell_but hb7 HH6.out (fun e=>(HR.out.ot gl (.inr (.inr (.inl rfl)))).1 (.inr (.inr e)))) (fun e=>by have h2:V2.heap.size≤gl:=HAr2.out _ e;omega)
 have hol8:Own w8 bl_ 5 al nr cl_ L7:=Own.but hG8 hL7 (fun j hj e=>by have:=HAr2.out j e;have:=HLl.out j hj;omega)
 have hs8:w7.heap.size≤w8.heap.size:=hG8.size
 obtain⟨a25,c25,w9,hr9,hG9⟩:=app3 hol8 (by have:=HR.out.bz.2;omega) (by have h1:=HOl.out.len;rw [S.u8s_length] at h1;have:=HDl.out;omega) 4 5 6
 have hT:But (fun j=>Blk dz.a j∨Blk gz.a j∨Blk ar j∨Blk al j) s3 w9:=(hz7.trans (hG8.mono (fun j e=>.inr (.inr (.inl e))))).trans (hG9.mono (fun j e=>.inr (.inr (.inr e))))
 have HTt:=hid hT
 have HR8:=hid hr8
 have HR9:=hid hr9
 have hnew:∀j,u1.heap.size≤j→j<V2.heap.size→¬(Blk dz.a j∨Blk gz.a j∨Blk ar j∨Blk al j):=fun j h1 h2 e=>by
  rcases e with e|e|e|e
  ·have:=HZl.out j (.inl e);omega
  ·have:=HZl.out j (.inr e);omega
  ·have:=HAr2.out j e;omega
  ·have:=HLl.out j e;omega
 have hold:∀j,j<y.heap.size→¬(Blk dz.a j∨Blk gz.a j∨Blk al j)→¬(Blk dz.a j∨Blk gz.a j∨Blk ar j∨Blk al j):=fun j h1 h2 e=>by
  rcases e with e|e|e|e
  ·exact h2 (.inl e)
  ·exact h2 (.inr (.inl e))
  ·have:=HAr2.out j e;omega
  ·exact h2 (.inr (.inr e))
 have HXw9:Hid (R.Bx w9 u2.heap.size (rpL r.1 aw n2 c2)):=R.Bx.but hT (R.Bx.later HW3.out (R.Bx.but HB23.out (R.Bx.later HA2.out HXw.out) (by omega))) (hnew _ (by omega) (by omega))
 have HOw9:Hid (Own w9 u1.heap.size 5 aw n2 c2 (S.u8s r.1.data)):=Own.but hT (Own.later HW3.out HOw.out) (fun j hj=>hnew j (HOw2.out.blk j hj) (by have:=HOw2.out.lt j hj;omega))
 have HOk9:Hid (Own w9 bk 5 ak nr ck (S.u8s r.1.data)):=Own.but hT (Own.later HW3.out HOk.out) (fun j hj=>hold j (HR.out.ko.lt j hj) (HR.out.ot j (.inr (.inr (.inr (.inr (.inr (.inr hj))))))).1)
 have hgk:gk<y.heap.size:=World.block_lt_of_cell? _ _ (HR.out.k 4 _ rfl)
 have HRk9:Hid (w9.rangeAt gk (i*6) (rpL r.1 ak nr ck)):=fun j v hv=>cell_but hT (cell_but HB0.out (HR.out.k j v hv) (HOz.out gk (.inr (.inr (.inr (.inl rfl)))))) (hold gk hgk (HR.out.ot gk (.inr (.inr (.inr (.inl rfl))))).1)
 have HS47:Hid (∀U,Below w9.heap.size w9 U→R.Bx U u2.heap.size (rpL r.1 aw n2 c2)∧U.rangeAt gk (i*6) (rpL r.1 ak nr ck)):=fun U hU=>⟨R.Bx.later hU HXw9.out,fun j v hv=>cell_later hU (HRk9.out j v hv)⟩
 have HSm47:Hid (Calls Try.prog 9 #[rpV r.1 ak nr ck,rpV r.1 aw n2 c2] w9.drew fun e w'=>e=.returned (.bool true)∧Below w9.drew.heap.size w9.drew w'):=same_of (Own.later (Below.refl _ _).drew HOk9.out) (Own.later (Below.refl _ _).drew HOw9.out) HDl.out
 have hq1:decide ((n3:Int)+3<3)=false:=decide_eq_false (by omega)
 have hq2:decide ((nr:Int)+3<3)=false:=decide_eq_false (by omega)
 have hq3:¬((n3:Int)+3<3):=by omega
 have hq4:¬((nr:Int)+3<3):=by omega
 have HHo:=hid hold
 clear hL7 hb7 hz7 hor7 hol8 hr8 hr9 hG8 hG9 hT hnew hold
 go_upto_region 46 with (first|(at_builtin;refine wpList_append_known rfl _ _ 41 rfl _ _ rfl rfl _ w8 HR8.out ?_))
 clear x7r
 go_upto_region 47 with (first|(at_builtin;refine wpList_append_known rfl _ _ 41 rfl _ _ rfl rfl _ w9 HR9.out ?_))
 clear x8l
 refine wp_region_held_drew (S:=(fun U:World=>R.Bx U u2.heap.size (rpL r.1 aw n2 c2)∧U.rangeAt gk (i*6) (rpL r.1 ak nr ck))) (by kernel_rfl) (HS47.out _ (Below.refl _ _).drew) (fun hHeld=>?_)
 refine wpAnyH_norm (l2:=#[false,false,false,false,false,false,false,false,false,false,false,false,false,false,false,false,false]) (f2:=17) (by kernel_rfl) (by kernel_rfl) ?_
 refine wpAnyH_take (i:=0) (oi:=_) (v:=?_) rfl (by kernel_rfl) (by kernel_rfl) (by kernel_rfl) (fun _ _ _ h=>HPx.out _ _ _ _ _ h) (Or.inl ⟨by rfl,?_⟩) (by assumption) ?_
 rotate_left
 ·(intro w hSw;(try dsimp only at hSw);go_simp;try with_reducible rfl)
 simp only [List.getElem_toArray,List.getElem_cons_succ,List.getElem_cons_zero,Act.put,List.setIfInBounds_toArray,List.set_cons_zero,List.set_cons_succ]
 refine wpAnyH_norm (l2:=#[true,false,false,false,false,false,false,false,false,false,false,false,false,false,false,false,false]) (f2:=16) (by kernel_rfl) (by kernel_rfl) ?_
 refine wpAnyH_take (i:=1) (oi:=_) (v:=?_) rfl (by kernel_rfl) (by kernel_rfl) (by kernel_rfl) (fun _ _ _ h=>HPx.out _ _ _ _ _ h) (Or.inl ⟨by rfl,?_⟩) (by assumption) ?_
 rotate_left
 ·(intro w hSw;(try dsimp only at hSw);go_simp;try with_reducible rfl)
 simp only [List.getElem_toArray,List.getElem_cons_succ,List.getElem_cons_zero,Act.put,List.setIfInBounds_toArray,List.set_cons_zero,List.set_cons_succ]
 refine wpAnyH_norm (l2:=#[true,true,false,false,false,false,false,false,false,false,false,false,false,false,false,false,false]) (f2:=15) (by kernel_rfl) (by kernel_rfl) ?_
 refine wpAnyH_take (i:=2) (oi:=_) (v:=?_) rfl (by kernel_rfl) (by kernel_rfl) (by kernel_rfl) (fun _ _ _ h=>HPx.out _ _ _ _ _ h) (Or.inl ⟨by rfl,?_⟩) (by assumption) ?_
 rotate_left
 ·(intro w hSw;(try dsimp only at hSw);go_simp;try with_reducible rfl)
 simp only [List.getElem_toArray,List.getElem_cons_succ,List.getElem_cons_zero,Act.put,List.setIfInBounds_toArray,List.set_cons_zero,List.set_cons_succ]
 refine wpAnyH_norm (l2:=#[true,true,true,false,false,false,false,false,false,false,false,false,false,false,false,false,false]) (f2:=14) (by kernel_rfl) (by kernel_rfl) ?_
 refine wpAnyH_take (i:=3) (oi:=_) (v:=?_) rfl (by kernel_rfl) (by kernel_rfl) (by kernel_rfl) (fun _ _ _ h=>HPx.out _ _ _ _ _ h) (Or.inl ⟨by rfl,?_⟩) (by assumption) ?_
 rotate_left
 ·(intro w hSw;(try dsimp only at hSw);go_simp;try with_reducible rfl)
 simp only [List.getElem_toArray,List.getElem_cons_succ,List.getElem_cons_zero,Act.put,List.setIfInBounds_toArray,List.set_cons_zero,List.set_cons_succ]
 refine wpAnyH_norm (l2:=#[true,true,true,true,false,false,false,false,false,false,false,false,false,false,false,false,false]) (f2:=13) (by kernel_rfl) (by kernel_rfl) ?_
 refine wpAnyH_take (i:=4) (oi:=_) (v:=?_) rfl (by kernel_rfl) (by kernel_rfl) (by kernel_rfl) (fun _ _ _ h=>HPx.out _ _ _ _ _ h) (Or.inl ⟨by rfl,?_⟩) (by assumption) ?_
 rotate_left
 ·(intro w hSw;(try dsimp only at hSw);go_simp;try with_reducible rfl)
 simp only [List.getElem_toArray,List.getElem_cons_succ,List.getElem_cons_zero,Act.put,List.setIfInBounds_toArray,List.set_cons_zero,List.set_cons_succ]
 refine wpAnyH_norm (l2:=#[true,true,true,true,true,false,false,false,false,false,false,false,false,false,false,false,false]) (f2:=12) (by kernel_rfl) (by kernel_rfl) ?_
 refine wpAnyH_take (i:=5) (oi:=_) (v:=?_) rfl (by kernel_rfl) (by kernel_rfl) (by kernel_rfl) (fun _ _ _ h=>HPx.out _ _ _ _ _ h) (Or.inl ⟨by rfl,?_⟩) (by assumption) ?_
 rotate_left
 ·(intro w hSw;(try dsimp only at hSw);go_simp;try with_reducible rfl)
 simp only [List.getElem_toArray,List.getElem_cons_succ,List.getElem_cons_zero,Act.put,List.setIfInBounds_toArray,List.set_cons_zero,List.set_cons_succ]
 refine wpAnyH_norm (l2:=#[true,true,true,true,true,true,false,false,false,false,false,false,false,false,false,false,false]) (f2:=11) (by kernel_rfl) (by kernel_rfl) ?_
 refine wpAnyH_take (i:=6) (oi:=_) (v:=?_) rfl (by kernel_rfl) (by kernel_rfl) (by kernel_rfl) (fun _ _ _ h=>HPx.out _ _ _ _ _ h) (Or.inl ⟨by rfl,?_⟩) (by assumption) ?_
 rotate_left
 ·(intro w hSw;(try dsimp only at hSw);go_simp;try with_reducible rfl)
 simp only [List.getElem_toArray,List.getElem_cons_succ,List.getElem_cons_zero,Act.put,List.setIfInBounds_toArray,List.set_cons_zero,List.set_cons_succ]
 refine wpAnyH_norm (l2:=#[true,true,true,true,true,true,true,false,false,false,false,false,false,false,false,false,false]) (f2:=10) (by kernel_rfl) (by kernel_rfl) ?_
 refine wpAnyH_take (i:=7) (oi:=_) (v:=?_) rfl (by kernel_rfl) (by kernel_rfl) (by kernel_rfl) (fun _ _ _ h=>HPx.out _ _ _ _ _ h) (Or.inl ⟨by rfl,?_⟩) (by assumption) ?_
 rotate_left
 ·(intro w hSw;(try dsimp only at hSw);go_simp;try with_reducible rfl)
 simp only [List.getElem_toArray,List.getElem_cons_succ,List.getElem_cons_zero,Act.put,List.setIfInBounds_toArray,List.set_cons_zero,List.set_cons_succ]
 refine wpAnyH_norm (l2:=#[true,true,true,true,true,true,true,true,false,false,false,false,false,false,false,false,false]) (f2:=9) (by kernel_rfl) (by kernel_rfl) ?_
 refine wpAnyH_take (i:=8) (oi:=_) (v:=?_) rfl (by kernel_rfl) (by kernel_rfl) (by kernel_rfl) (fun _ _ _ h=>HPx.out _ _ _ _ _ h) (Or.inl ⟨by rfl,?_⟩) (by assumption) ?_
 rotate_left
 ·(intro w hSw;(try dsimp only at hSw);go_simp;try with_reducible rfl)
 simp only [List.getElem_toArray,List.getElem_cons_succ,List.getElem_cons_zero,Act.put,List.setIfInBounds_toArray,List.set_cons_zero,List.set_cons_succ]
 refine wpAnyH_norm (l2:=#[true,true,true,true,true,true,true,true,true,false,false,false,false,false,false,false,false]) (f2:=8) (by kernel_rfl) (by kernel_rfl) ?_
 refine wpAnyH_take (i:=9) (oi:=_) (v:=?_) rfl (by kernel_rfl) (by kernel_rfl) (by kernel_rfl) (fun _ _ _ h=>HPx.out _ _ _ _ _ h) (Or.inl ⟨by rfl,?_⟩) (by assumption) ?_
 rotate_left
 ·(intro w hSw;(try dsimp only at hSw);go_simp;try with_reducible rfl)
 simp only [List.getElem_toArray,List.getElem_cons_succ,List.getElem_cons_zero,Act.put,List.setIfInBounds_toArray,List.set_cons_zero,List.set_cons_succ]
 refine wpAnyH_norm (l2:=#[true,true,true,true,true,true,true,true,true,true,false,false,false,false,false,false,false]) (f2:=7) (by kernel_rfl) (by kernel_rfl) ?_
 refine wpAnyH_take (i:=10) (oi:=_) (v:=?_) rfl (by kernel_rfl) (by kernel_rfl) (by kernel_rfl) (fun _ _ _ h=>HPx.out _ _ _ _ _ h) (Or.inl ⟨by rfl,?_⟩) (by assumption) ?_
 rotate_left
 ·(intro w hSw;(try dsimp only at hSw);go_simp;try with_reducible rfl)
 simp only [List.getElem_toArray,List.getElem_cons_succ,List.getElem_cons_zero,Act.put,List.setIfInBounds_toArray,List.set_cons_zero,List.set_cons_succ]
 refine wpAnyH_norm (l2:=#[true,true,true,true,true,true,true,true,true,true,true,false,false,false,false,false,false]) (f2:=6) (by kernel_rfl) (by kernel_rfl) ?_
 refine wpAnyH_take (i:=11) (oi:=_) (v:=?_) rfl (by kernel_rfl) (by kernel_rfl) (by kernel_rfl) (fun _ _ _ h=>HPx.out _ _ _ _ _ h) (Or.inl ⟨by rfl,?_⟩) (by assumption) ?_
 rotate_left
 ·(intro w hSw;(try dsimp only at hSw);go_simp;try with_reducible rfl)
 simp only [List.getElem_toArray,List.getElem_cons_succ,List.getElem_cons_zero,Act.put,List.setIfInBounds_toArray,List.set_cons_zero,List.set_cons_succ]
 refine wpAnyH_norm (l2:=#[true,true,true,true,true,true,true,true,true,true,true,true,false,false,false,false,false]) (f2:=5) (by kernel_rfl) (by kernel_rfl) ?_
 refine wpAnyH_take (i:=12) (oi:=_) (v:=rpV r.1 ak nr ck) rfl (by kernel_rfl) (by kernel_rfl) (by kernel_rfl) (fun _ _ _ h=>HPx.out _ _ _ _ _ h) (Or.inl ⟨by rfl,?_⟩) (by assumption) ?_
 ·(intro w hSw;(try dsimp only at hSw);exact ex_ld rfl rfl (ldR_at hSw.2))
 simp only [List.getElem_toArray,List.getElem_cons_succ,List.getElem_cons_zero,Act.put,List.setIfInBounds_toArray,List.set_cons_zero,List.set_cons_succ]
 refine wpAnyH_norm (l2:=#[true,true,true,true,true,true,true,true,true,true,true,true,true,false,false,false,false]) (f2:=4) (by kernel_rfl) (by kernel_rfl) ?_
 refine wpAnyH_take (i:=13) (oi:=_) (v:=rpV r.1 aw n2 c2) rfl (by kernel_rfl) (by kernel_rfl) (by kernel_rfl) (fun _ _ _ h=>HPx.out _ _ _ _ _ h) (Or.inl ⟨by rfl,?_⟩) (by assumption) ?_
 ·(intro w hSw;(try dsimp only at hSw);exact ex_ld rfl rfl (ldRq hSw.1))
 simp only [List.getElem_toArray,List.getElem_cons_succ,List.getElem_cons_zero,Act.put,List.setIfInBounds_toArray,List.set_cons_zero,List.set_cons_succ]
 refine wpAnyH_norm (l2:=#[true,true,true,true,true,true,true,true,true,true,true,true,true,true,false,false,false]) (f2:=3) (by kernel_rfl) (by kernel_rfl) ?_
 refine wpAnyH_ready (rs:=[14]) (by kernel_rfl) (by simp) ?_
 refine AllReadyH.cons rfl (fun K hK=>?_) AllReadyH.nil
 go_simp
 go_wp2_with (first|(go_at_call 9;refine HSm47.out.mono ?_;rintro e t9 ⟨rfl,hb⟩;have HT9:Hid (Below w9.heap.size w9 t9):=below_call (Below.refl _ _).drew hb;clear hb))
 refine hK.out _ _ (HS47.out _ HT9.out) (fun hHeld=>?_)
 clear hK K
 simp only [List.getElem_toArray,List.getElem_cons_succ,List.getElem_cons_zero,Act.put,List.setIfInBounds_toArray,List.set_cons_zero,List.set_cons_succ]
 refine wpAnyH_norm (l2:=#[true,true,true,true,true,true,true,true,true,true,true,true,true,true,true,false,false]) (f2:=2) (by kernel_rfl) (by kernel_rfl) ?_
 refine wpAnyH_take (i:=15) (oi:=_) (v:=?_) rfl (by kernel_rfl) (by kernel_rfl) (by kernel_rfl) (fun _ _ _ h=>HPx.out _ _ _ _ _ h) (Or.inl ⟨by rfl,?_⟩) (by assumption) ?_
 rotate_left
 ·(intro w hSw;(try dsimp only at hSw);go_simp;try with_reducible rfl)
 simp only [List.getElem_toArray,List.getElem_cons_succ,List.getElem_cons_zero,Act.put,List.setIfInBounds_toArray,List.set_cons_zero,List.set_cons_succ]
 refine wpAnyH_norm (l2:=#[true,true,true,true,true,true,true,true,true,true,true,true,true,true,true,true,false]) (f2:=1) (by kernel_rfl) (by kernel_rfl) ?_
 refine wpAnyH_take (i:=16) (oi:=_) (v:=?_) rfl (by kernel_rfl) (by kernel_rfl) (by kernel_rfl) (fun _ _ _ h=>HPx.out _ _ _ _ _ h) (Or.inl ⟨by rfl,?_⟩) (by assumption) ?_
 rotate_left
 ·(intro w hSw;(try dsimp only at hSw);go_simp;try with_reducible rfl)
 simp only [List.getElem_toArray,List.getElem_cons_succ,List.getElem_cons_zero,Act.put,List.setIfInBounds_toArray,List.set_cons_zero,List.set_cons_succ]
 refine wpAnyH_norm (l2:=#[true,true,true,true,true,true,true,true,true,true,true,true,true,true,true,true,true]) (f2:=0) (by kernel_rfl) (by kernel_rfl) ?_
 refine wpAnyH_done (by kernel_rfl) ?_ _
 clear hq1 hq2 hq3 hq4
 have hTf:But (fun j=>Blk dz.a j∨Blk gz.a j∨Blk ar j∨Blk al j) s3 t9:=HTt.out.call HT9.out
 have hxo:∀j,(Mx j∨j=bx2∨j=lx2)→(MdB hx.g hx.bo hx.bl Nx j∨V2.heap.size≤j):=fun j hj=>by
  rcases HNx.out j hj with (e|e|e)|e
  ·exact .inl (.inl e)
  ·exact .inl (.inr (.inl e))
  ·exact .inl (.inr (.inr (.inl e)))
  ·exact .inr e
 have hyo:∀j,(My j∨j=by2∨j=ly2)→(MdB hy.g hy.bo hy.bl Ny j∨u1.heap.size≤j):=fun j hj=>by
  rcases HNy.out j hj with (e|e|e)|e
  ·exact .inl (.inl e)
  ·exact .inl (.inr (.inl e))
  ·exact .inl (.inr (.inr (.inl e)))
  ·exact .inr e
 have hxo':∀j,MdB hx.g bx2 lx2 Mx j→(MdB hx.g hx.bo hx.bl Nx j∨V2.heap.size≤j):=fun j hj=>by
  rcases hj with e|e|e|e
  ·exact hxo j (.inl e)
  ·exact hxo j (.inr (.inl e))
  ·exact hxo j (.inr (.inr e))
  ·exact .inl (.inr (.inr (.inr e)))
 have hyo':∀j,MdB hy.g by2 ly2 My j→(MdB hy.g hy.bo hy.bl Ny j∨u1.heap.size≤j):=fun j hj=>by
  rcases hj with e|e|e|e
  ·exact hyo j (.inl e)
  ·exact hyo j (.inr (.inl e))
  ·exact hyo j (.inr (.inr e))
  ·exact .inl (.inr (.inr (.inr e)))
 have hyl:∀j,MdB hy.g by2 ly2 My j→j<u2.heap.size:=fun j hj=>HMy.out.lt j hj
 have hxl0:∀j,MdB hx.g hx.bo hx.bl Nx j→j<y.heap.size:=fun j hj=>HR.out.x.lt j hj
 have hyl0:∀j,MdB hy.g hy.bo hy.bl Ny j→j<y.heap.size:=fun j hj=>HR.out.y.lt j hj
 have hxa:∀j,MdB hx.g bx2 lx2 Mx j→¬(Blk dz.a j∨Blk gz.a j∨Blk ar j∨Blk al j):=fun j hj e=>by
  have hr:¬Blk ar j:=fun h=>by
   have h1:=HAr.out j h
   rcases hj with e|e|e|e
   ·exact h1.1 e
   ·exact h1.2.1 e
   ·exact h1.2.2 e
   ·have:=HAr2.out j h;omega
  rcases hxo' j hj with h|h
  ·exact HHo.out j (hxl0 j h) (HR.out.xz j h) e
  ·rcases e with e|e|e|e
   ·have:=HZl.out j (.inl e);omega
   ·have:=HZl.out j (.inr e);omega
   ·exact hr e
   ·have:=HLl.out j e;omega
 have hya:∀j,MdB hy.g by2 ly2 My j→¬(Blk dz.a j∨Blk gz.a j∨Blk ar j∨Blk al j):=fun j hj e=>by
  have h2:=hyl j hj
  rcases hyo' j hj with h|h
  ·exact HHo.out j (hyl0 j h) (HR.out.yz j h) e
  ·rcases e with e|e|e|e
   ·have:=HZl.out j (.inl e);omega
   ·have:=HZl.out j (.inr e);omega
   ·have:=HAr2.out j e;omega
   ·have:=HLl.out j e;omega
 have hfin:Rt y hx hy Nx Ny r (fun j=>Blk dz.a j∨Blk gz.a j∨Blk al j) t9 bx2 lx2 by2 ly2 Mx My:=by
  refine⟨((HMx.out.later HA3.out).later HW3.out).but hTf hxa,(((((HMy.out.later HA1.out).later HA2.out).but HB23.out (fun j hj e=>?_)).later HW3.out).but hTf hya),fun j hj=>(hxo' j hj).imp id (fun h=>by omega),fun j hj=>(hyo' j hj).imp id (fun h=>by omega),fun j h1 h2=>?_,(HB0.out.mono (fun j e=>e.elim .inl (fun h=>.inr (.inl h)))).comp hTf (fun j e=>?_)⟩
  ·rcases hyo' j hj with h|h
   ·exact HR.out.xy j (.inr (.inr (.inr e))) h
   ·omega
  ·have h3:=hyl j h2
   rcases hxo' j h1 with h|h
   ·rcases hyo' j h2 with h4|h4
    ·exact HR.out.xy j h h4
    ·have:=hxl0 j h;omega
   ·omega
  ·rcases e with e|e|e|e
   ·exact .inl (.inr (.inr (.inl e)))
   ·exact .inl (.inr (.inr (.inr (.inl e))))
   ·right;have:=HAr2.out j e;omega
   ·exact .inl (.inr (.inr (.inr (.inr e))))
 have HFi:=hid hfin
 clear hfin hTf hxo hyo hxo' hyo' hyl hxl0 hyl0 hxa hya
 go_wp2
 exact HK.out _ _ _ _ _ _ _ HFi.out ..
end
end Go.Proofs.Ytffmodpgddecnaa.V.E
